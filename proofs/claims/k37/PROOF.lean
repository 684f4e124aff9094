import PyProof.Rows.All
import Wide.All
import OpenK.AllK
import Wide.FinOn
import Lean
import PyProof.EqAt
import PyProof.EqKinds
import PyProof.TupleCall
import PySem.Challenge.RW_spanrow_k37_whole_row_by_its_words
set_option Elab.async false
set_option linter.all false
set_option bootstrap.genMatcherCode false
set_option genSizeOf false
set_option maxRecDepth 100000
def zN(t:Bool)(k:Lean.Name)(a:Array Lean.Syntax):(Lean.Syntax):=.node .none ((if t then `Lean.Parser.Tactic else `Lean.Parser.Term)++k) a
def zU(a:Array Lean.Syntax):(Lean.Syntax):=.node .none `null a
def zC:(Nat→Lean.Syntax→Lean.Syntax)
|0,s=>s
|n+1,s=>zN true `rcasesPatMed #[zU #[if s.isIdent then zN true `rcasesPat.one #[s] else if s[1].isMissing then zN true `rcasesPat.ignore #[s[0]] else zN true `rcasesPat.tuple #[s[0],zU (s[1].getArgs.map λx=>if x.isAtom then x else zN true `rcasesPatLo #[zC n x,zU #[]]),s[2]]]]
def zL(s:Lean.Syntax):(Lean.MacroM Lean.Syntax):=
 let d:=s[2][0]
 let p:=if d[0].isOfKind `Lean.Parser.Term.letId then d[0][0] else d[0]
 if d[1].getNumArgs != 0 then Lean.Macro.throwUnsupported else if p.isIdent&&p.getId != `rfl then pure (zN true `tacticHave__ #[s[0],s[1],s[2]]) else pure (zN true `obtain #[s[0],zU #[zC 9 p],zU d[2][0].getArgs,zU #[d[3],zU #[d[4]]]])
local macro_rules(kind:=Lean.Parser.Tactic.tacticLet__)|s=>zL s
local macro_rules(kind:=Lean.Parser.Tactic.show)|s=>pure (zN true `refine #[s[0],s[1]])
local macro_rules(kind:=Lean.Parser.Tactic.«tacticExists_,,»)|s=>pure (zN true `refine #[s[0],zN false `anonymousCtor #[s[0],s[1],s[0]]])
local macro_rules(kind:=Lean.Parser.Tactic.cases)|s=>if s[3].getNumArgs==0&&s[1][0][0].getNumArgs==2 then pure (.node .none `«tacticBy_cases_:_» #[s[0],zU #[s[1][0][0][0][0],s[1][0][0][1]],s[1][0][1]]) else Lean.Macro.throwUnsupported
local macro_rules(kind:=«term~~~_»)|s=>pure (zN false `proj #[s[1],s[0],Lean.mkIdent `heap.objs.size])
local macro_rules(kind:=coeNotation)|s=>pure (zN false `app #[zN false `dotIdent #[s[0],Lean.mkIdent `ref],zU #[s[1]]])
local macro_rules
|`($x⁻¹)=>`((($x).length:Int))
def zD(s:Lean.Syntax):Lean.MacroM Lean.Syntax:=
 let d:=s[1]
 if s.getPos?.isNone||d.isOfKind `Lean.Parser.Command.theorem then Lean.Macro.throwUnsupported else
 let t:=d[2][1][0][1]
 let q:=d.isOfKind `Lean.Parser.Command.definition
 let s:=if q&&!(t.isMissing||t.isOfKind `Lean.Parser.Term.paren) then s.setArg 1 (.node .none `Lean.Parser.Command.theorem #[d[0],d[1],.node .none `Lean.Parser.Command.declSig #[d[2][0],d[2][1][0]],d[3]]) else if q||d.isOfKind `Lean.Parser.Command.abbrev||d.isOfKind `Lean.Parser.Command.instance then s.setArg 0 (s[0].setArg 4 (.node .none `null #[.node .none `Lean.Parser.Command.noncomputable #[s[0]]])) else s
 let s:=s.rewriteBottomUp (·.setInfo .none)
 if d[1][0].getId==`twz then pure (.node .none `null ((d[3][1].isStrLit?.getD "").toList.foldl (λ(a,i,n) c=>let n:=n*57+c.toNat-if c<'a' then 48 else 54;if i=10 then (a.push (s.setArg 1 (s[1].setArg 1 (s[1][1].setArg 0 (Lean.mkIdent (.mkSimple s!"tw{n}"))))),0,0) else (a,i+1,n)) (#[],0,0)).1) else pure s
local macro_rules(kind:=Lean.Parser.Command.declaration)|s=>zD s
namespace PySem.W.Fast
def twz:="e;Mb5GBSGO>6NmKAZ6SRYV=b4<NbO4?PfZMO3T<I1Sm8=ZBSPk5<elGE8FOkUXm6WfH1Zgi?OCgLh7am76C:n1ZYJQel:dk@@m@U6RJEC:N3Y:I:eGjRaS><>B7@6mC92ld373?lli:7::SXl@a@RD@I3cBIR13KIG2dUOeSE:VI:Q7>A4G2Zb<IN593a97=?KjnRCHjCkiHa:Xl72O78Ln3aLXZfHca:V4d@305WIBT5aRk6M;?<Ih3k7B?3Na1Ice1AX;;=NO2E97X?YF5cWGAPRN@k8DDQY94;RmK;MT9JH82PD=3P:?QjX2WL:kgWV=4iIJeATTAXQ4eIe5QG3MmKFMLcTA>B3DUI0ladPPSH>W0gI=e05Z317:ZDLG=?eMJ31@EH<<Rf;63H3Q9hm=ag>LKa5S2Mn7c=Y2CWHT?N:2hc2;8<R:a3FP2?A<3G6fDlYcKQXblkc=FnU:4CO3Nh5GH<V0GWi4jdEV;@VBYYKncm2GWnaX:?fQHMk9lc<kNc78TGP0nU4MZfSYmdj?KeiM7cSK89JU;gKU;a;TRXL8RdB;JO?jkdTHlYj0iEc8dFOPc6<Kh71QHX3C6EWRGPlAKWJ6fXeE3lQ9lN3e?l78=LSYOHSC4XAT1?EbTM?9HeE=:OTU;m>m?XV;C3WESTEe2aZ7ZFOG0VnXfiXfIRa56d@KFSh<M5C2HGmgk:j=9h=ZdkW=4Em98n7ZI;;D1GHfah90C0aLGNTCDSSNG>nY2I;NQNd9g1<f@lfD=b=9M=HZLPkULfNC6O:F1B:Uge69BLVIMOOBe6hYYjiaiOf=Im?J6EXNeUNmc3Ij1@kQ;=dMmSRF89nmgZacIcWn;8?Z:LAFC>RiMAZd=geD7gmRlKmCH=NSBcDd7:LI5GNGG?9b89kgXeJFD:Jack=C6R3M?UlmKGiV4I?S5?bcTGYdLfGO5GYk;2H:88GOC@h<fhZQRNLZ5N<7VO;5;I6Vkl50F3d;5X>gkChPXD6iajg1f8b@hf4;EMmk3lW?U:klGePVg;keBUWFaKbdjFHMbMYd7@iC59<;9FB@3Z03;EQD34f0l=PXCQ15GlkQ;55N9b9D9L<M0TNL9dUOZ8VjgO3EkFVg?;:aGOFGIBJm4SE<2Mbf:fk6T9UcHWIb6dIPG3R8WU?H3kWX1a7<LCd19YD0;X=k0F6<I67bOT:=48;<>BfM04g?GN9c3:UHdW7K>:H0UOfm3ieJaPb>Re4clFE@JhB1493iJBW9aheeCfglJTBdBKdk3G2M=1MH1nkFTkOX<M5X>ffXW2Z>@bljA>ZA7:3JCbj8R2?4jZ:IHja4OAdTK4T1@GKC4965ghBn@hPhc<5AZh@BSAGHgTBOXfigkIAWg4b51@2YjcV6ZBgRLg0ULF7JZe3gCl>Y>:Ygl1ZFQ:8nI?3313n7>>8DPUYWQX>l6@0IDiKfIihf993FjK8VnAgSfl2Q3BLh8YjaCM57YQnCRASKkiA=YHC4B5A9CW<jVBGH@TJTTnmVegP=m?hXfCOH1dh7d8XE7MXhDh2;6aS:m3JK>V??I<WjCXJ<ML@:U6AV?E==d?3cdS:nIWTGlVn1VaQ:YHdZ:SQN76C<L2l2lHkXNLR1=Cn=Z55:0>Ld7l=GUG?i08KIV3;DkUMd2MLgHk20DiSdY5NLhfVS<RM1>BLYALle2nm8j<iB;33:eBNjnS4mfSAnaNQLmNJ:a<99;J:DY189W3JhIGRc;h6YjGiYK8DK=>@FkJ1<R0P<N>C<19kZ5Sdl4N?XAWI5eldFPBL2HW@m4N;Pce61Z<Bj=4GAN5VLYXPXSU5kITBC;aTZR:JNBYeD?8MN=;kOZRHYR@KiiLam<a==88AiBFbYQQ?SRHHe63J1P6Ch9MVHciKSeTRDK<<>0bdBR99n2Ld0I1l1S0F=PfiSFWeib33?QE7fF;kX4;NkTb78cjG>EQk:7RKX=e;i2SaHKKB0U1L6BJUEHFNWUVSBEFQFN;n2N6Re8?b>0B3hDePAZb23Sh0SfEP;=CKllgDCfTJ1XE4;3<XOiE=XTAfigQIhe:3Q64YG89P>54DmFIZid4:85nT?jD<GY;WX:AkJcQPkgFS<NDC37NfNc;;5MX0NQEO46kMWSAKC=dGb@ba<dmi3TK8HLgc:S:a7?3@Z?2=Y2@@Nf51Yi9C07OeFVJ1W1>G95I;P5f7hNAA5l=CJh6UTH39CfnfB5H3LWhZ5bjeHJHK2GAh<40KQajbcVDFiCQ6QeT60TajRc@gFlkiBaM>gJb4X>4NSGedP6C8DF<<248gbAm707bFJLici20?LTEjJ;@GIS4ElNAlD?bFCgbaFYWPFk18KY0MEFVBhFakGFDg8e:34f@ghP1;dj8hFJB=3::m42YMmGZVCZVaIJ22E>A:6SBcVGSdRSW7;gZSPEG2;DbIdGDgDB5i>S3ZlTL=he@h0RLc6WgcRZ<L1<LIFa:S>A:GONc4bOXF7HJOm<D0gKjWRdDehIRLMg1Om@mSAHGlkQ8G0HUiBgmHB99FBi@B:3;TC9A0=gW7PUeDU4UhgiQHcJc2Z4bfDRba64F4P9@TeFmkXL22eL?21F02G=aR?RSDElYJIQM8CW;l4KI<j<Ej:gGL8XDKQeWRWmYRWleZDWNbf9<ECTjZjDKdeR3mGPFlYbT:Z<YY5JPD4Jh0VL8KG0LEH>9Dd:HmdImX0VjED2S6O:EYFd7g7f9>Q=Ef3R;>lcKNYdBWK7NCAPj=niG>:CiXBJ92g4?;21X@cP>HKKYAeN<O3JS6@j8nIS<a;c872jVmF1gK=;eDLEc<iYaXDWRfSXKILEh8PhXeZJ9F85RfO?mNeWmkeUW04K<?gkBV2gDK3e?94E1?4XS5XQd4WCmalZNa3BlXLVK737WP;;MkbK;nP4OlJZ8fZZHS3NFEfil3OMQEN3EH:6XhJ?EXZNmJ?gBZ8UI=0EFjWDg0X2Ge:7P9Y5Y99Dk0jCnOI8V0EJjl;AZ49JTh4cVDF6j23OgL7eC@c2=3GQU0lPZDnQIMkd=A@W>3Yh@DePiOEbeI7JW=SncbhMD3>TCihe3M0f?9kD5L9cA<dB=VQKb<4UR5@g90ADBMgEmWHGQ>nnWTll7GVan19SV3PgFZXmAi68=LP@X59mVVe0Y8?7H?ShUMM1KfGVGfc;N>OAf7OQdgD==L?ZL@kHYihge5V@LVQhWm;O2"
end PySem.W.Fast
def Z{α:Sort _}{a:α}:a=a:=rfl
abbrev Aa:=List (Int×Int)
abbrev Ab:=List (List Int)
abbrev Ac:=List Int
abbrev Ad:=PySem.W.Frag
abbrev Ae:=PySem.Value->PySem.Shared->Prop
abbrev Af:=PySem.Str->Option PySem.Value
abbrev Ag:=List PySem.Value
def J{p:Prop}(h:p:=by lia):p:=h
def sQ{p:Prop}(h:p:=by decide +kernel):p:=h
def sT{p:Prop}(h:p:=by decide):p:=h
def B{p:Prop}(h:p:=by simp):p:=h
def D{p:Prop}(h:p:=by omega):p:=h
def sS{p:Prop}(h:p:=by grind):p:=h
def sU{p:Prop}(h:p:=by rfl):p:=h
def sV{p:Prop}(h:p:=by kernel_rfl):p:=h
def Xx:=@List.getElem?_eq_some_iff
def Xq:=@List.getElem?_eq_getElem
def XG:=@List.mem_singleton
def XW:=@PySem.wpAny_bind
def Xt:=@List.length_append
def Xf:=@PySem.Heap.get?_push_of_some
def Xj:=@List.mem_of_getElem?
def XA:=@List.mem_append
def WG:=@List.getD_eq_getElem?_getD
def XM:=@Nat.le_refl
def Ya:=@List.mem_filter
def Yb:=@List.size_toArray
def Yc:=@List.length_map
def Yd:=@List.mem_cons_self
def Ye:=@Option.some.inj
def Yf:=@List.mem_cons_of_mem
def Yg:=@List.mem_append_left
def Yh:=@List.length_take
def Yi:=@List.mem_cons
def Yj:=@List.mem_append_right
def Yk:=@Nat.zero_le
def Yl:=@PySem.wpAny_pure
def Ym:=@List.getElem?_append_right
def Yn:=@Nat.le_trans
def Yo:=@PySem.Heap.get?_push_size
def Yp:=@List.getElem?_append_left
def Yq:=@PySem.Heap.lt_size
def Yr:=@List.length_filter_le
def Ys:=@List.getElem?_map
def Yt:=@of_decide_eq_true
def Yu:=@List.append_nil
def Yv:=@decide_eq_true
def Yw:=@Array.length_toList
def Yx:=@List.length_singleton
def Yy:=@List.append_assoc
def Yz:=@Classical.byContradiction
def YA:=@Array.getD_eq_getD_getElem?
def YB:=@PyProof.Rows.wpS_bind
def YC:=@Nat.lt_of_lt_of_le
def YD:=@Nat.ne_of_lt
def YE:=@List.take_length
def YF:=@List.getElem?_of_mem
def YG:=@Bool.false_ne_true
def YH:=@Array.getElem?_toList
def YI:=@List.length_cons
def YJ:=@List.pairwise_append
def YK:=@List.map_append
def YL:=@decide_eq_true_iff
def YM:=@PyProof.Rows.wpS_pure
def YN:=@List.length_reverse
def YO:=@List.take_of_length_le
def QP:=@Int.toNat_natCast
def YQ:=@List.drop_eq_nil_of_le
def YR:=@List.mem_map
def YS:=@List.mem_range
def YT:=@Array.getElem?_eq_getElem
def YU:=@List.length_replicate
def YV:=@congrArg
def YW:=@List.filter_cons
def YX:=@List.length_eq_zero_iff
def YY:=@List.take_succ
def YZ:=@List.pairwise_cons
def VS:=@PySem.Heap.get?_update_other
def WE:=@List.length_drop
def VR:=@List.mem_of_mem_take
def Wo:=@List.nodup_append
def VF:=@List.getElem?_eq_none
def VN:=@List.map_congr_left
def Wz:=@PySem.PassesOwn.never
def Us:=@List.perm_ext_iff_of_nodup
def Ur:=@Array.perm_iff_toList_perm
def Wg:=@PyProof.Rows.KeyOrd.kle_trans
def PH:=@PySem.F.plainAttrs_list
def Nx:=@List.pairwise_iff_getElem
def Uz:=@List.map_cons
def Xa:=@Ne.symm
def Rx:=@List.filter_append
def Rw:=@Bool.false_eq_true
def Sf:=@Array.toList_push
def Se:=@List.mem_reverse
def Sw:=@decide_eq_false
def Sv:=@Nat.not_lt_zero
def Ql:=@Array.toList_append
def PF:=@PySem.Heap.get?_update_self
def Qk:=@List.getElem?_take
def Nw:=@List.Perm.append_left
def QY:=@List.all_eq_true
def SX:=@PySem.wpAny_holding
def Jd:=@PyProof.Rows.callWith_type1
def Rv:=@PySem.codeAny_builtin
def Tn:=@getElem?_pos
def Tj:=@Nat.zero_add
def ML:=@List.take_append_drop
def TZ:=@Nat.le_succ
def KI:=@List.pairwise_singleton
def FW:=@List.eq_nil_iff_forall_not_mem
def Qj:=@PyProof.Rows.KeyOrd.kle_of_klt
def MK:=@List.mem_of_mem_drop
def FV:=@List.take_append_of_le_length
def Qi:=@List.nodup_cons
def Qh:=@Bool.eq_iff_iff
def Nv:=@PySem.wpAny_Call_Name_kw
def TM:=@PySem.sizeLine_eq
def Nu:=@PySem.Obj.data_mapFields
def KH:=@List.getElem?_reverse
def Nt:=@List.pairwise_map
def Nr:=@List.filter_congr
def Nq:=@List.ext_getElem?
def Ru:=@Int.mul_assoc
def SW:=@PyProof.Rows.wpS_forRange
def Sd:=@Nat.ne_of_gt
def Np:=@PySem.wpAny_truthy_bool
def PD:=@PySem.W.kia_one
def Pz:=@List.nil_append
def Nn:=@Nat.lt_succ_self
def QX:=@Nat.lt_irrefl
def Qg:=@PyProof.Rows.KeyOrd.kle_refl
def KG:=@PySem.Around.under_plainId
def FU:=@List.extract_eq_take_drop
def FT:=@List.drop_eq_getElem_cons
def MJ:=@List.take_sublist
def MG:=@List.length_range
def MF:=@List.getElem?_set
def ME:=@List.flatten_cons
def VE:=@Int.mul_zero
def Uq:=@PySem.wpAny_call_entry
def Py:=@List.drop_append_of_le_length
def SV:=@PySem.Heap.SameBut.update
def SU:=@List.getElem?_drop
def VM:=@Int.one_mul
def TL:=@List.getElem_mem
def Vu:=@Int.add_zero
def SS:=@Nat.lt_succ_of_lt
def Sb:=@PySem.mem_of_lookup
def Jc:=@List.replicate_succ
def FR:=@List.length_pos_of_mem
def MD:=@PySem.F.plain_min_loop
def Qf:=@Nat.le_of_lt
def MC:=@List.length_set
def KD:=@PySem.wpAny_newObj_type
def FP:=@List.getElem?_zipWith
def Su:=@PySem.wpAny_mono
def KC:=@List.lookup_cons
def Es:=@PySem.F.type_list_append
def Er:=@PySem.F.slot_list_append
def Px:=@List.map_map
def Ep:=@List.Pairwise.imp_of_mem
def Pw:=@Int.mul_comm
def FO:=@Array.toList_extract
def FN:=@PySem.builtinLookup_eq_fast
def Jb:=@decide_eq_true_eq
def KA:=@List.length_nil
def Nm:=@PySem.wpAny_newList
def MB:=@PySem.Heap.size_push
def QW:=@beq_iff_eq
def Nl:=@Nat.sub_self
def Eo:=@List.pairwise_lt_range
def En:=@List.Perm.append_right
def Ja:=@Bool.and_eq_true
def Kz:=@List.drop_zero
def FL:=@Int.emod_lt_of_pos
def Nk:=@PyProof.Rows.listUpdate_at
def Em:=@List.perm_append_comm
def MA:=@PySem.plainId_quiet
def IZ:=@Nat.min_eq_left
def IY:=@Int.emod_nonneg
def FK:=@List.reverse_perm
def Mz:=@Nat.succ.inj
def Mw:=@Int.le_of_lt
def Qe:=@PySem.wpAny_rule
def IX:=@PySem.wpAny_passesOwn
def Ss:=@if_false
def FJ:=@decide_eq_decide
def El:=@beq_eq_false_iff_ne
def Ek:=@List.map_eq_nil_iff
def Ej:=@List.length_zipWith
def yd:=@List.eq_of_mem_replicate
def FI:=@PySem.wpAny_setState_of
def x9:=@List.getElem?_replicate
def x8:=@PySem.Calls.call_function_entry
def FH:=@List.find?_cons
def Ei:=@PySem.wpAny_setEntries_of
def IW:=@PySem.wpAny_seqItems
def FG:=@PySem.wpAny_askSetting
def IV:=@List.any_cons
def xZ:=@Array.getElem?_eq_none
def Pu:=@List.reverse_cons
def Pr:=@List.drop_sublist
def Mv:=@PySem.wpAny_callSpecial?_slot
def Mu:=@List.pairwise_reverse
def Mt:=@List.Pairwise.sublist
def TK:=@PySem.wpAny_of_eq
def SR:=@PySem.codeAny_mono
def QV:=@Nat.mul_le_mul
def SQ:=@PySem.F.called_set
def QU:=@PySem.typeLookup_type
def Ky:=@Int.mul_one
def Eh:=@List.cons_append
def Eg:=@List.any_eq_true
def IU:=@Int.pow_zero
def Pq:=@PyProof.Rows.wpS_modify
def xY:=@PySem.Obj.isFreed_of_fields
def xX:=@List.getElem_of_mem
def xW:=@List.flatten_append
def xV:=@List.filter_eq_self
def xU:=@List.filterMap_cons
def FF:=@PySem.wpAny_setField
def Ef:=@Option.map_some
def uC:=@Nat.mod_two_eq_zero_or_one
def Ee:=@List.range_succ
def Ec:=@List.foldl_cons
def Eb:=@Array.Perm.refl
def Sa:=@PyProof.Rows.wpS_mono
def xT:=@Nat.lt_of_le_of_lt
def uz:=@List.getElem?_eq_none_iff
def IT:=@Int.mul_add
def IS:=@Int.le_refl
def uw:=@PySem.F.type_list_extend
def uu:=@PySem.F.slot_list_extend
def ur:=@PySem.F.args_tuple_add_2
def uq:=@Option.isSome_iff_exists
def uo:=@List.length_erase_of_mem
def Ea:=@List.drop_drop
def FE:=@Int.zero_add
def FC:=@Int.le_trans
def FA:=@PySem.wpAny_attempt
def xS:=@List.foldl_append
def xR:=@Int.mul_left_comm
def xQ:=@Bool.not_eq_true'
def um:=@PySem.F.plainAttrs_dict
def uj:=@PySem.F.entry_tuple_add
def ui:=@Nat.add_sub_cancel_left
def xP:=@beq_self_eq_true
def uh:=@PySem.F.slot_tuple_add
def xO:=@Nat.le_of_not_lt
def DZ:=@List.sum_cons
def ug:=@List.length_eq_one_iff
def uf:=@List.getElem?_eraseIdx
def xN:=@List.flatten_nil
def ue:=@List.drop_of_length_le
def xM:=@List.drop_append
def xK:=@PySem.Code.quiet_builtin
def DY:=@PySem.wpAny_tryCatch
def xJ:=@PySem.wpAny_pyIter_list
def ud:=@Nat.pow_le_pow_right
def uc:=@List.mem_erase_of_ne
def t9:=@List.length_eraseIdx
def DX:=@Int.zero_mul
def Pp:=@Int.pow_succ
def IQ:=@Array.toList_reverse
def IP:=@Array.toArray_toList
def Po:=@PyProof.Rows.get?_update_seq
def Pn:=@PyProof.Rows.entry_list_sort
def Ms:=@PySem.wpAny_isInstance
def US:=@if_true
def RZ:=@PySem.call_meets
def IM:=@List.getElem?_range
def IK:=@List.filter_sublist
def xI:=@PySem.F.entry_min_loop
def Fz:=@PySem.wpAny_letGo
def t8:=@Nat.add_sub_cancel
def t7:=@List.filter_filter
def t6:=@Bool.not_eq_false'
def xH:=@PySem.wpAny_updateSeq
def xG:=@PySem.wpAny_execs_nil
def DW:=@PyProof.Rows.slot_list_sort
def xF:=@PySem.W.mg_of
def t5:=@bne_self_eq_false
def eZ:=@PyProof.Rows.callWith_builtin1
def tZ:=@PyProof.Rows.F.plain_set_update_loop
def xE:=@PySem.wpAny_runValue
def xD:=@PySem.wpAny_fieldsOf
def xC:=@PySem.isSubtype_type
def eW:=@PySem.F.slot_dict_setdefault
def xB:=@Nat.sub_zero
def tY:=@Nat.min_eq_right
def xA:=@Nat.le_of_eq
def tX:=@List.not_mem_nil
def xw:=@List.map_nil
def eV:=@List.dropLast_concat_getLast
def DV:=@Int.not_lt
def tW:=@Int.min_eq_right
def tV:=@Int.max_eq_right
def QT:=@PyProof.Rows.wpS_get
def tU:=@beq_false_of_ne
def tT:=@PySem.SeqAt.EqAt.of_refs
def tS:=@Nat.le_antisymm
def tR:=@List.of_mem_zip
def eS:=@List.length_eraseIdx_of_lt
def tQ:=@List.filter_nil
def tP:=@Int.min_eq_left
def tO:=@Int.max_eq_left
def tN:=@PySem.Calls.spliced_cons
def tL:=@Bool.or_eq_true
def eR:=@Array.toList_setIfInBounds
def eQ:=@Array.getElem?_eq_some_iff
def eO:=@PySem.F.plain_extend_loop
def eN:=@List.mem_or_eq_of_mem_set
def eM:=@List.getElem?_zip_eq_some
def xu:=@Int.neg_mul
def eK:=@Int.eq_of_mul_eq_mul_left
def xt:=@Int.add_mul
def eJ:=@PySem.F.slot_dict_values
def tK:=@PySem.Obj.cls_mapFields
def tJ:=@List.take_zero
def tI:=@List.take_take
def eE:=@List.mem_of_mem_eraseIdx
def tH:=@List.drop_take
def eD:=@List.append_cancel_right
def tG:=@List.Perm.refl
def DU:=@List.Perm.eq_of_pairwise
def IJ:=@Int.natAbs_mul
def II:=@PySem.Calls.spliced_nil
def Pm:=@PyProof.Rows.plain_sorted
def Pl:=@PyProof.Rows.listItems_at
def Pk:=@PyProof.Rows.entry_sorted
def IG:=@PyProof.Rows.entry_proto_collect'
def DT:=@List.pairwise_mergeSort
def DS:=@Int.eq_ofNat_of_zero_le
def Mr:=@PySem.wpAny_typeOf
def DR:=@PySem.wpAny_call
def tE:=@PySem.noFill_tuple_add
def eC:=@PySem.W.cellsFrom_some
def eh:=@PySem.F.slot_dict_keys
def tD:=@List.take_nil
def d9:=@List.getElem?_set_self
def tu:=@PySem.Heap.size_update
def Fy:=@PyProof.Rows.size_push'
def tq:=@PyProof.Rows.getElem?_mirror_all
def xr:=@PyProof.Rows.args_list_sort
def d8:=@List.set_append_right
def d7:=@List.pairwise_and_iff
def dZ:=@List.getElem?_toArray
def dY:=@Classical.choose_spec
/-! THE HAND dX,for ints,bools,texts,own classes,dW and tuples (index,tm,in,append,pop ..),calls,loops. dU it whole ahead of tj own text;what tj proof does not reach may be deleted. -/
namespace L2
open PySem PySem.Spec PyProof.Rows
abbrev Key:=Sum Int Str
def UR:(Key->Value->Bool)
 | .inl k,v=>Value.isInt k v
 | .inr x,v=>Value.isStrOf x v
def Zaa(w:World):(Key->Int)
 | .inl k=>hashInt k
 | .inr x=>hashStr w x
def ZG:∀{k:Key}{v:Value},UR k v=true->(∃i t,k=Sum.inl i/\v=Value.int i t)\/(∃x t,k=Sum.inr x/\v=Value.str x t)
 | .inl i,v,h=>by let⟨t,e⟩:=Value.isInt_shape (k:=i) (v:=v) h;show .inl ⟨i,t,Z,e⟩
 | .inr x,v,h=>by let⟨t,e⟩:=Value.isStrOf_shape (x:=x) (v:=v) h;show .inr ⟨x,t,Z,e⟩
def ZJ8(i:Int)(t:Tok):UR (.inl i) (.int i t)=true:=by simp[UR,Value.isInt]
def ZI8(x:Str)(t:Tok):UR (.inr x) (.str x t)=true:=by simp[UR,Value.isStrOf]
def Zab(a b:Int):decide ((Sum.inl a:Key)=Sum.inl b)=(a == b):=by
 cases e:a=b
 .subst e;simp
 .let h:¬(Sum.inl a:Key)=Sum.inl b:=λq=>e (Sum.inl.inj q);rw[Sw h];show(El.mpr e).symm
def Zac(a b:Str):decide ((Sum.inr a:Key)=Sum.inr b)=decide (a=b):=by
 cases e:a=b
 .subst e;simp
 .let h:¬(Sum.inr a:Key)=Sum.inr b:=λq=>e (Sum.inr.inj q);rw[Sw h,Sw e]
def Zad(a:Int)(b:Str):decide ((Sum.inl a:Key)=Sum.inr b)=false:=Sw (λq=>nomatch q)
def Zae(a:Str)(b:Int):decide ((Sum.inr a:Key)=Sum.inl b)=false:=Sw (λq=>nomatch q)
def ZO(prog:Program)(w:World):(PySem.KeyKind prog w Key) where
 is:=UR
 hash:=Zaa w
 inj:=λv a b ha hb=>by
  rcases ZG ha with ⟨i,t,rfl,rfl⟩|⟨x,t,rfl,rfl⟩
  .rcases ZG hb with ⟨j,u,rfl,e⟩|⟨y,u,rfl,e⟩
   .injection e with e1 _;rw[e1]
   .show nomatch e
  .rcases ZG hb with ⟨j,u,rfl,e⟩|⟨y,u,rfl,e⟩
   .show nomatch e
   .injection e with e1 _;rw[e1]
 byValue:=λk v h=>by rcases ZG h with ⟨i,t,rfl,rfl⟩|⟨x,t,rfl,rfl⟩<;>rfl
 pyHash:=λhv h=>by
  rcases ZG hv with ⟨i,t,rfl,rfl⟩|⟨x,t,rfl,rfl⟩
  .show wpAny_pyHash_int h
  .show wpAny_pyHash_str h
 eqBool:=λhu hv h=>by
  rcases ZG hu with ⟨i,t,rfl,rfl⟩|⟨x,t,rfl,rfl⟩
  .rcases ZG hv with ⟨j,u,rfl,rfl⟩|⟨y,u,rfl,rfl⟩
   .rw[Zab]at h;show wpAny_eqBool_int h
   .rw[Zad]at h;show SeqAt.EqAt.int_str i t y u _ _ _ _ h
  .rcases ZG hv with ⟨j,u,rfl,rfl⟩|⟨y,u,rfl,rfl⟩
   .rw[Zae]at h;show SeqAt.EqAt.str_int x t j u _ _ _ _ h
   .rw[Zac]at h;show wpAny_eqBool_str h
 «strs»:=λk x t v h=>by
  rcases ZG h with ⟨i,u,rfl,e⟩|⟨y,u,rfl,e⟩
  .show nomatch e
  .injection e with e1 _;subst e1;cases v<;>rfl
def Zaf(prog:Program)(w:World)(i:Int)(t:Tok):(ZO prog w).is (.inl i) (.int i t)=true:=ZJ8 i t
def Zag(prog:Program)(w:World)(x:Str)(t:Tok):(ZO prog w).is (.inr x) (.str x t)=true:=ZI8 x t
inductive V where
 |non|bl (b:Bool)|int (i:Int)|str (x:Str)|byt (b:Array UInt8)|flt (b:UInt64)|ref (a:Addr)|ty (n:String)
 deriving DecidableEq
def RelV:(V->Value->Prop)
 | .non,u=>u=Value.none
 | .bl b,u=>u=Value.bool b
 | .int i,u=>∃t,u=Value.int i t
 | .str x,u=>∃t,u=Value.str x t
 | .byt b,u=>∃t,u=Value.bytes b t
 | .flt b,u=>∃t,u=Value.float b t
 | .ref a,u=>u=Value.ref a
 | .ty n,u=>u=Value.type n
abbrev Vals:List V->List Value->Prop:=Paired RelV
def Vals.length{xs:List V}{us:Ag}(r:Vals xs us):xs.length=us.length:=Paired.length r
def Vals.get{xs:List V}{us:Ag}{i:Nat}{x:V}(h:Vals xs us)(e:xs[i]?=some x):∃u,us[i]?=some u/\RelV x u:=by
 induction h generalizing i with
 |nil=>simp at e
 |cons r t ih=>
  cases i with
  |zero=>simp at e;subst e;exists _,Z,r
  |succ i=>
   let⟨u,h1,h2⟩:=ih (i:=i) (by simpa using e);exists u,by simpa using h1,h2
def Vals.set(r:RelV x u){xs:List V}{us:Ag}(i:Nat)(h:Vals xs us):Vals (xs.set i x) (us.set i u):=by
 induction h generalizing i with
 |nil=>show .nil
 |cons q t ih=>
  cases i with
  |zero=>show .cons r t
  |succ i=>show .cons q (ih i)
def Vals.append{xs ys:List V}{us ws:Ag}(h:Vals xs us)(s:Vals ys ws):Vals (xs++ys) (us++ws):=by
 induction h with
 |nil=>show s
 |cons r t ih=>show .cons r ih
def Vals.take{xs:List V}{us:Ag}(n:Nat)(h:Vals xs us):Vals (xs.take n) (us.take n):=by
 induction h generalizing n with
 |nil=>cases n<;>show .nil
 |cons r t ih=>
  cases n with
  |zero=>show .nil
  |succ n=>show .cons r (ih n)
def Vals.drop{xs:List V}{us:Ag}(n:Nat)(h:Vals xs us):Vals (xs.drop n) (us.drop n):=by
 induction h generalizing n with
 |nil=>cases n<;>show .nil
 |cons r t ih=>
  cases n with
  |zero=>show .cons r t
  |succ n=>show ih n
def RelO:(Option V->Option Value->Prop)
 |some v,some u=>RelV v u
 |none,none=>True
 |_,_=>False
def KV{κ:Type}:(List (κ×V)->List (κ×Value)->Prop):=Paired λ(p:κ×V) (q:κ×Value)=>p.1=q.1/\RelV p.2 q.2
def kV:(Key->V)
 | .inl i=>.int i
 | .inr x=>.str x
inductive HO where
 |lst (xs:List V)
 |tup (xs:List V)
 |dK (kvs:List (Key×V))|dT (kvs:List (List Key×V))
 |set (S:Int->Bool) (n:Nat)
 |ins (C dx:Addr) (fs:List (Str×V))
 |own (x:Addr)
 |xd (fs:List (Str×V))
 |met (f x:Addr)
 |rng (lo hi:Int)
 |frz (o:Obj) (u:HO)
 |tbl (ps:Array Value)
 |ext (φ:Heap->Prop)
abbrev Hp:=Addr->Option HO
def upd(H:Hp)(a:Addr)(o:HO):(Hp):=λb=>if b=a then some o else H b
def XR:upd H a o a=some o:=by unfold upd;rw[if_pos Z]
def XJ(h:b≠a):upd H a o b=H b:=by unfold upd;rw[if_neg h]
def Vt{H:Hp}{a b:Addr}{o u:HO}(h:H a=some o)(h':H b=some u)(d:o≠u):a≠b:=by intro e;subst e;rw[h]at h';show d (Ye h')
def Za{H:Hp}{a b:Addr}{o:HO}(h:H a=some o)(h':H b=none):a≠b:=by intro e;subst e;rw[h]at h';cases h'
section
variable(P:Program)(w:World)
def ObjOk(H:Hp)(h:Heap)(a:Addr):(HO->Prop)
 | .lst xs=>xs.length<=sizeLine/\∃(XX:Ag)(n:Nat),Vals xs XX/\h.get? a=some {cls:=.type "list",data:=.seq XX.toArray n}
 | .tup xs=>xs.length<=sizeLine/\∃XX:Ag,Vals xs XX/\IsTup h a XX.toArray
 | .dK kvs=>kvs.length<=sizeLine/\(a == sysModules)=false/\∃vs,KV kvs vs/\h.DictOf (ZO P w) a vs
 | .dT kvs=>kvs.length<=sizeLine/\(a == sysModules)=false/\∃xs:List (List Key×Addr×Value),
   Paired (λ(p:List Key×V) (q:List Key×Addr×Value)=>p.1=q.1/\H q.2.1=some (.tup<|p.1.map kV)/\RelV p.2 q.2.2) kvs xs/\
   ∃o es ep,h.get? a=some o/\o.ExactDict/\o.data=.dict es ep/\es.toList=xs.map (entryOfKey<|tupleKind<|ZO P w)/\(xs.map (·.1)).Nodup
 | .set S n=>h.SetOf (intKind P w) a S n
 | .ins C dx fs=>H dx=some (.own a)/\fs.length<=1000/\dx≠a/\h.get? a=some (PySem.W.instObj C dx)/\
   ∃mA,h.Ns1 dx mA/\(∀f,RelO (fs.lookup f)<|mA f)/\PySem.Within mA (fs.map (·.1))
 | .own _=>∃o,h.get? a=some o
 | .xd fs=>∃mA,h.Ns1 a mA/\∀f,RelO (fs.lookup f) (mA f)
 | .rng lo hi=>∃t u v,h.get? a=some {cls:=.type "range",data:=.fields #[.int lo t,.int hi u,.int 1 v]}
 | .frz o u=>h.get? a=some o/\ObjOk H h a u
 | .tbl ps=>h.get? a=some {cls:=.none,data:=.fields ps}
 | .met f x=>h.get? a=some (PySem.W.methodObj ↑f<|.ref x)
 | .ext φ=>φ h/\(∃o,h.get? a=some o)/\∀h1 h2:Heap,φ h1->(∀o,h1.get? a=some o->h2.get? a=some o)->φ h2
def HOk(H:Hp)(h:Heap):(Prop):=∀a o,H a=some o->ObjOk P w H h a o
end
section
variable{P:Program}{w:World}{H H':Hp}{h h':Heap}{a:Addr}{o:HO}
def ObjOk.lt(x:ObjOk P w H h a o):a<h.objs.size:=by
 cases o with
 |lst xs=>let⟨_,_,_,_,e⟩:=x;show Yq e
 |tup xs=>let⟨_,_,_,p⟩:=x;show p.lt
 |dK kvs=>let⟨_,_,_,_,o,_,_,e,_⟩:=x;show Yq e
 |dT kvs=>let⟨_,_,_,_,o,_,_,e,_⟩:=x;show Yq e
 |set S n=>let⟨o,_,_,_,e,_⟩:=x;show Yq e
 |ins C dx fs=>let⟨_,_,_,e,_⟩:=x;show Yq e
 |own y=>let⟨_,e⟩:=x;show Yq e
 |xd fs=>let⟨_,⟨_,_,_,e,_⟩,_⟩:=x;show Yq e
 |rng lo hi=>let⟨_,_,_,e⟩:=x;show Yq e
 |frz ob u=>let⟨e,_⟩:=x;show Yq e
 |tbl ps=>show Yq (show h.get? a=some _ from x)
 |met f y=>show Yq (show h.get? a=some _ from x)
 |ext φ=>let⟨_,⟨_,e⟩,_⟩:=x;show Yq e
def Paired.mapP{α β:Type}{F G:α->β->Prop}{l₁:List α}{l₂:List β}(h:Paired F l₁ l₂)(f:∀a b,F a b->G a b):Paired G l₁ l₂:=by
 induction h with
 |nil=>show .nil
 |cons r t ih=>show .cons (f _ _ r) ih
def ObjOk.stay(x:ObjOk P w H h a o)(k:∀b u,(b=a\/H b=some (.own a))->h.get? b=some u->h'.get? b=some u)
  (ho:∀b,H b=some (.own a)->H' b=some (.own a))(ht:∀b xs,H b=some (.tup xs)->H' b=some (.tup xs)):ObjOk P w H' h' a o:=by
 induction o with
 |lst xs=>let⟨z,XX,n,r,e⟩:=x;exists z,XX,n,r,k _ _ (.inl Z) e
 |tup xs=>let⟨z,XX,r,ob,e,c⟩:=x;exists z,XX,r,ob,k _ _ (.inl Z) e,c
 |dK kvs=>let⟨z,y,vs,r,ob,es,ep,e,c⟩:=x;exists z,y,vs,r,ob,es,ep,k _ _ (.inl Z) e,c
 |dT kvs=>
  let⟨z,y,xs,r,ob,es,ep,e,c⟩:=x;exists z,y,xs,Paired.mapP r λp q z=>⟨z.1,ht _ _ z.2.1,z.2.2⟩,ob,es,ep,k _ _ (.inl Z) e,c
 |set S n=>let⟨ob,es,ep,t,e,c⟩:=x;exists ob,es,ep,t,k _ _ (.inl Z) e,c
 |ins C dx fs=>
  let⟨d,z,ne,e,mA,⟨od,es,ep,e2,c⟩,r⟩:=x;exists ho _ d,z,ne,k _ _ (.inl Z) e,mA,⟨od,es,ep,k _ _ (.inr d) e2,c⟩,r
 |own y=>let⟨ob,e⟩:=x;exists ob,k _ _ (.inl Z) e
 |xd fs=>let⟨mA,⟨od,es,ep,e,c⟩,r⟩:=x;exists mA,⟨od,es,ep,k _ _ (.inl Z) e,c⟩,r
 |rng lo hi=>let⟨t,u,v,e⟩:=x;exists t,u,v,k _ _ (.inl Z) e
 |frz ob u ih=>let⟨e,q⟩:=x;exists k _ _ (.inl Z) e,ih q
 |tbl ps=>
  let e:h.get? a=some {cls:=.none,data:=.fields ps}:=x;change h'.get? a=some {cls:=.none,data:=.fields ps}
  show k a _ (.inl Z) e
 |met f y=>
  let e:h.get? a=some (PySem.W.methodObj ↑f<|.ref y):=x;change h'.get? a=some (PySem.W.methodObj ↑f<|.ref y)
  show k a _ (.inl Z) e
 |ext φ=>let⟨p,⟨o,e⟩,st⟩:=x;exists st _ _ p λo q=>k _ _ (.inl Z) q,⟨o,k _ _ (.inl Z) e⟩,st
def HOk.lt(x:HOk P w H h)(e:H a=some o):a<h.objs.size:=(x a o e).lt
def HOk.fresh(x:HOk P w H h)(e:h.objs.size<=a):H a=none:=by
 cases q:H a with
 |none=>rfl
 |some u=>show absurd (YC (x.lt q) e) (QX _)
def HOk.kept(x:HOk P w H h)(k:∀b u,h.get? b=some u->h'.get? b=some u):HOk P w H h':=λa o e=>
 (x a o e).stay (λb u _ q=>k b u q) (λ_ q=>q) λ_ _ q=>q
def HOk.laid(x:HOk P w H h)(k:∀b u,h.get? b=some u->h'.get? b=some u)(hp:h.objs.size<=a)(new:ObjOk P w (upd H a o) h' a o):HOk P w (upd H a o) h':=λb u e=>by
 let hn:=x.fresh hp;cases hb:b=a
 .subst hb;rw[XR]at e;cases e;show new
 .rw[XJ hb]at e;show(x b u e).stay (λc v _ q=>k c v q) (λc q=>by rwa[XJ (Za q hn)]) λc xs q=>by rwa[XJ (Za q hn)]
end
def Rd(H:Hp)(a:Addr)(u:HO):(Prop):=H a=some u\/∃o,H a=some (.frz o u)
def Rd.ok(r:Rd H a u)(x:HOk P w H h):ObjOk P w H h a u:=by
 rcases r with r|⟨o,r⟩
 .show x a u r
 .let⟨_,q⟩:=x a _ r;show q
def DQ:(Option HO->Prop)
 |some (.lst _)=>True
 |some (.dK _)=>True
 |some (.dT _)=>True
 |some (.set _ _)=>True
 |some (.ins _ _ _)=>True
 |some (.ext _)=>True
 |_=>False
section
variable{P:Program}{w:World}{H:Hp}{h h':Heap}{x e:Addr}{o':HO}
def HOk.write(ok:HOk P w H h)(mu:DQ (H x))(he:e=x\/H e=some (.own x))(k:∀b u,b≠e->h.get? b=some u->h'.get? b=some u)(Fx:∃u,h'.get? e=some u)
  (new:ObjOk P w (upd H x o') h' x o'):HOk P w (upd H x o') h':=λb u q=>by
 let DP:∀c y,H c=some (.own y)->c≠x:=λc y r z=>by subst z;rwa[r]at mu
 let sR:∀c xs,H c=some (.tup xs)->c≠x:=λc xs r z=>by subst z;rwa[r]at mu
 cases hb:b=x
 .subst hb;rw[XR]at q;cases q;show new
 .rw[XJ hb]at q;cases IF:b=e
  .let q':H b=some (.own x):=by
    rcases he with z|z
    .show absurd (IF.trans z) hb
    .rw[IF];show z
   rw[q]at q';cases q';let⟨v,hv⟩:=Fx;exists v,by rwa[IF]
  .show(ok b u q).stay (λc v hc r=>k c v ?_ r) (λc r=>by rwa[XJ (DP c b r)]) λc xs r=>by rwa[XJ (sR c xs r)]
   rcases hc with rfl|hc
   .show IF
   .rintro rfl;rcases he with z|z
    .show DP c b hc z
    .rw[hc]at z;cases z;show hb rfl
end
structure Un(fs ex:List Addr)(H H':Hp)(h h':Heap):Prop where
 keep:∀b o,h.get? b=some o->H b=none->b∉fs->b∉ex->h'.get? b=some o
 slot:∀b o,h.get? b=some o->H b=none->b∈fs->b∉ex->∃sl,h'.get? b=some {o with slots:=sl}
 free:∀b o,h.get? b=some o->H b=none->b∉ex->H' b=none
 there:∀b o,h.get? b=some o->b∉ex->∃o',h'.get? b=some o'
 tups:∀b xs,H b=some (.tup xs)->H' b=some (.tup xs)
 frzs:∀b o u,H b=some (.frz o u)->H' b=some (.frz o u)
 tbls:∀b ps,H b=some (.tbl ps)->∃more,H' b=some (.tbl<|ps++more)
section
variable{fs ex:List Addr}{H H1:Hp}{h h1 h':Heap}{a x e:Addr}{o:HO}
def Un.any(u:Un fs ex H H1 h h1){ob:Obj}(q:h.get? b=some ob)(n:H b=none)(hx:b∉ex):∃sl,h1.get? b=some {ob with slots:=sl}:=by
 cases hb:b∈fs
 .show u.slot b ob q n hb hx
 .exists ob.slots,u.keep b ob q n hb hx
def Un.kept(k:∀b u,h.get? b=some u->h'.get? b=some u):Un fs ex H H h h':=
 ⟨λb ob q _ _ _=>k b ob q,λb ob q _ _ _=>⟨ob.slots,k b ob q⟩,λ_ _ _ n _=>n,λb ob q _=>⟨ob,k b ob q⟩,λ_ _ q=>q,λ_ _ _ q=>q,λ_ ps q=>⟨#[],by rw[q];simp⟩⟩
def Un.refl:Un fs ex H H h h:=Un.kept λ_ _ q=>q
def Un.laid(k:∀b u,h.get? b=some u->h'.get? b=some u)(hp:h.objs.size<=a)(hn:H a=none):Un fs ex H (upd H a o) h h' where
 keep:=λb u q _ _ _=>k b u q
 slot:=λb u q _ _ _=>⟨u.slots,k b u q⟩
 free:=λb u q n _=>by rwa[XJ (YD<|YC (Yq q) hp)]
 there:=λb u q _=>⟨u,k b u q⟩
 tups:=λb xs q=>by rwa[XJ (Za q hn)]
 frzs:=λb u xs q=>by rwa[XJ (Za q hn)]
 tbls:=λb ps q=>⟨#[],by rw[XJ (Za q hn),q];simp⟩
def Un.write(mu:DQ (H x))(he:e=x\/H e=some (.own x))(k:∀b u,b≠e->h.get? b=some u->h'.get? b=some u)(Fx:∃u,h'.get? e=some u):Un fs ex H (upd H x o) h h':=by
 let hx:∀b,H b=none->b≠x:=λb n z=>by subst z;rwa[n]at mu
 let hb:∀b,H b=none->b≠e:=λb n z=>by
  subst z;rcases he with r|r
  .show hx b n r
  .rw[n]at r;cases r
 let hm:∀b u,H b=some u->¬DQ (some u)->b≠x:=λb u q nm z=>by subst z;rw[q]at mu;show nm mu
 show⟨λb u q n _ _=>k b u (hb b n) q,λb u q n _ _=>⟨u.slots,k b u (hb b n) q⟩,λb u q n _=>by rw[XJ (hx b n)];show n,λb u q _=>?_,
  λb xs q=>by rw[XJ (hm b _ q λz=>z)];show q,λb u xs q=>by rw[XJ (hm b _ q λz=>z)];show q,λb ps q=>⟨#[],by rw[XJ (hm b _ q λz=>z),q];simp⟩⟩
 cases IF:b=e
 .subst IF;show Fx
 .exists u,k b u IF q
end
def xq(h:Heap)(H:Hp):(List Addr):=(List.range h.objs.size).filter λa=>(H a).isSome
def Up(h:Heap)(H:Hp):(Heap):=PySem.W.hideAll h (xq h H)
def ZP8(h:Heap)(H:Hp):(Up h H).objs.size=h.objs.size:=PySem.W.hideAll_size _ _
def Zah{b:Addr}{o:Obj}(e:h.get? b=some o)(n:H b=none):(Up h H).get? b=some o:=
 PySem.W.hideAll_get _ e λhm=>by let q:(H b).isSome=true:=(Ya.mp hm).2;rw[n]at q;simp at q
def Zai{b:Addr}{o:Obj}(e:(Up h H).get? b=some o):h.get? b=some o/\H b=none:=by
 let e':h.get? b=some o:=PySem.W.of_hideAll (xq h H) e;exists e',?_;cases q:H b with
 |none=>rfl
 |some x=>
  let hm:b∈xq h H:=Ya.mpr ⟨YS.mpr<|Yq e',by simp[q]⟩;let z:(Up h H).get? b=none:=PySem.W.hideAll_none (xq h H) hm
  rw[z]at e;cases e
def Zaj(g h:Heap)(L:Addr):(List (Addr×Obj)):=(List.range h.objs.size).filterMap λa=>if a=L\/(g.get? a).isSome=true then none else (h.get? a).map λo=>(a,o)
def rest(g h:Heap)(L d:Addr):(List (Addr×Obj)):=(Zaj g h L).filter λp=>decide (p.1≠d)
structure Mod(K:Ad)(mg:Af)(base:Heap):Prop where
 kin:K.In base
 glob:base.Ns mainGlobals mg
 blt:∃mb,base.Ns builtinsNs mb/\∀x:Str,x≠"__name__"->mb x=bootBuiltins x
 nolimit:base.NoLimit
structure Cx where
 prog:Program
 w:World
 K:Ad
 mg:Af
 base:Heap
 A:Around
 N:List Str
 s₀:Shared
 H₀:Hp
 env:Env
 outer:List Env
 stack:List Env
 ex:List Addr
 fn:Str->Bool
 calm:Bool
 pn:List (Addr×Obj)
 xe:Ae
def TJ(l:List Env):(List Addr):=l.filterMap (·.frame)
abbrev Cx.fs(X:Cx):List Addr:=TJ X.outer
def sN(sc:Scope)(x:Str):(Prop):=sc.names.lookup x=some .local\/sc.names.lookup x=some .cell\/sc.names.lookup x=some .free
def Loc(sc:Scope)(x:Str):(Prop):=sc.names.lookup x=some .local\/sc.names.lookup x=some .cell
def Look(env:Env)(h:Heap)(m:Af)(x:Str)(u:Value):(Prop):=
 (env.kindOf x=some .local/\m x=some u)\/((env.kindOf x=some .cell\/env.kindOf x=some .free)/\∃c,env.cells.lookup x=some c/\h.IsCell c (some u))
structure Cx.Ok(X:Cx):Prop where
 mod:Mod X.K X.mg X.base
 kind:X.env.scope.kind=.function
 glob:X.env.globals=mainGlobals
 blt:X.env.builtins=builtinsNs
 above:(~~~X.s₀)<=X.env.locals
 inj:∀x y c,X.env.cells.lookup x=some c->X.env.cells.lookup y=some c->x=y
 has:∀x,(X.env.kindOf x=some .cell\/X.env.kindOf x=some .free)->∃c,X.env.cells.lookup x=some c
 cab:∀x c,X.fn x=true->X.env.cells.lookup x=some c->(~~~X.s₀)<=c
 hd:X.calm=true->X.A.handled=none
 frames:X.A.frames=some X.stack
 stk:X.stack=X.outer\/(X.stack=X.env::X.outer/\X.env.frame=some X.env.locals)
 exf:∀b∈X.ex,b≠X.env.locals/\∀x c,X.env.cells.lookup x=some c->c≠b
 bs:∀b o,X.base.get? b=some o->X.s₀.heap.get? b=some o/\X.H₀ b=none
 bsz:X.base.objs.size<=(~~~X.s₀)
 noex:∀b o,X.base.get? b=some o->b∉X.ex
 exfs:∀b∈X.ex,b∉X.fs
 funs:X.s₀.heap.FunFrames X.base X.outer
 frf:∀b∈X.fs,X.H₀ b=none
structure Inv(X:Cx)(pins:List (Addr×Obj))(σ:List (Option V))(H:Hp)(s:Shared):Prop where
 ok:X.Ok
 os:s.os=X.s₀.os
 bare:AllBare s.gens
 base:Un X.fs X.ex X.H₀ H X.s₀.heap s.heap
 loc:∃m,s.heap.Ns X.env.locals m/\∀(i:Nat)(x:Str)(v:V),X.N[i]?=some x->σ[i]?=some (some v)->sN X.env.scope x->∃u,RelV v u/\Look X.env s.heap m x u
 cell:∀x c,X.env.cells.lookup x=some c->∃v,s.heap.IsCell c v
 free:H X.env.locals=none
 freeC:∀x c,X.env.cells.lookup x=some c->H c=none
 pin:∀p∈X.pn++pins,s.heap.get? p.1=some p.2/\H p.1=none/\p.1≠X.env.locals/\p.1∉X.fs/\∀v,p.2.data≠.cell v
 hok:HOk X.prog X.w H s.heap
 len:σ.length=X.N.length
section
variable{X:Cx}{pins:List (Addr×Obj)}{σ:List (Option V)}{H H':Hp}{s:Shared}{h':Heap}
def Cx.Ok.nofr(ok:X.Ok){b:Addr}{o:Obj}(e:X.base.get? b=some o):b∉X.fs:=λhb=>by
 have:=(ok.funs.mem hb).1
 rw[e]at this;cases this
def Inv.bs(I:Inv X pins σ H s):∀b o,X.base.get? b=some o->s.heap.get? b=some o/\H b=none:=λb o e=>
 ⟨I.base.keep b o (I.ok.bs b o e).1 (I.ok.bs b o e).2 (I.ok.nofr e) (I.ok.noex b o e),I.base.free b o (I.ok.bs b o e).1 (I.ok.bs b o e).2 (I.ok.noex b o e)⟩
def Inv.bk(I:Inv X pins σ H s):∀b o,X.base.get? b=some o->s.heap.get? b=some o:=λb o e=>(I.bs b o e).1
def Inv.mod(I:Inv X pins σ H s):Mod X.K X.mg X.base:=I.ok.mod
def Inv.kIn(I:Inv X pins σ H s):X.K.In s.heap:=I.ok.mod.kin.keeps I.bk
def Inv.lt(I:Inv X pins σ H s):X.env.locals<(~~~s):=by let⟨_,hn,_⟩:=I.loc;show hn.lt
def Inv.sz(I:Inv X pins σ H s):(~~~X.s₀)<=(~~~s):=Yn I.ok.above (Qf I.lt)
def Inv.nofs(I:Inv X pins σ H s){a:Addr}(h:(~~~s)<=a):a∉X.fs:=λhb=>by let⟨_,o,ho,_⟩:=I.ok.funs.mem hb;show absurd (YC (Yq ho)<|Yn I.sz h) (QX _)
def Inv.cne(I:Inv X pins σ H s):∀x c,X.env.cells.lookup x=some c->c≠X.env.locals:=λx c e z=>by let⟨v,o,ho,hd⟩:=I.cell x c e;let⟨m,⟨o',es,ep,UW,Nj,_⟩,_⟩:=I.loc;rw[z,UW]at ho;cases ho;rw[Nj]at hd;cases hd
def Inv.funs(I:Inv X pins σ H s):s.heap.FunFrames X.base X.outer:=by
 let all:∀(l:List Env),(∀b∈TJ l,b∈X.fs)->X.s₀.heap.FunFrames X.base l->s.heap.FunFrames X.base l:=by
  intro l
  induction l with
  |nil=>intro _ _;trivial
  |cons env r ih=>
   intro hs hl;let⟨hk,⟨L,o,hf,hn,ho,hd⟩,hr⟩:=hl;let hL:L∈X.fs:=hs L (by unfold TJ;rw[xU,hf];show Yd)
   let⟨sl,e⟩:=I.base.slot L o ho (I.ok.frf L hL) hL λz=>I.ok.exfs L z hL;exists hk,⟨L,_,hf,hn,e,hd⟩,ih (λb hb=>hs b<|by unfold TJ;rw[xU,hf];show Yf _ hb) hr
 show all X.outer (λ_ hb=>hb) I.ok.funs
def Inv.stack(I:Inv X pins σ H s):s.heap.FunFrames X.base X.stack:=by
 rcases I.ok.stk with e|⟨e,hf⟩
 .rw[e];show I.funs
 .rw[e];let⟨m,hn,_⟩:=I.loc;show .cons (by rw[I.ok.kind];decide) hf hn ?_ I.funs;show Heap.get?_none_of_le (Yn I.ok.bsz I.ok.above)
def Inv.stkSub(I:Inv X pins σ H s):∀b∈TJ X.stack,b∈X.env.locals::X.fs:=λb hb=>by
 rcases I.ok.stk with e|⟨e,hf⟩
 .rw[e]at hb;show Yf _ hb
 .rw[e]at hb;unfold TJ at hb;rwa[xU,hf]at hb
def Inv.stkFree(I:Inv X pins σ H s):∀b∈TJ X.stack,H b=none:=λb hb=>by
 rcases Yi.mp (I.stkSub b hb) with e|hb
 .rw[e];show I.free
 .let⟨_,o,ho,_⟩:=I.ok.funs.mem hb;show I.base.free b o ho (I.ok.frf b hb) λz=>I.ok.exfs b z hb
def Inv.step{g':Array GenState}{t':Nat}{d':Drawn}{ch:List Addr}(I:Inv X pins σ H s)
  (Ni:∀b∈ch,(b∈X.ex\/(~~~X.s₀)<=b)/\b≠X.env.locals/\(∀x c,X.env.cells.lookup x=some c->c≠b)/\∀p∈X.pn++pins,p.1≠b)
  (keep:∀b o,b≠X.env.locals->b∉X.fs->b∉ch->s.heap.get? b=some o->H b=none->h'.get? b=some o)
  (slot:∀b o,b≠X.env.locals->b∈X.fs->b∉ch->s.heap.get? b=some o->H b=none->∃sl,h'.get? b=some {o with slots:=sl})(free:∀b o,b∉ch->s.heap.get? b=some o->H b=none->H' b=none)
  (there:∀b o,b∉ch->s.heap.get? b=some o->∃o',h'.get? b=some o')
  (tups:∀b xs,H b=some (.tup xs)->H' b=some (.tup xs))(frzs:∀b o u,H b=some (.frz o u)->H' b=some (.frz o u))(tbls:∀b ps,H b=some (.tbl ps)->∃more,H' b=some (.tbl<|ps++more))
  (ns:∀m,s.heap.Ns X.env.locals m->h'.Ns X.env.locals m)(hok:HOk X.prog X.w H' h')(hg:AllBare g'):
  Inv X pins σ H' {s with heap:=h',gens:=g',drawn:=d',toks:=t'}:=by
 let dS:∀b o,X.s₀.heap.get? b=some o->b≠X.env.locals:=λb o e=>YD (YC (Yq e) I.ok.above);let xp:∀b o,X.s₀.heap.get? b=some o->b∉X.ex->b∉ch:=λb o e hx hb=>by
  rcases(Ni b hb).1 with z|z
  .show hx z
  .show absurd (YC (Yq e) z) (QX _)
 let cellK:∀x c,X.env.cells.lookup x=some c->∀v,s.heap.IsCell c v->h'.IsCell c v:=λx c e v ⟨o,ho,hd⟩=>by
  let DO:c∉ch:=λz=>(Ni c z).2.2.1 x c e rfl;cases hc:c∈X.fs
  .let⟨sl,q⟩:=slot c o (I.cne x c e) hc DO ho (I.freeC x c e);exists _,q,hd
  .exists o,keep c o (I.cne x c e) hc DO ho<|I.freeC x c e,hd
 exists I.ok,I.os,hg,⟨λb o e n hb hx=>?_,λb o e n hb hx=>?_,λb o e n hx=>?_,λb o e hx=>?_,λb xs e=>tups b xs<|I.base.tups b xs e,λb o xs e=>frzs b o xs<|I.base.frzs b o xs e,λb ps e=>?_⟩,?_,λx c e=>?_,?_,λx c e=>?_,λp hp=>?_,hok,I.len
 .show keep b o (dS b o e) hb (xp b o e hx) (I.base.keep b o e n hb hx) (I.base.free b o e n hx)
 .let⟨sl,e1⟩:=I.base.slot b o e n hb hx;let⟨sl',e2⟩:=slot b _ (dS b o e) hb (xp b o e hx) e1 (I.base.free b o e n hx);exists sl',e2
 .let⟨o',e1⟩:=I.base.there b o e hx;show free b o' (xp b o e hx) e1 (I.base.free b o e n hx)
 .let⟨o',e1⟩:=I.base.there b o e hx;show there b o' (xp b o e hx) e1
 .let⟨m1,e1⟩:=I.base.tbls b ps e;let⟨m2,e2⟩:=tbls b _ e1;exists m1++m2,by rw[e2,Array.append_assoc]
 .let⟨m,hn,hl⟩:=I.loc;exists m,ns m hn,λi x v e1 e2 e3=>?_;let⟨u,r,l⟩:=hl i x v e1 e2 e3;exists u,r,?_;rcases l with l|⟨k,c,e,z⟩
  .show .inl l
  .show .inr ⟨k,c,e,cellK x c e _ z⟩
 .let⟨v,z⟩:=I.cell x c e;exists v,cellK x c e v z
 .let⟨m,⟨o,_,_,ho,_⟩,_⟩:=I.loc;show free _ o (λz=>(Ni _ z).2.1 Z) ho I.free
 .let⟨v,o,ho,hd⟩:=I.cell x c e;show free c o (λz=>(Ni c z).2.2.1 x c e Z) ho (I.freeC x c e)
 .let⟨e,n,ne,nf,d⟩:=I.pin p hp;let DO:p.1∉ch:=λz=>(Ni p.1 z).2.2.2 p hp rfl
  exists keep p.1 p.2 ne nf DO e n,free p.1 p.2 DO e n,ne,nf,d
def Inv.un{t':Nat}(I:Inv X pins σ H s)(u:Un X.fs [] H H' s.heap h')(hok:HOk X.prog X.w H' h'):Inv X pins σ H' {s with heap:=h',toks:=t'}:=by
 let⟨m,⟨o,es,ep,ho,r⟩,_⟩:=id I.loc;let⟨sl,hL⟩:=u.any ho I.free B;show I.step (g':=s.gens) (d':=s.drawn) (ch:=[]) (λ_ z=>nomatch z) (λb o _ hb _ e n=>u.keep b o e n hb B) (λb o _ hb _ e n=>u.slot b o e n hb B) (λb o _ e n=>u.free b o e n B) (λb o _ e=>u.there b o e B) u.tups u.frzs u.tbls (λm' hm=>by let⟨o',sM,sL,UW,r'⟩:=hm;rw[ho]at UW;cases UW;exists _,sM,sL,hL,r') hok I.bare
def Inv.call{t':Nat}{d':Drawn}(I:Inv X pins σ H s)(u:Un (TJ X.stack) ch H H' s.heap h')(hok:HOk X.prog X.w H' h')(hg:AllBare g')
  (Ni:∀b∈ch,(b∈X.ex\/(~~~X.s₀)<=b)/\b≠X.env.locals/\(∀x c,X.env.cells.lookup x=some c->c≠b)/\∀p∈X.pn++pins,p.1≠b):
  Inv X pins σ H' {s with heap:=h',gens:=g',drawn:=d',toks:=t'}:=by
 let⟨m,⟨o,es,ep,ho,r⟩,_⟩:=id I.loc;let⟨sl,hL⟩:=u.any ho I.free λz=>(Ni _ z).2.1 rfl;show I.step (ch:=ch) Ni (λb o hL hb hc e n=>u.keep b o e n (λz=>(Yi.mp<|I.stkSub b z).elim hL hb) hc) (λb o _ _ hc e n=>u.any e n hc) (λb o hc e n=>u.free b o e n hc) (λb o hc e=>u.there b o e hc) u.tups u.frzs u.tbls (λm' hm=>by let⟨o',sM,sL,UW,r'⟩:=hm;rw[ho]at UW;cases UW;exists _,sM,sL,hL,r') hok hg
def Inv.turned{t':Nat}(I:Inv X pins σ H s)(k:∀b o,b≠it->s.heap.get? b=some o->h'.get? b=some o)(hn:H it=none)(hL:it≠X.env.locals)
  (h1:it∈X.ex\/(~~~X.s₀)<=it)(h2:∀x c,X.env.cells.lookup x=some c->c≠it)(h3:∀p∈X.pn++pins,p.1≠it):Inv X pins σ H {s with heap:=h',toks:=t'}:=by
 let dR:∀b u,H b=some u->b≠it:=λb u e z=>by rw[z,hn]at e;cases e
 show I.step (g':=s.gens) (d':=s.drawn) (ch:=[it]) (λb hb=>?_) (λb o _ _ hc e _=>k b o (λz=>hc<|by simp[z]) e) (λb o _ _ hc e _=>⟨o.slots,k b o (λz=>hc<|by simp[z]) e⟩) (λ_ _ _ _ n=>n)
  (λb o hc e=>⟨o,k b o (λz=>hc<|by simp[z]) e⟩) (λ_ _ e=>e) (λ_ _ _ e=>e) (λb ps e=>⟨#[],by rw[e];simp⟩) (λm hm=>?_) (λb u e=>?_) I.bare
 .let e:b=it:=by simpa using hb
  subst e;exists h1,hL,h2,h3
 .let⟨o,es,ep,ho,r⟩:=hm;exists o,es,ep,k _ o (Xa hL) ho,r
 .show(I.hok b u e).stay (λc v hc q=>k c v ?_ q) (λ_ q=>q) λ_ _ q=>q;rcases hc with z|z
  .rw[z];show dR b u e
  .show dR c _ z
def Inv.tok(I:Inv X pins σ H s)(t:Nat):Inv X pins σ H {s with toks:=t}:=I.un (h':=s.heap) (t':=t) Un.refl I.hok
def Inv.kept{t':Nat}(I:Inv X pins σ H s)(k:∀b u,s.heap.get? b=some u->h'.get? b=some u):Inv X pins σ H {s with heap:=h',toks:=t'}:=I.un (Un.kept k) (I.hok.kept k)
def Inv.laid{t':Nat}(I:Inv X pins σ H s)(k:∀b u,s.heap.get? b=some u->h'.get? b=some u)(hp:(~~~s)<=a)(new:ObjOk X.prog X.w (upd H a o) h' a o):
  Inv X pins σ (upd H a o) {s with heap:=h',toks:=t'}:=I.un (Un.laid k hp<|I.hok.fresh hp) (I.hok.laid k hp new)
def Inv.write{t':Nat}(I:Inv X pins σ H s)(mu:DQ (H x))(he:e=x\/H e=some (.own x))(k:∀b u,b≠e->s.heap.get? b=some u->h'.get? b=some u)(Fx:∃u,h'.get? e=some u)
  (new:ObjOk X.prog X.w (upd H x o) h' x o):Inv X pins σ (upd H x o) {s with heap:=h',toks:=t'}:=I.un (Un.write mu he k Fx) (I.hok.write mu he k Fx new)
def Inv.weak(I:Inv X pins σ H s)(hl:σ'.length=σ.length)(w:∀(i:Nat) v,σ'[i]?=some (some v)->σ[i]?=some (some v)):Inv X pins σ' H s:=
 ⟨I.ok,I.os,I.bare,I.base,by let⟨m,hn,Pj⟩:=I.loc;show⟨m,hn,λi x v e1 e2 e3=>Pj i x v e1 (w i v e2) e3⟩,I.cell,I.free,I.freeC,I.pin,I.hok,hl.trans I.len⟩
def Inv.pins_of(I:Inv X pins σ H s)(h:∀p∈pins',s.heap.get? p.1=some p.2/\H p.1=none/\p.1≠X.env.locals/\p.1∉X.fs/\∀v,p.2.data≠.cell v):Inv X pins' σ H s:=
 ⟨I.ok,I.os,I.bare,I.base,I.loc,I.cell,I.free,I.freeC,λp hp=>(XA.mp hp).elim (λz=>I.pin p<|Yg _ z) (h p),I.hok,I.len⟩
def DN{N:List Str}(hN:N.Nodup){i j:Nat}{x:Str}(a:N[i]?=some x)(b:N[j]?=some x):i=j:=by let⟨h1,e1⟩:=Xx.mp a;let⟨h2,e2⟩:=Xx.mp b;show(List.getElem_inj hN).mp (e1.trans e2.symm)
def Zg8{E:Ae}{i:Nat}{x:Str}{Q:Unit->Shared->Prop}(I:Inv X pins σ H s)(hN:X.N.Nodup)(hi:X.N[i]?=some x)(hx:Loc X.env.scope x)(r:RelV v u)
  (h:∀s',Inv X pins (σ.set i<|some v) H s'->(∃a,Heap.SameBut a s.heap s'.heap/\(a=X.env.locals\/X.env.cells.lookup x=some a))->Q () s')(hf:X.fn x=true\/X.env.scope.names.lookup x=some .local:=by first|show .inl rfl|show .inr rfl|assumption):wpAny M A (storeName X.env x u) Q E s:=by
 let⟨m,hn,hl⟩:=id I.loc;let sJ:(X.env.scope.kind == .class||(X.env.scope.kind == .module&&X.env.locals != X.env.globals))=false:=by rw[I.ok.kind];rfl
 let DM:i<σ.length:=by rw[I.len];show(Xx.mp hi).1
 let cne:=I.cne;let tracked:∀{a:Addr}{h':Heap},(∃o,s.heap.get? a=some o/\H a=none)->Heap.SameBut a s.heap h'->HOk X.prog X.w H h':=λ{a h'} ha hs b ob e=>by
  let⟨_,_,Kx⟩:=ha;show(I.hok b ob e).stay (λc w' hc q=>(hs.2 c ?_).trans q) (λ_ q=>q) λ_ _ q=>q;rintro rfl;rcases hc with rfl|hc
  .rw[Kx]at e;cases e
  .rw[Kx]at hc;cases hc
 rcases hx with hk|hk
 .show wpAny_storeName_local hk hn (λh' Ph hs=>?_) sJ;let⟨oL,_,_,Nh,_⟩:=id hn;show h _ ⟨I.ok,I.os,I.bare,⟨λb o e n hb hx=>?_,λb o e n hb hx=>?_,I.base.free,λb o e hx=>?_,I.base.tups,I.base.frzs,I.base.tbls⟩,⟨_,Ph,λj y v' e1 e2 e3=>?_⟩,λy c e=>?_,I.free,I.freeC,λp hp=>?_,tracked ⟨oL,Nh,I.free⟩ hs,by simpa using I.len⟩ ⟨_,hs,.inl Z⟩
  .show(hs.2 b<|YD<|YC (Yq e) I.ok.above).trans (I.base.keep b o e n hb hx)
  .let⟨sl,e1⟩:=I.base.slot b o e n hb hx;exists sl,(hs.2 b<|YD<|YC (Yq e) I.ok.above).trans e1
  .let⟨o',e1⟩:=I.base.there b o e hx;exists o',(hs.2 b<|YD<|YC (Yq e) I.ok.above).trans e1
  .cases hj:j=i
   .subst hj;rw[hi]at e1;cases e1;rw[d9 DM]at e2;cases e2;exists u,r,.inl ⟨hk,B⟩
   .rw[List.getElem?_set_ne (Xa hj)]at e2;let⟨u',r',q⟩:=hl j y v' e1 e2 e3;exists u',r',?_;rcases q with ⟨k,e⟩|⟨k,c,e,z⟩
    .show .inl ⟨k,?_⟩
     have:y≠x:=λe=>hj (DN hN e1<|e▸hi)
     simp[this,e]
    .show .inr ⟨k,c,e,z.sameBut hs<|cne y c e⟩
  .let⟨w',z⟩:=I.cell y c e;exists w',z.sameBut hs<|cne y c e
  .let⟨e,n,ne,nf,d⟩:=I.pin p hp;exists (hs.2 p.1 ne).trans e,n,ne,nf,d
 .let Fw:X.fn x=true:=by
   rcases hf with z|z
   .show z
   .rw[z]at hk;cases hk
  let⟨c,hc⟩:=I.ok.has x (.inl hk);let⟨w',z⟩:=I.cell x c hc;show wpAny_storeName_cell I.ok.kind hk hc z λh' WQ hs=>?_;let⟨oc,xo,sI⟩:=id z;show h {s with heap:=h'} ⟨I.ok,I.os,I.bare,⟨λb o e n hb hx=>?_,λb o e n hb hx=>?_,I.base.free,λb o e hx=>?_,I.base.tups,I.base.frzs,I.base.tbls⟩,⟨m,hn.sameBut hs<|Xa<|cne x c hc,λj y v' e1 e2 e3=>?_⟩,λy c' e=>?_,I.free,I.freeC,λp hp=>?_,tracked ⟨oc,xo,I.freeC x c hc⟩ hs,by simpa using I.len⟩ ⟨c,hs,.inr hc⟩
  .show(hs.2 b<|YD<|YC (Yq e)<|I.ok.cab x c Fw hc).trans (I.base.keep b o e n hb hx)
  .let⟨sl,e1⟩:=I.base.slot b o e n hb hx;exists sl,(hs.2 b<|YD<|YC (Yq e)<|I.ok.cab x c Fw hc).trans e1
  .let⟨o',e1⟩:=I.base.there b o e hx;exists o',(hs.2 b<|YD<|YC (Yq e)<|I.ok.cab x c Fw hc).trans e1
  .cases hj:j=i
   .subst hj;rw[hi]at e1;cases e1;rw[d9 DM]at e2;cases e2;exists u,r,.inr ⟨.inl hk,c,hc,WQ⟩
   .rw[List.getElem?_set_ne (Xa hj)]at e2;let⟨u',r',q⟩:=hl j y v' e1 e2 e3;exists u',r',?_;rcases q with q|⟨k,c',e,z'⟩
    .show .inl q
    .show .inr ⟨k,c',e,z'.sameBut hs ?_⟩;rintro rfl;show hj (DN hN e1<|I.ok.inj _ _ _ e hc▸hi)
  .cases dQ:c'=c
   .subst dQ;exists _,WQ
   .let⟨w2,z2⟩:=I.cell y c' e;exists w2,z2.sameBut hs dQ
  .let⟨e,n,ne,nf,d⟩:=I.pin p hp;exists (hs.2 p.1 ?_).trans e,n,ne,nf,d;intro q;rw[q,xo]at e;let q':oc=p.2:=Ye e
   show d w' (by rwa[<-q'])
def sH{E:Ae}{i:Nat}{x:Str}{Q:Unit->Shared->Prop}(I:Inv X pins σ H s)(hN:X.N.Nodup)(hi:X.N[i]?=some x)(hx:Loc X.env.scope x)(r:RelV v u)
  (h:∀s',Inv X pins (σ.set i<|some v) H s'->Q () s')(hf:X.fn x=true\/X.env.scope.names.lookup x=some .local:=by first|show .inl rfl|show .inr rfl|assumption):wpAny M A (storeName X.env x u) Q E s:=
 Zg8 I hN hi hx r (λs' I' _=>h s' I') hf
def Inv.call'(I:Inv X pins σ H s)(ho:s'.os=s.os)(u:Un (TJ X.stack) ch H H' s.heap s'.heap)(hok:HOk X.prog X.w H' s'.heap)(hg:AllBare s'.gens)
  (Ni:∀b∈ch,(b∈X.ex\/(~~~X.s₀)<=b)/\b≠X.env.locals/\(∀x c,X.env.cells.lookup x=some c->c≠b)/\∀p∈X.pn++pins,p.1≠b):Inv X pins σ H' s':=by
 let⟨h',g',d',t',o'⟩:=s';let e:o'=s.os:=ho
 subst e;show I.call (g':=g') (t':=t') (d':=d') u hok hg Ni
end
abbrev XK:=Value->Option Addr->Hp->Prop
abbrev St:=List (Option V)
abbrev VK:=V->Hp->Prop
abbrev TE:=St->Hp->VK->Prop
abbrev TT:=St->Hp->(Bool->Hp->Prop)->Prop
abbrev TA:=St->Hp->(List V->Hp->Prop)->Prop
structure Ends where
 nx:St->Hp->Prop
 rt:VK
 bk:St->Hp->Prop:=λ_ _=>False
 ct:St->Hp->Prop:=λ_ _=>False
abbrev TS:=Ends->St->Hp->Prop
def EP(X:Cx)(pins:List (Addr×Obj))(σ:St)(Q:VK)(u:Value)(s':Shared):(Prop):=∃v H',Inv X pins σ H' s'/\RelV v u/\Q v H'
def TP(X:Cx)(pins:List (Addr×Obj))(σ:St)(Q:Bool->Hp->Prop)(b:Bool)(s':Shared):(Prop):=∃H',Inv X pins σ H' s'/\Q b H'
def Zak(X:Cx)(pins:List (Addr×Obj))(σ:St)(Q:List V->Hp->Prop)(us:Ag)(s':Shared):(Prop):=∃vs H',Inv X pins σ H' s'/\Vals vs us/\Q vs H'
def SP(X:Cx)(pins:List (Addr×Obj))(sP:Ends)(f:Flow)(s':Shared):(Prop):=
 match f with
 | .next=>∃σ' H',Inv X pins σ' H' s'/\sP.nx σ' H'
 | .brk=>∃σ' H',Inv X pins σ' H' s'/\sP.bk σ' H'
 | .cont=>∃σ' H',Inv X pins σ' H' s'/\sP.ct σ' H'
 | .ret u=>∃v σ' H',Inv X pins σ' H' s'/\RelV v u/\sP.rt v H'
def PE(X:Cx)(e:Expr)(t:TE):(Prop):=
 ∀(pins:List (Addr×Obj))(s:Shared)(σ:St)(H:Hp)(Q:VK),Inv X pins σ H s->t σ H Q->wpAny (model X.prog X.w) X.A (eval e X.env) (EP X pins σ Q) X.xe s
def PT(X:Cx)(e:Expr)(t:TT):(Prop):=
 ∀(pins:List (Addr×Obj))(s:Shared)(σ:St)(H:Hp)(Q:Bool->Hp->Prop),Inv X pins σ H s->t σ H Q->wpAny (model X.prog X.w) X.A (isTrue e X.env<|eval e X.env) (TP X pins σ Q) X.xe s
def PW(X:Cx)(e:Expr)(t:TT):(Prop):=
 ∀(whole:Sem Value)(pins:List (Addr×Obj))(s:Shared)(σ:St)(H:Hp)(Q:Bool->Hp->Prop),Inv X pins σ H s->t σ H Q->wpAny (model X.prog X.w) X.A (isTrue e X.env whole) (TP X pins σ Q) X.xe s
def PW.pt(h:PW X e t):PT X e t:=h _
def PA(X:Cx)(es:List Expr)(t:TA):(Prop):=
 ∀(pos:Pos)(pins:List (Addr×Obj))(s:Shared)(σ:St)(H:Hp)(Q:List V->Hp->Prop),Inv X pins σ H s->t σ H Q->wpAny (model X.prog X.w) X.A (spliced<|backTo pos<|starEach es X.env) (Zak X pins σ Q) X.xe s
def PS(X:Cx)(st:Stmt)(t:TS):(Prop):=
 ∀(pins:List (Addr×Obj))(s:Shared)(σ:St)(H:Hp)(sP:Ends),Inv X pins σ H s->t sP σ H->wpAny (model X.prog X.w) X.A (exec st X.env) (SP X pins sP) X.xe s
def PSs(X:Cx)(st:List Stmt)(t:TS):(Prop):=
 ∀(pins:List (Addr×Obj))(s:Shared)(σ:St)(H:Hp)(sP:Ends),Inv X pins σ H s->t sP σ H->wpAny (model X.prog X.w) X.A (execs st X.env) (SP X pins sP) X.xe s
def thn{α:Type}{t:Sem α}{Q Q':α->Shared->Prop}{M:Model}{A:Around}{E:Ae}{s:Shared}(h:wpAny M A t Q E s)(hQ:∀a s,Q a s->Q' a s):wpAny M A t Q' E s:=Su h hQ λ_ _ x=>x
section
variable{X:Cx}
inductive isB(x:V)(H:Hp)(Q:Bool->Hp->Prop):Prop
 |mk (k:Bool) (_:x=.bl k) (_:Q k H)
inductive tVar(i:Nat)(σ:St)(H:Hp)(Q:VK):Prop
 |mk (v:_) (_:σ[i]?=some (some v)) (_:Q v H)
def tC(v:V):(TE):=λ_ H Q=>Q v H
def Zal{x:Str}{pos:Pos}(hN:X.N[i]?=some x)(hv:sN X.env.scope x)(hd:(x == ("__debug__":Str))=false:=by decide)(Sr:(x == ("__classdict__":Str))=false:=by decide):PE X (.Name x pos) (tVar i):=by
 intro pins s σ H Q I h;let⟨v,e,h⟩:=h;let⟨m,hn,hl⟩:=I.loc;let⟨u,r,l⟩:=hl i x v hN e hv;let fin:EP X pins σ Q u s:=⟨v,H,I,r,h⟩
 rcases l with ⟨hk,hm⟩|⟨hk,c,hc,Rt⟩
 .show wpAny_Name (wpAny_loadName_local I.ok.kind hk hn hm fin) hd
 .rcases hk with hk|hk
  .show wpAny_Name (wpAny_loadName_cell I.ok.kind hk hc Rt fin) hd
  .show wpAny_Name (wpAny_loadName_free I.ok.kind hk hc Rt fin Sr) hd
def Zc{i j pos}:PE X (.Constant (.int i) j pos) (tC (.int i)):=λ_ _ _ H _ I h=>wpAny_Constant_int ⟨.int i,H,I.tok _,⟨_,Z⟩,h⟩
def QS{b j pos}:PE X (.Constant (.bool b) j pos) (tC (.bl b)):=λ_ _ _ H _ I h=>Constant_bool ⟨.bl b,H,I,Z,h⟩
def xn{j pos}:PE X (.Constant .none j pos) (tC .non):=λ_ _ _ H _ I h=>Constant_none ⟨.non,H,I,Z,h⟩
def Gl(X:Cx)(x:Str):(Prop):=X.env.kindOf x=some .globalImplicit
def sF{E:Ae}{u:Value}{pos:Pos}{Q:Ae}(I:Inv X pins σ H s)(hg:Gl X x)(hm:X.mg x=some u)(h:Q u s)
  (hd:(x == ("__debug__":Str))=false:=by decide):wpAny (model X.prog X.w) X.A (eval (.Name x pos) X.env) Q E s:=
 Calls.Name_function_global I.ok.kind hg (Calls.loadGlobal_global (by rw[I.ok.glob];show I.mod.glob.keeps I.bk) hm h) hd
def Qd{E:Ae}{u:Value}{pos:Pos}{Q:Ae}(I:Inv X pins σ H s)(hg:Gl X x)(hm:X.mg x=none)(hv:bootBuiltins x=some u)(h:Q u s)
  (hn:x≠"__name__":=by decide)(hd:(x == ("__debug__":Str))=false:=by decide):wpAny (model X.prog X.w) X.A (eval (.Name x pos) X.env) Q E s:=by let⟨mb,h1,h2⟩:=I.mod.blt;show Calls.Name_function_global I.ok.kind hg (Calls.loadGlobal_builtin (by rw[I.ok.glob];show I.mod.glob.keeps I.bk) hm (by rw[I.ok.blt];show h1.keeps I.bk) ((h2 x hn).trans hv) h) hd
def dP{u:Value}{pos:Pos}(hg:Gl X x)(hm:X.mg x=some u)(r:RelV v u)(hd:(x == ("__debug__":Str))=false:=by decide):PE X (.Name x pos) (tC v):=
 λ_ _ _ H _ I h=>sF I hg hm ⟨v,H,I,r,h⟩ hd
def IE{u:Value}{pos:Pos}(hg:Gl X x)(hm:X.mg x=none)(hv:bootBuiltins x=some u)(r:RelV v u)(hn:x≠"__name__":=by decide)(hd:(x == ("__debug__":Str))=false:=by decide):PE X (.Name x pos) (tC v):=
 λ_ _ _ H _ I h=>Qd I hg hm hv ⟨v,H,I,r,h⟩ hn hd
variable{a b:Expr}{ta tb:TE}{pos:Pos}
def PC(X:Cx)(op:CmpOp)(a b:Expr)(t:TE):(Prop):=
 ∀(pins:List (Addr×Obj))(s:Shared)(σ:St)(H:Hp)(Q:VK),Inv X pins σ H s->t σ H Q->
  wpAny (model X.prog X.w) X.A (eval a X.env) (λv s₁=>wpAny (model X.prog X.w) X.A (eval b X.env) (λu s₂=>wpAny (model X.prog X.w) X.A (compareOp op v u) (EP X pins σ Q) X.xe s₂) X.xe s₁) X.xe s
def tB(t:TE):(TT):=λσ H Q=>t σ H λx H1=>isB x H1 Q
def Mq{e:Expr}{t:TE}(h:PE X e t)(he:∀whole,isTrue e X.env whole=(do let v <-whole;standAt e.pos;holding [v] (truthy v)):=by intro _;rfl):PT X e (tB t):=by intro pins s σ H Q I hw;show isTrue_plain (thn (h pins s σ H _ I hw) λv s1 zz=>?_) (he _);let⟨x,H1,I1,r1,q1⟩:=zz;let⟨d,rfl,q⟩:=q1;cases r1;show Np ⟨H1,I1,q⟩
variable{tA xm:TT}{rest:List Expr}
def sv(t u:TT):(TT):=λσ H Q=>t σ H λc H1=>if c=true then u σ H1 Q else Q false H1
def tOr(t u:TT):(TT):=λσ H Q=>t σ H λc H1=>if c=true then Q true H1 else u σ H1 Q
def su(t:TT):(TT):=λσ H Q=>t σ H λc H1=>Q (!c) H1
def Mp(ha:PT X a tA):PW X (.BoolOp .And [a] pos) tA:=by
 intro wh pins s σ H Q I h;show isTrue_and (thn (ha pins s σ H Q I h) λc s1 e=>?_);cases c with
 |true=>show isTrue_and_nil e
 |false=>show e
def DL(ha:PT X a tA):PW X (.BoolOp .Or [a] pos) tA:=by
 intro wh pins s σ H Q I h;show isTrue_or (thn (ha pins s σ H Q I h) λc s1 e=>?_);cases c with
 |false=>show isTrue_or_nil e
 |true=>show e
def xk(ha:PT X a tA)(hb:PW X (.BoolOp .And (b::rest) pos) xm):PW X (.BoolOp .And (a::b::rest) pos) (sv tA xm):=by
 intro wh pins s σ H Q I h;show isTrue_and (thn (ha pins s σ H _ I h) λc s1 Xs=>?_);let⟨H1,I1,q1⟩:=Xs;cases c with
 |true=>show hb wh pins s1 σ H1 Q I1 q1
 |false=>exists H1,I1,q1
def Pg(ha:PT X a tA)(hb:PW X (.BoolOp .Or (b::rest) pos) xm):PW X (.BoolOp .Or (a::b::rest) pos) (tOr tA xm):=by
 intro wh pins s σ H Q I h;show isTrue_or (thn (ha pins s σ H _ I h) λc s1 Xs=>?_);let⟨H1,I1,q1⟩:=Xs;cases c with
 |true=>exists H1,I1,q1
 |false=>show hb wh pins s1 σ H1 Q I1 q1
def Uo(ha:PT X a tA):PT X (.UnaryOp .Not a pos) (su tA):=by intro pins s σ H Q I h;show isTrue_not (ha pins s σ H (λc H1=>Q (!c) H1) I h)
def sr(ta tb:TE):(TE):=λσ H Q=>ta σ H λx H1=>∃c,x=.bl c/\if c=true then tb σ H1 Q else Q (.bl false) H1
def DK(ta:TE):(TE):=λσ H Q=>ta σ H λx H1=>∃c,x=.bl c/\Q (.bl<|!c) H1
def sq{op}(h:PE X a t):PE X (.BoolOp op [a] pos) t:=λpins s σ H Q I hw=>BoolOp_one (h pins s σ H Q I hw)
def DJ(ha:PE X a ta)(hb:PE X (.BoolOp .And (b::rest) pos) tb):PE X (.BoolOp .And (a::b::rest) pos) (sr ta tb):=by
 intro pins s σ H Q I h;show BoolOp_and (thn (ha pins s σ H _ I h) λv s1 Xs=>?_);let⟨x,H1,I1,r1,q1⟩:=Xs;let⟨c,rfl,q1⟩:=q1;cases r1;show Np ?_;cases c with
 |true=>show hb pins s1 σ H1 Q I1 q1
 |false=>exists .bl false,H1,I1,Z,q1
def sj(ha:PE X a ta):PE X (.UnaryOp .Not a pos) (DK ta):=by intro pins s σ H Q I h;show UnaryOp_ (thn (ha pins s σ H _ I h) λv s1 Xs=>?_);let⟨x,H1,I1,r1,q1⟩:=Xs;let⟨c,rfl,q1⟩:=q1;cases r1;show not_of (Np ⟨.bl<|!c,H1,I1,Z,q1⟩)
def tIf(t:TT)(ta tb:TE):(TE):=λσ H Q=>t σ H λc H1=>if c=true then ta σ H1 Q else tb σ H1 Q
def dO{c:Expr}(hc:PT X c tA)(ha:PE X a ta)(hb:PE X b tb):PE X (.IfExp c a b pos) (tIf tA ta tb):=by
 intro pins s σ H Q I h;show wpAny_IfExp (thn (hc pins s σ H _ I h) λd s1 Xs=>?_);let⟨H1,I1,q1⟩:=Xs;cases d with
 |true=>show ha pins s1 σ H1 Q I1 q1
 |false=>show hb pins s1 σ H1 Q I1 q1
end
def SqL(K:Ad)(H:Hp)(a:Addr)(xs:List V):(Prop):=
 Rd H a (.lst xs)\/
  ∃(o:Obj)(XX:Array Value)(n:Nat),K.lookup a=some o/\o.cls=.type "list"/\o.dict=none/\o.data=.seq XX n/\XX.size<=sizeLine/\Vals xs XX.toList
def SqT(K:Ad)(H:Hp)(a:Addr)(xs:List V):(Prop):=
 Rd H a (.tup xs)\/
  ∃(o:Obj)(XX:Array Value)(n:Nat),K.lookup a=some o/\o.cls=.type "tuple"/\o.data=.seq XX n/\XX.size<=sizeLine/\Vals xs XX.toList
def si:(Value->Option V)
 | .none=>some .non
 | .bool b=>some (.bl b)
 | .int i _=>some (.int i)
 | .str x _=>some (.str x)
 | .bytes b _=>some (.byt b)
 | .float b _=>some (.flt b)
 | .ref a=>some ↑a
 | .type n=>some (.ty n)
 |_=>none
def RelV.abs(r:RelV x u):si u=some x:=by
 cases x with
 |non=>cases r;rfl
 |bl _=>cases r;rfl
 |int _=>let⟨t,rfl⟩:=r;rfl
 |str _=>let⟨t,rfl⟩:=r;rfl
 |byt _=>let⟨t,rfl⟩:=r;rfl
 |flt _=>let⟨t,rfl⟩:=r;rfl
 |ref _=>cases r;rfl
 |ty _=>cases r;rfl
def RelV.inj(r:RelV x u)(q:RelV y u):x=y:=Ye (r.abs.symm.trans q.abs)
def Vals.inj{xs ys:List V}{us:Ag}(h:Vals xs us)(h':Vals ys us):xs=ys:=by
 induction h generalizing ys with
 |nil=>cases h';rfl
 |cons r t ih=>cases h' with
  |cons r' t'=>rw[r.inj r',ih t']
section
variable{X:Cx}{pins:List (Addr×Obj)}{σ:St}{H:Hp}{s:Shared}{a:Addr}{xs ys:List V}
def SqL.of{K:Ad}(h:H a=some (.lst xs)):SqL K H a xs:=.inl (.inl h)
def SqT.of{K:Ad}(h:H a=some (.tup xs)):SqT K H a xs:=.inl (.inl h)
def Inv.list(I:Inv X pins σ H s)(h:SqL X.K H a xs):∃XX:Ag,Vals xs XX/\PlainL s.heap a XX.toArray/\xs.length<=sizeLine:=by
 rcases h with h|⟨o,XX,n,hk,hc,hd,hs,hz,r⟩
 .let⟨z,XX,n,r,e⟩:=h.ok I.hok;exists XX,r,⟨_,n,e,Z,Z,Z⟩,z
 .exists XX.toList,r,⟨o,n,I.kIn a o hk,hc,hd,by simpa using hs⟩,?_;let e:=r.length
  simp only[Yw]at e;lia
def Inv.tuple(I:Inv X pins σ H s)(h:SqT X.K H a xs):∃XX:Ag,Vals xs XX/\IsTup s.heap a XX.toArray/\xs.length<=sizeLine:=by
 rcases h with h|⟨o,XX,n,hk,hc,hs,hz,r⟩
 .let⟨z,XX,r,p⟩:=h.ok I.hok;exists XX,r,p,z
 .exists XX.toList,r,⟨o,I.kIn a o hk,hc,n,by simpa using hs⟩,?_;let e:=r.length
  simp only[Yw]at e;omega
def Inv.list_inj(I:Inv X pins σ H s)(h:SqL X.K H a xs)(h':SqL X.K H a ys):xs=ys:=by
 let⟨XX,r,⟨o,n,e,_,_,d⟩,_⟩:=I.list h;let⟨its',r',⟨o',n',e',_,_,d'⟩,_⟩:=I.list h';rw[e]at e';cases e';rw[d]at d';injection d' with d1 _
 have:XX=its':=by simpa using YV Array.toList d1
 subst this;show r.inj r'
def Inv.tuple_inj(I:Inv X pins σ H s)(h:SqT X.K H a xs)(h':SqT X.K H a ys):xs=ys:=by
 let⟨XX,r,⟨o,e,_,n,d⟩,_⟩:=I.tuple h;let⟨its',r',⟨o',e',_,n',d'⟩,_⟩:=I.tuple h';rw[e]at e';cases e';rw[d]at d';injection d' with d1 _
 have:XX=its':=by simpa using YV Array.toList d1
 subst this;show r.inj r'
end
abbrev Cx.wish(X:Cx)(E:Ae):Cx:={X with xe:=E}
abbrev Cx.nox(X:Cx):Cx:=X.wish λ_ _=>False
def Cx.Ok.wish{X:Cx}(ok:X.Ok)(E:Ae):(X.wish E).Ok:=
 ⟨ok.mod,ok.kind,ok.glob,ok.blt,ok.above,ok.inj,ok.has,ok.cab,ok.hd,ok.frames,ok.stk,ok.exf,ok.bs,ok.bsz,ok.noex,ok.exfs,ok.funs,ok.frf⟩
def Cx.Ok.unwish{X:Cx}{E:Ae}(ok:(X.wish E).Ok):X.Ok:=
 ⟨ok.mod,ok.kind,ok.glob,ok.blt,ok.above,ok.inj,ok.has,ok.cab,ok.hd,ok.frames,ok.stk,ok.exf,ok.bs,ok.bsz,ok.noex,ok.exfs,ok.funs,ok.frf⟩
section
variable{X:Cx}{pins:List (Addr×Obj)}{σ:St}{H:Hp}{s:Shared}{E:Ae}
def Inv.wish(I:Inv X pins σ H s)(E:Ae):Inv (X.wish E) pins σ H s:=⟨I.ok.wish E,I.os,I.bare,I.base,I.loc,I.cell,I.free,I.freeC,I.pin,I.hok,I.len⟩
def Inv.unwish(I:Inv (X.wish E) pins σ H s):Inv X pins σ H s:=⟨I.ok.unwish,I.os,I.bare,I.base,I.loc,I.cell,I.free,I.freeC,I.pin,I.hok,I.len⟩
def SP.unwish(h:SP (X.wish E) pins sP f s'):SP X pins sP f s':=by
 cases f with
 |next=>let⟨σ',H',I,q⟩:=h;exists σ',H',I.unwish,q
 |brk=>let⟨σ',H',I,q⟩:=h;exists σ',H',I.unwish,q
 |cont=>let⟨σ',H',I,q⟩:=h;exists σ',H',I.unwish,q
 |ret u=>let⟨v,σ',H',I,r,q⟩:=h;exists v,σ',H',I.unwish,r,q
def PSs.nox{st:List Stmt}{t:TS}(h:PSs X.nox st t):PSs X st t:=λpins s σ H sP I hw=>
 Su (h pins s σ H sP (I.wish _) hw) (λ_ _ q=>q.unwish) λ_ _ z=>False.elim z
end
section
variable{X:Cx}{st:Stmt}{rest:List Stmt}{t u:TS}{e:Expr}{te:TE}{pos:Pos}
def DI:(TS):=λsP σ H=>sP.nx σ H
def Um(t u:TS):(TS):=λsP σ H=>t {sP with nx:=u sP} σ H
def Zu:PSs X [] DI:=λ_ _ σ H _ I h=>xG ⟨σ,H,I,h⟩
def XI(h1:PS X st t)(h2:PSs X rest u):PSs X (st::rest) (Um t u):=by
 intro pins s σ H sP I h;show wpAny_execs_cons (thn (h1 pins s σ H {sP with nx:=u sP} I h) λf s1 q=>?_);cases f with
 |next=>
  let⟨σ',H',I',q⟩:=q;show h2 pins s1 σ' H' sP I' q
 |ret v=>show q
 |brk=>show q
 |cont=>show q
def XC(h1:PS X st t):PSs X [st] t:=by
 intro pins s σ H sP I h;show wpAny_execs_cons (thn (h1 pins s σ H sP I h) λf s1 q=>?_);cases f with
 |next=>show xG q
 |ret v=>show q
 |brk=>show q
 |cont=>show q
def Inv.quiet(I:Inv X pins σ H s):interactive X.env=false:=by simp[interactive,I.ok.kind]
def sf(te:TE):(TS):=λsP σ H=>te σ H λ_ H1=>sP.nx σ H1
def QR(he:PE X e te)(hs:swapsWith e none pos.line X.env=pure false:=by rfl):PS X (.Expr e pos) (sf te):=by intro pins s σ H sP I h;show wpAny_Expr_any (thn (he pins s σ H _ I h) λv s1 zz=>by let⟨x,H1,I1,r1,q1⟩:=zz;exists σ,H1,I1,q1) I.quiet hs
def ID(te:TE):(TS):=λsP σ H=>te σ H sP.rt
def Zm(he:PE X e te):PS X (.Return (some e) pos) (ID te):=by intro pins s σ H sP I h;show wpAny_Return_some (thn (he pins s σ H _ I h) λv s1 zz=>by let⟨x,H1,I1,r1,q1⟩:=zz;exists x,σ,H1,I1,r1,q1)
def se(c:TT)(t u:TS):(TS):=λsP σ H=>c σ H λb H1=>if b=true then t sP σ H1 else u sP σ H1
def VL{c:Expr}{a b:List Stmt}{tc:TT}(hc:PT X c tc)(ha:PSs X a t)(hb:PSs X b u):PS X (.If c a b pos) (se tc t u):=by
 intro pins s σ H sP I h;show wpAny_If (thn (hc pins s σ H _ I h) λd s1 Xs=>?_);let⟨H1,I1,q1⟩:=Xs;cases d with
 |true=>show ha pins s1 σ H1 sP I1 q1
 |false=>show hb pins s1 σ H1 sP I1 q1
def DH:(TS):=λ_ _ _=>False
def Kw:PS X st DH:=λ_ _ _ _ _ _ h=>h.elim
end
abbrev TG:=V->St->Hp->(St->Hp->Prop)->Prop
abbrev IC:=List V->St->Hp->(St->Hp->Prop)->Prop
def PG(X:Cx)(target:Expr)(t:TG):(Prop):=
 ∀(pins:List (Addr×Obj))(s:Shared)(σ:St)(H:Hp)(v:V)(u:Value)(Q:St->Hp->Prop),Inv X pins σ H s->RelV v u->t v σ H Q->
  wpAny (model X.prog X.w) X.A (assign target X.env u) (λ_ s'=>∃σ' H',Inv X pins σ' H' s'/\Q σ' H') X.xe s
def DG(X:Cx)(ts:List Expr)(t:IC):(Prop):=
 ∀(pins:List (Addr×Obj))(s:Shared)(σ:St)(H:Hp)(vs:List V)(us:Ag)(Q:St->Hp->Prop),Inv X pins σ H s->Vals vs us->t vs σ H Q->
  wpAny (model X.prog X.w) X.A (assignInOrder ((assignEach ts X.env).map (·.2)) us) (λ_ s'=>∃σ' H',Inv X pins σ' H' s'/\Q σ' H') X.xe s
abbrev Pf:=V->V->V->Hp->(Hp->Prop)->Prop
def IB(X:Cx)(t:Pf):(Prop):=
 ∀(pins:List (Addr×Obj))(s:Shared)(σ:St)(H:Hp)(o i v:V)(ov iv u:Value)(Q:Hp->Prop),Inv X pins σ H s->RelV o ov->RelV i iv->RelV v u->t o i v H Q->
  wpAny (model X.prog X.w) X.A (setItem ov iv u) (λ_ s'=>∃H',Inv X pins σ H' s'/\Q H') X.xe s
abbrev xj:=V->V->Hp->VK->Prop
def sd(X:Cx)(op:Operator)(t:xj):(Prop):=
 ∀(pins:List (Addr×Obj))(s:Shared)(σ:St)(H:Hp)(x y:V)(v u:Value)(Q:VK),Inv X pins σ H s->RelV x v->RelV y u->t x y H Q->
  wpAny (model X.prog X.w) X.A (inplaceOp op v u) (EP X pins σ Q) X.xe s
section
variable{X:Cx}{pos:Pos}
def Mo(i:Nat):(TG):=λv σ H Q=>Q (σ.set i<|some v) H
def dN{x:Str}(hN:X.N.Nodup)(hi:X.N[i]?=some x)(hx:Loc X.env.scope x)(hf:X.fn x=true\/X.env.scope.names.lookup x=some .local:=by first|show .inl rfl|show .inr rfl|assumption):PG X (.Name x pos) (Mo i):=by intro pins s σ H v u Q I r h;show wpAny_assign_Name (sH I hN hi hx r (λs' I'=>⟨_,H,I',h⟩) hf)
def Xc(i:Nat){x:Str}(hN:decide X.N.Nodup=true:=by kernel_rfl)(hi:X.N[i]?=some x:=by rfl)(hx:Loc X.env.scope x:=by show .inl rfl)(hf:X.fn x=true\/X.env.scope.names.lookup x=some .local:=by first|show .inl rfl|show .inr rfl|assumption):PG X (.Name x pos) (Mo i):=dN (Yt hN) hi hx hf
inductive gNil(vs:List V)(σ:St)(H:Hp)(Q:St->Hp->Prop):Prop
 |mk  (_:vs=[]) (_:Q σ H)
inductive gCons(t:TG)(u:IC)(vs:List V)(σ:St)(H:Hp)(Q:St->Hp->Prop):Prop
 |mk (v r:_) (_:vs=v::r) (_:t v σ H λσ' H'=>u r σ' H' Q)
def QQ:DG X [] gNil:=by intro pins s σ H vs us Q I r h;let⟨e,h⟩:=h;subst e;cases r;show assignInOrder_nil ⟨σ,H,I,h⟩
def Zo{e:Expr}{es:List Expr}{t:TG}{u:IC}(h1:PG X e t)(h2:DG X es u)
  (hs:(assignEach (e::es) X.env).map (·.2)=assign e X.env::(assignEach es X.env).map (·.2):=by rfl):DG X (e::es) (gCons t u):=by
 intro pins s σ H vs us Q I r h;let⟨v,vr,e1,h⟩:=h;subst e1;cases r with
 |cons r rr=>
  rw[hs];show assignInOrder_cons (thn (h1 pins s σ H _ _ _ I r h) λ_ s1 Xs=>?_);let⟨σ1,H1,I1,q1⟩:=Xs;show h2 pins s1 σ1 H1 _ _ Q I1 rr q1
inductive gTup(K:Ad)(n:Nat)(t:IC)(v:V)(σ:St)(H:Hp)(Q:St->Hp->Prop):Prop
 |mk (a xs:_) (_:v=.ref a) (_:SqT K H a xs) (_:xs.length=n) (_:t xs σ H Q)
def r9{k:Nat}(hc:X.calm=true)(h:DG X es t)
  (hn:(assignEach es X.env).length=n:=by rfl)(Wn:(assignEach es X.env).findIdx? (·.1)=none:=by rfl):PG X (.Tuple es k pos) (gTup X.K n t):=by
 intro pins s σ H v u Q I r hw;let⟨a,xs,e1,hq,hl,hw⟩:=hw;subst e1;cases r;let⟨XX,rv,ht,hz⟩:=I.tuple hq;show assign_Tuple_tuple (I.ok.hd hc) ht (by simp[hn,<-hl,rv.length]) Wn λh' hx=>?_;let I1:Inv X pins σ H {s with heap:=h'}:=I.kept (t':=s.toks) λb o e=>hx b o (YD<|Yq e) e
 show h pins _ σ H xs _ Q I1 (by simpa using rv) hw
def r6(to ti:TE)(t:Pf):(TG):=λv σ H Q=>to σ H λo H1=>ti σ H1 λi H2=>t o i v H2 λH3=>Q σ H3
def rZ{o i:Expr}{to ti:TE}{t:Pf}(ho:PE X o to)(hi:PE X i ti)(hs:IB X t)
  (ha:∀v,assign (.Subscript o i pos) X.env v=(do
   let ov <-holding [v] (eval o X.env)
   let iv <-holding [v,ov] (eval i X.env)
   standAt pos
   holding [v,ov,iv] (setItem ov iv v)
   release [v,ov,iv] []):=by intro _;rfl):PG X (.Subscript o i pos) (r6 to ti t):=by intro pins s σ H v u Q I r h;rw[ha];show XW (SX<|thn (ho pins s σ H _ I h) λov s1 Xs=>?_);let⟨x,H1,I1,r1,q1⟩:=Xs;show XW (SX<|thn (hi pins s1 σ H1 _ I1 q1) λiv s2 Xs=>?_);let⟨y,H2,I2,r2,q2⟩:=Xs;show XW (wpAny_standAt<|XW<|SX<|thn (hs pins s2 σ H2 x y v ov iv u _ I2 r1 r2 r q2) λ_ s3 Xs=>?_);let⟨H3,I3,q3⟩:=Xs;show wpAny_release ⟨σ,H3,I3,q3⟩
def Mn(te:TE)(g:TG):(TS):=λsP σ H=>te σ H λx H1=>g x σ H1 sP.nx
def rY{tg e:Expr}{te:TE}{g:TG}(he:PE X e te)(hg:PG X tg g)(hs:swapsWithSole [tg] e pos.line X.env=pure false:=by rfl)(hw:swappedStores [tg] e X.env=pure none:=by rfl)
  (h1:(assignEach [tg] X.env).map (·.2)=[assign tg X.env]:=by rfl):PS X (.Assign [tg] e pos) (Mn te g):=by intro pins s σ H sP I h;show wpAny_Assign_stores (thn (he pins s σ H _ I h) λv s1 Xs=>?_) hs hw;let⟨x,H1,I1,r1,q1⟩:=Xs;rw[h1];show thn (hg pins s1 σ H1 x v _ I1 r1 q1) λ_ s2 q=>q
def Ti{i:Nat}{x:Str}{e:Expr}{te:TE}{pos':Pos}(hN:X.N.Nodup)(hi:X.N[i]?=some x)(hx:Loc X.env.scope x)(he:PE X e te)(hs:swapsWith e (some (.Name x pos')) pos.line X.env=pure false:=by rfl)(hf:X.fn x=true\/X.env.scope.names.lookup x=some .local:=by first|show .inl rfl|show .inr rfl|assumption):
  PS X (.Assign [.Name x pos'] e pos) (Mn te<|Mo i):=by intro pins s σ H sP I h;show wpAny_Assign_Name (thn (he pins s σ H _ I h) λv s1 Xs=>?_) hs;let⟨y,H1,I1,r1,q1⟩:=Xs;show sH I1 hN hi hx r1 (λs2 I2=>⟨_,H1,I2,q1⟩) hf
def Zf(i:Nat){x:Str}{e:Expr}{te:TE}{pos':Pos}(he:PE X e te)(hN:decide X.N.Nodup=true:=by kernel_rfl)(hi:X.N[i]?=some x:=by rfl)(hx:Loc X.env.scope x:=by show .inl rfl)(hs:swapsWith e (some<|.Name x pos') pos.line X.env=pure false:=by rfl)(hf:X.fn x=true\/X.env.scope.names.lookup x=some .local:=by first|show .inl rfl|show .inr rfl|assumption):PS X (.Assign [.Name x pos'] e pos) (Mn te<|Mo i):=Ti (Yt hN) hi hx he hs hf
def rX(to ti te:TE)(tget:V->V->Hp->VK->Prop)(xi:xj)(tset:Pf):(TS):=λsP σ H=>to σ H λo H1=>ti σ H1 λi H2=>tget o i H2 λx H3=>te σ H3 λy H4=>xi x y H4 λz H5=>tset o i z H5 λH6=>sP.nx σ H6
def DF(X:Cx)(t:V->V->Hp->VK->Prop):(Prop):=
 ∀(pins:List (Addr×Obj))(s:Shared)(σ:St)(H:Hp)(o i:V)(ov iv:Value)(Q:VK),Inv X pins σ H s->RelV o ov->RelV i iv->t o i H Q->
  wpAny (model X.prog X.w) X.A (getItem ov iv) (EP X pins σ Q) X.xe s
def Mm{o i e:Expr}{to ti te:TE}{tget:V->V->Hp->VK->Prop}{xi:xj}{tset:Pf}{op:Operator}{RY:Pos}(ho:PE X o to)(hi:PE X i ti)(hg:DF X tget)(he:PE X e te)(hp:sd X op xi)(hs:IB X tset)
  (ha:∀ov iv new,augStore i ov iv new=(do holding [new,ov,iv] (setItem ov iv new);release [new,ov,iv] [];pure .next):=by intros;rfl):PS X (.AugAssign (.Subscript o i RY) op e pos) (rX to ti te tget xi tset):=by intro pins s σ H sP I h;show wpAny_AugAssign_SubscriptAny (thn (ho pins s σ H _ I h) λov s1 Xs=>?_) ha;let⟨x1,H1,I1,r1,q1⟩:=Xs;show thn (hi pins s1 σ H1 _ I1 q1) λiv s2 Xs=>?_;let⟨x2,H2,I2,r2,q2⟩:=Xs;show thn (hg pins s2 σ H2 x1 x2 ov iv _ I2 r1 r2 q2) λold s3 Xs=>?_;let⟨x3,H3,I3,r3,q3⟩:=Xs;show thn (he pins s3 σ H3 _ I3 q3) λv s4 Xs=>?_;let⟨x4,H4,I4,r4,q4⟩:=Xs;show thn (hp pins s4 σ H4 x3 x4 old v _ I4 r3 r4 q4) λnew s5 Xs=>?_;let⟨x5,H5,I5,r5,q5⟩:=Xs;show thn (hs pins s5 σ H5 x1 x2 x5 ov iv new _ I5 r1 r2 r5 q5) λ_ s6 zz=>by let⟨H6,I6,q6⟩:=zz;exists σ,H6,I6,q6
def dM(f:Int->Int->Int):(xj):=λx y H Q=>∃i j,x=.int i/\y=.int j/\Q (.int<|f i j) H
def Kv:sd X .Add (dM λi j=>i+j):=by intro pins s σ H x y v u Q I r1 r2 h;let⟨i,j,e1,e2,q⟩:=h;subst e1;subst e2;let⟨t,rfl⟩:=r1;let⟨t',rfl⟩:=r2;show iadd_int ⟨.int _,H,I.tok _,⟨_,Z⟩,q⟩
def Ku:sd X .Sub (dM λi j=>i-j):=by intro pins s σ H x y v u Q I r1 r2 h;let⟨i,j,e1,e2,q⟩:=h;subst e1;subst e2;let⟨t,rfl⟩:=r1;let⟨t',rfl⟩:=r2;show isub_int ⟨.int _,H,I.tok _,⟨_,Z⟩,q⟩
def DE(c:TT)(tb:TS):(TS):=λsP σ H=>∃W:Nat->St->Hp->Prop,(∃m,W m σ H)/\∀m σ H,W m σ H->
 c σ H λb H1=>if b=true then ∃N:St->Hp->Prop,(∀σ' H',N σ' H'->∃m',m'<m/\W m' σ' H')/\tb {sP with nx:=N,ct:=N,bk:=sP.nx} σ H1 else sP.nx σ H1
def rW{c:Expr}{body:List Stmt}{tc:TT}{tb:TS}(hp:PassesOwn (model X.prog X.w) X.A X.env X.xe)(hc:PT X c tc)(hb:PSs X body tb):PS X (.While c body [] pos) (DE tc tb):=by
 intro pins s σ H sP I h;let⟨W,⟨m0,w0⟩,turn⟩:=h;show wpAny_While (codeAny_whileLoop (λn s'=>∃σ' H',Inv X pins σ' H' s'/\W n σ' H') ?_ m0 ⟨σ,H,I,w0⟩);rintro n s1 ⟨σ1,H1,I1,w1⟩;show IX hp (thn (hc pins s1 σ1 H1 _ I1<|turn n σ1 H1 w1) λb s2 Xs=>?_);let⟨H2,I2,q2⟩:=Xs;cases b with
 |true=>
  let⟨N,hN,q2⟩:=q2;rw[if_pos Z];show IX hp (thn (hb pins s2 σ1 H2 _ I2 q2) λf s3 q3=>?_);cases f with
  |next=>
   let⟨σ3,H3,I3,n3⟩:=q3;let⟨m',hm,w3⟩:=hN σ3 H3 n3;exists m',hm,σ3,H3,I3,w3
  |cont=>
   let⟨σ3,H3,I3,n3⟩:=q3;let⟨m',hm,w3⟩:=hN σ3 H3 n3;exists m',hm,σ3,H3,I3,w3
  |brk=>show q3
  |ret v=>show q3
 |false=>
  rw[if_neg YG];show xG ⟨σ1,H2,I2,q2⟩
end
structure It where
 go:Nat->Hp->Prop
 yld:Nat->Hp->V->Hp->Prop
 stop:Nat->Hp->Prop
def FpOk(X:Cx)(pins:List (Addr×Obj))(H:Hp)(b:Addr):(Prop):=
 H b=none/\b≠X.env.locals/\b∉X.fs/\(b∈X.ex\/(~~~X.s₀)<=b)/\(∀x c,X.env.cells.lookup x=some c->c≠b)/\∀p∈X.pn++pins,p.1≠b
def Inv.fpOk{b:Addr}(I:Inv X pins σ H s)(hb:(~~~s)<=b)(hn:H' b=none):FpOk X pins H' b:=by
 exists hn,Sd<|YC I.lt hb,I.nofs hb,.inr<|Yn I.sz hb,λx c e z=>?_,λp hp z=>?_
 .let⟨v,q⟩:=I.cell x c e;show absurd (YC q.lt<|by rwa[z]) (QX _)
 .show absurd (YC (Yq (I.pin p hp).1)<|by rwa[z]) (QX _)
structure Turn(P:Program)(w:World)(K:Ad)(tg:Expr)(AP:It)(fp:List Addr)(it:Addr)(tn:Nat->Heap->Prop):Prop where
 mem:it∈fp
 obj:∀i h,tn i h->∀b∈fp,∃o,h.get? b=some o/\∀v,o.data≠.cell v
 keep:∀i h h',tn i h->(∀b∈fp,∀o,h.get? b=some o->h'.get? b=some o)->tn i h'
 item:∀(X:Cx),X.prog=P->X.w=w->X.K=K->X.calm=true->∀(i:Nat)(pins:List (Addr×Obj))(s:Shared)(σ:St)(H:Hp)(E:Ae),Inv X pins σ H s->(∀b∈fp,FpOk X pins H b)->tn i s.heap->AP.go i H->
  wpAny (model P w) X.A (pyNext<|.ref it) (λr s1=>∃u,r=some u/\
   wpAny (model P w) X.A (letOwnedTupleGo tg ↑it u) (λ_ s2=>∃x H',Inv X pins σ H' s2/\RelV x u/\AP.yld i H x H'/\tn (i+1) s2.heap/\∀b∈fp,H' b=none) E s1) E s
 done:∀(X:Cx),X.prog=P->X.w=w->X.K=K->X.calm=true->∀(i:Nat)(pins:List (Addr×Obj))(s:Shared)(σ:St)(H:Hp)(E:Ae),Inv X pins σ H s->(∀b∈fp,FpOk X pins H b)->tn i s.heap->AP.stop i H->
  wpAny (model P w) X.A (pyNext<|.ref it) (λr s1=>r=none/\Inv X pins σ H s1) E s
 self:∀(A:Around)(i:Nat)(s:Shared)(Q:Ae)(E:Ae),tn i s.heap->Q ↑it s->wpAny (model P w) A (pyIter<|.ref it) Q E s
abbrev TI:=St->Hp->(It->Hp->Prop)->Prop
def dJ(X:Cx)(pins:List (Addr×Obj))(σ:St)(tg:Expr)(R:It->Hp->Prop)(rV:Value)(s2:Shared):(Prop):=
 ∃(it:Addr)(fp:List Addr)(tn:Nat->Heap->Prop)(AP:It)(H':Hp),rV=.ref it/\Inv X pins σ H' s2/\Turn X.prog X.w X.K tg AP fp it tn/\tn 0 s2.heap/\(∀b∈fp,FpOk X pins H' b)/\R AP H'
def PI(X:Cx)(tg iter:Expr)(wi:TI):(Prop):=
 ∀(pins:List (Addr×Obj))(s:Shared)(σ:St)(H:Hp)(R:It->Hp->Prop),Inv X pins σ H s->wi σ H R->
  wpAny (model X.prog X.w) X.A (eval iter X.env) (λv s1=>wpAny (model X.prog X.w) X.A (pyIter v) (dJ X pins σ tg R) X.xe s1) X.xe s
def IA{E:Ae}{s:Shared}{it:Addr}{o:Obj}{n:String}{vs:Array Value}{Q:Unit->Shared->Prop}(ho:s.heap.get? it=some o)(hc:o.cls=.type n)(hd:o.data=.fields vs)
  (hn:["enumerate","zip","dict_itemiterator","dict_reverseitemiterator","odict_iterator","itertools.zip_longest","itertools.pairwise"].contains n=false)(hQ:Q () s):wpAny M A (letOwnedTupleGo tg ↑it u) Q E s:=by
 unfold letOwnedTupleGo;cases tg<;>first
  |show Yl hQ
  | (cases u<;>first
    |show Yl hQ
    | (show XW (wpAny_load ho ?_)
       rw[hc,hd];change wpAny M A (if (["enumerate","zip","dict_itemiterator","dict_reverseitemiterator","odict_iterator","itertools.zip_longest","itertools.pairwise"].contains n&&vs[0]? == some (rawInt _))=true then _ else _) Q E s
       rw[if_neg (by intro h;rw[hn,Bool.false_and]at h;cases h)];show Yl hQ))
def Pe(K:Ad)(a:Addr):(It):=
 ⟨λi H=>∃xs x,SqL K H a xs/\xs[i]?=some x,λi H x H'=>H'=H/\∀xs,SqL K H a xs->xs[i]?=some x,λi H=>∃xs,SqL K H a xs/\xs.length<=i⟩
def Pd(K:Ad)(a:Addr):(It):=
 ⟨λi H=>∃xs x,SqT K H a xs/\xs[i]?=some x,λi H x H'=>H'=H/\∀xs,SqT K H a xs->xs[i]?=some x,λi H=>∃xs,SqT K H a xs/\xs.length<=i⟩
def Iy(lo:Int)(n:Nat):(It):=⟨λi _=>i<n,λi H x H'=>H'=H/\x=.int (lo+i),λi _=>n<=i⟩
def dI{P:Program}{w:World}{K:Ad}{tg:Expr}(a it:Addr):Turn P w K tg (Pe K a) [it] it (λi h=>h.IsListIter it a i) where
 mem:=B
 obj:=λi h st b hb=>by
  let e:b=it:=by simpa using hb
  subst e;let⟨o,e,c,d⟩:=st;exists o,e,λv z=>by rw[d]at z;cases z
 keep:=λi h h' st k=>st.at λo e=>k it B o e
 item:=by
  intro X hP hw hK hc i pins s σ H E I hf st hg;subst hP hw hK;let⟨xs,x,hq,hx⟩:=hg;let⟨XX,rv,p,hz⟩:=I.list hq;let⟨u,hu,ru⟩:=rv.get hx;let⟨f0,f1,f2,f3,f4,f5⟩:=hf it B;show wpAny_pyNext_list_item st p.isList (x:=u) (by simpa using hu) λh' XQ sb=>?_;let I1:Inv X pins σ H {s with heap:=h'}:=I.turned (t':=s.toks) (λb o hb e=>(sb.2 b hb).trans e) f0 f1 f3 f4 f5
  let⟨o,e,c,d⟩:=id XQ;exists u,Z,IA (s:={s with heap:=h'}) e c d sT ⟨x,H,I1,ru,⟨Z,λys hy=>by rwa[I.list_inj hy hq]⟩,XQ,λb hb=>(hf b hb).1⟩
 done:=by
  intro X hP hw hK hc i pins s σ H E I hf st hg;subst hP hw hK;let⟨xs,hq,hx⟩:=hg;let⟨XX,rv,p,hz⟩:=I.list hq;let⟨f0,f1,f2,f3,f4,f5⟩:=hf it B;let hl:=rv.length
  show wpAny_pyNext_list_end (I.ok.hd hc) st p.isList (by simp;lia) λh' eb=>⟨Z,I.turned (t':=s.toks) (λb o hb e=>eb b o hb e) f0 f1 f3 f4 f5⟩
 self:=λ_ _ _ _ _ st h=>wpAny_pyIter_listiter st h
def dH{P:Program}{w:World}{K:Ad}{tg:Expr}(a it:Addr):Turn P w K tg (Pd K a) [it] it (λi h=>h.IsTupleIter it a i) where
 mem:=B
 obj:=λi h st b hb=>by
  let e:b=it:=by simpa using hb
  subst e;let⟨o,e,c,d⟩:=st;exists o,e,λv z=>by rw[d]at z;cases z
 keep:=λi h h' st k=>st.at λo e=>k it B o e
 item:=by
  intro X hP hw hK hc i pins s σ H E I hf st hg;subst hP hw hK;let⟨xs,x,hq,hx⟩:=hg;let⟨XX,rv,p,hz⟩:=I.tuple hq;let⟨u,hu,ru⟩:=rv.get hx;let⟨f0,f1,f2,f3,f4,f5⟩:=hf it B;show wpAny_pyNext_tuple_item st (show s.heap.IsTuple a XX.toArray from p) (x:=u) (by simpa using hu) λh' XQ sb=>?_;let I1:Inv X pins σ H {s with heap:=h'}:=I.turned (t':=s.toks) (λb o hb e=>(sb.2 b hb).trans e) f0 f1 f3 f4 f5
  let⟨o,e,c,d⟩:=id XQ;exists u,Z,IA (s:={s with heap:=h'}) e c d sT ⟨x,H,I1,ru,⟨Z,λys hy=>by rwa[I.tuple_inj hy hq]⟩,XQ,λb hb=>(hf b hb).1⟩
 done:=by
  intro X hP hw hK hc i pins s σ H E I hf st hg;subst hP hw hK;let⟨xs,hq,hx⟩:=hg;let⟨XX,rv,p,hz⟩:=I.tuple hq;let⟨f0,f1,f2,f3,f4,f5⟩:=hf it B;let hl:=rv.length
  show wpAny_pyNext_tuple_end (I.ok.hd hc) st (show s.heap.IsTuple a XX.toArray from p) (by simp;omega) λh' eb=>⟨Z,I.turned (t':=s.toks) (λb o hb e=>eb b o hb e) f0 f1 f3 f4 f5⟩
 self:=λ_ _ _ _ _ st h=>wpAny_pyIter_tupleiter st h
def ZA6{P:Program}{w:World}{K:Ad}{tg:Expr}(it:Addr)(lo:Int)(n:Nat):Turn P w K tg (Iy lo n) [it] it (λi h=>IsRangeIter h it (lo+(i:Nat)*1) ((n:Int)-(i:Nat)) 1) where
 mem:=B
 obj:=λi h st b hb=>by
  let e:b=it:=by simpa using hb
  subst e;exists _,st,λv z=>by let z':Data.fields _=Data.cell v:=z;cases z'
 keep:=λi h h' st k=>k it B _ st
 item:=by
  intro X hP hw hK hc i pins s σ H E I hf st hg;subst hP hw hK;let⟨f0,f1,f2,f3,f4,f5⟩:=hf it B;let W:=Walks.range (prog:=X.prog) (w:=X.w) (I.ok.hd hc) it lo 1 n
  show W.item i s _ _ hg st λv h' tk hv XQ kk=>?_;let⟨t,rfl⟩:=hv;let I1:Inv X pins σ H {s with heap:=h',toks:=tk}:=I.turned (λb o hb e=>kk b o (by simpa using hb) e) f0 f1 f3 f4 f5
  exists _,Z,IA (s:={s with heap:=h',toks:=tk}) (n:="range_iterator") XQ Z Z sT ⟨.int<|lo+i,H,I1,⟨t,?_⟩,⟨Z,Z⟩,XQ,λb hb=>(hf b hb).1⟩;rw[Ky]
 done:=by intro X hP hw hK hc i pins s σ H E I hf st hg;subst hP hw hK;let⟨f0,f1,f2,f3,f4,f5⟩:=hf it B;show wpAny_pyNext_range_end (I.ok.hd hc) st (by have:n<=i:=hg;lia) λh' eb=>⟨Z,I.turned (t':=s.toks) (λb o hb e=>eb b o hb e) f0 f1 f3 f4 f5⟩
 self:=λ_ _ _ _ _ st h=>wpAny_pyIter_rangeiter st h
section
variable{X:Cx}{tg:Expr}
inductive xList(K:Ad)(x:V)(H1:Hp)(R:It->Hp->Prop):Prop
 |mk (a:_) (_:x=.ref a) (_:∃xs,SqL K H1 a xs) (_:R (Pe K a) H1)
def DD(K:Ad)(tl:TE):(TI):=λσ H R=>tl σ H λx H1=>xList K x H1 R
inductive xTpl(K:Ad)(x:V)(H1:Hp)(R:It->Hp->Prop):Prop
 |mk (a:_) (_:x=.ref a) (_:∃xs,SqT K H1 a xs) (_:R (Pd K a) H1)
def DC(K:Ad)(tl:TE):(TI):=λσ H R=>tl σ H λx H1=>xTpl K x H1 R
def rT{l:Expr}{tl:TE}(hl:PE X l tl):PI X tg l (DD X.K tl):=by
 intro pins s σ H R I h;show thn (hl pins s σ H _ I h) λv s1 Xs=>?_;let⟨x,H1,I1,r1,q1⟩:=Xs;let⟨a,e,⟨xs,hq⟩,q⟩:=q1;subst e;cases r1;let⟨XX,rv,p,hz⟩:=I1.list hq;show xJ p.isList ?_;exists (~~~s1),[(~~~s1)],_,_,H1,Z,I1.kept (t':=s1.toks) λb o e=>Xf _ e,dI a _,⟨_,Yo _ Z,Z,Z⟩,λb hb=>?_,q;let e:b=(~~~s1):=by simpa using hb
 subst e;show I1.fpOk (XM _) (I1.hok.fresh<|XM _)
def rS{l:Expr}{tl:TE}(hl:PE X l tl):PI X tg l (DC X.K tl):=by
 intro pins s σ H R I h;show thn (hl pins s σ H _ I h) λv s1 Xs=>?_;let⟨x,H1,I1,r1,q1⟩:=Xs;let⟨a,e,⟨xs,hq⟩,q⟩:=q1;subst e;cases r1;let⟨XX,rv,p,hz⟩:=I1.tuple hq;show wpAny_pyIter_tuple (show s1.heap.IsTuple a XX.toArray from p) ?_;exists (~~~s1),[(~~~s1)],_,_,H1,Z,I1.kept (t':=s1.toks) λb o e=>Xf _ e,dH a _,⟨_,Yo _ Z,Z,Z⟩,λb hb=>?_,q;let e:b=(~~~s1):=by simpa using hb
 subst e;show I1.fpOk (XM _) (I1.hok.fresh<|XM _)
def rR{R:It->Hp->Prop}{E:Ae}{lo hi:Int}{t u v:Tok}{tk:Nat}(I:Inv X pins σ H s)(h1:-(2^62)<=lo)(h2:lo<2^62)(h3:-(2^62)<=hi)(h4:hi<2^62)
  (q:R (Iy lo (hi-lo).toNat) H):wpAny (model X.prog X.w) X.A (pyIter<|.ref (~~~s)) (dJ X pins σ tg R) E {s with heap:=s.heap.push {cls:=.type "range",data:=.fields #[.int lo t,.int hi u,.int 1 v]},toks:=tk}:=by
 show wpAny_pyIter_range (IsRange.new ..) (small_one h1 h2 h3 h4) ?_;let I1:Inv X pins σ H {s with heap:=s.heap.push {cls:=.type "range",data:=.fields #[.int lo t,.int hi u,.int 1 v]},toks:=tk}:=I.kept λb o e=>Xf _ e
 show⟨(s.heap.push {cls:=.type "range",data:=.fields #[.int lo t,.int hi u,.int 1 v]}).objs.size,[(s.heap.push {cls:=.type "range",data:=.fields #[.int lo t,.int hi u,.int 1 v]}).objs.size],_,_,H,Z,
  I1.kept (t':=tk) λb o e=>Xf _ e,ZA6 _ lo (hi-lo).toNat,?_,λb hb=>?_,q⟩
 .let e1:lo+((0:Nat):Int)*1=lo:=B;let e2:(((hi-lo).toNat:Nat):Int)-((0:Nat):Int)=Builtin.Range.rangeSize lo hi 1:=by rw[rangeSize_one];split<;>grind
  change IsRangeIter _ _ (lo+((0:Nat):Int)*1) ((((hi-lo).toNat:Nat):Int)-((0:Nat):Int)) 1;rw[e1,e2];show Yo _ rfl
 .let e:b=(s.heap.push {cls:=.type "range",data:=.fields #[.int lo t,.int hi u,.int 1 v]}).objs.size:=by simpa using hb
  subst e;show I1.fpOk (XM _) (I1.hok.fresh<|XM _)
inductive xRng(vs:List V)(H1:Hp)(R:It->Hp->Prop):Prop
 |mk (j:Int) (_:vs=[.int j]) (_:-(2^62)<=j) (_:j<2^62) (_:R (Iy 0 j.toNat) H1)
def rQ(ta:TA):(TI):=λσ H R=>ta σ H λvs H1=>xRng vs H1 R
def rP{a:Expr}{ta:TA}{p pos:Pos}(hg:Gl X "range")(hm:X.mg "range"=none)(ha:PA X [a] ta)(hs:starEach [a] X.env=[(false,eval a X.env)]:=by rfl):PI X tg (.Call (.Name "range" p) [a] [] pos) (rQ ta):=by
 intro pins s σ H R I h;show Call_ (Qd I hg hm boot_range<|Jd (thn (ha pos pins s σ H _ I h) λus s1 Xs=>?_) hs Z);let⟨vs,H1,I1,r1,q1⟩:=Xs;let⟨j,e,q1,q2,q⟩:=q1;subst e;cases r1 with
 |cons r rr=>
  cases rr;let⟨t,rfl⟩:=r;show call_range_1 (rR I1 J D q1 q2<|by simpa using q)
def rO(wi:TI)(g:TG)(tb:TS):(TS):=λsP σ H=>wi σ H λAP H1=>∃W:Nat->Nat->St->Hp->Prop,(∃m,W 0 m σ H1)/\∀i m σ H,W i m σ H->
 (AP.stop i H/\sP.nx σ H)\/(AP.go i H/\∃N:St->Hp->Prop,(∀σ' H',N σ' H'->∃m',m'<m/\W (i+1) m' σ' H')/\∀x H',AP.yld i H x H'->g x σ H' λσ2 H2=>tb {sP with nx:=N,ct:=N,bk:=sP.nx} σ2 H2)
def Ml(fp:List Addr)(h:Heap):(List (Addr×Obj)):=fp.filterMap λb=>(h.get? b).map λo=>(b,o)
def Mj{b:Addr}{o:Obj}(hb:b∈fp)(e:h.get? b=some o):(b,o)∈Ml fp h:=List.mem_filterMap.mpr ⟨b,hb,by rw[e];rfl⟩
def dG{p:Addr×Obj}(hp:p∈Ml fp h):p.1∈fp/\h.get? p.1=some p.2:=by
 let⟨b,hb,e⟩:=List.mem_filterMap.mp hp;cases q:h.get? b with
 |none=>rw[q]at e;cases e
 |some o=>
  rw[q]at e;let e':(b,o)=p:=Ye e
  subst e';exists hb,q
def Inv.pinned(I:Inv X pins σ H s)(hf:∀b∈fp,FpOk X pins H b)(ho:∀b∈fp,∃o,s.heap.get? b=some o/\∀v,o.data≠.cell v):Inv X (pins++Ml fp s.heap) σ H s:=
 I.pins_of λp hp=>(XA.mp hp).elim (λz=>I.pin p<|Yj _ z) λz=>by let⟨hb,e⟩:=dG z;let⟨f0,f1,f2,_⟩:=hf p.1 hb;let⟨o,e',d⟩:=ho p.1 hb;rw[e]at e';cases e';exists e,f0,f1,f2,d
def Inv.unpinned{pins pl:List (Addr×Obj)}(I:Inv X (pins++pl) σ H s):Inv X pins σ H s:=I.pins_of λp hp=>I.pin p (Yj _<|Yg _ hp)
def TH{iter:Expr}{body:List Stmt}{wi:TI}{g:TG}{tb:TS}{pos:Pos}(hp:PassesOwn (model X.prog X.w) X.A X.env X.xe)(hc:X.calm=true)(hi:PI X tg iter wi)(hg:PG X tg g)(hb:PSs X body tb)
  (hs:∀x,foldedSetIterable iter X.env x=pure x:=by intro _;rfl):PS X (.For tg iter body [] pos) (rO wi g tb):=by
 intro pins s σ H sP I h;show wpAny_For (thn (hi pins s σ H _ I h) λv s1 h1=>thn h1 λrV s2 h2=>?_) hs;let⟨it,fp,tn,AP,H2,e,I2,T,Xg,f2,W,⟨m0,w0⟩,turn⟩:=h2;subst e;let Iw:∀{H':Hp},(∀b∈fp,H' b=none)->∀b∈fp,FpOk X pins H' b:=λhn b hb=>⟨hn b hb,(f2 b hb).2⟩
 show codeAny_forLoop_any (λn s'=>∃i σ' H',Inv X pins σ' H' s'/\tn i s'.heap/\(∀b∈fp,H' b=none)/\W i n σ' H') ?_ m0 ⟨0,σ,H2,I2,Xg,λb hb=>(f2 b hb).1,w0⟩;rintro n s3 ⟨i,σ3,H3,I3,WK,dF,w3⟩;rcases turn i n σ3 H3 w3 with ⟨stop,qn⟩|⟨go,N,hN,step⟩
 .show IX hp (thn (T.done X Z Z Z hc i pins s3 σ3 H3 X.xe I3 (Iw dF) WK stop) λr s4 zz=>?_);let⟨hr,I4⟩:=zz;subst hr;show xG ⟨σ3,H3,I4,qn⟩
 .show IX hp (thn (T.item X Z Z Z hc i pins s3 σ3 H3 X.xe I3 (Iw dF) WK go) λr s4 Xs=>?_);let⟨u,hr,h4⟩:=Xs;subst hr;show IX hp (thn h4 λ_ s5 Xs=>?_);let⟨x,H5,I5,r5,y5,WW,rN⟩:=Xs;let rM:=I5.pinned (Iw rN) (T.obj _ _ WW)
  show IX hp (thn (hg _ s5 σ3 H5 x u _ rM r5<|step x H5 y5) λ_ s6 Xs=>?_);let⟨σ6,H6,I6,q6⟩:=Xs;show IX hp (thn (hb _ s6 σ6 H6 _ I6 q6) λf s7 q7=>?_);let again:∀{σ7:St}{H7:Hp},Inv X (pins++Ml fp s5.heap) σ7 H7 s7->N σ7 H7->∃m,m<n/\∃i σ' H',Inv X pins σ' H' s7/\tn i s7.heap/\(∀b∈fp,H' b=none)/\W i m σ' H':=λ{σ7 H7} I7 n7=>by let⟨m',hm,w7⟩:=hN σ7 H7 n7;exists m',hm,i+1,σ7,H7,I7.unpinned,T.keep _ _ _ WW λb hb o e=>(I7.pin (b,o)<|Yj _<|Yj _<|Mj hb e).1,λb hb=>?_,w7;let⟨o,e,d⟩:=T.obj _ _ WW b hb;show(I7.pin (b,o)<|Yj _<|Yj _<|Mj hb e).2.1
  cases f with
  |next=>let⟨σ7,H7,I7,n7⟩:=q7;show again I7 n7
  |cont=>let⟨σ7,H7,I7,n7⟩:=q7;show again I7 n7
  |brk=>let⟨σ7,H7,I7,q7⟩:=q7;exists σ7,H7,I7.unpinned,q7
  |ret v=>let⟨x7,σ7,H7,I7,r7,q7⟩:=q7;exists x7,σ7,H7,I7.unpinned,r7,q7
end
def Iv{K:Ad}{a:Addr}{xs:List V}{g:TG}{tb:TS}{sP:Ends}{σ:St}{H:Hp}(Pv:Nat->St->Hp->Prop)(h0:Pv 0 σ H)(hl:∀i σ H,i<=xs.length->Pv i σ H->SqL K H a xs)
  (hs:∀i x σ H,xs[i]?=some x->Pv i σ H->g x σ H λσ2 H2=>tb {sP with nx:=Pv<|i+1,ct:=Pv<|i+1,bk:=sP.nx} σ2 H2)(hd:∀σ H,Pv xs.length σ H->sP.nx σ H):
  ∃W:Nat->Nat->St->Hp->Prop,(∃m,W 0 m σ H)/\∀i m σ H,W i m σ H->
   ((Pe K a).stop i H/\sP.nx σ H)\/((Pe K a).go i H/\∃N:St->Hp->Prop,(∀σ' H',N σ' H'->∃m',m'<m/\W (i+1) m' σ' H')/\∀x H',(Pe K a).yld i H x H'->g x σ H' λσ2 H2=>tb {sP with nx:=N,ct:=N,bk:=sP.nx} σ2 H2):=by
 exists λi m σ H=>m=xs.length-i/\i<=xs.length/\Pv i σ H,⟨xs.length,B,Yk _,h0⟩,?_;rintro i m σ H ⟨rfl,hi,p⟩;let q:=hl i σ H hi p
 cases Xk:i<xs.length
 .show .inr ⟨⟨xs,xs[i],q,by simp[Xk]⟩,Pv<|i+1,λσ' H' p'=>⟨xs.length-(i+1),D,Z,Xk,p'⟩,λx H' y=>?_⟩;let⟨e,y⟩:=y;subst e;show hs i x σ _ (y xs q) p
 .let e:i=xs.length:=J;subst e;show .inl ⟨⟨xs,q,XM _⟩,hd σ H p⟩
def rL{K:Ad}{a:Addr}{xs:List V}{g:TG}{tb:TS}{sP:Ends}{σ:St}{H:Hp}(Pv:Nat->St->Hp->Prop)(h0:Pv 0 σ H)(hl:∀i σ H,i<=xs.length->Pv i σ H->SqT K H a xs)
  (hs:∀i x σ H,xs[i]?=some x->Pv i σ H->g x σ H λσ2 H2=>tb {sP with nx:=Pv<|i+1,ct:=Pv<|i+1,bk:=sP.nx} σ2 H2)(hd:∀σ H,Pv xs.length σ H->sP.nx σ H):
  ∃W:Nat->Nat->St->Hp->Prop,(∃m,W 0 m σ H)/\∀i m σ H,W i m σ H->
   ((Pd K a).stop i H/\sP.nx σ H)\/((Pd K a).go i H/\∃N:St->Hp->Prop,(∀σ' H',N σ' H'->∃m',m'<m/\W (i+1) m' σ' H')/\∀x H',(Pd K a).yld i H x H'->g x σ H' λσ2 H2=>tb {sP with nx:=N,ct:=N,bk:=sP.nx} σ2 H2):=by
 exists λi m σ H=>m=xs.length-i/\i<=xs.length/\Pv i σ H,⟨xs.length,B,Yk _,h0⟩,?_;rintro i m σ H ⟨rfl,hi,p⟩;let q:=hl i σ H hi p
 cases Xk:i<xs.length
 .show .inr ⟨⟨xs,xs[i],q,by simp[Xk]⟩,Pv<|i+1,λσ' H' p'=>⟨xs.length-(i+1),D,Z,Xk,p'⟩,λx H' y=>?_⟩;let⟨e,y⟩:=y;subst e;show hs i x σ _ (y xs q) p
 .let e:i=xs.length:=D;subst e;show .inl ⟨⟨xs,q,XM _⟩,hd σ H p⟩
def ZY8{lo:Int}{n:Nat}{g:TG}{tb:TS}{sP:Ends}{σ:St}{H:Hp}(Pv:Nat->St->Hp->Prop)(h0:Pv 0 σ H)
  (hs:∀i σ H,i<n->Pv i σ H->g (.int<|lo+i) σ H λσ2 H2=>tb {sP with nx:=Pv<|i+1,ct:=Pv<|i+1,bk:=sP.nx} σ2 H2)(hd:∀σ H,Pv n σ H->sP.nx σ H):
  ∃W:Nat->Nat->St->Hp->Prop,(∃m,W 0 m σ H)/\∀i m σ H,W i m σ H->
   ((Iy lo n).stop i H/\sP.nx σ H)\/((Iy lo n).go i H/\∃N:St->Hp->Prop,(∀σ' H',N σ' H'->∃m',m'<m/\W (i+1) m' σ' H')/\∀x H',(Iy lo n).yld i H x H'->g x σ H' λσ2 H2=>tb {sP with nx:=N,ct:=N,bk:=sP.nx} σ2 H2):=by
 exists λi m σ H=>m=n-i/\i<=n/\Pv i σ H,⟨n,B,Yk _,h0⟩,?_;rintro i m σ H ⟨rfl,hi,p⟩;cases Xk:i<n
 .show .inr ⟨Xk,Pv<|i+1,λσ' H' p'=>⟨n-(i+1),D,Z,Xk,p'⟩,λx H' y=>?_⟩;let⟨e,y⟩:=y;subst e y;show hs i σ _ Xk p
 .let e:i=n:=J;subst e;show .inl ⟨XM _,hd σ H p⟩
abbrev R2:=V->V->Hp->VK->Prop
def Wy(X:Cx)(f:Value->Value->Sem Value)(r:R2):(Prop):=
 ∀(pins:List (Addr×Obj))(s:Shared)(σ:St)(H:Hp)(x y:V)(v u:Value)(Q:VK),Inv X pins σ H s->RelV x v->RelV y u->r x y H Q->
  wpAny (model X.prog X.w) X.A (f v u) (EP X pins σ Q) X.xe s
def rK(X:Cx)(f:Value->Sem Value)(r:V->Hp->VK->Prop):(Prop):=
 ∀(pins:List (Addr×Obj))(s:Shared)(σ:St)(H:Hp)(x:V)(v:Value)(Q:VK),Inv X pins σ H s->RelV x v->r x H Q->
  wpAny (model X.prog X.w) X.A (f v) (EP X pins σ Q) X.xe s
def WB(X:Cx)(f:Value)(r:List V->Hp->VK->Prop):(Prop):=
 ∀(pins:List (Addr×Obj))(s:Shared)(σ:St)(H:Hp)(xs:List V)(us:Ag)(Q:VK),Inv X pins σ H s->Vals xs us->r xs H Q->
  wpAny (model X.prog X.w) X.A (call f us) (EP X pins σ Q) X.xe s
def xh(r:R2)(ta tb:TE):(TE):=λσ H Q=>ta σ H λx H1=>tb σ H1 λy H2=>r x y H2 Q
def tUn(r:V->Hp->VK->Prop)(ta:TE):(TE):=λσ H Q=>ta σ H λx H1=>r x H1 Q
inductive rI(C:Int->Int->Prop)(g:Int->Int->V)(x:V)(y:V)(H:Hp)(Q:VK):Prop
 |mk (i j:_) (_:x=.int i) (_:y=.int j) (_:C i j) (_:Q (g i j) H)
inductive rI0(g:Int->Int->V)(x:V)(y:V)(H:Hp)(Q:VK):Prop
 |mk (i j:_) (_:x=.int i) (_:y=.int j) (_:Q (g i j) H)
inductive rU(g:Int->V)(x:V)(H:Hp)(Q:VK):Prop
 |mk (i:_) (_:x=.int i) (_:Q (g i) H)
section
variable{X:Cx}{a b:Expr}{ta tb:TE}{pos:Pos}
def Iu(ha:PE X a ta)(hb:PE X b tb){pins:List (Addr×Obj)}{s:Shared}{σ:St}{H:Hp}{R:V->V->Hp->Prop}(I:Inv X pins σ H s)
  (h:ta σ H λx H1=>tb σ H1 λy H2=>R x y H2){Q:Ae}{f:Value->Value->Sem Value}
  (hf:∀v u s2 x y H2,Inv X pins σ H2 s2->RelV x v->RelV y u->R x y H2->wpAny (model X.prog X.w) X.A (f v u) Q X.xe s2):
  wpAny (model X.prog X.w) X.A (eval a X.env) (λv s₁=>wpAny (model X.prog X.w) X.A (eval b X.env) (λu s₂=>wpAny (model X.prog X.w) X.A (f v u) Q X.xe s₂) X.xe s₁) X.xe s:=by show thn (ha pins s σ H _ I h) λv s1 Xs=>?_;let⟨x,H1,I1,r1,q1⟩:=Xs;show thn (hb pins s1 σ H1 _ I1 q1) λu s2 Xs=>?_;let⟨y,H2,I2,r2,q2⟩:=Xs;show hf v u s2 x y H2 I2 r1 r2 q2
def Zz(ho:Wy X (binaryOp op) r)(ha:PE X a ta)(hb:PE X b tb):PE X (.BinOp a op b pos) (xh r ta tb):=by intro pins s σ H Q I h;show wpAny_BinOp (Iu ha hb I h λv u s2 x y H2 I2 rx ry q=>ho pins s2 σ H2 x y v u Q I2 rx ry q)
def DB{op:UnaryOp}{r:V->Hp->VK->Prop}(ho:rK X (unaryOp op) r)(ha:PE X a ta):PE X (.UnaryOp op a pos) (tUn r ta):=by intro pins s σ H Q I h;show UnaryOp_ (thn (ha pins s σ H _ I h) λv s1 zz=>by let⟨x,H1,I1,r1,q1⟩:=zz;show ho pins s1 σ H1 x v Q I1 r1 q1)
def Ir{f:Value->Value->Sem Value}{C:Int->Int->Prop}{g:Int->Int->Int}
  (rule:∀(i j:Int)(t u:Tok)(s:Shared)(Q:Ae)(E:Ae),C i j->Q (.int (g i j) s.toks) {s with toks:=s.toks+1}->wpAny (model X.prog X.w) X.A (f (.int i t)<|.int j u) Q E s):
  Wy X f (rI C λi j=>.int<|g i j):=by intro pins s σ H x y v u Q I rx ry h;let⟨i,j,rfl,rfl,hc,q⟩:=h;let⟨t,rfl⟩:=rx;let⟨t',rfl⟩:=ry;show rule i j t t' s _ _ hc ⟨.int<|g i j,H,I.tok _,⟨_,Z⟩,q⟩
def DA{f:Value->Value->Sem Value}{g:Int->Int->Int}
  (rule:∀(i j:Int)(t u:Tok)(s:Shared)(Q:Ae)(E:Ae),Q (.int (g i j) s.toks) {s with toks:=s.toks+1}->wpAny (model X.prog X.w) X.A (f (.int i t)<|.int j u) Q E s):
  Wy X f (rI0 λi j=>.int<|g i j):=by intro pins s σ H x y v u Q I rx ry h;let⟨i,j,rfl,rfl,q⟩:=h;let⟨t,rfl⟩:=rx;let⟨t',rfl⟩:=ry;show rule i j t t' s _ _ ⟨.int<|g i j,H,I.tok _,⟨_,Z⟩,q⟩
def Mi{f:Value->Value->Sem Value}{g:Int->Int->Bool}
  (rule:∀(i j:Int)(t u:Tok)(s:Shared)(Q:Ae)(E:Ae),Q (.bool<|g i j) s->wpAny (model X.prog X.w) X.A (f (.int i t)<|.int j u) Q E s):
  Wy X f (rI0 λi j=>.bl<|g i j):=by intro pins s σ H x y v u Q I rx ry h;let⟨i,j,rfl,rfl,q⟩:=h;let⟨t,rfl⟩:=rx;let⟨t',rfl⟩:=ry;show rule i j t t' s _ _ ⟨.bl<|g i j,H,I,Z,q⟩
def rJ(i j:Int):(Prop):=0<j/\j<1073741824
def rH(i j:Int):(Prop):=0<=j/\j<=1000000/\i.natAbs<2^64
def CMul(i j:Int):(Prop):=(-(2^64)<i/\i<2^64)\/(-(2^64)<j/\j<2^64)
def CMul.ok(h:CMul i j):IntMulOk i j:=by
 rcases h with ⟨h1,h2⟩|⟨h1,h2⟩
 .show .of_left (intBits_le_64 h1 h2)
 .show .of_right (intBits_le_64 h1 h2)
def VD:Wy X (binaryOp .Add) (rI0 λi j=>.int (i+j)):=DA λ_ _ _ _ _ _ _ q=>add_int q
def Mh:Wy X (binaryOp .Sub) (rI0 λi j=>.int (i-j)):=DA λ_ _ _ _ _ _ _ q=>sub_int q
def Iq:Wy X (binaryOp .Mult) (rI CMul λi j=>.int (i*j)):=Ir λ_ _ _ _ _ _ _ hc q=>mul_int q hc.ok
def Ip:Wy X (binaryOp .FloorDiv) (rI rJ λi j=>.int (i/j)):=Ir λi j _ _ _ _ _ hc q=>by
 let h1:(0:Int)<j:=hc.1;let h2:j<1073741824:=hc.2
 show floordiv_int J (by rwa[Int.fdiv_eq_ediv_of_nonneg i J]) (.inl<|PyProof.noPylong_small D)
def Th:Wy X (binaryOp .Mod) (rI (λ_ j=>0<j) λi j=>.int (i%j)):=Ir λi j _ _ _ _ _ hc q=>by let h1:(0:Int)<j:=hc;show mod_int' D (by rwa[Int.fmod_eq_emod_of_nonneg i J])
def Io:Wy X (binaryOp .Pow) (rI rH λi j=>.int (i^j.toNat)):=Ir λ_ _ _ _ _ _ _ hc q=>pow_int_small hc.1 hc.2.1 hc.2.2 q
def unI{f:Value->Sem Value}{g:Int->Int}
  (rule:∀(i:Int)(t:Tok)(s:Shared)(Q:Ae)(E:Ae),Q (.int (g i) s.toks) {s with toks:=s.toks+1}->wpAny (model X.prog X.w) X.A (f<|.int i t) Q E s):
  rK X f (rU λi=>.int<|g i):=by intro pins s σ H x v Q I rx h;let⟨i,rfl,q⟩:=h;let⟨t,rfl⟩:=rx;show rule i t s _ _ ⟨.int<|g i,H,I.tok _,⟨_,Z⟩,q⟩
def Kt:rK X (unaryOp .USub) (rU λi=>.int (-i)):=unI λ_ _ _ _ _ q=>neg_int q
end
def Dz:(V->V->Bool)
 | .non,.non=>true | .non,.int _=>true | .int _,.non=>true | .non,.bl _=>true | .bl _,.non=>true | .non,.str _=>true | .str _,.non=>true
 | .int _,.int _=>true | .bl _,.bl _=>true | .str _,.str _=>true | .byt _,.byt _=>true
 | .int _,.str _=>true | .str _,.int _=>true | .bl _,.str _=>true | .str _,.bl _=>true
 |_,_=>false
inductive rEq(x:V)(y:V)(H:Hp)(Q:VK):Prop
 |mk  (_:Dz x y=true) (_:Q (.bl<|decide<|x=y) H)
inductive rNe(x:V)(y:V)(H:Hp)(Q:VK):Prop
 |mk  (_:Dz x y=true) (_:Q (.bl<|!decide (x=y)) H)
def ZA:decide (V.int i=V.int j)=(i == j):=by rw[Qh];simp
def Dy:decide (V.bl i=V.bl j)=(i == j):=by rw[Qh];simp
def Ks:decide (V.str i=V.str j)=(i == j):=by rw[Qh];simp
def Kr:decide (V.byt i=V.byt j)=(i.toList == j.toList):=by rw[Qh];cases i;cases j;simp
section
variable{X:Cx}{a b c:Expr}{ta tb tc:TE}{pos:Pos}
def ZQ{k k':Bool}(I:Inv X pins σ H s)(q:Q (.bl k) H)(e:k=k'):EP X pins σ Q (.bool k') s:=by subst e;exists .bl k,H,I,Z,q
def Qc:Wy X (compareOp .Eq) rEq:=by
 intro pins s σ H x y v u Q I rx ry h;let⟨hs,q⟩:=h;cases x with
 |non=>
  cases rx;cases y with
  |non=>cases ry;show PySem.EqNone.eq_none_none (ZQ I q B)
  |bl j=>cases ry;show PySem.EqNone.eq_none_bool (ZQ I q B)
  |int j=>let⟨t',rfl⟩:=ry;show PySem.EqNone.eq_none_int (ZQ I q B)
  |str j=>let⟨t',rfl⟩:=ry;show PySem.EqNone.eq_none_str (ZQ I q B)
  |_=>show absurd (show false=true from hs) YG
 |bl i=>
  cases rx;cases y with
  |non=>cases ry;show PySem.EqNone.eq_bool_none (ZQ I q B)
  |bl j=>cases ry;show eq_bool (ZQ I q Dy)
  |str j=>let⟨t',rfl⟩:=ry;show PySem.EqMixed.eq_bool_str (ZQ I q B)
  |_=>show absurd (show false=true from hs) YG
 |int i=>
  let⟨t,rfl⟩:=rx;cases y with
  |non=>cases ry;show PySem.EqNone.eq_int_none (ZQ I q B)
  |int j=>let⟨t',rfl⟩:=ry;show eq_int (ZQ I q ZA)
  |str j=>let⟨t',rfl⟩:=ry;show PySem.EqMixed.eq_int_str (ZQ I q B)
  |_=>show absurd (show false=true from hs) YG
 |str i=>
  let⟨t,rfl⟩:=rx;cases y with
  |non=>cases ry;show PySem.EqNone.eq_str_none (ZQ I q B)
  |bl j=>cases ry;show PySem.EqMixed.eq_str_bool (ZQ I q B)
  |int j=>let⟨t',rfl⟩:=ry;show PySem.EqMixed.eq_str_int (ZQ I q B)
  |str j=>let⟨t',rfl⟩:=ry;show eq_str (ZQ I q Ks)
  |_=>show absurd (show false=true from hs) YG
 |byt i=>
  let⟨t,rfl⟩:=rx;cases y with
  |byt j=>let⟨t',rfl⟩:=ry;show PySem.W.eq_bytes (ZQ I q Kr)
  |_=>show absurd (show false=true from hs) YG
 |_=>cases y<;>show absurd (show false=true from hs) YG
def Qb:Wy X (compareOp .NotEq) rNe:=by
 intro pins s σ H x y v u Q I rx ry h;let⟨hs,q⟩:=h;cases x with
 |non=>
  cases rx;cases y with
  |non=>cases ry;show PySem.EqNone.ne_none_none (ZQ I q B)
  |bl j=>cases ry;show PySem.EqNone.ne_none_bool (ZQ I q B)
  |int j=>let⟨t',rfl⟩:=ry;show PySem.EqNone.ne_none_int (ZQ I q B)
  |str j=>let⟨t',rfl⟩:=ry;show PySem.EqNone.ne_none_str (ZQ I q B)
  |_=>show absurd (show false=true from hs) YG
 |bl i=>
  cases rx;cases y with
  |non=>cases ry;show PySem.EqNone.ne_bool_none (ZQ I q B)
  |bl j=>cases ry;show ne_bool (ZQ I q<|YV not Dy)
  |str j=>let⟨t',rfl⟩:=ry;show PySem.EqMixed.ne_bool_str (ZQ I q B)
  |_=>show absurd (show false=true from hs) YG
 |int i=>
  let⟨t,rfl⟩:=rx;cases y with
  |non=>cases ry;show PySem.EqNone.ne_int_none (ZQ I q B)
  |int j=>let⟨t',rfl⟩:=ry;show ne_int (ZQ I q<|YV not ZA)
  |str j=>let⟨t',rfl⟩:=ry;show PySem.EqMixed.ne_int_str (ZQ I q B)
  |_=>show absurd (show false=true from hs) YG
 |str i=>
  let⟨t,rfl⟩:=rx;cases y with
  |non=>cases ry;show PySem.EqNone.ne_str_none (ZQ I q B)
  |bl j=>cases ry;show PySem.EqMixed.ne_str_bool (ZQ I q B)
  |int j=>let⟨t',rfl⟩:=ry;show PySem.EqMixed.ne_str_int (ZQ I q B)
  |str j=>let⟨t',rfl⟩:=ry;show ne_str (ZQ I q<|YV not Ks)
  |_=>show absurd (show false=true from hs) YG
 |byt i=>
  let⟨t,rfl⟩:=rx;cases y with
  |byt j=>let⟨t',rfl⟩:=ry;show PySem.W.ne_bytes (ZQ I q<|YV not Kr)
  |_=>show absurd (show false=true from hs) YG
 |_=>cases y<;>show absurd (show false=true from hs) YG
def Kq:Wy X (compareOp .Lt) (rI0 λi j=>.bl (decide (i<j))):=Mi λ_ _ _ _ _ _ _ q=>lt_int q
def Pc:Wy X (compareOp .LtE) (rI0 λi j=>.bl (decide (i<=j))):=Mi λ_ _ _ _ _ _ _ q=>le_int q
def Pb:Wy X (compareOp .Gt) (rI0 λi j=>.bl (decide (j<i))):=Mi λ_ _ _ _ _ _ _ q=>gt_int q
def Dx:Wy X (compareOp .GtE) (rI0 λi j=>.bl (decide (j<=i))):=Mi λ_ _ _ _ _ _ _ q=>ge_int q
def Dw:Wy X (compareOp .Is) (λx y H Q=>y=.non/\Q (.bl (decide (x=.non))) H):=by
 intro pins s σ H x y v u Q I rx ry h;let⟨rfl,q⟩:=h;cases ry;show is_none_gen (ZQ I q ?_);cases x<;>first
  | (cases rx;rfl)
  | (let⟨t,rfl⟩:=rx;rfl)
def Zw(b:Expr)(h:op≠.In:=by decide)(h2:op≠.NotIn:=by decide):behindInMarks op b=false:=by
 let e1:(op == CmpOp.In)=false:=by cases op<;>first|rfl|show absurd rfl h
 let e2:(op == CmpOp.NotIn)=false:=by cases op<;>first|rfl|show absurd rfl h2
 cases b<;>simp[behindInMarks,e1,e2]
def Im(ho:Wy X (compareOp op) r)(ha:PE X a ta)(hb:PE X b tb)(hm:behindInMarks op b=false):PE X (.Compare a [op] [b] pos) (xh r ta tb):=by intro pins s σ H Q I h;show wpAny_Compare1 (Iu ha hb I h λv u s2 x y H2 I2 rx ry q=>ho pins s2 σ H2 x y v u Q I2 rx ry q) hm
def Dv(t:TE):(TT):=λσ H Q=>t σ H λx H'=>isB x H' Q
def Zi{op:CmpOp}{r:R2}(ho:Wy X (compareOp op) r)(ha:PE X a ta)(hb:PE X b tb)(hm:behindInMarks op b=false):PT X (.Compare a [op] [b] pos) (Dv (xh r ta tb)):=by
 intro pins s σ H Q I h;show wpAny_isTrue_Compare1 (thn (ha pins s σ H _ I h) λv s1 ⟨x,H1,I1,r1,q1⟩=>thn (hb pins s1 σ H1 _ I1 q1) λu s2 ⟨y,H2,I2,r2,q2⟩=>
  thn (ho pins s2 σ H2 x y v u _ I2 r1 r2 q2) λc s3 ⟨z,H3,I3,r3,k,e,q3⟩=>?_) hm
 subst e;cases r3;show Np ⟨H3,I3,q3⟩
def Du(r r':R2)(ta tb tc:TE):(TE):=λσ H Q=>ta σ H λx H1=>tb σ H1 λy H2=>r x y H2 λz H3=>∃k,z=.bl k/\
 (if k=true then tc σ H3 λw' H4=>r' y w' H4 Q else Q (.bl false) H3)
def rG{op Il:CmpOp}{r r':R2}(ho:Wy X (compareOp op) r)(UW:Wy X (compareOp Il) r')(ha:PE X a ta)(hb:PE X b tb)(hc:PE X c tc)
  (hm:lastMarks [op,Il] [b,c]=false:=by with_unfolding_all rfl):PE X (.Compare a [op,Il] [b,c] pos) (Du r r' ta tb tc):=by
 intro pins s σ H Q I h;show Compare_chain (thn (ha pins s σ H _ I h) λv s1 ⟨x,H1,I1,r1,q1⟩=>chain_link (thn (hb pins s1 σ H1 _ I1 q1) λu s2 ⟨y,H2,I2,r2,q2⟩=>
  thn (ho pins s2 σ H2 x y v u _ I2 r1 r2 q2) λd s3 ⟨z,H3,I3,r3,k,e,q3⟩=>?_)) hm
 subst e;cases r3;show Np ?_;cases k with
 |false=>show ite_ff ⟨.bl false,H3,I3,Z,q3⟩
 |true=>show ite_tt (chain_last<|thn (hc pins s3 σ H3 _ I3 q3) λw' s4 zz=>by let⟨z',H4,I4,r4,q4⟩:=zz;show UW pins s4 σ H4 y z' u w' Q I4 r2 r4 q4)
def dE{op Il:CmpOp}{r r':R2}(ho:Wy X (compareOp op) r)(UW:Wy X (compareOp Il) r')(ha:PE X a ta)(hb:PE X b tb)(hc:PE X c tc)
  (hm:lastMarks [op,Il] [b,c]=false:=by with_unfolding_all rfl):PT X (.Compare a [op,Il] [b,c] pos) (Dv<|Du r r' ta tb tc):=by
 intro pins s σ H Q I h;show isTrue_chain (thn (ha pins s σ H _ I h) λv s1 ⟨x,H1,I1,r1,q1⟩=>test_link (thn (hb pins s1 σ H1 _ I1 q1) λu s2 ⟨y,H2,I2,r2,q2⟩=>
  thn (ho pins s2 σ H2 x y v u _ I2 r1 r2 q2) λd s3 ⟨z,H3,I3,r3,k,e,q3⟩=>?_)) hm
 subst e;cases r3;show Np ?_;cases k with
 |false=>
  let⟨k',e',q'⟩:=q3;cases e';show ite_ff ⟨H3,I3,q'⟩
 |true=>
  show ite_tt (test_last<|thn (hc pins s3 σ H3 _ I3 q3) λw' s4 zz=>?_);let⟨z',H4,I4,r4,q4⟩:=zz;show thn (UW pins s4 σ H4 y z' u w' _ I4 r2 r4 q4) λd' s5 Xs=>?_;let⟨z2,H5,I5,r5,k2,e2,q5⟩:=Xs;subst e2;cases r5;show Np ⟨H5,I5,q5⟩
def Dt:(sizeLine:Nat)<2^63:=by rw[TM];decide
def Tg{us:Ag}(r:Vals [x] us):∃u,us=[u]/\RelV x u:=by
 cases r with
 |cons r1 r2=>cases r2;exists _,Z,r1
def Pa{us:Ag}(r:Vals [x,y] us):∃u w',us=[u,w']/\RelV x u/\RelV y w':=by
 cases r with
 |cons r1 r2=>
  cases r2 with
  |cons r3 r4=>cases r4;exists _,_,Z,r1,r3
def dD(hc:X.calm=true):WB X (.builtin "max") (λxs H Q=>∃i j,xs=[.int i,.int j]/\Q (.int (if j>i then j else i)) H):=by
 intro pins s σ H xs us Q I r h;let⟨i,j,rfl,q⟩:=h;let⟨u,w',rfl,⟨t,rfl⟩,⟨t',rfl⟩⟩:=Pa r;show max_two_ints (I.ok.hd hc) λh' tk k=>⟨_,H,I.kept k,?_,q⟩;cases hj:j>i
 .rw[if_pos hj,if_pos hj];exists _,Z
 .rw[if_neg hj,if_neg hj];exists _,Z
def rF(hc:X.calm=true):WB X (.builtin "min") (λxs H Q=>∃i j,xs=[.int i,.int j]/\Q (.int (if j<i then j else i)) H):=by
 intro pins s σ H xs us Q I r h;let⟨i,j,rfl,q⟩:=h;let⟨u,w',rfl,⟨t,rfl⟩,⟨t',rfl⟩⟩:=Pa r;show min_two_ints (I.ok.hd hc) λh' tk k=>⟨_,H,I.kept k,?_,q⟩;cases hj:j<i
 .rw[if_pos hj,if_pos hj];exists _,Z
 .rw[if_neg hj,if_neg hj];exists _,Z
def dC:WB X (.type "int") (λxs H Q=>(∃i,xs=[.int i]/\Q (.int i) H)\/∃k,xs=[.bl k]/\Q (.int (if k then 1 else 0)) H):=by
 intro pins s σ H xs us Q I r h;rcases h with ⟨i,rfl,q⟩|⟨k,rfl,q⟩
 .let⟨u,rfl,t,rfl⟩:=Tg r;show call_int_int ⟨.int i,H,I,⟨_,Z⟩,q⟩
 .let⟨u,rfl,r1⟩:=Tg r;cases r1;show call_int_bool ⟨.int<|if k then 1 else 0,H,I.tok _,⟨_,Z⟩,q⟩
end
structure ObjM(h:Heap)(x dx C:Addr)(mA:Af):Prop where
 obj:h.get? x=some (PySem.W.instObj C dx)
 ns:h.Ns1 dx mA
 ne:dx≠x
def ZA8{h:Heap}{mA:Af}(n:h.Ns1 dx mA):∃od,h.get? dx=some od/\∀name,PySem.W.lookIn name od=some (mA name):=by
 let⟨o,es,ep,ho,hd,hk,_,hm⟩:=n;exists o,ho,λname=>?_;let e:=hm name
 unfold nsFind findBy at e;rw[<-Array.find?_toList]at e;unfold PySem.W.lookIn;rw[hd];dsimp only;split
 .rename_i y q;rw[q]at e;show YV some e
 .rename_i q;rw[q]at e;let a:es.toList.any (·.refKey)=false:=by rw[List.any_eq_false];intro y hy;let⟨z,t,rE⟩:=hk y (Array.mem_toList_iff.mp hy);simp[DictEntry.refKey,rE]
  let a':¬es.toList.any (·.refKey)=true:=by rw[a];show YG
  rw[if_neg a'];show YV some e
def ObjM.look{mA:Af}(I:ObjM h x dx C mA):∃od,PySem.W.InstAt h x (PySem.W.instObj C dx) C (some od)/\∀name,PySem.W.lookIn name od=some (mA name):=
 let ⟨od,ho,hl⟩:=ZA8 I.ns
 ⟨od,⟨I.obj,Z,Z,ho⟩,hl⟩
section
variable{prog:Program}{w:World}{A:Around}{E:Ae}{s:Shared}{K:Ad}{x dx C f:Addr}{mA:Af}{name:Str}{v:Value}
def rD{Q:Ae}(X:K.In s.heap)(I:ObjM s.heap x dx C mA)(hg:PySem.W.plainGet K C name=true)(hh:PySem.W.hasDictIn K C=true)
  (ha:PySem.W.findIn K ↑C name=some none)(hv:mA name=some v)(xg:PySem.W.handedIn v=true)(h:Q v {s with toks:=s.toks+1}):
  wpAny (model prog w) A (getAttr ↑x name expr) Q E s:=by let⟨od,AP,hl⟩:=I.look;show PySem.W.get_value X AP (PySem.W.plainGet_of hg).1 (PySem.W.findObj_own hh ha Z<|by rw[hl,hv]) xg h
def rC{Q:Unit->Shared->Prop}(X:K.In s.heap)(I:ObjM s.heap x dx C mA)
  (hs:PySem.W.findIn K ↑C "__setattr__"=some (some<|.builtin "object.__setattr__"))(hp:PySem.W.plainOver K C=true)(ht:PySem.W.takerIn K C name=some none)(hh:PySem.W.hasDictIn K C=true)
  (hw:PySem.Within mA ns)(hsz:ns.length<=sizeLine)
  (h:∀h',ObjM h' x dx C (λy=>if y=name then some v else mA y)->Heap.SameBut dx s.heap h'->Q () {s with heap:=h',toks:=s.toks+2}):
  wpAny (model prog w) A (setAttr ↑x name v) Q E s:=by
 let⟨od,AP,hl⟩:=I.look;show PySem.W.set_plain X AP hs (PySem.W.osa_open (s:={s with toks:=s.toks+1}) (r:=none) X AP hp ht λb=>?_);let⟨cd,hc,Nj⟩:=PySem.W.any_some hh;let hx:s.heap.get? x=some ⟨.ref C,some dx,.plain,#[]⟩:=I.obj
 show XW (Yl<|XW<|XW<|wpAny_loadPart hx<|XW<|PySem.W.Looks.here (s:={s with toks:=s.toks+1}) (PySem.W.looks_clsIn X hc) ?_);rw[Nj];show Yl (a:=some dx) (XW<|Yl<|XW ?_);show wpAny_nsSet1 (s:={s with toks:=s.toks+1}) I.ns λh' OZ SO=>?_;let⟨oD,esD,epD,xf,dB,hcD⟩:=OZ.count (PySem.Within.cons name v hw);show XW (wpAny_lookBehind xf (by rw[dB];show pastItsLine_dict<|Yn hcD<|by rw[YI];lia) ?_);show Yl (h _ ⟨(SO.2 _<|Xa I.ne).trans I.obj,OZ,I.ne⟩ SO)
def rB{R:Result->Shared->Prop}{vs:Ag}{kw:List (Str×Value)}(X:K.In s.heap)(hm:PySem.W.makesIn K C=true)
  (hi:PySem.W.findIn K ↑C "__init__"=some (some<|.ref f))(hf:PySem.W.typeIn K ↑f=some (.type "function"))
  (h:codeAny (model prog w) (A.under<|.builtin "type.__call__" ⟨.ref C::vs,kw⟩) (.call ↑f ⟨.ref ((~~~s)+1)::vs,kw⟩) (PySem.W.InitBack ((~~~s)+1) R)
   {s with heap:=(s.heap.push PySem.W.emptyDict).push (PySem.W.instObj C (~~~s))}):
  codeAny (model prog w) A (.call ↑C ⟨vs,kw⟩) R s:=by let⟨hh,g,d,t,os⟩:=s;show PySem.W.make_core (PySem.W.makes_of X hm) (PySem.W.looks_findIn X hi) (λself=>PySem.W.bind_fn X self hf) (.inl Z) h
end
def XO(f:Str)(v:V):(List (Str×V)->List (Str×V))
 |[]=>[(f,v)]
 | (g,x)::r=>if g=f then (g,v)::r else (g,x)::XO f v r
def Ds(f g:Str)(v:V):∀fs:List (Str×V),(XO f v fs).lookup g=if g=f then some v else fs.lookup g
 |[]=>by
  change List.lookup g [(f,v)]=_;cases h:g=f
  .let hb:(g == f)=true:=QW.mpr h;simp only[List.lookup,hb,if_pos h]
  .let hb:(g == f)=false:=El.mpr h;simp only[List.lookup,hb,if_neg h]
 | (k,x)::r=>by
  let ih:=Ds f g v r;rw[show XO f v ((k,x)::r)=(if k=f then (k,v)::r else (k,x)::XO f v r) from Z];cases hk:k=f
  .rw[if_pos hk];cases h:g=k
   .let hb:(g == k)=true:=QW.mpr h;simp only[List.lookup,hb,if_pos (h.trans hk)]
   .let hb:(g == k)=false:=El.mpr h;simp only[List.lookup,hb,if_neg λe:g=f=>h (e.trans hk.symm)]
  .rw[if_neg hk];cases h:g=k
   .let hb:(g == k)=true:=QW.mpr h;simp only[List.lookup,hb,if_neg λe:g=f=>hk (h.symm.trans e)]
   .let hb:(g == k)=false:=El.mpr h;simp only[List.lookup,hb];show ih
def rz(f:Str)(v:V):∀fs:List (Str×V),f∈(XO f v fs).map (·.1)/\∀g,g∈fs.map (·.1)->g∈(XO f v fs).map (·.1)
 |[]=>⟨by simp[XO],λg h=>by simp at h⟩
 | (k,x)::r=>by
  let⟨i1,i2⟩:=rz f v r;rw[show XO f v ((k,x)::r)=(if k=f then (k,v)::r else (k,x)::XO f v r) from Z];cases hk:k=f
  .rw[if_pos hk];subst hk;exists B,λg h=>by simpa using h
  .rw[if_neg hk];exists ?_,λg h=>?_
   .rw[Uz];show Yf _ i1
   .rw[Uz]at h ⊢;rcases Yi.mp h with e|e
    .show Yi.mpr (.inl e)
    .show Yf _ (i2 g e)
def dz(f:Str)(v:V):∀fs:List (Str×V),(XO f v fs).length<=fs.length+1
 |[]=>by simp[XO]
 | (k,x)::r=>by
  let ih:=dz f v r;rw[show XO f v ((k,x)::r)=(if k=f then (k,v)::r else (k,x)::XO f v r) from Z];cases hk:k=f
  .rw[if_pos hk,YI,YI];lia
  .rw[if_neg hk,YI,YI];lia
def RelO.some_of{v:V}(r:RelO (some v) o):∃u,o=some u/\RelV v u:=by
 cases o with
 |none=>show(show False from r).elim
 |some u=>exists u,Z,r
def ZS8(r:RelV v u):PySem.W.handedIn u=true:=by
 cases v with
 |non=>cases (show u=Value.none from r);rfl
 |bl b=>cases (show u=Value.bool b from r);rfl
 |int i=>let⟨t,e⟩:=(show ∃t,u=Value.int i t from r);cases e;rfl
 |str x=>let⟨t,e⟩:=(show ∃t,u=Value.str x t from r);cases e;rfl
 |byt b=>let⟨t,e⟩:=(show ∃t,u=Value.bytes b t from r);cases e;rfl
 |flt b=>let⟨t,e⟩:=(show ∃t,u=Value.float b t from r);cases e;rfl
 |ref a=>cases (show u=Value.ref a from r);rfl
 |ty n=>cases (show u=Value.type n from r);rfl
section
variable{P:Program}{w:World}{H:Hp}{h:Heap}{a C dx:Addr}{fs:List (Str×V)}
def rq(hok:HOk P w H h)(e:H a=some (.ins C dx fs)):∃mA,ObjM h a dx C mA/\(∀f,RelO (fs.lookup f) (mA f))/\PySem.Within mA (fs.map (·.1))/\fs.length<=1000/\H dx=some (.own a):=by let⟨d,z,ne,ob,mA,n,r,q⟩:=(show ObjOk P w H h a (.ins C dx fs) from hok a _ e);exists mA,⟨ob,n,ne⟩,r,q,z,d
end
structure Cls(K:Ad)(C:Addr):Prop where
 pg:PySem.W.plainGet K C Str.empty=true
 hd:PySem.W.hasDictIn K C=true
 po:PySem.W.plainOver K C=true
 sa:PySem.W.findIn K ↑C "__setattr__"=some (some<|.builtin "object.__setattr__")
def Cls.get{K:Ad}{C:Addr}(c:Cls K C)(f:Str):PySem.W.plainGet K C f=true:=c.pg
def NoAttr(K:Ad)(C:Addr)(f:Str):(Prop):=PySem.W.findIn K ↑C f=some none
def NoAttr.taker{K:Ad}{C:Addr}{f:Str}(n:NoAttr K C f):PySem.W.takerIn K C f=some none:=by unfold PySem.W.takerIn;rw[show PySem.W.findIn K ↑C f=some none from n];rfl
section
variable{X:Cx}{pins:List (Addr×Obj)}{σ:St}{H:Hp}{s:Shared}{a C dx:Addr}{fs:List (Str×V)}{f:Str}{v:V}{A:Around}{E:Ae}
def Zx7{Q:Ae}(I:Inv X pins σ H s)(e:H a=some (.ins C dx fs))(c:Cls X.K C)(n:NoAttr X.K C f)(l:fs.lookup f=some v)
  (h:∀u s',Inv X pins σ H s'->RelV v u->Q u s'):wpAny (model X.prog X.w) A (getAttr ↑a f b) Q E s:=by let⟨mA,O,r,_,_,_⟩:=rq I.hok e;let⟨u,hu,ru⟩:=RelO.some_of (v:=v) (o:=mA f) (by rw[<-l];show r f);show rD I.kIn O (c.get f) c.hd n hu (ZS8 ru) (h u _ (I.tok _) ru)
def ZO6{Q:Unit->Shared->Prop}(I:Inv X pins σ H s)(e:H a=some (.ins C dx fs))(c:Cls X.K C)(n:NoAttr X.K C f)(hl:fs.length<1000)(ry:RelV y u)
  (h:∀s',Inv X pins σ (upd H a<|.ins C dx<|XO f y fs) s'->Q () s'):wpAny (model X.prog X.w) A (setAttr ↑a f u) Q E s:=by
 let⟨mA,O,r,wi,_,ho⟩:=rq I.hok e;let hz:(fs.map (·.1)).length<=sizeLine:=by rw[Yc,TM];lia
 show rC I.kIn O c.sa c.po n.taker c.hd wi hz λh' O' sb=>h _ ?_;let hd:∃o,h'.get? dx=some o:=by let⟨o,_,_,e',_⟩:=O'.ns;exists o,e'
 show I.write (x:=a) (e:=dx) (by rw[e];show True.intro) (.inr ho) (λb q hb z=>(sb.2 b hb).trans z) hd ?_;exists by rw[XJ O.ne];show ho,?_,O.ne,O'.obj,_,O'.ns,λg=>?_,λg hg=>?_
 .have:=dz f y fs;lia
 .change RelO ((XO f y fs).lookup g) (if g=f then some u else mA g);rw[Ds];cases q:g=f
  .rw[if_pos q,if_pos q];show ry
  .rw[if_neg q,if_neg q];show r g
 .cases q:g=f
  .rw[q];show(rz f y fs).1
  .show(rz f y fs).2 g (wi g λz=>hg ?_);change(if g=f then some u else mA g)=none
   rwa[if_neg q]
def Inv.made(I:Inv X pins σ H s):Inv X pins σ (upd (upd H (~~~s) (.own ((~~~s)+1))) ((~~~s)+1) (.ins C (~~~s) []))
  {s with heap:=(s.heap.push PySem.W.emptyDict).push (PySem.W.instObj C (~~~s))}:=by
 let e1:(s.heap.push PySem.W.emptyDict).get? (~~~s)=some PySem.W.emptyDict:=Yo s.heap rfl;let e2:((s.heap.push PySem.W.emptyDict).push (PySem.W.instObj C (~~~s))).get? ((~~~s)+1)=some (PySem.W.instObj C (~~~s)):=by
  have:=Yo (s.heap.push PySem.W.emptyDict) (o:=PySem.W.instObj C (~~~s)) rfl
  rwa[MB]at this
 let e3:(s.heap.push PySem.W.emptyDict).Ns (~~~s) (λ_=>none):=⟨PySem.W.emptyDict,#[],_,e1,Z,λe he=>absurd he B,λ_=>rfl⟩;let I1:=I.laid (a:=(~~~s)) (o:=.own<|(~~~s)+1) (h':=s.heap.push PySem.W.emptyDict) (t':=s.toks) (λb u q=>Xf _ q) (XM _) ⟨_,e1⟩
 show I1.laid (a:=(~~~s)+1) (o:=.ins C (~~~s) []) (t':=s.toks) (λb u q=>Xf _ q) (xA<|MB _ _) ?_;let ne:(~~~s)≠(~~~s)+1:=YD (Nn _)
 exists by rw[XJ ne,XR],Yk _,ne,e2,λ_=>none,(Heap.Ns1.of_empty e3).at λo q=>Xf _ q,λ_=>True.intro,λy hy=>absurd Z hy
def rp{pos:Pos}{Q:Ae}(hb:attributeBase e f env (eval e env)=eval e env)
  (h:wpAny (model prog w) A (eval e env) (λo s₁=>wpAny (model prog w) A (getAttr o f true) Q E s₁) E s):wpAny (model prog w) A (eval (.Attribute e f pos) env) Q E s:=
 Attribute_any_ h (by rw[arm_eval_Attribute,hb])
end
inductive xFld(K:Ad)(f:Str)(x:V)(H1:Hp)(Q:VK):Prop
 |mk (a C dx fs v:_) (_:x=.ref a) (_:H1 a=some (.ins C dx fs)) (_:Cls K C) (_:NoAttr K C f) (_:fs.lookup f=some v) (_:Q v H1)
def Dr(K:Ad)(ta:TE)(f:Str):(TE):=λσ H Q=>ta σ H λx H1=>xFld K f x H1 Q
def rn(K:Ad)(ta tv:TE)(f:Str):(TS):=λsP σ H=>tv σ H λy H1=>ta σ H1 λx H2=>∃a C dx fs,x=.ref a/\H2 a=some (.ins C dx fs)/\Cls K C/\NoAttr K C f/\fs.length<1000/\
 sP.nx σ (upd H2 a<|.ins C dx<|XO f y fs)
section
variable{X:Cx}{o e value:Expr}{f:Str}{pos pos':Pos}{ta tv:TE}
def rm(he:PE X e ta)(hb:attributeBase e f X.env (eval e X.env)=eval e X.env):PE X (.Attribute e f pos) (Dr X.K ta f):=by intro pins s σ H Q I h;show rp hb (thn (he pins s σ H _ I h) λu s1 Xs=>?_);let⟨x,H1,I1,rx,a,C,dx,fs,v,ex,ea,c,n,l,q⟩:=Xs;subst ex;let rfl:u=Value.ref a:=rx;show Zx7 I1 ea c n l λu' s2 I2 ru=>⟨v,H1,I2,ru,q⟩
def Mg(ha:PE X o ta)(hv:PE X value tv)(hs:swapsWith value (some (.Attribute o f pos')) pos.line X.env=pure false):PS X (.Assign [.Attribute o f pos'] value pos) (rn X.K ta tv f):=by intro pins s σ H sP I h;show plainObj_wpAny_Assign_Attribute (thn (hv pins s σ H _ I h) λu s1 zz=>?_) hs;let⟨y,H1,I1,ry,q⟩:=zz;show thn (ha pins s1 σ H1 _ I1 q) λov s2 Xs=>?_;let⟨x,H2,I2,rx,a,C,dx,fs,ex,ea,c,n,l,q2⟩:=Xs;subst ex;let rfl:ov=Value.ref a:=rx;show ZO6 I2 ea c n l ry λs3 I3=>⟨σ,_,I3,q2⟩
end
section
variable{X:Cx}{pins:List (Addr×Obj)}{σ:St}{H:Hp}{s:Shared}{A:Around}{E:Ae}{Q:Ae}{c:Value}{b:Bool}
inductive TyOf(K:Ad)(H:Hp):V->Value->Prop where
 |non:TyOf K H .non (.type "NoneType")
 |bl (x:Bool):TyOf K H (.bl x) (.type "bool")
 |int (i:Int):TyOf K H (.int i) (.type "int")
 |str (x:Str):TyOf K H (.str x) (.type "str")
 |flt (x:UInt64):TyOf K H (.flt x) (.type "float")
 |lst {a:Addr} {xs:List V} (e:H a=some (.lst xs)):TyOf K H ↑a (.type "list")
 |frz {a:Addr} {o:Obj} {xs:List V} (e:H a=some (.frz o<|.lst xs)):TyOf K H ↑a (.type "list")
 |tup {a:Addr} {xs:List V} (e:H a=some (.tup xs)):TyOf K H ↑a (.type "tuple")
 |dK {a:Addr} {kvs:List (Key×V)} (e:H a=some (.dK kvs)):TyOf K H ↑a (.type "dict")
 |dT {a:Addr} {kvs:List (List Key×V)} (e:H a=some (.dT kvs)):TyOf K H ↑a (.type "dict")
 |ins {a C dx:Addr} {fs:List (Str×V)} (e:H a=some (.ins C dx fs)) (cl:Cls K C) (ha:PySem.W.findIn K ↑C "__class__"=some (some<|.builtin "object.__class__"))
   (hn:PySem.W.specialIn K (.builtin "object.__class__") "__get__"=some (some<|.builtin "getset_descriptor.__get__"))(dy:PySem.W.takesIn K (.builtin "object.__class__")=some true)
   (hm:PySem.W.mroIn K C (.type "object")=some true):TyOf K H ↑a ↑C
def ZL8(I:Inv X pins σ H s)(rx:RelV x u)(ty:TyOf X.K H x t)(e:PySem.W.kitOne X.K t c=some b)(h:∀tk,Q (.bool b) {s with toks:=tk}):
  wpAny (model X.prog X.w) A (call (.builtin "isinstance") [u,c]) Q E s:=by
 cases ty with
 |non=>cases (show u=Value.none from rx);show PD PySem.W.kitx_none I.kIn True.intro e (λz=>nomatch z) h
 |bl y=>cases (show u=Value.bool y from rx);show PD PySem.W.kitx_bool I.kIn True.intro e (λz=>nomatch z) h
 |int i=>let⟨t,q⟩:=(show ∃t,u=Value.int i t from rx);cases q;show PD PySem.W.kitx_int I.kIn True.intro e (λz=>nomatch z) h
 |str y=>let⟨t,q⟩:=(show ∃t,u=Value.str y t from rx);cases q;show PD PySem.W.kitx_str I.kIn True.intro e (λz=>nomatch z) h
 |flt y=>let⟨t,q⟩:=(show ∃t,u=Value.float y t from rx);cases q;show PD PySem.W.kitx_float I.kIn True.intro e (λz=>nomatch z) h
 |@lst a xs ea=>
  cases (show u=Value.ref a from rx);let⟨_,_,n,_,h1⟩:=(show ObjOk X.prog X.w H s.heap a (.lst xs) from I.hok a _ ea);show PD PySem.W.kitx_list I.kIn ⟨_,h1,Z⟩ e (λz=>nomatch z) h
 |@frz a ob xs ea=>
  cases (show u=Value.ref a from rx);let⟨_,_,_,n,_,h1⟩:=(show ObjOk X.prog X.w H s.heap a (.frz ob<|.lst xs) from I.hok a _ ea);show PD PySem.W.kitx_list I.kIn ⟨_,h1,Z⟩ e (λz=>nomatch z) h
 |@tup a xs ea=>
  cases (show u=Value.ref a from rx);let⟨_,_,_,p⟩:=(show ObjOk X.prog X.w H s.heap a (.tup xs) from I.hok a _ ea);let⟨o,h1,h2,_⟩:=p;show PD PySem.W.kitx_tuple I.kIn ⟨o,h1,h2⟩ e (λz=>nomatch z) h
 |@dK a kvs ea=>
  cases (show u=Value.ref a from rx);let⟨_,_,vs,_,p⟩:=(show ObjOk X.prog X.w H s.heap a (.dK kvs) from I.hok a _ ea);let⟨o,es,ep,h1,h2,_⟩:=p;show PD PySem.W.kitx_dict I.kIn ⟨o,h1,h2.1⟩ e (λz=>nomatch z) h
 |@dT a kvs ea=>
  cases (show u=Value.ref a from rx);let⟨_,_,xs,_,o,es,ep,h1,h2,_⟩:=(show ObjOk X.prog X.w H s.heap a (.dT kvs) from I.hok a _ ea);show PD PySem.W.kitx_dict I.kIn ⟨o,h1,h2.1⟩ e (λz=>nomatch z) h
 |@ins a C dx fs ea cl ha hn dy hm=>
  cases (show u=Value.ref a from rx);let⟨mA,O,_⟩:=rq I.hok ea;let⟨od,AP,_⟩:=O.look;show PD (PySem.W.kitx_own (cl.get _) cl.hd ha hn dy hm) I.kIn AP e (λz=>nomatch z) h
end
structure Room(k:Nat)(A:Around):Prop where
 hd:A.handled=none
 dp:A.depth+3*k+5<recursionLimit
 un:A.units+16*k+200<cLine
def Room.mono(r:Room k A)(h:j<=k):Room j A:=⟨r.hd,by have:=r.dp;lia,by have:=r.un;lia⟩
def Room.deeper(r:Room (k+1) A)(env:Env):Room k (A.deeper env):=
 ⟨r.hd,by have:=r.dp;change A.depth+1+3*k+5<_;lia,by have:=r.un;change A.units+3+16*k+200<_;lia⟩
def Room.in1(r:Room (k+1) A):Room k A.in1:=
 ⟨r.hd,by have:=r.dp;change A.depth+3*k+5<_;lia,by have:=r.un;change A.units+1+16*k+200<_;lia⟩
def Ze7{A:Around}{C:Addr}{us:Ag}{kw:List (Str×Value)}:(A.under (.builtin "type.__call__" ⟨.ref C::us,kw⟩)).depth=A.depth+1:=by
 first|rfl|simp[Around.under,Code.weight,Code.isCreation,Code.isGuard,Code.isCaller,Code.frames,Code.isFrame,guardIds]
def Zd7{A:Around}{C:Addr}{us:Ag}{kw:List (Str×Value)}:(A.under (.builtin "type.__call__" ⟨.ref C::us,kw⟩)).units=A.units+1:=by
 first|rfl|simp[Around.under,Code.cUnits,Code.frames,Code.isFrame]
def Room.make(r:Room (k+1) A)(C:Addr)(us:Ag)(kw:List (Str×Value)):Room k (A.under (.builtin "type.__call__" ⟨.ref C::us,kw⟩)):=
 ⟨r.hd,by have:=r.dp;rw[Ze7];lia,by have:=r.un;rw[Zd7];lia⟩
def Room.depth(r:Room k A):A.depth<recursionLimit:=by have:=r.dp;lia
def Room.units(r:Room k A):A.units+64<cLine:=by have:=r.un;lia
def Mf:(TA):=λ_ H Q=>Q [] H
def OY(ta:TE)(tr:TA):(TA):=λσ H Q=>ta σ H λx H1=>tr σ H1 λxs H2=>Q (x::xs) H2
section
variable{X:Cx}{e:Expr}{es:List Expr}{te:TE}{t:TA}{pos:Pos}
def XT:PA X [] Mf:=λ_ _ _ _ H Q I h=>II ⟨[],H,I,.nil,h⟩
def XY(ha:PE X e te)(hr:PA X es t)(hs:starEach (e::es) X.env=(false,eval e X.env)::starEach es X.env:=by rfl):PA X (e::es) (OY te t):=by
 intro pos pins s σ H Q I h;rw[hs];change wpAny _ _ (spliced<|(false,eval e X.env)::backTo pos (starEach es X.env)) _ _ s
 show tN (thn (ha pins s σ H _ I h) λu s1 Xs=>?_);let⟨x,H1,I1,r1,q1⟩:=Xs;show thn (hr pos pins s1 σ H1 _ I1 q1) λus s2 zz=>by let⟨xs,H2,I2,r2,q2⟩:=zz;exists x::xs,H2,I2,.cons r1 r2,q2
inductive xTup(xs:List V)(H1:Hp)(Q:VK):Prop
 |mk (_:xs.length<=sizeLine) (_:∀p,H1 p=none->Q ↑p (upd H1 p<|.tup xs))
def rj(t:TA):(TE):=λσ H Q=>t σ H λxs H1=>xTup xs H1 Q
inductive xLst(xs:List V)(H1:Hp)(Q:VK):Prop
 |mk (_:xs.length<=sizeLine) (_:∀p,H1 p=none->Q ↑p (upd H1 p<|.lst xs))
def rh(t:TA):(TE):=λσ H Q=>t σ H λxs H1=>xLst xs H1 Q
def TF{x1}(h:PA X es t):PE X (.Tuple es x1 pos) (rj t):=by
 intro pins s σ H Q I hq;show wpAny_Tuple_spliced (thn (h pos pins s σ H _ I hq) λus s1 ⟨xs,H1,I1,r,z,q⟩=>⟨by rw[<-r.length];show z,?_⟩);let hf:H1 (~~~s1)=none:=I1.hok.fresh (XM _)
 exists .ref (~~~s1),upd H1 (~~~s1)<|.tup xs,I1.laid (t':=s1.toks) (λb u e=>Xf _ e) (XM _) ?_,Z,q _ hf;exists z,us,r,⟨_,Yo _ Z,Z,_,Z⟩
def TY(h:PA X es t):PE X (.List es pos) (rh t):=by
 intro pins s σ H Q I hq;show wpAny_List_spliced (thn (h pos pins s σ H _ I hq) λus s1 ⟨xs,H1,I1,r,z,q⟩=>⟨by rw[<-r.length];show z,?_⟩);let hf:H1 (~~~s1)=none:=I1.hok.fresh (XM _)
 exists .ref (~~~s1),upd H1 (~~~s1)<|.lst xs,I1.laid (t':=s1.toks) (λb u e=>Xf _ e) (XM _) ?_,Z,q _ hf;exists z,us,0,r,Yo _ Z
end
abbrev Sp:=List V->Hp->VK->XK->Prop
abbrev Qa:=List Env->Hp->Shared->XK->Ae
structure Env0(P:Program)(w:World)(K:Ad)(mg:Af)(base:Heap)(A:Around)(outer:List Env)(s:Shared)(H:Hp):Prop where
 frames:A.frames=some outer
 mod:Mod K mg base
 bs:∀b o,base.get? b=some o->s.heap.get? b=some o/\H b=none
 bsz:base.objs.size<=(~~~s)
 funs:s.heap.FunFrames base outer
 frf:∀b∈TJ outer,H b=none
 hok:HOk P w H s.heap
 bare:AllBare s.gens
def CE(outer:List Env)(P:Program)(w:World)(H:Hp)(s:Shared)(Q:VK)(u:Value)(s':Shared):(Prop):=
 ∃v H',s'.os=s.os/\AllBare s'.gens/\Un (TJ outer) [] H H' s.heap s'.heap/\HOk P w H' s'.heap/\RelV v u/\Q v H'
def CR(CX:Qa)(outer:List Env)(P:Program)(w:World)(H:Hp)(s:Shared)(Q:VK)(E:XK)(r:Result)(s':Shared):(Prop):=
 match r with
 | .ok (.ret u)=>CE outer P w H s Q u s'
 | .ok _=>False
 | .error e=>CX outer H s E e s'
structure FnOk(P:Program)(w:World)(K:Ad)(mg:Af)(base:Heap)(CX:Qa)(k:Nat)(f:Addr)(fd:FuncData)(ps:List Str)(sp:Sp):Prop where
 len:∀vs H Q E,sp vs H Q E->vs.length=ps.length
 run:∀(A:Around)(outer:List Env)(s:Shared)(H:Hp)(args:Args)(us:Ag)(vs:List V)(Q:VK)(E:XK),Room k A->Env0 P w K mg base A outer s H->BindsTo s fd args (ps.zip us)->Vals vs us->sp vs H Q E->
  codeAny (model P w) A (.call ↑f args) (CR CX outer P w H s Q E) s
def Env0.make{P:Program}{w:World}{K:Ad}{mg:Af}{base:Heap}{A:Around}{outer:List Env}{s:Shared}{H:Hp}(e:Env0 P w K mg base A outer s H)(C:Addr)(us:Ag)(kw:List (Str×Value)):
  Env0 P w K mg base (A.under<|.builtin "type.__call__" ⟨.ref C::us,kw⟩) outer s H:=⟨by first|show e.frames|(simpa[Around.under,Code.envs,Code.isFrame,pushEnvs] using e.frames),e.mod,e.bs,e.bsz,e.funs,e.frf,e.hok,e.bare⟩
def Env0.in1{P:Program}{w:World}{K:Ad}{mg:Af}{base:Heap}{A:Around}{outer:List Env}{s:Shared}{H:Hp}(e:Env0 P w K mg base A outer s H):
  Env0 P w K mg base A.in1 outer s H:=⟨e.frames,e.mod,e.bs,e.bsz,e.funs,e.frf,e.hok,e.bare⟩
section
variable{X:Cx}{pins:List (Addr×Obj)}{σ:St}{H:Hp}{s s':Shared}
def Inv.env0(I:Inv X pins σ H s):Env0 X.prog X.w X.K X.mg X.base X.A X.stack s H:=
 ⟨I.ok.frames,I.ok.mod,I.bs,Yn I.ok.bsz I.sz,I.stack,I.stkFree,I.hok,I.bare⟩
def Inv.after(I:Inv X pins σ H s)(h:CE X.stack X.prog X.w H s Q u s'):EP X pins σ Q u s':=by let⟨v,H',os,bare,un,hok,r,q⟩:=h;let⟨hh,g,d,t,rf⟩:=s';let rfl:rf=s.os:=os;exists v,H',I.call (h':=hh) (g':=g) (d':=d) (t':=t) (ch:=[]) un hok bare λb z=>absurd z B,r,q
end
def Dq(sp:Sp)(RX:List V)(E:XK)(t:TA):(TE):=λσ H Q=>t σ H λvs H1=>sp (vs++RX) H1 Q E
def rd(C:Addr)(sp:Sp)(RX:List V)(E:XK)(t:TA):(TE):=λσ H Q=>t σ H λvs H1=>∀x dx,H1 x=none->H1 dx=none->dx≠x->
 sp (.ref x::(vs++RX)) (upd (upd H1 dx<|.own x) x<|.ins C dx []) (λv H2=>v=.non/\Q ↑x H2) E
def Binds(K:Ad)(fd:FuncData)(ps:List Str)(ds:Ag):(Prop):=
 ∀(s:Shared)(us:Ag),K.In s.heap->(us++ds).length=ps.length->BindsTo s fd ⟨us,[]⟩ (ps.zip<|us++ds)
def Binds.all{K:Ad}{fd:FuncData}{ps:List Str}(h:∀us:Ag,us.length=ps.length->bindArgs fd ⟨us,[]⟩=pure (ps.zip us)):Binds K fd ps []:=λs us _ hl=>by rw[Yu]at hl ⊢;show .of_eq (h us hl)
def Fv(CX:Qa)(X:Cx)(E:XK):(Prop):=∀(pins:List (Addr×Obj))(σ:St)(H:Hp)(s:Shared)(e:Value)(s':Shared),Inv X pins σ H s->CX X.stack H s E e s'->X.xe e s'
section
variable{X:Cx}{CX:Qa}{k:Nat}{f C:Addr}{fd:FuncData}{ps:List Str}{sp:Sp}{RX:List V}{ds:Ag}{E:XK}{x:Str}{p pos:Pos}{e:Expr}{es:List Expr}{t:TA}
def q9(F:FnOk X.prog X.w X.K X.mg X.base CX k f fd ps sp)(hr:Room k X.A)(hb:Binds X.K fd ps ds)(hd:Vals RX ds)(hx:Fv CX X E)
  (I:Inv X pins σ H s)(r:Vals vs us)(h:sp (vs++RX) H Q E):wpAny (model X.prog X.w) X.A (call ↑f us) (EP X pins σ Q) X.xe s:=by
 let r2:Vals (vs++RX) (us++ds):=r.append hd;let hl:(us++ds).length=ps.length:=by rw[<-r2.length];show F.len _ _ _ _ h
 show DR (SR (F.run X.A X.stack s H ⟨us,[]⟩ (us++ds) (vs++RX) Q E hr I.env0 (hb s us I.kIn hl) r2 h) λr s' hq=>?_);cases r with
 |error e=>show hx pins σ H s e s' I hq
 |ok fl=>
  cases fl with
  |ret u=>show I.after hq
  |next=>show False.elim hq
  |brk=>show False.elim hq
  |cont=>show False.elim hq
def QO(F:FnOk X.prog X.w X.K X.mg X.base CX k f fd ps sp)(hr:Room k X.A)(hg:Gl X x)(hm:X.mg x=some ↑f)(hk:PySem.W.keepIn X.K ↑f=true)(hb:Binds X.K fd ps ds)(hd:Vals RX ds)(hx:Fv CX X E)
  (ha:PA X (e::es) t)(RW:(x == ("__debug__":Str))=false:=by decide)(he:starEach (e::es) X.env=(false,eval e X.env)::starEach es X.env:=by rfl)(UQ:(backTo pos<|starEach es X.env).any (·.1)=false:=by rfl):
  PE X (.Call (.Name x p) (e::es) [] pos) (Dq sp RX E t):=by intro pins s σ H Q I h;show Nv (sF I hg hm ?_ RW);show PySem.W.callWith_K (h₀:=X.base) I.ok.mod.kin hk (thn (ha pos pins s σ H _ I h) λus s1 ⟨vs,H1,I1,r,q⟩=>⟨I1.kIn,?_⟩) he UQ;show q9 F hr hb hd hx I1 r q
structure Mk(K:Ad)(C f:Addr):Prop where
 makes:PySem.W.makesIn K C=true
 init:PySem.W.findIn K ↑C "__init__"=some (some<|.ref f)
 fn:PySem.W.isFn K ↑f=true
 kp:PySem.W.keepIn K ↑C=true
def q8(M:Mk X.K C f)(F:FnOk X.prog X.w X.K X.mg X.base CX k f fd ps sp)(hr:Room (k+1) X.A)(hb:Binds X.K fd ps ds)(hd:Vals RX ds)
  (hx:Fv CX X E)(I:Inv X pins σ H s)(r:Vals vs us)
  (h:∀x dx,H x=none->H dx=none->dx≠x->sp (.ref x::(vs++RX)) (upd (upd H dx<|.own x) x<|.ins C dx []) (λv H2=>v=.non/\Q ↑x H2) E):
  wpAny (model X.prog X.w) X.A (call ↑C us) (EP X pins σ Q) X.xe s:=by
 let hq:=h ((~~~s)+1) (~~~s) (I.hok.fresh<|TZ _) (I.hok.fresh<|XM _) (YD<|Nn _);let I2:=Inv.made (C:=C) I
 let r2:Vals (V.ref ((~~~s)+1)::(vs++RX)) (Value.ref ((~~~s)+1)::(us++ds)):=.cons Z (r.append hd);let hl:(Value.ref ((~~~s)+1)::us++ds).length=ps.length:=by let e:=r2.length;rw[F.len _ _ _ _ hq]at e;show e.symm
 show DR (rB (f:=f) I.kIn M.makes M.init (QW.mp M.fn) (SR (F.run _ X.stack _ _ ⟨Value.ref ((~~~s)+1)::us,[]⟩ (Value.ref ((~~~s)+1)::(us++ds)) _ _ E (hr.make C us [])
  (I2.env0.make C us []) (hb _ (Value.ref ((~~~s)+1)::us) I2.kIn hl) r2 hq) λr s' Dp=>?_))
 cases r with
 |error e=>show hx pins σ _ _ e s' I2 Dp
 |ok fl=>
  cases fl with
  |ret u=>
   let⟨v,H',I3,rv,ev,q3⟩:=I2.after Dp;subst ev;exists rv,⟨V.ref<|(~~~s)+1,H',I3,Z,q3⟩
  |next=>show False.elim Dp
  |brk=>show False.elim Dp
  |cont=>show False.elim Dp
def Dn(M:Mk X.K C f)(F:FnOk X.prog X.w X.K X.mg X.base CX k f fd ps sp)(hr:Room (k+1) X.A)(hg:Gl X x)(hm:X.mg x=some ↑C)(hb:Binds X.K fd ps ds)(hd:Vals RX ds)(hx:Fv CX X E)
  (ha:PA X (e::es) t)(RW:(x == ("__debug__":Str))=false:=by decide)(he:starEach (e::es) X.env=(false,eval e X.env)::starEach es X.env:=by rfl)(UQ:(backTo pos<|starEach es X.env).any (·.1)=false:=by rfl):
  PE X (.Call (.Name x p) (e::es) [] pos) (rd C sp RX E t):=by intro pins s σ H Q I h;show Nv (sF I hg hm ?_ RW);show PySem.W.callWith_K (h₀:=X.base) I.ok.mod.kin M.kp (thn (ha pos pins s σ H _ I h) λus s1 ⟨vs,H1,I1,r,q⟩=>⟨I1.kIn,?_⟩) he UQ;show q8 M F hr hb hd hx I1 r q
end
structure FnScope(N P:List Str)(sc:Scope):Prop where
 kind:sc.kind=.function
 co:sc.isCoroutine=false
 gen:sc.isGenerator=false
 nd:N.Nodup
 pre:N.take P.length=P
 par:∀x∈P,sc.names.lookup x=some .local\/sc.names.lookup x=some .cell
 nofree:∀y∈sc.names,y.2≠.free
def dw{kindOf:Str->Option NameKind}:∀{binds:List (Str×Value)}{m:Af},(∀v,(x,v)∉binds)->bindL kindOf binds m x=m x
 |[],_,_=>rfl
 | (n,v)::r,m,h=>by
  unfold bindL;rw[dw λw hw=>h w (Yf _ hw)];split
  .have:x≠n:=by rintro rfl;show h v Yd
   simp[this]
  .rfl
def dv{kindOf:Str->Option NameKind}:∀{binds:List (Str×Value)}{m:Af},(∀v,(x,v)∉binds)->bindC kindOf binds m x=m x
 |[],_,_=>rfl
 | (n,v)::r,m,h=>by
  unfold bindC;rw[dv λw hw=>h w (Yf _ hw)];split
  .rfl
  .have:x≠n:=by rintro rfl;show h v Yd
   simp[this]
def du{kindOf:Str->Option NameKind}{x:Str}{v:Value}:∀{P:List Str}{vs:Ag}{i:Nat}{m:Af},P.Nodup->P[i]?=some x->vs[i]?=some v->kindOf x=some .local->
  bindL kindOf (P.zip vs) m x=some v
 |[],_,_,_,_,h,_,_=>by simp at h
 |_::_,[],_,_,_,_,h,_=>by simp at h
 |p::P,w::vs,0,m,nd,h1,h2,hk=>by
  simp at h1 h2;subst h1;subst h2;change bindL kindOf ((p,w)::P.zip vs) m p=_
  unfold bindL;rw[dw λv hv=>(Qi.mp nd).1 (tR hv).1,if_pos hk];simp
 |p::P,w::vs,i+1,m,nd,h1,h2,hk=>by change bindL kindOf ((p,w)::P.zip vs) m x=_;unfold bindL;show du (i:=i) (Qi.mp nd).2 (by simpa using h1) (by simpa using h2) hk
def dt{kindOf:Str->Option NameKind}{x:Str}{v:Value}:∀{P:List Str}{vs:Ag}{i:Nat}{m:Af},P.Nodup->P[i]?=some x->vs[i]?=some v->kindOf x≠some .local->
  bindC kindOf (P.zip vs) m x=some v
 |[],_,_,_,_,h,_,_=>by simp at h
 |_::_,[],_,_,_,_,h,_=>by simp at h
 |p::P,w::vs,0,m,nd,h1,h2,hk=>by
  simp at h1 h2;subst h1;subst h2;change bindC kindOf ((p,w)::P.zip vs) m p=_
  unfold bindC;rw[dv λv hv=>(Qi.mp nd).1 (tR hv).1,if_neg hk];simp
 |p::P,w::vs,i+1,m,nd,h1,h2,hk=>by change bindC kindOf ((p,w)::P.zip vs) m x=_;unfold bindC;show dt (i:=i) (Qi.mp nd).2 (by simpa using h1) (by simpa using h2) hk
def start(N:List Str)(vs:List V):(St):=vs.map some++List.replicate (N.length-vs.length) none
def TB(CX:Qa)(P:Program)(w:World)(K:Ad)(mg:Af)(base:Heap)(N:List Str)(qual:Str)(scope:Scope)(f:Addr)(cd:Value)(A:Around)(outer:List Env)(s:Shared)(H:Hp)(E:XK):(Cx) where
 prog:=P
 w:=w
 K:=K
 mg:=mg
 base:=base
 A:=A.deeper (envOfC qual scope (~~~s) f cd)
 N:=N
 s₀:=s
 H₀:=H
 env:=envOfC qual scope (~~~s) f cd
 outer:=outer
 stack:=envOfC qual scope (~~~s) f cd::outer
 ex:=[]
 calm:=true
 fn:=λ_=>true
 pn:=[]
 xe:=λe s'=>wpAny (model P w) (A.deeper<|envOfC qual scope (~~~s) f cd) (leaving (envOfC qual scope (~~~s) f cd) e) (λ_ Sq=>CX outer H s E e Sq) (λe' Sq=>CX outer H s E e' Sq) s'
def Dm{sc:Scope}(h:sc.names.lookup x=some .cell):∃c,(cellsFrom n sc.names []).lookup x=some c:=by let q:=eC sc.names n [] (.inl h);show uq.mp q
def ZN8{CX:Qa}{P:Program}{w:World}{K:Ad}{mg:Af}{base:Heap}{N ps:List Str}{qual:Str}{scope:Scope}{f:Addr}{cd:Value}{A:Around}{outer:List Env}{s s1:Shared}{H:Hp}{E:XK}{us:Ag}{vs:List V}
  (S:FnScope N ps scope)(hd:A.handled=none)(e0:Env0 P w K mg base A outer s H)(hl:vs.length=ps.length)(r:Vals vs us)
  (x:InCallC s (~~~s) (bindL (envOfC qual scope (~~~s) f cd).kindOf (ps.zip us) λ_=>none) (cellsFrom ((~~~s)+1) scope.names []) (bindC (envOfC qual scope (~~~s) f cd).kindOf (ps.zip us) λ_=>none) s1):
  Inv (TB CX P w K mg base N qual scope f cd A outer s H E) [] (start N vs) H s1:=by
 let UQ:ps.length<=N.length:=by have:=YV List.length S.pre;rw[Yh]at this;lia
 let⟨h1,tk,rfl,hk⟩:=x.done;let Ik:∀b:Addr,b∉(TB CX P w K mg base N qual scope f cd A outer s H E).ex:=λb z=>absurd (show b∈([]:List Addr) from z) B
 show⟨⟨e0.mod,S.kind,Z,Z,XM _,λy z c h1 h2=>?_,λy hy=>?_,λy c _ h=>?_,λ_=>hd,Around.frames_deeper e0.frames,.inr ⟨Z,Z⟩,λb z=>absurd z<|Ik b,e0.bs,e0.bsz,λb _ _=>Ik b,λb z=>absurd z<|Ik b,e0.funs,e0.frf⟩,
  rfl,e0.bare,Un.kept hk,⟨_,x.toInCall.ns,λi y v h1 h2 h3=>?_⟩,λy c h=>⟨_,x.cell y c h⟩,e0.hok.fresh<|XM _,λy c h=>?_,λp hp=>absurd (show p∈([]:List (Addr×Obj)) from hp) B,e0.hok.kept hk,?_⟩
 .show name_of_addr x.apart (Sb h1) (Sb h2)
 .let hy:scope.names.lookup y=some .cell\/scope.names.lookup y=some .free:=hy;rcases hy with hy|hy
  .show Dm hy
  .show absurd Z (S.nofree _<|Sb hy)
 .show Qf (x.above y c<|Sb h)
 .let hi:i<vs.length:=by
   unfold start at h2;cases hi:i<vs.length
   .show hi
   .rw[Ym (by simpa using hi)]at h2;rw[x9]at h2;split at h2<;>cases h2
  let ha:vs[i]?=some v:=by
   unfold start at h2;rw[Yp (by simpa using hi),Ys]at h2;cases e:vs[i]? with
   |none=>rw[e]at h2;cases h2
   |some a=>rw[e]at h2;cases h2;rfl
  let⟨u,hu,rv⟩:=r.get ha;let hp:ps[i]?=some y:=by rwa[<-S.pre,List.getElem?_take_of_lt J]
  let dr:ps.Nodup:=by rw[<-S.pre];show S.nd.sublist (MJ _ _)
  exists u,rv,?_;rcases S.par y (Xj hp) with k|k
  .show .inl ⟨k,du dr hp hu k⟩
  .let⟨c,e⟩:=Dm (n:=(~~~s)+1) k;show .inr ⟨.inl k,c,e,?_⟩;let q:=x.cell y c e
   rwa[dt dr hp hu (by change scope.names.lookup y≠_;rw[k];decide)]at q
 .show e0.hok.fresh (Qf<|x.above y c<|Sb h)
 .unfold start;change _=N.length
  rw[Xt,Yc,YU];grind
def Kp{CX:Qa}{P:Program}{w:World}{K:Ad}{mg:Af}{base:Heap}{k:Nat}{f:Addr}{name qual:Str}{params:Arguments}{body:List Stmt}{scope:Scope}{dV kV doc pm Xu ct oc:Value}{an od:Option Addr}
  {Tf:Array (Option Value)}{N ps:List Str}{sp:Sp}(lk:K.lookup f=some ⟨oc,od,.func<|PySem.W.fnOf name qual params body scope dV kV doc pm an Xu ct,Tf⟩)(Sr:PySem.W.codeIn K Xu qual=true)(S:FnScope N ps scope)
  (len:∀vs H Q E,sp vs H Q E->vs.length=ps.length)
  (VC:∀(A:Around)(outer:List Env)(s:Shared)(H:Hp)(vs:List V)(Q:VK)(E:XK),Room k (A.deeper<|envOfC qual scope (~~~s) f Xu)->sp vs H Q E->
   ∃t,PSs (TB CX P w K mg base N qual scope f Xu A outer s H E) body t/\t {nx:=λ_ H'=>Q .non H',rt:=Q} (start N vs) H):
  FnOk P w K mg base CX (k+1) f (PySem.W.fnOf name qual params body scope dV kV doc pm an Xu ct) ps sp:=by
 exists len,λA outer s H args us vs Q E hr e0 hb r Rr=>?_;let hl:=len _ _ _ _ Rr
 let KX:K.In s.heap:=e0.mod.kin.keeps λb o e=>(e0.bs b o e).1;let lim:s.heap.NoLimit:=e0.mod.nolimit.keeps λb o e=>(e0.bs b o e).1
 let Dl:∀y∈ps.zip us,scope.names.lookup y.1=some .local\/(scope.names.lookup y.1=some .cell/\((cellsFrom ((~~~s)+1) scope.names []).lookup y.1).isSome=true):=λ⟨n,v⟩ hy=>by
  rcases S.par n (tR hy).1 with q|q
  .show .inl q
  .show .inr ⟨q,eC _ _ _<|.inl q⟩
 show codeAny_call_function hr.depth (KX _ _ lk) Z S.co S.gen Z (PySem.W.codeRec_of KX Sr) (hb _ _ _ _ ?_);show wpAny_newFunctionEnv_cells S.kind Dl λenv he s1 x=>?_;subst he;exists lim.keeps x.toInCall.keep,codeAny_func ?_;let⟨t,ht,hq⟩:=VC A outer s H vs Q E (hr.deeper _) Rr;let I:Inv (TB CX P w K mg base N qual scope f Xu A outer s H E) [] (start N vs) H s1:=ZN8 S hr.hd e0 hl r x
 show Su (ht [] s1 (start N vs) H _ I hq) (λfl s' hs=>?_) λe s' hs=>hs;let fin:∀{σ':St}{H':Hp}{v:V}{u:Value},Inv (TB CX P w K mg base N qual scope f Xu A outer s H E) [] σ' H' s'->RelV v u->Q v H'->CE outer P w H s Q u s':=
  λ{σ' H' v u} AP rv q=>⟨v,H',AP.os,AP.bare,AP.base,AP.hok,rv,q⟩
 cases fl with
 |ret u=>
  let⟨v,σ',H',AP,rv,q⟩:=hs;show fin AP rv q
 |next=>
  let⟨σ',H',AP,q⟩:=hs;show fin (v:=V.non) (u:=Value.none) AP Z q
 |brk=>
  let⟨_,_,_,q⟩:=hs;show False.elim q
 |cont=>
  let⟨_,_,_,q⟩:=hs;show False.elim q
section
variable{X:Cx}{x:Str}{p pos:Pos}{e:Expr}{es:List Expr}{t:TA}{id T:String}{r:List V->Hp->VK->Prop}
def dq(r:List V->Hp->VK->Prop)(t:TA):(TE):=λσ H Q=>t σ H λvs H1=>r vs H1 Q
def Zh(hc:WB X (.builtin id) r)(hg:Gl X x)(hm:X.mg x=none)(hv:bootBuiltins x=some (.builtin id))(ha:PA X (e::es) t)(hn:x≠"__name__":=by decide)(RW:(x == ("__debug__":Str))=false:=by decide)
  (he:starEach (e::es) X.env=(false,eval e X.env)::starEach es X.env:=by rfl)(UQ:(backTo pos<|starEach es X.env).any (·.1)=false:=by rfl):PE X (.Call (.Name x p) (e::es) [] pos) (dq r t):=by intro pins s σ H Q I h;show Nv (Qd I hg hm hv ?_ hn RW);show eZ (thn (ha pos pins s σ H _ I h) λus s1 zz=>by let⟨vs,H1,I1,r1,q1⟩:=zz;show hc pins s1 σ H1 vs us Q I1 r1 q1) he UQ
def Zl(hc:WB X (.type T) r)(hg:Gl X x)(hm:X.mg x=none)(hv:bootBuiltins x=some (.type T))(ha:PA X (e::es) t)(hn:x≠"__name__":=by decide)(RW:(x == ("__debug__":Str))=false:=by decide)
  (he:starEach (e::es) X.env=(false,eval e X.env)::starEach es X.env:=by rfl)(UQ:(backTo pos<|starEach es X.env).any (·.1)=false:=by rfl):PE X (.Call (.Name x p) (e::es) [] pos) (dq r t):=by intro pins s σ H Q I h;show Nv (Qd I hg hm hv ?_ hn RW);show Jd (thn (ha pos pins s σ H _ I h) λus s1 zz=>by let⟨vs,H1,I1,r1,q1⟩:=zz;show hc pins s1 σ H1 vs us Q I1 r1 q1) he UQ
end
end L2
namespace HT
open PySem PyProof.Rows
def lexLt:(Ac->Ac->Bool)
 |[],[]=>false
 |[],_::_=>true
 |_::_,[]=>false
 |x::xs,y::ys=>if x=y then lexLt xs ys else decide (x<y)
def Xn(x y:Int)(xs ys:Ac):lexLt (x::xs) (y::ys)=if x=y then lexLt xs ys else decide (x<y):=rfl
section
variable{prog:Program}{w:World}{A:Around}{E:Ae}{s:Shared}
def Me{vs ws:Ag}{Q:Ae}(ht:IsTup s.heap t vs.toArray)(hb:IsTup s.heap b ws.toArray)(hv:vs≠[])
  (h1:ws=[]->Q ↑t s)(h2:ws≠[]->Q (.ref (~~~s)) {s with heap:=s.heap.push {cls:=.type "tuple",data:=.seq (vs++ws).toArray} })
  (hsz:vs.length+ws.length<=sizeLine):wpAny (model prog w) A (binaryOp .Add ↑t<|.ref b) Q E s:=by
 let⟨⟨cls,dd,data,sl⟩,ho,hc,n,hd⟩:=id ht;let⟨⟨qZ,xc,data2,xb⟩,RV,Ul,n2,hd2⟩:=id hb;simp only at hc hd Ul hd2;subst hc hd Ul hd2;let e:vs.toArray++ws.toArray=(vs++ws).toArray:=B
 cases hw:ws=[]
 .show concat_meets ⟨_,ho,Z⟩ ⟨_,RV,Z⟩ tE seq_tuple_add uh uj (ur _ _)
   (tuple_addW1 t b vs.toArray ws.toArray n n2 dd xc sl xb (by simpa using hv)<|by simp[hw]) ⟨ho,RV,h1 hw⟩
 .show concat_meets ⟨_,ho,Z⟩ ⟨_,RV,Z⟩ tE seq_tuple_add uh uj (ur _ _)
   (tuple_addW2 t b vs.toArray ws.toArray n n2 dd xc sl xb (by simpa using hv) (by simpa using hw)<|by rwa[Yb,Yb]) ⟨ho,RV,?_⟩
  rw[e];show h2 hw
def UP(n d:Nat):(Option Int->Nat)
 |none=>d
 |some v=>if v<0 then (v+(n:Int)).toNat else min v.toNat n
def SN(n d:Nat):UP n d none=d:=rfl
end
end HT
namespace L2
open PySem PySem.Spec PyProof.Rows
abbrev TO:=St->Hp->(Option Int->Hp->Prop)->Prop
def PO(X:Cx)(e:Option Expr)(t:TO):(Prop):=
 ∀(pins:List (Addr×Obj))(s:Shared)(σ:St)(H:Hp)(Q:Option Int->Hp->Prop),Inv X pins σ H s->t σ H Q->
  wpAny (model X.prog X.w) X.A (evalPart e X.env) (λu s'=>∃o H',Inv X pins σ H' s'/\IsPart u o/\Q o H') X.xe s
def qY:(TO):=λ_ H Q=>Q none H
inductive xPart(x:V)(H1:Hp)(Q:Option Int->Hp->Prop):Prop
 |mk (i:Int) (_:x=.int i) (_:Q (some i) H1)
def Dk(t:TE):(TO):=λσ H Q=>t σ H λx H1=>xPart x H1 Q
section
variable{X:Cx}{e:Expr}{te:TE}{lo hi:Option Expr}{tl th:TO}{pos p2:Pos}
def Ij:PO X none qY:=by intro pins s σ H Q I h;rw[evalPart_none];show Yl ⟨none,H,I,.none,h⟩
def Tz(h:PE X e te):PO X (some e) (Dk te):=by intro pins s σ H Q I hw;rw[evalPart_some];show thn (h pins s σ H _ I hw) λu s1 Xs=>?_;let⟨x,H1,I1,r1,q1⟩:=Xs;let⟨i,rfl,q⟩:=q1;let⟨t,rfl⟩:=r1;exists some i,H1,I1,.int i t,q
def qX(X:Cx)(r:V->Option Int->Option Int->Hp->VK->Prop):(Prop):=
 ∀(pins:List (Addr×Obj))(s:Shared)(σ:St)(H:Hp)(x:V)(v vl vu:Value)(lo hi:Option Int)(sl:Addr)(Q:VK),Inv X pins σ H s->RelV x v->s.heap.IsSliceOf sl vl vu .none->IsPart vl lo->IsPart vu hi->r x lo hi H Q->
  ∃T id,typeLookup (.type T) "__getitem__"=pure (some<|.builtin id)/\s.TypeIs v T/\wpAny (model X.prog X.w) X.A (getItem v<|.ref sl) (EP X pins σ Q) X.xe s
def tSl(r:V->Option Int->Option Int->Hp->VK->Prop)(te:TE)(tl th:TO):(TE):=λσ H Q=>te σ H λx H1=>tl σ H1 λl H2=>th σ H2 λu H3=>r x l u H3 Q
def Ko{r:V->Option Int->Option Int->Hp->VK->Prop}(hr:qX X r)(he:PE X e te)(hl:PO X lo tl)(hu:PO X hi th):PE X (.Subscript e (.Slice lo hi none p2) pos) (tSl r te tl th):=by
 intro pins s σ H Q I h;show Subscript_ (thn (he pins s σ H _ I h) λv s1 Xs=>?_);let⟨x,H1,I1,r1,q1⟩:=Xs;show wpAny_Slice (thn (hl pins s1 σ H1 _ I1 q1) λvl s2 zz=>?_);let⟨l,H2,I2,pl,q2⟩:=zz;show thn (hu pins s2 σ H2 _ I2 q2) λvu s3 Xs=>?_;let⟨u,H3,I3,pu,q3⟩:=Xs;rw[evalPart_none];show Yl ?_;let I4:Inv X pins σ H3 {s3 with heap:=s3.heap.push {cls:=.type "slice",data:=.fields #[vl,vu,.none]} }:=I3.kept (t':=s3.toks) λb ob q=>Xf _ q
 let⟨T,id,hT,ht,hg⟩:=hr pins {s3 with heap:=s3.heap.push {cls:=.type "slice",data:=.fields #[vl,vu,.none]} } σ H3 x v vl vu l u (~~~s3) Q I4 r1 (Heap.IsSliceOf.new ..) pl pu q3;change wpAny (model X.prog X.w) X.A (subscriptTail e (.Slice lo hi none p2) v<|.ref (~~~s3)) (EP X pins σ Q) X.xe {s3 with heap:=s3.heap.push {cls:=.type "slice",data:=.fields #[vl,vu,.none]} }
 show tail_any (ops:=[.ref (~~~s3),v]) ht hT hg (by with_unfolding_all rfl)
def Wx(xs:List V)(lo hi:Option Int):(List V):=(xs.drop<|HT.UP xs.length 0 lo).take (HT.UP xs.length xs.length hi-HT.UP xs.length 0 lo)
def xa(xs:List V)(lo hi:Option Int):(Wx xs lo hi).length<=xs.length:=by unfold Wx;rw[Yh,WE];lia
def Dj(K:Ad):(R2):=λx y H Q=>∃a b xs ys,x=.ref a/\y=.ref b/\SqT K H a xs/\SqT K H b ys/\xs≠[]/\xs.length+ys.length<=sizeLine/\
 (ys=[]->Q ↑a H)/\(ys≠[]->∀p,H p=none->Q ↑p (upd H p<|.tup<|xs++ys))
def Vals.nil_iff(r:Vals xs us):us=[]↔xs=[]:=by
 cases r with
 |nil=>simp
 |cons _ _=>simp
def qW:Wy X (binaryOp .Add) (Dj X.K):=by intro pins s σ H x y v u Q I rx ry h;let⟨a,b,xs,ys,rfl,rfl,ha,hb,hx,hz,q1,q2⟩:=h;cases rx;cases ry;let⟨XX,r1,p1,_⟩:=I.tuple ha;let⟨Vs,r2,p2,_⟩:=I.tuple hb;show HT.Me p1 p2 (λz=>hx<|r1.nil_iff.mp z) (λz=>⟨.ref a,H,I,Z,q1<|r2.nil_iff.mp z⟩) (λz=>?_) (by rwa[<-r1.length,<-r2.length]);exists .ref (~~~s),_,I.laid (t':=s.toks) (o:=.tup<|xs++ys) (λb ob q=>Xf _ q) (XM _) ?_,Z,q2 (λw=>z<|r2.nil_iff.mpr w) _<|I.hok.fresh<|XM _;exists by rw[Xt];show hz,_,r1.append r2,IsTup.new _ _
end
def Md(n:Nat)(i:Int):(Option Nat):=if 0<=i then (if i<n then some i.toNat else none) else if -(n:Int)<=i then some (i+n).toNat else none
def We{α:Type}(xs:List α)(i:Int):(Option α):=(Md xs.length i).bind λj=>xs[j]?
def dk{j:Nat}(h:Md n i=some j):seqIndex? i n=some j/\j<n/\-(n:Int)<=i/\i<n:=by
 unfold Md at h;cases h0:0<=i
 .rw[if_pos h0]at h;cases h1:i<n
  .rw[if_pos h1]at h;let e:i.toNat=j:=Ye h
   exists by rw[seqIndex_of h0 h1,e],J,J,h1
  .rw[if_neg h1]at h;cases h
 .rw[if_neg h0]at h;cases h1:-(n:Int)<=i
  .rw[if_pos h1]at h;let e:(i+n).toNat=j:=Ye h
   exists by rw[seqIndex_neg J h1,e],J,h1,J
  .rw[if_neg h1]at h;cases h
def Km{α:Type}{xs:List α}{i:Int}{v:α}(h:We xs i=some v):∃j,seqIndex? i xs.length=some j/\xs[j]?=some v/\j<xs.length/\-xs⁻¹<=i/\i<xs.length:=by
 unfold We at h;cases e:Md xs.length i with
 |none=>rw[e]at h;cases h
 |some j=>
  rw[e]at h;let⟨h1,h2,h3,h4⟩:=dk e;exists j,h1,h,h2,h3,h4
def qV(b:Expr):(Prop):=∀o i,subscripted b false o i=operate [o,i] (getItem o i)
def Di(X:Cx)(r:R2):(Prop):=
 ∀(value slice:Expr)(pins:List (Addr×Obj))(s:Shared)(σ:St)(H:Hp)(x y:V)(v u:Value)(Q:VK),Inv X pins σ H s->RelV x v->RelV y u->r x y H Q->
  subscripted slice false v u=operate [v,u] (getItem v u)->wpAny (model X.prog X.w) X.A (subscriptTail value slice v u) (EP X pins σ Q) X.xe s
def w9(X:Cx)(id:String)(r:V->List V->Hp->VK->Prop):(Prop):=
 ∀(pins:List (Addr×Obj))(s:Shared)(σ:St)(H:Hp)(x:V)(xs:List V)(v:Value)(us:Ag)(Q:VK),Inv X pins σ H s->RelV x v->Vals xs us->r x xs H Q->
  wpAny (model X.prog X.w) X.A (call (.builtin id)<|v::us) (EP X pins σ Q) X.xe s
section
variable{X:Cx}{a b:Expr}{ta tb:TE}{pos:Pos}
def ZL(hr:Di X r)(ha:PE X a ta)(hb:PE X b tb)(hs:qV b):PE X (.Subscript a b pos) (xh r ta tb):=by intro pins s σ H Q I h;show Subscript_ (Iu ha hb I h λv u s2 x y H2 I2 rx ry q=>hr a b pins s2 σ H2 x y v u Q I2 rx ry q<|hs _ _)
inductive rIxL(K:Ad)(x:V)(y:V)(H:Hp)(Q:VK):Prop
 |mk (p xs i v:_) (_:x=.ref p) (_:y=.int i) (_:SqL K H p xs) (_:We xs i=some v) (_:Q v H)
inductive rIxT(K:Ad)(x:V)(y:V)(H:Hp)(Q:VK):Prop
 |mk (p xs i v:_) (_:x=.ref p) (_:y=.int i) (_:SqT K H p xs) (_:We xs i=some v) (_:Q v H)
def Dh:Di X (rIxL X.K):=by
 intro value slice pins s σ H x y v u Q I rx ry h hs;let⟨p,xs,i,z,rfl,rfl,hq,he,q⟩:=h;cases rx;let⟨t,rfl⟩:=ry;let⟨XX,r,pl,hz⟩:=I.list hq;let⟨j,h1,h2,h3,h4,h5⟩:=Km he;let⟨w,ew,Ii⟩:=r.get h2;let hl:=r.length
 let hn:=Dt;let fin:EP X pins σ Q w s:=⟨z,H,I,Ii,q⟩
 cases h0:0<=i
 .let hj:i.toNat=j:=by rw[seqIndex_of h0 h5]at h1;show Ye h1
  show item_listR pl.isList h0 J (by rw[hj];simpa using ew) fin hs
 .let hj:(i+(XX.toArray.size:Int)).toNat=j:=by rw[seqIndex_neg J h4]at h1;rw[Yb,<-hl];show Ye h1
  show subscriptTail_builtinR (x:=w) pl.isList.typeIs slot_list_getitem.lookup
   (wpAny_getItem_list_neg (Q:=λr s'=>r=w/\EP X pins σ Q r s') pl.isList D (by rw[Yb]<;>lia) J (by rw[hj];simpa using ew) ⟨rfl,fin⟩) hs
def qU:Di X (rIxT X.K):=by
 intro value slice pins s σ H x y v u Q I rx ry h hs;let⟨p,xs,i,z,rfl,rfl,hq,he,q⟩:=h;cases rx;let⟨t,rfl⟩:=ry;let⟨XX,r,pl,hz⟩:=I.tuple hq;let⟨j,h1,h2,h3,h4,h5⟩:=Km he;let⟨w,ew,Ii⟩:=r.get h2;let hl:=r.length
 let hn:=Dt;let fin:EP X pins σ Q w s:=⟨z,H,I,Ii,q⟩
 show subscriptTail_builtinR (x:=w) pl.typeIs slot_tuple_getitem.lookup
  (getItem_tuple (j:=j) (Q:=λr s'=>r=w/\EP X pins σ Q r s') pl J J (by rwa[Yb,<-hl]) (by simpa using ew) ⟨Z,fin⟩) hs
def Zc7(XX:Ag)(n j:Nat)(u:Value):Obj.mapSeq (·.setIfInBounds j u) {cls:=.type "list",data:=.seq XX.toArray n}={cls:=.type "list",data:=.seq (XX.set j u).toArray n}:=by simp[Obj.mapSeq]
def Inv.lst{pins:List (Addr×Obj)}{σ:St}{H:Hp}{s:Shared}{p:Addr}{xs:List V}(I:Inv X pins σ H s)(h:H p=some (.lst xs)):
  ∃(XX:Ag)(n:Nat),Vals xs XX/\s.heap.get? p=some {cls:=.type "list",data:=.seq XX.toArray n}/\xs.length<=sizeLine:=by let⟨z,XX,n,r,e⟩:=I.hok p _ h;exists XX,n,r,e,z
def Inv.lstUpd{p:Addr}{xs ys:List V}{XX its':Ag}{f:Obj->Obj}(I:Inv X pins σ H s)(h:H p=some (.lst xs))
  (ho:s.heap.get? p=some {cls:=.type "list",data:=.seq XX.toArray n})(hf:f {cls:=.type "list",data:=.seq XX.toArray n}={cls:=.type "list",data:=.seq its'.toArray n'})(r:Vals ys its')(hz:ys.length<=sizeLine)(t:Nat):
  Inv X pins σ (upd H p<|.lst ys) {s with heap:=s.heap.update p f,toks:=t}:=by
 let e:(s.heap.update p f).get? p=some {cls:=.type "list",data:=.seq its'.toArray n'}:=by rw[PF f ho (by rw[hf]<;>rfl),hf]
 show I.write (x:=p) (e:=p) (by rw[h];trivial) (.inl Z) (λb u hb q=>(VS _ _<|Xa hb).trans q) ⟨_,e⟩ ?_;exists hz,its',n',r,e
inductive rSetL(o:V)(i:V)(v:V)(H:Hp)(Q:Hp->Prop):Prop
 |mk (p xs k j:_) (_:o=.ref p) (_:i=.int k) (_:H p=some (.lst xs)) (_:Md xs.length k=some j) (_:Q (upd H p<|.lst<|xs.set j v))
def Dg:IB X rSetL:=by
 intro pins s σ H o i v ov iv u Q I ro ri rv h;let⟨p,xs,k,j,rfl,rfl,hp,hj,q⟩:=h;cases ro;let⟨t,rfl⟩:=ri;let⟨XX,n,r,ho,hz⟩:=I.lst hp;let⟨h1,h2,h3,h4⟩:=dk hj;let hl:=r.length
 let hn:=Dt;let I':Inv X pins σ (upd H p<|.lst<|xs.set j v) {s with heap:=s.heap.update p (Obj.mapSeq (·.setIfInBounds j u))}:=
  I.lstUpd hp ho (Zc7 XX n j u) (r.set rv j) (by rwa[MC]) s.toks
 cases h0:0<=k
 .let hk:k.toNat=j:=by rw[seqIndex_of h0 h4]at h1;show Ye h1
  show PySem.W.ki_setAt ho h0 J (by rwa[Yb,<-hl]) (by rw[hk];exists _,I',q)
 .let hk:(k+(XX.toArray.size:Int)).toNat=j:=by rw[seqIndex_neg J h3]at h1;rw[Yb,<-hl];show Ye h1
  show PySem.W.ki_setBack ho D (by rwa[Yb,<-hl]) J (by rw[hk];exists _,I',q)
def Zl4(lo hi:Option Int)(n:Nat):(sliceBounds lo hi none n).1=((HT.UP n 0 lo:Nat):Int)/\(sliceBounds lo hi none n).2.1=((HT.UP n n hi:Nat):Int)/\(sliceBounds lo hi none n).2.2=1:=by
 exists ?_,?_,Z
 .cases lo with
  |none=>simp[sliceBounds,HT.UP]
  |some i=>
   simp only[sliceBounds,HT.UP,Option.getD_none,show(1:Int)>0 by decide,US];cases h:i<0
   .simp only[h,US]<;>grind
   .simp only[h,Ss]<;>grind
 .cases hi with
  |none=>simp[sliceBounds,HT.UP]
  |some i=>
   simp only[sliceBounds,HT.UP,Option.getD_none,show(1:Int)>0 by decide,US];cases h:i<0
   .simp only[h,US]<;>omega
   .simp only[h,Ss]<;>omega
def ZV3(XX:Ag)(lo hi:Option Int):slicePick XX.toArray lo hi none=((XX.drop (HT.UP XX.length 0 lo)).take (HT.UP XX.length XX.length hi-HT.UP XX.length 0 lo)).toArray:=by let⟨h1,h2,h3⟩:=Zl4 lo hi XX.toArray.size;unfold slicePick;rw[h1,h2,h3];simp only[sliceRange_one,pick_run,Yb]<;>rfl
inductive rSlL(K:Ad)(x:V)(lo:Option Int)(hi:Option Int)(H:Hp)(Q:VK):Prop
 |mk (a xs:_) (_:x=.ref a) (_:SqL K H a xs) (_:∀p,H p=none->Q ↑p (upd H p<|.lst<|Wx xs lo hi))
def qT:qX X (rSlL X.K):=by
 intro pins s σ H x v vl vu lo hi sl Q I rx hs pl pu h;let⟨a,xs,rfl,hx,q⟩:=h;cases rx;let⟨XX,r,ht,hz⟩:=I.list hx;let hlen:=r.length
 exists "list",_,slot_list_getitem.lookup,ht.isList.typeIs,?_;show wpAny_getItem_list_slice ht.isList hs pl pu .none B ?_ (by rw[Yb]<;>lia)
 rw[ZV3,<-hlen];exists .ref (~~~s),_,I.laid (t':=s.toks) (o:=.lst<|Wx xs lo hi) (λb ob q=>Xf _ q) (XM _) ?_,Z,q _<|I.hok.fresh<|XM _;exists Yn (xa xs lo hi) hz,_,0,(r.drop<|HT.UP xs.length 0 lo).take (HT.UP xs.length xs.length hi-HT.UP xs.length 0 lo),Yo _ Z
def So:(V->Bool)
 | .non=>true
 | .bl _=>true
 | .int _=>true
 | .str _=>true
 |_=>false
def Sn:(V->V->Bool)
 | .non,.non=>true
 | .bl a,.bl b=>a == b
 | .bl a,.int b=>(if a then 1 else 0) == b
 | .int a,.bl b=>a == (if b then 1 else 0)
 | .int a,.int b=>a == b
 | .str a,.str b=>a == b
 |_,_=>false
def Df(ry:RelV y u)(rx:RelV x v)(fy:So y=true)(fx:So x=true):SeqAt.EqAt A s u v (Sn y x):=by
 cases y with
 |non=>
  cases ry;cases x with
  |non=>cases rx;show SeqAt.EqAt.same _
  |bl b=>cases rx;show SeqAt.EqAt.none_bool b
  |int b=>let⟨t,rfl⟩:=rx;show SeqAt.EqAt.none_int b t
  |str b=>let⟨t,rfl⟩:=rx;show SeqAt.EqAt.none_str b t
  |_=>show absurd (show false=true from fx) YG
 |bl a=>
  cases ry;cases x with
  |non=>cases rx;show SeqAt.EqAt.bool_none a
  |bl b=>cases rx;show SeqAt.EqAt.bool_bool a b
  |int b=>let⟨t,rfl⟩:=rx;show SeqAt.EqAt.bool_int a b t
  |str b=>let⟨t,rfl⟩:=rx;show SeqAt.EqAt.bool_str a b t
  |_=>show absurd (show false=true from fx) YG
 |int a=>
  let⟨t',rfl⟩:=ry;cases x with
  |non=>cases rx;show SeqAt.EqAt.int_none a t'
  |bl b=>cases rx;show SeqAt.EqAt.int_bool a t' b
  |int b=>let⟨t,rfl⟩:=rx;show SeqAt.EqAt.int_int a t' b t
  |str b=>let⟨t,rfl⟩:=rx;show SeqAt.EqAt.int_str a t' b t
  |_=>show absurd (show false=true from fx) YG
 |str a=>
  let⟨t',rfl⟩:=ry;cases x with
  |non=>cases rx;show SeqAt.EqAt.str_none a t'
  |bl b=>cases rx;show SeqAt.EqAt.str_bool a t' b
  |int b=>let⟨t,rfl⟩:=rx;show SeqAt.EqAt.str_int a t' b t
  |str b=>let⟨t,rfl⟩:=rx;show SeqAt.EqAt.str_str a t' b t
  |_=>show absurd (show false=true from fx) YG
 |_=>show absurd (show false=true from fy) YG
def Te(x:V)(u:Value):(Bool):=match u with
 | .none=>Sn .non x
 | .bool b=>Sn (.bl b) x
 | .int i _=>Sn (.int i) x
 | .str z _=>Sn (.str z) x
 |_=>false
def De(r:RelV y u)(f:So y=true):Te x u=Sn y x:=by
 cases y with
 |non=>cases r;rfl
 |bl b=>cases r;rfl
 |int i=>let⟨t,rfl⟩:=r;rfl
 |str z=>let⟨t,rfl⟩:=r;rfl
 |_=>show absurd (show false=true from f) YG
def w6{xs:List V}{us:Ag}(h:Vals xs us)(f:xs.all So=true):us.any (Te x)=xs.any λy=>Sn y x:=by
 induction h with
 |nil=>rfl
 |cons r t ih=>
  rw[List.all_cons,Ja]at f;rw[IV,IV,De r f.1,ih f.2]
def Dc(rx:RelV x v)(fx:So x=true){xs:List V}{us:Ag}(h:Vals xs us)(f:xs.all So=true):∀u∈us,SeqAt.EqAt A s u v (Te x u):=by
 induction h with
 |nil=>intro u hu;cases hu
 |cons r t ih=>
  intro u' hu;rw[List.all_cons,Ja]at f;rcases Yi.mp hu with rfl|hu
  .rw[De r f.1];show Df r rx f.1 fx
  .show ih f.2 u' hu
def Fu(x:V)(xs:List V):(Bool):=xs.any λy=>Sn y x
def dj(K:Ad)(neg:Bool):(R2):=λx y H Q=>∃p xs,y=.ref p/\(SqL K H p xs\/SqT K H p xs)/\So x=true/\xs.all So=true/\Q (.bl<|if neg then !Fu x xs else Fu x xs) H
def Zr8:Wy X (compareOp .In) (dj X.K false):=by
 intro pins s σ H x y v u Q I rx ry h;let⟨p,xs,rfl,hq,fx,fs,q⟩:=h;cases ry;rcases hq with hq|hq
 .let⟨XX,r,pl,hz⟩:=I.list hq;show SeqAt.in_listAt (Te x) pl.isList (λw hw=>Dc rx fx r fs w<|by simpa using hw) ⟨.bl _,H,I,Z,?_⟩;rwa[show XX.toArray.any (Te x)=XX.any (Te x) by simp,w6 r fs]
 .let⟨XX,r,pl,hz⟩:=I.tuple hq;show SeqAt.in_tupleAt (Te x) pl (λw hw=>Dc rx fx r fs w<|by simpa using hw) ⟨.bl _,H,I,Z,?_⟩;rwa[show XX.toArray.any (Te x)=XX.any (Te x) by simp,w6 r fs]
def Zp4:Wy X (compareOp .NotIn) (dj X.K true):=by
 intro pins s σ H x y v u Q I rx ry h;let⟨p,xs,rfl,hq,fx,fs,q⟩:=h;cases ry;rcases hq with hq|hq
 .let⟨XX,r,pl,hz⟩:=I.list hq;show SeqAt.notIn_listAt (Te x) pl.isList (λw hw=>Dc rx fx r fs w<|by simpa using hw) ⟨.bl _,H,I,Z,?_⟩;rwa[show XX.toArray.any (Te x)=XX.any (Te x) by simp,w6 r fs]
 .let⟨XX,r,pl,hz⟩:=I.tuple hq;show SeqAt.notIn_tupleAt (Te x) pl (λw hw=>Dc rx fx r fs w<|by simpa using hw) ⟨.bl _,H,I,Z,?_⟩;rwa[show XX.toArray.any (Te x)=XX.any (Te x) by simp,w6 r fs]
inductive yR0(K:Ad)(xs:List V)(H:Hp)(Q:VK):Prop
 |mk (p ys:_) (_:xs=[.ref p]) (_:(SqL K H p ys\/SqT K H p ys)) (_:Q (.int ys.length) H)
def ZI4:WB X (.builtin "len") (yR0 X.K):=by
 intro pins s σ H xs us Q I r h;let⟨p,ys,rfl,hq,q⟩:=h;let⟨u,rfl,rx⟩:=Tg r;cases rx;let hn:=Dt
 rcases hq with hq|hq
 .let⟨XX,r',pl,hz⟩:=I.list hq;let hlen:=r'.length
  show Calls.call_len_list pl.isList (by simp only[Yb]<;>lia) ⟨.int ys.length,H,I.tok _,⟨s.toks+1,by rw[Yb,hlen]⟩,q⟩
 .let⟨XX,r',pl,hz⟩:=I.tuple hq;let hlen:=r'.length
  show len_tuple pl (by simp only[Yb]<;>omega) ⟨.int ys.length,H,I.tok _,⟨s.toks+1,by rw[Yb,hlen]⟩,q⟩
def ZH4:WB X (.type "list") (λxs H Q=>∃p ys,xs=[.ref p]/\(SqL X.K H p ys\/SqT X.K H p ys)/\∀l,H l=none->Q ↑l (upd H l (.lst ys))):=by
 intro pins s σ H xs us Q I r h;let⟨p,ys,rfl,hq,q⟩:=h;let⟨u,rfl,rx⟩:=Tg r;cases rx;let fin:∀(XX:Ag),Vals ys XX->ys.length<=sizeLine->∀(h':Heap)(c':Nat),(∀b o',s.heap.get? b=some o'->h'.get? b=some o')->
   h'.get? (~~~s)=some {cls:=.type "list",dict:=none,data:=.seq XX.toArray c',slots:=#[]}->EP X pins σ Q (.ref (~~~s)) {s with heap:=h'}:=λXX r' hz h' c' kp e=>
  ⟨.ref (~~~s),_,I.laid (t':=s.toks) kp (XM _)<|show ObjOk X.prog X.w _ h' _ (.lst ys) from⟨hz,XX,c',r',e⟩,Z,q _<|I.hok.fresh<|XM _⟩
 rcases hq with hq|hq
 .let⟨XX,r',pl,hz⟩:=I.list hq;let hlen:=r'.length
  let⟨o,ho,hc,n,hd⟩:=pl.isList;show call_list_seq p (.inl rfl) ho hc hd (λh' c' kp e=>fin XX r' hz h' c' kp e) (by simp only[Yb]<;>omega)
 .let⟨XX,r',pl,hz⟩:=I.tuple hq;let hlen:=r'.length
  let⟨o,ho,hc,n,hd⟩:=pl;show call_list_seq p (.inr rfl) ho hc hd (λh' c' kp e=>fin XX r' hz h' c' kp e) (by simp only[Yb]<;>omega)
def Zb4:WB X (.type "tuple") (λxs H Q=>∃p ys,xs=[.ref p]/\((SqL X.K H p ys/\∀l,H l=none->Q ↑l (upd H l (.tup ys)))\/(SqT X.K H p ys/\Q ↑p H))):=by
 intro pins s σ H xs us Q I r h;let⟨p,ys,rfl,h⟩:=h;let⟨u,rfl,rx⟩:=Tg r;cases rx;rcases h with ⟨hq,q⟩|⟨hq,q⟩
 .let⟨XX,r',pl,hz⟩:=I.list hq;let hlen:=r'.length
  show call_tuple_list pl.isList (λh' kp=>?_) (by simp only[Yb]<;>omega)
  let I1:Inv X pins σ H {s with heap:=h'}:=I.kept (t':=s.toks) kp;let I2:Inv X pins σ (upd H h'.objs.size<|.tup ys) {s with heap:=h'.push {cls:=.type "tuple",data:=.seq XX.toArray} }:=
   I1.laid (t':=s.toks) (λb o e=>Xf _ e) (XM _) (show ObjOk X.prog X.w _ _ _ (.tup ys) from⟨hz,XX,r',IsTup.new _ _⟩)
  exists .ref h'.objs.size,_,I2,Z,q _<|I1.hok.fresh<|XM _
 .let⟨XX,r',pl,hz⟩:=I.tuple hq;show call_tuple_same pl ⟨.ref p,H,I,Z,q⟩
def qS(K:Ad)(T:String)(x:V)(H:Hp):(Prop):=match x with
 | .str _=>T="str"
 | .int _=>T="int"
 | .ref p=>(T="list"/\∃xs,SqL K H p xs)\/(T="tuple"/\∃o,K.lookup p=some o/\o.cls=.type "tuple"/\o.dict=none)\/
   (T="dict"/\((∃kvs,H p=some (.dK kvs))\/∃kvs,H p=some (.dT kvs)))\/(T="set"/\∃S n,H p=some (.set S n))
 |_=>False
def Kl(I:Inv X pins σ H s)(r:RelV x v)(ty:qS X.K T x H):
  s.TypeIs v T/\∀a,v=.ref a->∃ob,s.heap.get? a=some ob/\ob.dict=none:=by
 cases x with
 |str z=>
  let⟨t,rfl⟩:=r;cases (show T="str" from ty);exists typeIs_str s z t,λ_ e=>nomatch e
 |int i=>
  let⟨t,rfl⟩:=r;cases (show T="int" from ty);exists typeIs_int s i t,λ_ e=>nomatch e
 |ref p=>
  cases r;rcases ty with ⟨rfl,xs,hq⟩|⟨rfl,o,hk,hc,hd⟩|⟨rfl,hk⟩|⟨rfl,S,n,hk⟩
  .let⟨XX,_,pl,_⟩:=I.list hq;exists pl.isList.typeIs,λa e=>?_;cases e;let⟨o,n,e,c,hd,_⟩:=pl;exists o,e,hd
  .exists ⟨o,I.kIn p o hk,hc⟩,λa e=>?_;cases e;exists o,I.kIn _ o hk,hd
  .let z:∃o,s.heap.get? p=some o/\o.ExactDict:=by
    rcases hk with ⟨kvs,hk⟩|⟨kvs,hk⟩
    .let⟨_,_,_,_,o,_,_,e,ex,_⟩:=I.hok p _ hk;exists o,e,ex
    .let⟨_,_,_,_,o,_,_,e,ex,_⟩:=I.hok p _ hk;exists o,e,ex
   let⟨o,e,ex⟩:=z;exists ⟨o,e,ex.1⟩,λa e2=>?_;cases e2;exists o,e,ex.2.1
  .let⟨o,_,_,_,e,ex,_⟩:=I.hok p _ hk;exists ⟨o,e,ex.1⟩,λa e2=>?_;cases e2;exists o,e,ex.2.1
 |_=>show False.elim ty
def CZ(K:Ad)(T:String)(r:V->List V->Hp->VK->Prop)(to:TE):(TE):=λσ H Q=>to σ H λx H1=>qS K T x H1/\r x [] H1 Q
def di(K:Ad)(T:String)(r:V->List V->Hp->VK->Prop)(to:TE)(t:TA):(TE):=λσ H Q=>to σ H λx H1=>qS K T x H1/\t σ H1 λxs H2=>r x xs H2 Q
variable{o e:Expr}{es:List Expr}{to:TE}{t:TA}{name:Str}{apos WV:Pos}{T id:String}{r:V->List V->Hp->VK->Prop}
def qR(pa:PlainAttrs T)(slot:Slot T name id)(Ih:typeOf (.builtin id)=pure (.type "method_descriptor"))(hm:w9 X id r)(ho:PE X o to)
  (UO:attributeBase o name X.env (eval o X.env)=eval o X.env:=by rfl)(UN:(apos.endLine == WV.line)=true:=by rfl):PE X (.Call (.Attribute o name apos) [] [] WV) (CZ X.K T r to):=by intro pins s σ H Q I h;show wpAny_Call_method0_late UO UN (thn (ho pins s σ H _ I h) λv s1 Xs=>?_);let⟨x,H1,I1,r1,ty,q1⟩:=Xs;let⟨h1,h2⟩:=Kl I1 r1 ty;exists T,id,pa,slot,Ih,h1,h2,Calls.callWith_builtin Z<|PySem.evalArgs_none<|hm pins s1 σ H1 x [] v [] Q I1 r1 .nil q1
def qQ(pa:PlainAttrs T)(slot:Slot T name id)(Ih:typeOf (.builtin id)=pure (.type "method_descriptor"))(hm:w9 X id r)(ho:PE X o to)(ha:PA X (e::es) t)
  (UO:attributeBase o name X.env (eval o X.env)=eval o X.env:=by rfl)
  (Ig:((backTo WV<|starEach (e::es) X.env).all (λx=>!x.1)&&(backToKw WV<|keywordEach [] X.env).all (λx=>x.1.isSome)
   && decide ((e::es).length+([]:List Keyword).length+(if ([]:List Keyword).isEmpty then 0 else 1)<30))=true:=by rfl)
  (UN:(apos.endLine == WV.line)=true:=by rfl)(hs:starEach (e::es) X.env=(false,eval e X.env)::starEach es X.env:=by rfl)(RU:(backTo WV<|starEach es X.env).any (·.1)=false:=by rfl):
  PE X (.Call (.Attribute o name apos) (e::es) [] WV) (di X.K T r to t):=by
 intro pins s σ H Q I h;show wpAny_Call_method_late UO Ig UN Z (thn (ho pins s σ H _ I h) λv s1 Xs=>?_);let⟨x,H1,I1,r1,ty,q1⟩:=Xs;let⟨h1,h2⟩:=Kl I1 r1 ty;exists T,id,pa,slot,Ih,h1,h2,?_;let hA:=ha WV pins s1 σ H1 _ I1 q1
 rw[hs]at hA ⊢;show Calls.callWith_builtin (by change(false||(backTo WV<|starEach es X.env).any (·.1))=false;rw[RU]<;>rfl) (Calls.evalArgs_plain ?_)
 show thn hA λus s2 zz=>by let⟨vs,H2,I2,r2,q2⟩:=zz;show hm pins s2 σ H2 x vs v us Q I2 r1 r2 q2
end
def Kk(X:Cx)(id:String)(r:V->List V->Hp->VK->Prop):(Prop):=
 ∀(pins:List (Addr×Obj))(s:Shared)(σ:St)(H:Hp)(x:V)(xs:List V)(v:Value)(us:Ag)(Q:VK),Inv X pins σ H s->RelV x v->Vals xs us->r x xs H Q->
  wpAny (model X.prog X.w) X.A (call (.builtin id)<|v::us) (EP X pins σ Q) X.xe s
def Vals.one{x:V}{us:Ag}(r:Vals [x] us):∃u,us=[u]/\RelV x u:=by
 cases r with
 |cons a r=>cases r;exists _,Z,a
def Vals.zero:∀{us:Ag},Vals [] us->us=[]
 |_,.nil=>rfl
def Vals.eraseIdx{xs:List V}{us:Ag}(i:Nat)(h:Vals xs us):Vals (xs.eraseIdx i) (us.eraseIdx i):=by
 induction h generalizing i with
 |nil=>show .nil
 |cons r t ih=>
  cases i with
  |zero=>show t
  |succ i=>show .cons r (ih i)
def Vals.reverse(h:Vals xs us):Vals xs.reverse us.reverse:=by
 induction h with
 |nil=>show .nil
 |cons r t ih=>rw[Pu,Pu];show Vals.append ih (.cons r .nil)
def Vals.rep(h:Vals xs us):∀k:Nat,Vals (List.replicate k xs).flatten (List.replicate k us).flatten
 |0=>.nil
 |k+1=>by rw[Jc,Jc,ME,ME];show Vals.append h (Vals.rep h k)
def dh{α:Type}:∀(l:List α)(i:Nat),(l.eraseIdx i).length<=l.length
 |[],_=>XM _
 |_::_,0=>TZ _
 |_::r,i+1=>Nat.succ_le_succ (dh r i)
def dg(XX:Ag):∀(k:Nat)(acc:Ag),
  List.foldl (λx1 x2=>x1++x2) acc.toArray (List.replicate k XX.toArray)=(acc++(List.replicate k XX).flatten).toArray
 |0,acc=>B
 |k+1,acc=>by
  let e:acc.toArray++XX.toArray=(acc++XX).toArray:=B;let e2:(acc++XX)++(List.replicate k XX).flatten=acc++(List.replicate (k+1) XX).flatten:=by rw[Jc,ME,Yy]
  rw[<-e2,<-dg XX k (acc++XX),<-e,Jc,Ec]
section
variable{X:Cx}{pins:List (Addr×Obj)}{σ:St}{H:Hp}{s:Shared}{l:Addr}{xs ys:List V}
def Inv.lset{XX its':Ag}{f:Array Value->Array Value}{t':Nat}(I:Inv X pins σ H s)(hH:H l=some (.lst xs))
  (e:s.heap.get? l=some {cls:=.type "list",data:=.seq XX.toArray n})(hf:f XX.toArray=its'.toArray)(hv:Vals ys its')(hz:ys.length<=sizeLine):
  Inv X pins σ (upd H l<|.lst ys) {s with heap:=s.heap.update l<|Obj.mapSeq f,toks:=t'}:=by let q:=PySem.IsL.update e f;rw[hf]at q;show I.write (x:=l) (e:=l) (by rw[hH];show trivial) (.inl Z) (λb' u hb hu=>(VS s.heap (Obj.mapSeq f)<|Xa hb).trans hu) ⟨_,q⟩ ?_;exists hz,its',_,hv,q
def Inv.lnew{t':Nat}(I:Inv X pins σ H s)(hv:Vals ys XX)(hz:ys.length<=sizeLine):
  Inv X pins σ (upd H (~~~s)<|.lst ys) {s with heap:=s.heap.push {cls:=.type "list",data:=.seq XX.toArray},toks:=t'}:=
 I.laid (λ_ _ q=>Xf _ q) (XM _) ⟨hz,XX,0,hv,Yo _ Z⟩
def Inv.fresh(I:Inv X pins σ H s):H (~~~s)=none:=I.hok.fresh (XM _)
def Inv.lstM(I:Inv X pins σ H s)(hH:H l=some (.lst xs)):xs.length<=sizeLine/\∃(XX:Ag)(n:Nat),Vals xs XX/\xs.length=XX.length/\s.heap.get? l=some {cls:=.type "list",data:=.seq XX.toArray n}:=by let⟨z,XX,n,r,e⟩:=I.hok l _ hH;exists z,XX,n,r,r.length,e
def CY(h:n<=sizeLine):Builtin.List.listTooLong n=false:=by unfold Builtin.List.listTooLong;show Sw J
end
section
variable{X:Cx}
inductive rAppend(x:V)(vs:List V)(H:Hp)(Q:VK):Prop
 |mk (l xs y:_) (_:x=.ref l) (_:vs=[y]) (_:H l=some (.lst xs)) (_:xs.length<sizeLine) (_:Q .non (upd H l<|.lst<|xs++[y]))
def OX:Kk X "list.append" rAppend:=by intro pins s σ H x vs v us Q I rx rv h;let⟨l,xs,y,rfl,rfl,hH,hz,q⟩:=h;cases rx;let⟨u,rfl,ru⟩:=rv.one;let⟨z,XX,n,r,hl,e⟩:=I.lstM hH;show RZ F.slot_list_append ⟨_,e,Z⟩ F.entry_list_append (F.args_list_append_2 _ _) (PySem.list_append l XX.toArray n u<|by rw[Yb];lia) ⟨e,?_⟩;exists .non,_,I.lset (its':=XX++[u]) hH e B (r.append<|.cons ru .nil) ?_,Z,q;rw[Xt,Yx];lia
def qP:(V->List V->Hp->VK->Prop):=λx vs H Q=>∃l b xs zs,x=.ref l/\vs=[.ref b]/\H l=some (.lst xs)/\H b=some (.lst zs)/\xs.length+zs.length<=sizeLine/\Q .non (upd H l<|.lst<|xs++zs)
def qO:Kk X "list.extend" qP:=by
 intro pins s σ H x vs v us Q I rx rv h;let⟨l,b,xs,zs,rfl,rfl,hH,hB,hz,q⟩:=h;cases rx;let⟨u,rfl,ru⟩:=rv.one;cases ru;let⟨z,XX,n,r,hl,e⟩:=I.lstM hH;let⟨z2,Vs,n2,r2,VB,e2⟩:=I.lstM hB;let hsz:XX.toArray.size+Vs.toArray.size<=sizeLine:=by rw[Yb,Yb];grind
 let OW:¬(!XX.toArray.isEmpty&&Builtin.List.listTooLong (XX.toArray.size+Vs.toArray.size))=true:=by rw[CY hsz,Bool.and_false];show YG
 show RZ F.slot_list_extend ⟨_,e,Z⟩ F.entry_list_extend (F.args_list_extend_2 _ _)
  (AutoSeq1.list_extend_list_list_0 l XX.toArray n b Vs.toArray n2 OW (by rw[Yb];grind) J) ⟨e,e2,?_⟩
 exists .non,_,I.lset (its':=XX++Vs) hH e B (r.append r2) ?_,Z,q;rw[Xt];lia
def qN:(V->List V->Hp->VK->Prop):=λx vs H Q=>∃l xs i k y,x=.ref l/\vs=[.int i]/\H l=some (.lst xs)/\-(2^63)<=i/\i<2^63/\seqIndex? i xs.length=some k/\xs[k]?=some y/\Q y (upd H l<|.lst<|xs.eraseIdx k)
def qM:Kk X "list.pop" qN:=by
 intro pins s σ H x vs v us Q I rx rv h;let⟨l,xs,i,k,y,rfl,rfl,hH,h1,h2,hk,hy,q⟩:=h;cases rx;let⟨u,rfl,ru⟩:=rv.one;let⟨t,rfl⟩:=ru;let⟨z,XX,n,r,hl,e⟩:=I.lstM hH;let⟨w,hw,Ii⟩:=r.get hy;show RZ F.slot_list_pop ⟨_,e,Z⟩ F.entry_list_pop (F.args_list_pop_2 _ _)
  (MeetsSeq.list_pop_at l XX.toArray n i t k w (fitsIndex_both h1 h2) (by rwa[Yb,<-hl]) (by rwa[<-YH])<|by rw[Yb];lia) ⟨e,?_⟩
 exists y,_,I.lset (its':=XX.eraseIdx k) hH e ?_ (r.eraseIdx k) ?_,Ii,q
 .change XX.toArray.eraseIdxIfInBounds k=(XX.eraseIdx k).toArray;rw[List.eraseIdxIfInBounds_toArray]
 .have:=dh xs k
  lia
def qL:(V->List V->Hp->VK->Prop):=λx vs H Q=>∃l xs,x=.ref l/\vs=[]/\H l=some (.lst xs)/\Q .non (upd H l<|.lst xs.reverse)
def qK:Kk X "list.reverse" qL:=by
 intro pins s σ H x vs v us Q I rx rv h;let⟨l,xs,rfl,rfl,hH,q⟩:=h;cases rx;let hus:=rv.zero
 subst hus;let⟨z,XX,n,r,hl,e⟩:=I.lstM hH;show RZ F.slot_list_reverse ⟨_,e,Z⟩ F.entry_list_reverse (F.args_list_reverse_1 _) (AutoSeq1.list_reverse_list_0 l XX.toArray n<|by rw[Yb];omega) ⟨e,?_⟩;exists .non,_,I.lset (its':=XX.reverse) hH e B r.reverse ?_,Z,q;rw[YN];lia
inductive rCat(x:V)(y:V)(H:Hp)(Q:VK):Prop
 |mk (l b xs zs:_) (_:x=.ref l) (_:y=.ref b) (_:H l=some (.lst xs)) (_:H b=some (.lst zs)) (_:xs.length+zs.length<=sizeLine) (_:∀p,H p=none->Q ↑p (upd H p<|.lst<|xs++zs))
def SM:Wy X (binaryOp .Add) rCat:=by
 intro pins s σ H x y v u Q I rx ry h;let⟨l,b,xs,zs,rfl,rfl,hH,hB,hz,q⟩:=h;cases rx;cases ry;let⟨z,XX,n,r,hl,e⟩:=I.lstM hH;let⟨z2,Vs,n2,r2,VB,e2⟩:=I.lstM hB;show PySem.P.add_list e e2 ?_ (by rw[Yb,Yb];omega);let ea:XX.toArray++Vs.toArray=(XX++Vs).toArray:=B
 rw[ea];exists .ref _,_,I.lnew (t':=s.toks) (r.append r2) (by rw[Xt];omega),Z,q _ I.fresh
def qJ:(R2):=λx y H Q=>∃l k xs,x=.ref l/\y=.int k/\H l=some (.lst xs)/\-(2^63)<=k/\k<2^63/\xs.length*k.toNat<=sizeLine/\
 ∀p,H p=none->Q ↑p (upd H p<|.lst (List.replicate k.toNat xs).flatten)
def qI{α:Type}(xs:List α)(k:Nat):(List.replicate k xs).flatten.length=k*xs.length:=by
 induction k with
 |zero=>simp
 |succ k ih=>rw[Jc,ME,Xt,ih,Nat.succ_mul,Nat.add_comm]
def CW:Wy X (binaryOp .Mult) qJ:=by
 intro pins s σ H x y v u Q I rx ry h;let⟨l,k,xs,rfl,rfl,hH,h1,h2,hz,q⟩:=h;cases rx;let⟨t,rfl⟩:=ry;let⟨z,XX,n,r,hl,e⟩:=I.lstM hH;let hlen:XX.toArray.size*k.toNat<=sizeLine:=by rwa[Yb,<-hl]
 let qH:¬XX.toArray.size*k.toNat>(2^63-1)/8:=by
  have:(sizeLine:Nat)<=(2^63-1)/8:=sT
  grind
 let qG:¬(!Builtin.List.listFitsIndex k)=true:=by rw[fitsIndex_both h1 h2];show YG
 let OW:¬Builtin.List.listTooLong (XX.toArray.size*k.toNat)=true:=by rw[CY hlen];show YG
 let QN:List.foldl (λx1 x2=>x1++x2) #[] (List.replicate (if XX.toArray.isEmpty=true then 0 else k.toNat) XX.toArray)=(List.replicate k.toNat XX).flatten.toArray:=by
  let f0:∀m:Nat,List.foldl (λx1 x2=>x1++x2) #[] (List.replicate m XX.toArray)=(List.replicate m XX).flatten.toArray:=λm=>by
   have:=dg XX m []
   rwa[Pz]at this
  rw[f0];cases XX with
  |nil=>simp
  |cons a r'=>rw[if_neg B]
 show wpAny_binaryOp_repeat_ref (T:="list") (U:="int") sT ⟨_,e,Z⟩ (λs'=>typeIs_int s' k t) noFill_list_mul F.fills_int_mul F.slot_int_rmul repeat_list F.slot_int_index.lookup
  (RZ F.slot_int_rmul (typeIs_int s k t) F.entry_int_rmul (F.args_int_rmul_2 _ _) (int___rmul___int_list k t l XX.toArray n)
   ⟨e,Z,⟨_,e,Z⟩,RZ F.slot_list_mul ⟨_,e,Z⟩ F.entry_list_mul (F.args_list_mul_2 _ _) (AutoListH.list___mul___list_int_3 l XX.toArray n k t qG qH OW) ⟨e,?_⟩⟩)
 rw[QN];exists .ref _,_,I.lnew (t':=s.toks) (r.rep k.toNat) (by rwa[qI,Nat.mul_comm]),Z,q _ I.fresh
end
section
variable{κ:Type}[DecidableEq κ]
def Wm(kvs:List (κ×V))(k:κ):(Option V):=(kvs.find? λkv=>decide<|kv.1=k).map (·.2)
def putK(kvs:List (κ×V))(k:κ)(v:V):(List (κ×V)):=
 if (kvs.any λkv=>decide<|kv.1=k)=true then kvs.map (λkv=>if kv.1=k then (kv.1,v) else kv) else kvs++[(k,v)]
def w5{p:κ×V}{r:List (κ×V)}(e:p.1=k):Wm (p::r) k=some p.2:=by simp[Wm,FH,e]
def w4{p:κ×V}(e:¬p.1=k):Wm (p::r) k=Wm r k:=by simp[Wm,FH,e]
def qF(k:κ):∀kvs:List (κ×V),(kvs.any λkv=>decide (kv.1=k))=(Wm kvs k).isSome
 |[]=>rfl
 |p::r=>by
  rw[IV];cases e:p.1=k
  .simp only[w5 e,Yv e,Bool.true_or,Option.isSome_some]
  .rw[w4 e,Sw e,Bool.false_or];show qF k r
def qE(kvs:List (κ×V))(k:κ)(v:V):(putK kvs k v).length<=kvs.length+1:=by
 unfold putK;split
 .rw[Yc];lia
 .rw[Xt,YI,KA];lia
def qD{kvs:List (κ×V)}{k:κ}(v:V)(h:Wm kvs k=none):putK kvs k v=kvs++[(k,v)]:=by unfold putK;rw[qF,h];show if_neg sT
def RelO.isSome_eq(r:RelO o u):o.isSome=u.isSome:=by
 cases o with
 |none=>cases u with
  |none=>rfl
  |some _=>show(show False from r).elim
 |some _=>cases u with
  |none=>show(show False from r).elim
  |some _=>rfl
def KV.val(r:KV kvs vs)(k:κ):RelO (Wm kvs k) (valueAt vs k):=by
 unfold KV at r
 induction r with
 |nil=>show True.intro
 |@cons p q ps qs h t ih=>
  let⟨h1,h2⟩:=h;cases e:p.1=k
  .let e':q.1=k:=h1.symm.trans e;let b:valueAt (q::qs) k=some q.2:=by simp[valueAt,FH,e']
   rwa[w5 e,b]
  .let e':¬q.1=k:=λz=>e (h1.trans z);let b:valueAt (q::qs) k=valueAt qs k:=by simp[valueAt,FH,e']
   rwa[w4 e,b]
def KV.any(r:KV kvs vs)(k:κ):(kvs.any λkv=>decide (kv.1=k))=vs.any λkv=>decide (kv.1=k):=by
 unfold KV at r
 induction r with
 |nil=>rfl
 |cons h t ih=>rw[IV,IV,ih,h.1]
def KV.repl(r:KV kvs vs)(k:κ)(ry:RelV y u):
  KV (kvs.map λkv=>if kv.1=k then (kv.1,y) else kv) (vs.map λkv=>if kv.1=k then (kv.1,u) else kv):=by
 unfold KV at r ⊢
 induction r with
 |nil=>show .nil
 |@cons p q ps qs h t ih=>
  rw[Uz,Uz];show .cons ?_ ih;let⟨h1,h2⟩:=h;cases e:p.1=k
  .rw[if_pos e,if_pos (h1.symm.trans e)];exists h1,ry
  .rw[if_neg e,if_neg λz=>e (h1.trans z)];exists h1,h2
def KV.put(r:KV kvs vs)(k:κ)(ry:RelV y u):KV (putK kvs k y) (stored vs k u):=by
 unfold putK stored;rw[r.any k];cases e:(vs.any λkv=>decide<|kv.1=k)=true
 .rw[if_pos e,if_pos e];show r.repl k ry
 .rw[if_neg e,if_neg e];show Paired.snoc r ⟨Z,ry⟩
def KV.length{kvs:List (κ×V)}{vs:List (κ×Value)}(r:KV kvs vs):kvs.length=vs.length:=Paired.length r
end
def Ie(r:RelV (kV k) u):(ZO P w).is k u=true:=by
 cases k with
 |inl i=>let⟨t,e⟩:=(show ∃t,u=Value.int i t from r);subst e;show Zaf P w i t
 |inr x=>let⟨t,e⟩:=(show ∃t,u=Value.str x t from r);subst e;show Zag P w x t
def df:∀{ks:List Key}{us:Ag},Vals (ks.map kV) us->ItemsAre (ZO P w) ks us
 |[],_,r=>by rw[xw]at r;cases r;show .nil
 |k::ks,_,r=>by
  rw[Uz]at r;cases r with
  |cons h t=>show .cons (Ie h) (df t)
abbrev KT(H:Hp):List (List Key×V)->List (List Key×Addr×Value)->Prop:=Paired λp q=>p.1=q.1/\H q.2.1=some (.tup<|p.1.map kV)/\RelV p.2 q.2.2
def KT.val(r:KT H kvs xs)(k:List Key):RelO (Wm kvs k) ((atKey xs k).map (·.2)):=by
 induction r with
 |nil=>show True.intro
 |@cons p q ps qs h t ih=>
  let⟨h1,_,h2⟩:=h;cases e:p.1=k
  .let e':q.1=k:=h1.symm.trans e;let b:atKey (q::qs) k=some q.2:=by simp[atKey,FH,e']
   rwa[w5 e,b]
  .let e':¬q.1=k:=λz=>e (h1.trans z);let b:atKey (q::qs) k=atKey qs k:=by simp[atKey,FH,e']
   rwa[w4 e,b]
def KT.repl(r:KT H kvs xs)(k:List Key)(ry:RelV y u):
  KT H (kvs.map λkv=>if kv.1=k then (kv.1,y) else kv) (xs.map<|putAt k u):=by
 induction r with
 |nil=>show .nil
 |@cons p q ps qs h t ih=>
  rw[Uz,Uz];show .cons ?_ ih;let⟨h1,h2,h3⟩:=h;unfold putAt;cases e:p.1=k
  .rw[if_pos e,if_pos (h1.symm.trans e)];exists h1,h2,ry
  .rw[if_neg e,if_neg λz=>e (h1.trans z)];exists h1,h2,h3
def KT.put(r:KT H kvs xs)(k:List Key){b:Addr}(hb:H b=some (.tup (k.map kV)))(ry:RelV y u):
  KT H (putK kvs k y) (storedH xs k b u):=by
 let e:(kvs.any λkv=>decide<|kv.1=k)=(atKey xs k).isSome:=by rw[qF,(r.val k).isSome_eq,Option.isSome_map]
 unfold putK storedH;rw[e];cases q:(atKey xs k).isSome=true
 .rw[if_pos q,if_pos q];show r.repl k ry
 .rw[if_neg q,if_neg q];show Paired.snoc r ⟨Z,hb,ry⟩
def KT.keeps(r:KT H kvs xs)(ht:∀b ys,H b=some (.tup ys)->H' b=some (.tup ys)):KT H' kvs xs:=
 Paired.mapP r λ_ _ z=>⟨z.1,ht _ _ z.2.1,z.2.2⟩
section
variable{P:Program}{w:World}{H:Hp}{h:Heap}{a:Addr}
def CV(ok:HOk P w H h)(e:Rd H a u):ObjOk P w H h a u:=e.ok ok
def qC(ok:HOk P w H h)(e:Rd H a (.dK kvs)):kvs.length<=sizeLine/\(a == sysModules)=false/\∃vs,KV kvs vs/\h.DictOf (ZO P w) a vs:=
 show ObjOk P w H h a (.dK kvs) from CV ok e
def QM(ok:HOk P w H h)(e:H a=some (.dK kvs)):kvs.length<=sizeLine/\(a == sysModules)=false/\∃vs,KV kvs vs/\h.DictOf (ZO P w) a vs:=qC ok (.inl e)
def Kj(ok:HOk P w H h)(e:H a=some (.tup (ks.map kV))):(tupleKind (ZO P w)).is h ks a:=by let⟨_,XX,r,o,h1,h2,n,h3⟩:=(show ObjOk P w H h a (.tup<|ks.map kV) from ok a _ e);exists o,XX.toArray,n,h1,h2,h3,by simpa using df r
def qB(ok:HOk P w H h)(e:Rd H a (.dT kvs)):kvs.length<=sizeLine/\(a == sysModules)=false/\
  ∃xs,KT H kvs xs/\h.DictOfH (tupleKind<|ZO P w) a xs:=by
 let⟨z,y,xs,r,o,es,ep,h1,h2,h3,h4,h5⟩:=(show ObjOk P w H h a (.dT kvs) from CV ok e);exists z,y,xs,r,o,es,ep,h1,h2,h3,h4,λx hx=>?_,h5;let all:∀{l:List (List Key×V)}{m:List (List Key×Addr×Value)},KT H l m->∀x∈m,(tupleKind<|ZO P w).is h x.1 x.2.1:=by
  intro l m q
  induction q with
  |nil=>intro x hx;show nomatch hx
  |@cons p q ps qs hq t ih=>
   intro x hx;rcases Yi.mp hx with e|hx
   .subst e;show Kj ok (by rw[<-hq.1];show hq.2.1)
   .show ih x hx
 show all r x hx
def qA(ok:HOk P w H h)(e:H a=some (.dT kvs)):kvs.length<=sizeLine/\(a == sysModules)=false/\
  ∃xs,KT H kvs xs/\h.DictOfH (tupleKind<|ZO P w) a xs:=qB ok (.inl e)
end
def DPut(H:Hp)(a:Addr)(y v:V)(H':Hp):(Prop):=
 (∃kvs k,H a=some (.dK kvs)/\y=kV k/\kvs.length<sizeLine/\H'=upd H a (.dK<|putK kvs k v))\/
 ∃kvs k b,H a=some (.dT kvs)/\y=.ref b/\H b=some (.tup<|k.map kV)/\kvs.length<sizeLine/\H'=upd H a (.dT<|putK kvs k v)
def DPut.k{H:Hp}{a:Addr}{kvs:List (Key×V)}{k:Key}{v:V}(e:H a=some (.dK kvs))(hl:kvs.length<sizeLine):DPut H a (kV k) v (upd H a (.dK (putK kvs k v))):=.inl ⟨kvs,k,e,Z,hl,Z⟩
section
variable{X:Cx}{pins:List (Addr×Obj)}{σ:St}{H:Hp}{s:Shared}{a:Addr}{y v:V}{u r:Value}{A:Around}{E:Ae}
def Inv.big(I:Inv X pins σ H s):sysModules<(~~~s):=by let h:mainGlobals<(~~~s):=(I.mod.glob.keeps I.bk).lt;show Nat.lt_trans sT h
def qz{t':Nat}(I:Inv X pins σ H s)(mu:DQ (H a))(hs:Heap.SameBut a s.heap h')(he:∃q,h'.get? a=some q)(new:ObjOk X.prog X.w (upd H a ob) h' a ob):
  Inv X pins σ (upd H a ob) {s with heap:=h',toks:=t'}:=
 I.write (x:=a) (e:=a) mu (.inl Z) (λb q hb z=>(hs.2 b hb).trans z) he new
def CU(z:kvs.length<=sizeLine)(hd:(a == sysModules)=false)(rel:KV kvs vs)(dd:h'.DictOf (ZO P w) a vs):
  ObjOk P w H' h' a (.dK kvs):=⟨z,hd,vs,rel,dd⟩
def qy{Q:Unit->Shared->Prop}(hu:A.units+1<cLine)(I:Inv X pins σ H s)(g:DPut H a y v H')(ry:RelV y u)(rv:RelV v r)(h:∀s',Inv X pins σ H' s'->Q () s'):
  wpAny (model X.prog X.w) A (setItem ↑a u r) Q E s:=by
 rcases g with ⟨kvs,k,e,ey,l,eH⟩|⟨kvs,k,b,e,ey,eb,l,eH⟩
 .subst ey eH;let⟨z,hd,vs,rel,dd⟩:=QM I.hok e;let hz:vs.length<=sizeLine:=by rwa[<-rel.length]
  let hl:(putK kvs k v).length<=sizeLine:=by have:=qE kvs k v;lia
  show wpAny_setItem_pairs (hsz:=hz) (Ie ry) dd λh' Ic hs=>h _ ?_;let he:∃q,h'.get? a=some q:=by let⟨q,_,_,hq,_⟩:=Ic;exists q,hq
  show qz I (by rw[e];show True.intro) hs he (CU hl hd (rel.put k rv) Ic)
 .subst ey eH;cases (show u=Value.ref b from ry);let⟨z,hd,xs,rel,dd⟩:=qA I.hok e;let hz:xs.length<=sizeLine:=by rwa[<-Paired.length rel]
  let hl:(putK kvs k v).length<=sizeLine:=by have:=qE kvs k v;lia
  show wpAny_setItem_heap (hsz:=hz) (tupleKind_room_in1 hu) (Kj I.hok eb) dd λh' Ic hs=>h _ ?_;let⟨q,es,ep,hq,h2,h3,h4,_,h5⟩:=Ic;show qz I (by rw[e];show True.intro) hs ⟨q,hq⟩ ⟨hl,hd,_,(rel.put k eb rv).keeps λc ys ec=>?_,q,es,ep,hq,h2,h3,h4,h5⟩;rwa[XJ (Vt ec e (λz=>nomatch z))]
end
def qx(td ty tv:TE):(TS):=λsP σ H=>tv σ H λv H1=>td σ H1 λx H2=>ty σ H2 λy H3=>∃a H4,x=.ref a/\DPut H3 a y v H4/\sP.nx σ H4
section
variable{X:Cx}{o i value:Expr}{pos pos':Pos}{td ty tv:TE}
def qw(hu:X.A.units+1<cLine)(ho:PE X o td)(hi:PE X i ty)(hv:PE X value tv)(hs:swapsWith value (some (.Subscript o i pos')) pos.line X.env=pure false):
  PS X (.Assign [.Subscript o i pos'] value pos) (qx td ty tv):=by intro pins s σ H sP I h;show wpAny_Assign_Subscript (thn (hv pins s σ H _ I h) λr s1 zz=>?_) hs;let⟨v,H1,I1,rv,q1⟩:=zz;show thn (ho pins s1 σ H1 _ I1 q1) λu s2 zz=>?_;let⟨x,H2,I2,rx,q2⟩:=zz;show thn (hi pins s2 σ H2 _ I2 q2) λiv s3 Xs=>?_;let⟨y,H3,I3,ry,a,H4,ex,g,q3⟩:=Xs;subst ex;let rfl:u=Value.ref a:=rx;show qy hu I3 g ry rv λs4 I4=>⟨σ,H4,I4,q3⟩
end
def qv(h:Heap)(hb:sysModules<h.objs.size):ObjOk P w H (h.push {cls:=.type "dict",data:=.dict #[]}) h.objs.size (.dK []):=
 ⟨Yk _,El.mpr<|Xa<|YD hb,[],.nil,Heap.DictOf.new h⟩
def CT:(TE):=λ_ H Q=>∀p,H p=none->Q ↑p (upd H p<|.dK [])
section
variable{X:Cx}{pos:Pos}
def CS:PE X (.Dict [] [] pos) CT:=λpins s σ H Q I h=>
 wpAny_Dict_empty ⟨.ref (~~~s),_,I.laid (a:=(~~~s)) (o:=.dK []) (t':=s.toks) (λ_ _ q=>Xf _ q) (XM _)<|qv s.heap I.big,Z,h _<|I.hok.fresh<|XM _⟩
end
structure M1(X:Cx)(o:Expr)(m:Str)(apos:Pos)(e:Expr)(WV:Pos):Prop where
 base:attributeBase o m X.env (eval o X.env)=eval o X.env
 few:((backTo WV<|starEach [e] X.env).all (λx=>!x.1)&&(backToKw WV<|keywordEach [] X.env).all (λx=>x.1.isSome)
  && decide (([e]:List Expr).length+([]:List Keyword).length+(if ([]:List Keyword).isEmpty then 0 else 1)<30))=true
 line:(apos.endLine == WV.line)=true
 trees:backTo WV (starEach [e] X.env)=[(false,eval e X.env)]
structure M2(X:Cx)(o:Expr)(m:Str)(apos:Pos)(e f:Expr)(WV:Pos):Prop where
 base:attributeBase o m X.env (eval o X.env)=eval o X.env
 few:((backTo WV<|starEach [e,f] X.env).all (λx=>!x.1)&&(backToKw WV<|keywordEach [] X.env).all (λx=>x.1.isSome)
  && decide (([e,f]:List Expr).length+([]:List Keyword).length+(if ([]:List Keyword).isEmpty then 0 else 1)<30))=true
 line:(apos.endLine == WV.line)=true
 trees:backTo WV (starEach [e,f] X.env)=[(false,eval e X.env),(false,eval f X.env)]
end L2
namespace Att
open PySem PySem.W PySem.Calls PyProof.Rows
def qu:∀(ns:Ac)(vs:Ag),WellAll P h vs (ns.map WData.int)->IntsAre vs ns:=by
 intro ns
 induction ns with
 |nil=>
  intro vs w;rw[xw]at w;cases w;show .nil
 |cons n ns ih=>
  intro vs w;rw[Uz]at w;cases w with
  |cons a b=>
   cases a;show .cons _ _ (ih _ b)
def Zi8{l:OpenLaw}{n:Nat}(hn:l.most=some n) 
  (Mc:l.row.toRowW.claim.pre args=true)(Mb:WellAll P h vals args):
  ∃a vs ns,vals=[Value.ref a]/\args=[WData.list (ns.map WData.int)]/\h.get? a=some {cls:=.type "list",data:=.seq vs.toArray}/\IntsAre vs ns/\ns.length<=n:=by
 let hsh:WShape.hasAll [] args [.list .int]=true:=(pre_splitW Mc).1;let hc:l.pre.holds [] {args:=args}=true:=(pre_splitW Mc).2
 let⟨d,r,rfl,h1,h2⟩:=hasAllW_cons hsh;let rfl:=hasAllW_nil h2;let⟨xs,rfl,h3⟩:=hasW_list h1;let⟨ns,rfl⟩:=items_int h3;let hlen:ns.length<=n:=by
  unfold OpenLaw.pre at hc;let h4:(WTm.not<|.lt (.lit<|.int (n:Int))<|.len<|.arg 0).holds [] {args:=[.list (ns.map .int)]}=true:=by let h4:=(holds_andW hc).1;rwa[hn]at h4
  let h5:=condW_of h4 (w_not<|w_lt w_lit<|w_len_list<|w_arg Z);rw[Yc]at h5;show xO λq=>?_;let q':(n:Int)<((ns.length:Nat):Int):=D
  first
   | (rw[Yv q']at h5;show absurd h5 sT)
   | (simp at h5;omega)
 cases Mb with
 |cons w1 w2=>
  cases w2;cases w1 with
  |list ho UM=>exists _,_,ns,Z,Z,ho,qu ns _ UM,hlen
def Zp8(l:OpenLaw)(args:List WData):l.row.toRowW.claim.post args (.bool true) args=true:=
 postW_of (r:=l.row.toRowW) (X:=(true == true))
  (show WShape.has [] (.bool true) .bool=true by first|rfl|decide|simp[WShape.has,WShape.arms,WShape.armsAll])
  (show(WTm.eq .res<|.lit<|.bool true).value [] {args:=args,res:=some<|.bool true,after:=args}=some (.bool<|true == true) from w_eq_bool (w_res Z) w_lit) rfl
def SK{l:OpenLaw}{n:Nat}{XP:Af->Heap->Prop}{YP:World->Heap->Prop} 
  (hn:l.most=some n)(qt:d.params.defaults=[])
  (call:∀(w:World)(s₀ s₁:Shared)(mg mb:Af)(fa:Addr)(o:Obj)(pm cd doc:Value)(a:Addr)(vs:Ag)(ns:Ac),
   Ground q loose [] XP w s₀ mg mb s₁.heap->YP w s₁.heap->
   s₁.heap.get? fa=some o->o.data=.func (docDef d.name d.params d.body d.scope pm cd doc)->s₁.heap.CodeRec cd d.name->mg d.name=some ↑fa->
   s₁.heap.get? a=some {cls:=.type "list",data:=.seq vs.toArray}->IntsAre vs ns->ns.length<=n->s₁.gens=#[]->
   codeAny (model l.prog w) callerA (.call ↑fa ⟨[.ref a],[]⟩) (λr s'=>r=.ok (.ret<|.bool true)/\OldK s₁.heap s'.heap/\s'.os=s₁.os/\AllBare s'.gens) s₁):
  WalkO q loose XP YP l.row.toRowW d [] (λf vs=>PySem.call f vs):=by intro w s₀ s₁ mg mb G Y fa o pm cd doc dV kV ho hd Sr hD CQ hg args vals as Mc hlay hrd Mb Ng;let rfl:dV=.none:=Dflts.none hD qt;let rfl:kV=.none:=Dflts.noKw hD;let⟨a,vs,ns,rfl,rfl,Ib,hints,hlen⟩:=Zi8 hn Mc Mb;show enter_call (SR (call w s₀ s₁ mg mb fa o pm cd doc a vs ns G Y ho (fd_plain hd) Sr CQ Ib hints hlen hg) λr s' hq=>?_);let⟨rfl,h2,h3,h4⟩:=hq;exists .inl ⟨.bool true,.bool true,[],Z,λ_=>rfl,.bool true,Zp8 l _,λ_=>⟨List.Pairwise.nil,λ_ hm=>(nomatch hm)⟩⟩,h2,h3,h4
section
def Zv15(h:Heap)(L d:Addr):(List (Addr×Obj)):=(List.range h.objs.size).filterMap λa=>if a=L\/a=d then none else (h.get? a).map λo=>(a,o)
end
end Att
namespace L2
open PySem PySem.Spec PyProof.Rows
def Za8{vs:Ag}{ns:Ac}(h:IntsAre vs ns):Vals (ns.map V.int) vs:=by
 induction h with
 |nil=>show .nil
 |cons n t h ih=>show .cons ⟨t,Z⟩ ih
abbrev Ki{K:Ad}{h:Heap}(_:K.In h):Ad:=K
def de(s:Stmt)(j:Nat):(Stmt):=match s with
 | .ClassDef _ _ _ body _ _ _ _ _ _ _=>body.getD j (.Pass ⟨0,0,0,0⟩)
 |_=>.Pass ⟨0,0,0,0⟩
def Kh(s:Stmt):(Arguments):=match s with
 | .FunctionDef _ a _ _ _ _ _ _ _ _=>a
 |_=>{posonlyargs:=[],args:=[],vararg:=none,kwonlyargs:=[],kw_defaults:=[],kwarg:=none,defaults:=[]}
def QL(s:Stmt):(List Stmt):=match s with
 | .FunctionDef _ _ b _ _ _ _ _ _ _=>b
 |_=>[]
def Xe(s:Stmt):(Scope):=match s with
 | .FunctionDef _ _ _ _ _ _ sc _ _ _=>sc
 |_=>{kind:=.function,names:=[],isGenerator:=false,isCoroutine:=false}
abbrev Xd:Qa:=λ_ _ _ _ _ _=>False
abbrev E0:XK:=λ_ _ _=>False
def ZF:Fv Xd X E0:=λ_ _ _ _ _ _ _ h=>h.elim
structure Fun(K:Ad)(x qual:Str)(st:Stmt)(f:Addr)(fd:FuncData):Prop where
 ex:∃(oc:Value)(od:Option Addr)(kV doc pm:Value)(an:Option Addr)(Xu ct:Value)(Tf:Array (Option Value)),
  fd=PySem.W.fnOf x qual (Kh st) (QL st) (Xe st) .none kV doc pm an Xu ct/\K.lookup f=some ⟨oc,od,.func fd,Tf⟩/\PySem.W.codeIn K Xu qual=true
 kp:PySem.W.keepIn K ↑f=true
section
variable{P:Program}{w:World}{K:Ad}{mg:Af}{base:Heap}
def Fun.ok{x qual:Str}{st:Stmt}{f:Addr}{fd:FuncData}{N ps:List Str}{k:Nat}{sp:Sp}(F:Fun K x qual st f fd)(S:FnScope N ps (Xe st))(len:∀vs H Q E,sp vs H Q E->vs.length=ps.length)
  (VC:∀(Xu:Value)(A:Around)(outer:List Env)(s:Shared)(H:Hp)(vs:List V)(Q:VK)(E:XK),Room k (A.deeper<|envOfC qual (Xe st) (~~~s) f Xu)->sp vs H Q E->
   ∃t,PSs (TB Xd P w K mg base N qual (Xe st) f Xu A outer s H E).nox (QL st) t/\t {nx:=λ_ H'=>Q .non H',rt:=Q} (start N vs) H):FnOk P w K mg base Xd (k+1) f fd ps sp:=by let⟨oc,od,kV,doc,pm,an,Xu,ct,Tf,rfl,lk,Sr⟩:=F.ex;show Kp lk Sr S len λA outer s H vs Q E hr Rr=>?_;let⟨t,h,q⟩:=VC Xu A outer s H vs Q E hr Rr;exists t,h.nox,q
def Fun.binds{x qual:Str}{st:Stmt}{f:Addr}{fd:FuncData}{ps:List Str}(F:Fun K x qual st f fd)
  (h:∀(kV doc pm:Value)(an:Option Addr)(Xu ct:Value)(us:Ag),us.length=ps.length->bindArgs (PySem.W.fnOf x qual (Kh st) (QL st) (Xe st) .none kV doc pm an Xu ct) ⟨us,[]⟩=pure (ps.zip us)):Binds K fd ps []:=by let⟨oc,od,kV,doc,pm,an,Xu,ct,Tf,rfl,lk,Sr⟩:=F.ex;show .all (h kV doc pm an Xu ct)
def wZ{x qual:Str}{st:Stmt}{f:Addr}{oc:Value}{od an:Option Addr}{Tf:Array (Option Value)}{kV doc pm Xu ct:Value}(l:K.lookup f=some ⟨oc,od,.func (PySem.W.fnOf x qual (Kh st) (QL st) (Xe st) .none kV doc pm an Xu ct),Tf⟩)
  (c:PySem.W.codeIn K Xu qual=true)(k:PySem.W.keepIn K ↑f=true):Fun K x qual st f (PySem.W.fnOf x qual (Kh st) (QL st) (Xe st) .none kV doc pm an Xu ct):=⟨⟨oc,od,kV,doc,pm,an,Xu,ct,Tf,Z,l,c⟩,k⟩
end
def qr(hr:Room k A):A.units+1<cLine:=xT (Nat.add_le_add_left (by decide:1<=64) _) hr.units
section
variable{X:Cx}
def pv(i:Nat){x:Str}{pos:Pos}(hN:X.N[i]?=some x:=by rfl)(hv:sN X.env.scope x:=by first|show Or.inl rfl|show Or.inr (Or.inl rfl)|show Or.inr<|Or.inr rfl)(hd:(x == ("__debug__":Str))=false:=by decide)
  (Sr:(x == ("__classdict__":Str))=false:=by decide):PE X (.Name x pos) (tVar i):=Zal hN hv hd Sr
end
def SJ{A sO:Prop}(h:sO):if false=true then A else sO:=by rwa[if_neg YG]
def SI{A sO:Prop}(h:A):if true=true then A else sO:=by rwa[if_pos Z]
def CO{c A sO:Prop}[Decidable c](h1:c->A)(h2:¬c->sO):if c then A else sO:=by
 cases h:c
 .rw[if_pos h];show h1 h
 .rw[if_neg h];show h2 h
def Same(H H':Hp):(Prop):=∀b o,H b=some o->H' b=some o
def Same.refl(H:Hp):Same H H:=λ_ _ h=>h
def Same.trans{H H1 H2:Hp}(a:Same H H1)(b:Same H1 H2):Same H H2:=λc o h=>b c o (a c o h)
def Same.free(e:Same H H'){l:Addr}(h:H' l=Option.none):H l=Option.none:=by
 cases q:H l with
 |none=>rfl
 |some o=>
  rw[e l o q]at h;cases h
def Same.seq{K:Ad}{H H':Hp}{a:Addr}{xs:List V}(e:Same H H')(h:SqL K H a xs):SqL K H' a xs:=by
 rcases h with (h|⟨o,h⟩)|h
 .show .inl (.inl<|e _ _ h)
 .show .inl (.inr ⟨o,e _ _ h⟩)
 .show .inr h
def CN(X:Cx)(ifs:List Expr)(t:TT):(Prop):=
 ∀pins s σ H Q,Inv X pins σ H s->t σ H Q->
  wpAny (model X.prog X.w) X.A (forIn ifs true λc r=>if r=true then do let ok <-isTrue c X.env (eval c X.env);pure (ForInStep.yield ok) else pure (ForInStep.yield r)) (TP X pins σ Q) X.xe s
def tYes:(TT):=λ_ H Q=>Q true H
def RT:CN X [] tYes:=λ_ _ _ H _ I h=>wpAny_tests_nil ⟨H,I,h⟩
def ZX(hc:PT X c t):CN X [c] t:=λpins s σ H Q I h=>wpAny_tests_one (hc pins s σ H Q I h)
def ZC4{R:Result->Shared->Prop}{elt target iter:Expr}{scope:Scope}{pos:Pos}{it acc:Value}(AP:Nat->Shared->Prop)
  (turn:∀n s,AP n s->wpAny (model prog w) A (pyNext it) (λr s1=>match r with
   |none=>R (.ok .next) s1
   |some v=>wpAny (model prog w) A (letOwnedTupleGo target it v) (λ_ s2=>wpAny (model prog w) A (assign target env v) (λ_ s3=>
     wpAny (model prog w) A (forIn ifs true λc r=>if r=true then do let ok <-isTrue c env (eval c env);pure (ForInStep.yield ok) else pure (ForInStep.yield r)) (λok s4=>
      if ok=true then wpAny (model prog w) A (eval elt env) (λx s5=>
       wpAny (model prog w) A (call (.builtin "list.append") [acc,x]) (λ_ s6=>∃m,m<n/\AP m s6) (λ_ _=>False) s5) (λ_ _=>False) s4
      else ∃m,m<n/\AP m s4) (λ_ _=>False) s3) (λ_ _=>False) s2) (λ_ _=>False) s1) (λ_ _=>False) s)
  (n:Nat)(h:AP n s):codeAny (model prog w) A (.compLoop (.ListComp elt [⟨target,iter,ifs,0⟩] scope pos) 0 it acc env) R s:=by
 show codeAny_loop Z AP (λn s hI=>?_) n h;change wpAny _ A ((compTurn (.ListComp elt [⟨target,iter,ifs,0⟩] scope pos) 0 it acc env).onRaise λx=>do noteFrame x env;theTreesLotGoes x) _ _ s
 show wpAny_noted ?_;rw[compTurn_list];show XW (wpAny_standAt<|XW<|Su (turn n s hI) (λr s1 h1=>?_) λ_ _ z=>z.elim);cases r with
 |none=>show Yl h1
 |some v=>
  show XW (Su h1 (λ_ s2 h2=>?_) λ_ _ z=>z.elim);show XW (Su h2 (λ_ s3 h3=>XW<|Su h3 (λok s4 h4=>?_) λ_ _ z=>z.elim) λ_ _ z=>z.elim);cases ok with
  |false=>show Yl ⟨Z,h4⟩
  |true=>
   show XW (XW<|Su h4 (λx s5 h5=>XW<|Su h5 (λ_ s6 h6=>Yl<|Yl ⟨Z,h6⟩) λ_ _ z=>z.elim) λ_ _ z=>z.elim)
def Rq(cells:List (Str×Addr)):(List (Str×NameKind)->List (Str×Addr)->List (Str×Addr))
 |[],acc=>acc
 | (n,k)::r,acc=>if k == .free then Rq cells r ((n,(cells.lookup n).getD 0)::acc) else Rq cells r acc
def CM:∀names acc,(∀y∈names,y.2=.free->∃c,env.cells.lookup y.1=some c)->
  (forIn names acc λ(x:Str×NameKind) (cs:List (Str×Addr))=>(if (x.2 == .free)=true then do let a <-cellOf env x.1;pure (ForInStep.yield<|(x.1,a)::cs) else pure (ForInStep.yield cs):Sem (ForInStep<|List<|Str×Addr)))=pure (Rq env.cells names acc)
 |[],acc,_=>rfl
 | (n,k)::r,acc,h=>by
  let ih:=λacc=>CM r acc λy hy=>h y (Yf _ hy);rw[List.forIn_cons];unfold Rq;cases hk:(k == NameKind.free)=true
  .let⟨c,hc⟩:=h (n,k) Yd (by simpa using hk);let e:cellOf env n=pure c:=by unfold cellOf;rw[show env.cells.lookup n=some c from hc]
   simp only[hk,US,e,pure_bind];rw[ih,show env.cells.lookup n=some c from hc];rfl
  .simp only[hk,Rw,Ss,pure_bind];show ih acc
def qq(h:∀y∈scope.names,y.2=.free->∃c,env.cells.lookup y.1=some c):closureFor scope env=pure (Rq env.cells scope.names []):=by let e:=CM scope.names [] h;unfold closureFor;simp only[bind_pure]at e ⊢;show e
def qp{env:Env}:∀names acc,(∀y∈names,y.2=.free->∃c,env.cells.lookup y.1=some c)->(∀x c,acc.lookup x=some c->env.cells.lookup x=some c)->
  ∀x c,(Rq env.cells names acc).lookup x=some c->env.cells.lookup x=some c
 |[],acc,_,ha,x,c,e=>ha x c e
 | (n,k)::r,acc,h,ha,x,c,e=>by
  unfold Rq at e;cases hk:(k == NameKind.free)=true
  .rw[if_pos hk]at e;let⟨d,hd⟩:=h (n,k) Yd (by simpa using hk);show qp r _ (λy hy=>h y<|Yf _ hy) (λy b q=>?_) x c e;rw[KC]at q;cases hy:(y == n)=true
   .rw[hy]at q;let Ia:y=n:=by simpa using hy
    let Nj:env.cells.lookup n=some d:=hd;rw[Nj]at q;let q':d=b:=Ye q
    rw[Ia,Nj,q']
   .let Ia:(y == n)=false:=by simpa using hy
    rw[Ia]at q;show ha y b q
  .rw[if_neg hk]at e;show qp r acc (λy hy=>h y<|Yf _ hy) ha x c e
def qo:∀names acc x,(acc.lookup x).isSome=true->((Rq cells names acc).lookup x).isSome=true
 |[],_,_,h=>h
 | (n,k)::r,acc,x,h=>by
  unfold Rq;cases hk:(k == NameKind.free)=true
  .rw[if_pos hk];show qo r _ x ?_;rw[KC];cases hx:(x == n)=true
   .rw[hx];rfl
   .let Xm:(x == n)=false:=by simpa using hx
    rwa[Xm]
  .rw[if_neg hk];show qo r acc x h
def wY:∀names acc x,(x,NameKind.free)∈names->((Rq cells names acc).lookup x).isSome=true
 |[],_,_,h=>nomatch h
 | (n,k)::r,acc,x,h=>by
  unfold Rq;rcases Yi.mp h with e|h
  .cases e;rw[if_pos sU];show qo r _ _ ?_;rw[KC];simp
  .cases hk:(k == NameKind.free)=true
   .rw[if_pos hk];show wY r _ x h
   .rw[if_neg hk];show wY r _ x h
def wX{env:Env}:∀{names:List (Str×NameKind)}{x:Str}{k:NameKind},(names.map λ(n,k)=>if (k == NameKind.free&&env.scope.kind == .function&&env.kindOf n == some .cell) then (n,NameKind.cell) else (n,k)).lookup x=some k->
  (k=.cell\/k=.free)->(x,NameKind.free)∈names\/(x,NameKind.cell)∈names
 |[],_,_,h,_=>by simp at h
 | (n,q)::r,x,k,h,hk=>by
  let h':List.lookup x ((if (q == NameKind.free&&env.scope.kind == .function&&env.kindOf n == some .cell)=true then (n,NameKind.cell) else (n,q))::r.map λ(n,k)=>if (k == NameKind.free&&env.scope.kind == .function&&env.kindOf n == some .cell) then (n,NameKind.cell) else (n,k))=some k:=h;cases hc:(q == NameKind.free&&env.scope.kind == .function&&env.kindOf n == some .cell)=true
  .rw[if_pos hc,KC]at h';let hq:q=.free:=by simp only[Ja,QW]at hc;show hc.1.1
   cases hx:(x == n)=true
   .let Xm:x=n:=by simpa using hx
    subst Xm;subst hq;show .inl Yd
   .let Xm:(x == n)=false:=by simpa using hx
    rw[Xm]at h';rcases wX (env:=env) h' hk with z|z
    .show .inl (Yf _ z)
    .show .inr (Yf _ z)
  .rw[if_neg hc,KC]at h';cases hx:(x == n)=true
   .rw[hx]at h';let Xm:x=n:=by simpa using hx
    subst Xm;let e:q=k:=Ye h'
    subst e;rcases hk with rfl|rfl
    .show .inr Yd
    .show .inl Yd
   .let Xm:(x == n)=false:=by simpa using hx
    rw[Xm]at h';rcases wX (env:=env) h' hk with z|z
    .show .inl (Yf _ z)
    .show .inr (Yf _ z)
def qm{env:Env}:∀{names:List (Str×NameKind)}{x:Str},names.lookup x=some .free->
  (names.map λ(n,k)=>if (k == NameKind.free&&env.scope.kind == .function&&env.kindOf n == some .cell) then (n,NameKind.cell) else (n,k)).lookup x=some .cell\/
  (names.map λ(n,k)=>if (k == NameKind.free&&env.scope.kind == .function&&env.kindOf n == some .cell) then (n,NameKind.cell) else (n,k)).lookup x=some .free
 |[],_,h=>by simp at h
 | (n,q)::r,x,h=>by
  change List.lookup x ((if (q == NameKind.free&&env.scope.kind == .function&&env.kindOf n == some .cell)=true then (n,NameKind.cell) else (n,q))::_)=_\/List.lookup x ((if (q == NameKind.free&&env.scope.kind == .function&&env.kindOf n == some .cell)=true then (n,NameKind.cell) else (n,q))::_)=_;rw[KC]at h;cases hc:(q == NameKind.free&&env.scope.kind == .function&&env.kindOf n == some .cell)=true
  .rw[if_pos hc,KC];cases hx:(x == n)=true
   .rw[hx];show .inl rfl
   .let Xm:(x == n)=false:=by simpa using hx
    rw[Xm]at h ⊢;show qm h
  .rw[if_neg hc,KC];cases hx:(x == n)=true
   .rw[hx]at h ⊢;show .inr h
   .let Xm:(x == n)=false:=by simpa using hx
    rw[Xm]at h ⊢;show qm h
def TX(X:Cx)(N':List Str)(scope:Scope)(C:Addr)(s:Shared)(H:Hp)(fp:List Addr):(Cx) where
 prog:=X.prog
 w:=X.w
 K:=X.K
 mg:=X.mg
 base:=X.base
 A:=X.A
 N:=N'
 s₀:=s
 H₀:=H
 env:=compEnvC scope (Rq X.env.cells scope.names []) C X.env
 outer:=X.stack
 stack:=X.stack
 ex:=fp
 fn:=λ_=>false
 calm:=X.calm
 pn:=[]
 xe:=λ_ _=>False
def σC(o:Nat)(fr:List Nat)(σ:St):(St):=List.replicate o none++fr.map λj=>(σ[j]?).join
structure CompScope(sc0:Scope)(N N':List Str)(o:Nat)(fr:List Nat)(scope:Scope):Prop where
 kind:scope.kind=.function
 nocell:(scope.names.all λy=>y.2 != .cell)=true
 loc:(scope.names.all λy=>y.2 != .local||scope.names.lookup y.1 == some .local)=true
 free:(scope.names.all λy=>y.2 != .free||sc0.names.lookup y.1 == some .cell||sc0.names.lookup y.1 == some .free)=true
 len:N'.length=o+fr.length
 sees:((List.range fr.length).all λj=>match fr[j]? with
  |none=>false
  |some y=>match N[y]? with
   |none=>false
   |some x=>N'[o+j]? == some x&&scope.names.lookup x == some .free)=true
def Kg(AP:It)(g:TG)(tt:TT)(te:TE)(o:Nat)(fr:List Nat)(σ:St)(H1:Hp)(Q:VK):(Prop):=∃W:Nat->Nat->List V->Hp->Prop,(∃m,W 0 m [] H1)/\∀i m ys H,W i m ys H->
 (AP.stop i H/\ys.length<=sizeLine/\∀p,H p=none->Q ↑p (upd H p<|.lst ys))\/
 (AP.go i H/\ys.length<sizeLine/\∀x H',AP.yld i H x H'->g x (σC o fr σ) H' λσ2 H2=>tt σ2 H2 λb H3=>if b=true then te σ2 H3 λy H4=>∃m',m'<m/\W (i+1) m' (ys++[y]) H4 else ∃m',m'<m/\W (i+1) m' ys H3)
def ql(wi:TI)(g:TG)(tt:TT)(te:TE)(o:Nat)(fr:List Nat):(TE):=λσ H Q=>wi σ H λAP H1=>Kg AP g tt te o fr σ H1 Q
def OV(o:Nat)(g:TG):(Prop):=∀x ow fr H Q,ow.length=o->g x (ow++fr) H Q->g x (ow++fr) H λσ2 H2=>(∃CL,CL.length=o/\σ2=CL++fr)/\Q σ2 H2
def Zn(h:i<o):OV o (Mo i):=λx ow fr H Q hl q=>⟨⟨ow.set i<|some x,by rw[MC];show hl,by rw[List.set_append_left _ _ J]⟩,q⟩
def Ma(o:Nat)(g:IC):(Prop):=∀xs ow fr H Q,ow.length=o->g xs (ow++fr) H Q->g xs (ow++fr) H λσ2 H2=>(∃CL,CL.length=o/\σ2=CL++fr)/\Q σ2 H2
def Ft:Ma o gNil:=λ_ ow _ _ _ hl zz=>by let⟨e,q⟩:=zz;exists e,⟨ow,hl,Z⟩,q
def Vd(h:i<o)(h2:Ma o u):Ma o (gCons (Mo i) u):=by
 rintro xs ow fr H Q hl ⟨v,r,rfl,q⟩;exists v,r,Z,?_;let q':u r ((ow++fr).set i (some v)) H Q:=q
 change u r ((ow++fr).set i (some v)) H _;rw[List.set_append_left _ _ D]at q' ⊢;show h2 r (ow.set i<|some v) fr H Q (by rwa[MC]) q'
def Fs{K:Ad}{o n:Nat}{u:IC}(h:Ma o u):OV o (gTup K n u):=by rintro x ow fr H Q hl ⟨a,xs,rfl,hs,hn,q⟩;exists a,xs,Z,hs,hn,h xs ow fr H Q hl q
section
variable{X:Cx}{pins:List (Addr×Obj)}{σ:St}{H:Hp}{s:Shared}{N':List Str}{o:Nat}{fr:List Nat}{scope:Scope}{fp:List Addr}
abbrev TV(us:Ag):Obj:={cls:=.type "list",data:=.seq us.toArray us.length}
def CompScope.nocell'(S:CompScope sc0 N N' o fr scope):∀y∈scope.names,y.2≠.cell:=λy hy e=>by let q:=QY.mp S.nocell y hy;rw[e]at q;show absurd q sT
def CompScope.loc'(S:CompScope sc0 N N' o fr scope):∀y∈scope.names,y.2=.local->scope.names.lookup y.1=some .local:=λy hy e=>by let q:=QY.mp S.loc y hy;rw[e]at q;simpa using q
def CompScope.free'(S:CompScope sc0 N N' o fr scope)(hs:X.env.scope=sc0):∀y∈scope.names,y.2=.free->X.env.kindOf y.1=some .cell\/X.env.kindOf y.1=some .free:=λy hy e=>by
 let q:=QY.mp S.free y hy;rw[e]at q;change X.env.scope.names.lookup y.1=_\/X.env.scope.names.lookup y.1=_
 rw[hs];simpa using q
def CompScope.sees'(S:CompScope sc0 N N' o fr scope):∀j y,fr[j]?=some y->∃x,N[y]?=some x/\N'[o+j]?=some x/\scope.names.lookup x=some .free:=λj y e=>by
 let hj:j<fr.length:=(Xx.mp e).1;let q:=QY.mp S.sees j (YS.mpr hj)
 rw[e]at q;dsimp only at q;cases ex:N[y]? with
 |none=>rw[ex]at q;cases q
 |some x=>
  rw[ex]at q;dsimp only at q;rw[Ja,QW,QW]at q;exists x,Z,q.1,q.2
def CompScope.cells(S:CompScope sc0 N0 N' o fr scope)(hs:X.env.scope=sc0)(I:Inv X pins σ H s):∀y∈scope.names,y.2=.free->∃c,X.env.cells.lookup y.1=some c:=λy hy e=>I.ok.has y.1 (S.free' hs y hy e)
def CompScope.sub(S:CompScope sc0 N0 N' o fr scope)(hs:X.env.scope=sc0)(I:Inv X pins σ H s):∀x c,(Rq X.env.cells scope.names []).lookup x=some c->X.env.cells.lookup x=some c:=
 qp (env:=X.env) scope.names [] (S.cells hs I) (λ_ _ z=>nomatch z)
def Inv.block(S:CompScope sc0 N0 N' o fr scope)(hs:X.env.scope=sc0)(hN:X.N=N0)(I:Inv X pins σ H s)(hf:∀b∈fp,FpOk X pins H b)(LZ:∀b∈fp,b<(~~~s)){h1:Heap}{C sP:Addr}{m:Af}{t:Nat}
  (hC:(~~~s)<=C)(hD:(~~~s)<=sP)(Nf:sP≠C)
  (old:∀b ob,s.heap.get? b=some ob->h1.get? b=some ob)(hn:h1.Ns C m)(ha:h1.get? sP=some (TV us)):Inv (TX X N' scope C s H fp) [(sP,TV us)] (σC o fr σ) H {s with heap:=h1,toks:=t}:=by
 let sub:=S.sub hs I;let frC:∀b∈TJ X.stack,b<(~~~s):=λb hb=>by let⟨_,ob,ho,_⟩:=I.stack.mem hb;show Yq ho
 show⟨⟨I.ok.mod,S.kind,I.ok.glob,I.ok.blt,hC,λx y c h1 h2=>I.ok.inj x y c (sub x c h1)<|sub y c h2,λx hx=>?_,λx c hfx _=>(nomatch hfx),I.ok.hd,I.ok.frames,.inl Z,λb hb=>?_,I.bs,Yn I.ok.bsz I.sz,λb ob e hb=>?_,λb hb OU=>?_,I.stack,I.stkFree⟩,
  rfl,I.bare,Un.kept old,⟨m,hn,λi x v e1 e2 e3=>?_⟩,λx c e=>?_,I.hok.fresh hC,λx c e=>I.freeC x c<|sub x c e,λp hp=>?_,I.hok.kept old,?_⟩
 .let Xm:(relabel scope X.env).names.lookup x=some .cell\/(relabel scope X.env).names.lookup x=some .free:=hx;let key:(x,NameKind.free)∈scope.names:=by
   rcases Xm with z|z
   .rcases wX (env:=X.env) z (.inl rfl) with q|q
    .show q
    .show absurd Z (S.nocell' _ q)
   .rcases wX (env:=X.env) z (.inr rfl) with q|q
    .show q
    .show absurd Z (S.nocell' _ q)
  show uq.mp (wY (cells:=X.env.cells) scope.names [] x key)
 .let⟨f0,f1,f2,f3,f4,f5⟩:=hf b hb;exists YD<|YC (LZ b hb) hC,λx c e=>f4 x c<|sub x c e
 .let⟨f0,f1,f2,f3,f4,f5⟩:=hf b hb;rcases f3 with z|z
  .show I.ok.noex b ob e z
  .show absurd (YC (Yq e)<|Yn I.ok.bsz z) (QX _)
 .let⟨f0,f1,f2,f3,f4,f5⟩:=hf b hb;rcases Yi.mp (I.stkSub b OU) with z|z
  .show f1 z
  .show f2 z
 .unfold σC at e2;cases hi:i<o
  .rw[Yp (by rwa[YU]),x9,if_pos hi]at e2;cases e2
  .rw[Ym (by rw[YU];show Nat.not_lt.mp hi),YU,Ys]at e2;cases hy:fr[i-o]? with
   |none=>rw[hy]at e2;cases e2
   |some y=>
    rw[hy]at e2;let wW:(σ[y]?).join=some v:=Ye e2
    let e3':σ[y]?=some (some v):=by
     cases q:σ[y]? with
     |none=>rw[q]at wW;cases wW
     |some z=>rw[q]at wW;show YV some wW
    let⟨x',s2,s1,s3⟩:=S.sees' (i-o) y hy;rw[<-hN]at s2;rw[show o+(i-o)=i by grind]at s1;let ex:x=x':=by let e1':N'[i]?=some x:=e1;rw[e1']at s1;show Ye s1
    subst ex;let hmem:=Sb s3
    let⟨m0,_,hl⟩:=I.loc;let hk:=S.free' hs (x,.free) hmem rfl
    let⟨u,ru,lk⟩:=hl y x v s2 e3' (by rcases hk with z|z;show .inr (.inl z);show .inr<|.inr z);exists u,ru,.inr ⟨qm (env:=X.env) s3,?_⟩;let⟨c',WQ⟩:=uq.mp (wY (cells:=X.env.cells) scope.names [] x hmem);exists c',WQ,?_;rcases lk with ⟨z,_⟩|⟨_,c,e,ob,ho,hd⟩
    .rcases hk with z'|z'
     .rw[z]at z';cases z'
     .rw[z]at z';cases z'
    .let ec:c=c':=by
      have:=sub x c' WQ
      rw[e]at this;show Ye this
     subst ec;exists ob,old _ _ ho,hd
 .let⟨v,ob,ho,hd⟩:=I.cell x c (sub x c e);exists v,ob,old _ _ ho,hd
 .let e:p=(sP,TV us):=by simpa using (show p∈([]:List (Addr×Obj))++[(sP,TV us)] from hp)
  subst e;exists ha,I.hok.fresh hD,Nf,λz=>absurd (YC (frC sP z) hD)<|QX _,λv z=>nomatch z
 .change(σC o fr σ).length=N'.length;unfold σC;rw[Xt,YU,Yc,S.len]
def Inv.unblock(I:Inv X pins σ H s)(hf:∀b∈fp,FpOk X pins H b){σ':St}{s':Shared}(hC:(~~~s)<=C)(hD:(~~~s)<=sP)(Nf:sP≠C)
  (I':Inv (TX X N' scope C s H fp) [(sP,TV us)] σ' H' s')(r:Vals ys us)(hz:ys.length<=sizeLine):∃oC m,s'.heap.get? C=some oC/\s'.heap.Ns C m/\Inv X (pins++[(C,oC)]) σ (upd H' sP<|.lst ys) s':=by
 let⟨aD,nD,_,_,_⟩:=I'.pin (sP,TV us) B;let aD:s'.heap.get? sP=some (TV us):=aD
 let nD:H' sP=none:=nD;let un:Un (TJ X.stack) fp H H' s.heap s'.heap:=I'.base
 let lt:∀b u,H b=some u->b≠sP:=λb u e=>YD (YC (I.hok.lt e) hD);let qk:Un (TJ X.stack) fp H (upd H' sP<|.lst ys) s.heap s'.heap:=by
  exists un.keep,un.slot,λb ob e n hx=>?_,un.there,λb xs e=>?_,λb ob u e=>?_,λb ps e=>?_
  .rw[XJ (YD<|YC (Yq e) hD)];show un.free b ob e n hx
  .rw[XJ (lt b _ e)];show un.tups b xs e
  .rw[XJ (lt b _ e)];show un.frzs b ob u e
  .let⟨more,q⟩:=un.tbls b ps e;exists more,by rwa[XJ (lt b _ e)]
 let hok:HOk X.prog X.w (upd H' sP<|.lst ys) s'.heap:=λb u e=>by
  cases hb:b=sP
  .subst hb;rw[XR]at e;cases e;exists hz,us,us.length,r,aD
  .rw[XJ hb]at e;show(I'.hok b u e).stay (λc v _ q=>q) (λc q=>by rwa[XJ (Za q nD)]) λc xs q=>by rwa[XJ (Za q nD)]
 let os:s'.os=s.os:=I'.os;let AP:Inv X pins σ (upd H' sP<|.lst ys) s':=I.call' (ch:=fp) os qk hok I'.bare λb hb=>by let⟨f0,f1,f2,f3,f4,f5⟩:=hf b hb;exists f3,f1,f4,f5
 let⟨m,hn,_⟩:=I'.loc;let hn:s'.heap.Ns C m:=hn
 let⟨oC,es,ep,qj,hdC,_⟩:=id hn;exists oC,m,qj,hn,AP.pins_of λp hp=>?_;rcases XA.mp hp with z|z
 .show AP.pin p (Yj _ z)
 .let e:p=(C,oC):=by simpa using z
  subst e;let nC:H' C=none:=I'.free
  show⟨qj,by rw[XJ (Xa Nf)];show nC,Sd<|YC I.lt hC,I.nofs hC,λv z=>?_⟩;let z':oC.data=.cell v:=z
  rw[hdC]at z';cases z'
end
section
variable{X:Cx}{N':List Str}{o:Nat}{fr:List Nat}{scope:Scope}{elt tg iter:Expr}{ifs:List Expr}{pos:Pos}{wi:TI}{g:TG}{tt:TT}{te:TE}
def Kf(hc:X.calm=true)(S:CompScope sc0 N0 N' o fr scope)(hi:PI X tg iter wi)(ho:OV o g)
  (hg:∀C s H fp,PG (TX X N' scope C s H fp) tg g)
  (ht:∀C s H fp,CN (TX X N' scope C s H fp) ifs tt)
  (he:∀C s H fp,PE (TX X N' scope C s H fp) elt te)
  (hs:∀x,foldedSetIterable iter X.env x=pure x)(PZ:X.env.scope=sc0)(CK:X.N=N0)(I:Inv X pins σ H s)(h:ql wi g tt te o fr σ H Qv)
  {use:Option (Value->Sem Unit)}{Q:Ae}{E:Ae}
  (hE:∀e s',X.xe e s'->E e s')
  (fin:∀C oC sP m H' ys s',Inv X (pins++[(C,oC)]) σ (upd H' sP<|.lst ys) s'->Qv ↑sP (upd H' sP<|.lst ys)->s'.heap.Ns C m->H' C=none->C≠sP->
   C≠X.env.locals->(~~~X.s₀)<=C->(∀x c,X.env.cells.lookup x=some c->c≠C)->(∀p∈X.pn++pins,p.1≠C)->compPost (model X.prog X.w) X.A E use Q ↑sP C (.ok .next) s'):
  wpAny (model X.prog X.w) X.A (comprehension (.ListComp elt [⟨tg,iter,ifs,0⟩] scope pos) scope X.env (firstIterPos [⟨tg,iter,ifs,0⟩] pos) (newList []) false (eval iter X.env) use) Q E s:=by
 show wpAny_comprehension_free (use:=use) Z hs (qq<|S.cells PZ I) S.kind S.loc' (Su (hi pins s σ H _ I h) (λxv s1 h1=>Su h1 (λrV s2 h2=>?_) hE) hE);let⟨it,fp,tn,AP,H2,rfl,I2,T,Xg,f2,W,⟨m0,w0⟩,turn⟩:=h2;let LZ:∀b∈fp,b<(~~~s2):=λb hb=>by let⟨ob,e,_⟩:=T.obj 0 _ Xg b hb;show Yq e
 show KD (wpAny_newFunctionEnv S.nocell' (by intro y hy;simp at hy) (λh1 HZ LY=>?_) S.kind);dsimp only at HZ LY ⊢;generalize qi:s2.heap.push {cls:=.type "list",dict:=none,data:=.seq ([]:Ag).toArray}=G at HZ LY ⊢;let dc:G.objs.size=(~~~s2)+1:=by rw[<-qi,MB]
 let hC:(~~~s2)<=G.objs.size:=by rw[dc];show TZ _
 let Nf:(~~~s2)≠G.objs.size:=by rw[dc];show YD (Nn _)
 let old:∀b ob,s2.heap.get? b=some ob->h1.get? b=some ob:=λb ob e=>
  LY.extBut b ob (YD<|YC (Yq e) hC) (Xf _<|qi▸Xf _ e)
 let VA:h1.get? (~~~s2)=some (TV []):=LY.extBut _ _ Nf (Xf _<|qi▸Yo _ Z);let Sm:tn 0 h1:=T.keep _ _ _ Xg λb _ ob e=>old b ob e
 let qh:∀{us:Ag}{H':Hp},(∀b∈fp,H' b=none)->∀b∈fp,FpOk (TX X N' scope G.objs.size s2 H2 fp) [((~~~s2),TV us)] H' b:=λ{us H'} hn b hb=>by
  let⟨f0,f1,f3,f4,f5,f6⟩:=f2 b hb;exists hn b hb,YD<|YC (LZ b hb) hC,λz=>?_,.inl hb,λx c e=>f5 x c<|S.sub PZ I2 x c e,λp hp=>?_
  .rcases Yi.mp (I2.stkSub b z) with q|q
   .show f1 q
   .show f3 q
  .let e:p=((~~~s2),TV us):=by simpa using (show p∈([]:List (Addr×Obj))++[((~~~s2),TV us)] from hp)
   subst e;show Sd (LZ b hb)
 let loop:∀s3:Shared,s3={s2 with heap:=h1,toks:=s2.toks+([]:List (Str×Value)).length}->
   codeAny (model X.prog X.w) X.A (.compLoop (.ListComp elt [⟨tg,iter,ifs,0⟩] scope pos) 0 ↑it (.ref (~~~s2))<|compEnvC scope (Rq X.env.cells scope.names []) G.objs.size X.env)
    (compPost (model X.prog X.w) X.A E use Q (.ref (~~~s2)) G.objs.size) s3:=by
  rintro s3 rfl;show ZC4 (λn s'=>∃i σ' H' ys us,Inv (TX X N' scope G.objs.size s2 H2 fp) [((~~~s2),TV us)] σ' H' s'/\σ'=σC o fr σ/\Vals ys us/\tn i s'.heap/\(∀b∈fp,H' b=none)/\W i n ys H') ?_ m0
   ⟨0,_,H2,[],[],I2.block S PZ CK f2 LZ hC (XM _) Nf old HZ VA,Z,.nil,Sm,λb hb=>(f2 b hb).1,w0⟩
  rintro n s' ⟨i,σ',H',ys,us,I',rfl,rv,XQ,c9,w'⟩;rcases turn i n ys H' w' with ⟨stop,hz,q⟩|⟨go,hz,step⟩
  .show thn (T.done (TX X N' scope G.objs.size s2 H2 fp) Z Z Z hc i _ s' _ H' _ I' (qh c9) XQ stop) λr s4 zz=>?_;let⟨hr,I4⟩:=zz;subst hr;let⟨oC,m,qj,hn,J4⟩:=I2.unblock f2 hC (XM _) Nf I4 rv hz;show fin _ oC _ m H' ys s4 J4 (q _ (I4.pin ((~~~s2),TV us) B).2.1) hn I4.free (Xa Nf) (Sd<|YC I2.lt hC) (Yn I2.sz hC)
    (λx c e=>by let⟨v,z⟩:=I2.cell x c e;show YD<|YC z.lt hC) λp hp=>YD (YC (Yq (I2.pin p hp).1) hC)
  .show thn (T.item (TX X N' scope G.objs.size s2 H2 fp) Z Z Z hc i _ s' _ H' _ I' (qh c9) XQ go) λr s4 Xs=>?_;let⟨u,hr,h4⟩:=Xs;subst hr;show thn h4 λ_ s5 Xs=>?_;let⟨x,H5,I5,r5,y5,WW,rN⟩:=Xs;let Wn:=step x H5 y5
   let qg:=ho x (List.replicate o none) (fr.map λj=>(σ[j]?).join) H5 _ (YU ..) Wn;let rM:=I5.pinned (qh (us:=us) rN) (T.obj _ _ WW)
   show thn (hg _ _ _ _ _ s5 _ H5 x u _ rM r5 qg) λ_ s6 Xs=>?_;let⟨σ6,H6,I6,⟨ow,Rp,e6⟩,q6⟩:=Xs;subst e6;show thn (ht _ _ _ _ _ s6 _ H6 _ I6 q6) λb s7 Xs=>?_;let⟨H7,I7,q7⟩:=Xs;let back:∀{us':Ag}{σ8:St}{H8:Hp}{s8:Shared},Inv (TX X N' scope G.objs.size s2 H2 fp) ([((~~~s2),TV us')]++Ml fp s5.heap) (ow++fr.map λj=>(σ[j]?).join) H8 s8->
     Inv (TX X N' scope G.objs.size s2 H2 fp) [((~~~s2),TV us')] (σC o fr σ) H8 s8/\tn (i+1) s8.heap/\∀b∈fp,H8 b=none:=λ{us' σ8 H8 s8} I8=>by
    exists I8.unpinned.weak ?_ λj v e=>?_,T.keep _ _ _ WW λb hb ob e=>(I8.pin (b,ob)<|Yj _<|Yj _<|Mj hb e).1,λb hb=>?_
    .unfold σC;rw[Xt,Xt,YU,Rp]
    .unfold σC at e;cases hj:j<o
     .rw[Yp (by rwa[YU]),x9,if_pos hj]at e;cases e
     .rw[Ym (by rw[YU];show Nat.not_lt.mp hj),YU]at e;rwa[Ym (by rw[Rp];show Nat.not_lt.mp hj),Rp]
    .let⟨ob,e,_⟩:=T.obj _ _ WW b hb;show(I8.pin (b,ob)<|Yj _<|Yj _<|Mj hb e).2.1
   cases b with
   |false=>
    rw[if_neg YG]at q7 ⊢;let⟨m',hm,w7⟩:=q7;let⟨I8,st8,fr8⟩:=back (us':=us) (σ8:=[]) I7;exists m',hm,i+1,_,H7,ys,us,I8,Z,rv,st8,fr8,w7
   |true=>
    rw[if_pos Z]at q7 ⊢;show thn (he _ _ _ _ _ s7 _ H7 _ I7 q7) λy s8 Xs=>?_;let⟨yv,H8,I8,r8,m',hm,w8⟩:=Xs;let⟨aD,nD,_,_,_⟩:=I8.pin ((~~~s2),TV us) B;let aD:s8.heap.get? (~~~s2)=some (TV us):=aD
    let nD:H8 (~~~s2)=none:=nD;let hul:us.length<=sizeLine:=by rw[<-rv.length];show Qf hz
    show append_at (hsz:=by change us.toArray.size<=sizeLine;rwa[Yb]) aD λh9 hs9 hD9=>?_;let qf:h9.get? (~~~s2)=some (TV<|us++[y]):=by
     rw[hD9];change some ({cls:=.type "list",data:=.seq (us.toArray.push y) (us.length+1)}:Obj)=some {cls:=.type "list",data:=.seq (us++[y]).toArray (us++[y]).length}
     rw[Xt,Yx,List.push_toArray]
    let I9:Inv (TX X N' scope G.objs.size s2 H2 fp) (Ml fp s5.heap) (ow++fr.map λj=>(σ[j]?).join) H8 {s8 with heap:=h9}:=
     (I8.pins_of (pins':=Ml fp s5.heap) λp hp=>I8.pin p<|Yj _<|Yj _ hp).turned (t':=s8.toks) (it:=(~~~s2)) (λb ob hb e=>hs9.extBut b ob hb e) nD Nf (.inr<|XM _)
      (λx c e=>by let⟨v,z⟩:=I2.cell x c (S.sub PZ I2 x c e);show YD z.lt)
      λp hp=>by let⟨hb,_⟩:=dG (show p∈Ml fp s5.heap from by simpa[TX] using hp);show YD (LZ p.1 hb)
    let I9':Inv (TX X N' scope G.objs.size s2 H2 fp) ([((~~~s2),TV<|us++[y])]++Ml fp s5.heap) (ow++fr.map λj=>(σ[j]?).join) H8 {s8 with heap:=h9}:=
     I9.pins_of λp hp=>by
      rcases XA.mp hp with z|z
      .let e:p=((~~~s2),TV<|us++[y]):=by simpa using z
       subst e;exists qf,nD,Nf,λz=>?_,λv z=>nomatch z;let⟨_,ob,OT,_⟩:=I2.stack.mem z;show QX _ (Yq OT)
      .show I9.pin p (Yj _ z)
    let⟨I10,qd,qc⟩:=back (us':=us++[y]) (σ8:=[]) I9';exists m',hm,i+1,_,H8,ys++[yv],us++[y],I10,Z,Vals.append rv<|.cons r8 .nil,qd,qc,w8
 show codeAny_compStart_list (loop _ Z) (T.self _ 0 _ _ _ Sm<|loop _ Z)
def Ww(hc:X.calm=true)(S:CompScope sc0 N0 N' o fr scope)(hi:PI X tg iter wi)(ho:OV o g)
  (hg:∀C s H fp,PG (TX X N' scope C s H fp) tg g)
  (ht:∀C s H fp,CN (TX X N' scope C s H fp) ifs tt)
  (he:∀C s H fp,PE (TX X N' scope C s H fp) elt te)
  (hs:∀x,foldedSetIterable iter X.env x=pure x:=by intro _;rfl)(PZ:X.env.scope=sc0:=by rfl)(CK:X.N=N0:=by rfl):PE X (.ListComp elt [⟨tg,iter,ifs,0⟩] scope pos) (ql wi g tt te o fr):=by intro pins s σ H Q I h;rw[eval_ListComp];show Kf hc S hi ho hg ht he hs PZ CK I h (use:=none) (λ_ _ z=>z) λC oC sP m H' ys s' AP q hn nC qb qa p7 p6 pZ=>?_;exists m,hn,λh' Wd=>⟨.ref sP,upd H' sP<|.lst ys,?_,Z,q⟩;show AP.unpinned.turned (t':=s'.toks) (it:=C) (λb ob hb e=>Wd.extBut b ob hb e) (by rwa[XJ qb]) qa (.inr p7) p6 pZ
def Vr{x:Str}{px:Pos}{CJ:Pos}(hc:X.calm=true)(hN:X.N.Nodup)(hx:X.N[i]?=some x)(hl:X.env.kindOf x=some .local)(S:CompScope sc0 N0 N' o fr scope)(hi:PI X tg iter wi)(ho:OV o g)
  (hg:∀C s H fp,PG (TX X N' scope C s H fp) tg g)
  (ht:∀C s H fp,CN (TX X N' scope C s H fp) ifs tt)
  (he:∀C s H fp,PE (TX X N' scope C s H fp) elt te)
  (hs:∀x,foldedSetIterable iter X.env x=pure x:=by intro _;rfl)(PZ:X.env.scope=sc0:=by rfl)(CK:X.N=N0:=by rfl)
  (hsw:swapsWith (.ListComp elt [⟨tg,iter,ifs,0⟩] scope pos) (some<|.Name x px) CJ.line X.env=pure true:=by rfl):
  PS X (.Assign [.Name x px] (.ListComp elt [⟨tg,iter,ifs,0⟩] scope pos) CJ) (Mn (ql wi g tt te o fr)<|Mo i):=by
 intro pins s σ H sP I h;rw[exec_Assign_Name_used _ _ _ _ hsw];show XW (wpAny_standAt<|XW ?_);change wpAny _ X.A (do let _ <-comprehension (.ListComp elt [⟨tg,iter,ifs,0⟩] scope pos) scope X.env (firstIterPos [⟨tg,iter,ifs,0⟩] pos) (newList []) false (eval iter X.env) (some<|assign (.Name x px) X.env)) _ _ s
 show XW (Su (Kf (Q:=λ_ s'=>SP X pins sP .next s') hc S hi ho hg ht he hs PZ CK I h (use:=some<|assign (.Name x px) X.env) (λ_ _ z=>z) λC oC Dd m H' ys s' AP q hn nC qb qa p7 p6 pZ=>?_) (λ_ s' hq=>Yl<|Yl hq) λ_ _ e=>e);change wpAny _ X.A (assign (.Name x px) X.env<|.ref Dd) _ _ _
 show wpAny_assign_Name (sH AP hN hx (.inl hl) (v:=.ref Dd) Z (λs2 I2=>?_)<|.inr hl);let g1:=(I2.pin (C,oC) B).1
 let g1:s2.heap.get? C=some oC:=g1;let n2:s2.heap.Ns C m:=by
  let⟨oc,es,ep,e,r⟩:=hn;let e0:=(AP.pin (C,oC) B).1
  let e0:s'.heap.get? C=some oC:=e0;rw[e]at e0;cases e0;exists _,es,ep,g1,r
 exists m,n2,λh' Wd=>⟨_,upd H' Dd<|.lst ys,?_,q⟩;show I2.unpinned.turned (t':=s2.toks) (it:=C) (λb ob hb e=>Wd.extBut b ob hb e) (by rwa[XJ qb]) qa (.inr p7) p6 pZ
end
section
variable{X:Cx}
def c8{x y:V}{us:Ag}(r:Vals [x,y] us):∃u v,us=[u,v]/\RelV x u/\RelV y v:=by
 cases r with
 |cons a r=>
  cases r with
  |cons b r=>cases r;exists _,_,Z,a,b
def ZC:∀{ns:Ac}{us:Ag},Vals (ns.map V.int) us->IntsAre us ns
 |[],_,.nil=>.nil
 |n::ns,_,.cons r t=>by let⟨tk,rfl⟩:=r;show .cons n tk (ZC t)
def pW:WB X (.type "range") (λxs H Q=>∃j:Int,xs=[.int j]/\∀p,H p=none->Q ↑p (upd H p (.rng 0 j))):=by intro pins s σ H xs us Q I r h;let⟨j,rfl,q⟩:=h;let⟨u,rfl,t,rfl⟩:=Tg r;show call_range_1 ?_;exists .ref (~~~s),_,I.laid (o:=.rng 0 j) (λb u e=>Xf _ e) (XM _) ⟨_,_,_,Yo _ Z⟩,Z,q _<|I.hok.fresh<|XM _
def Vq(lo hi:Int):(Ac):=(List.range (hi-lo).toNat).map λ(i:Nat)=>lo+(i:Int)
def pV(lo hi:Int):(Vq lo hi).length=(hi-lo).toNat:=by unfold Vq;rw[Yc,MG]
def pU{lo:Int}:∀{us:Ag},us.length=n->(∀(j:Nat)(v:Value),us[j]?=some v->∃t,v=Value.int (lo+(j:Int)) t)->Vals (((List.range n).map λ(i:Nat)=>lo+(i:Int)).map V.int) us:=by
 induction n generalizing lo with
 |zero=>
  intro us h _;rw[YX.mp h];show .nil
 |succ n ih=>
  intro us h hv;cases us with
  |nil=>cases h
  |cons u us=>
   rw[List.range_succ_eq_map,Uz,Uz];show .cons ?_ ?_
   .let⟨t,e⟩:=hv 0 u rfl;exists t,e
   .let q:=ih (lo:=lo+1) (us:=us) (Mz h) λj v e=>by let⟨t,e'⟩:=hv (j+1) v (by simpa using e);exists t,?_;rw[e'];congr 1;lia
    let e:(List.range n).map (λ(i:Nat)=>lo+1+(i:Int))=((List.range n).map Nat.succ).map (λ(i:Nat)=>lo+(i:Int)):=by
     rw[Px];show VN λi _=>?_;change lo+1+(i:Int)=lo+((i+1:Nat):Int)
     lia
    rwa[e]at q
inductive yR1(xs:List V)(H:Hp)(Q:VK):Prop
 |mk (p lo hi:_) (_:xs=[.ref p]) (_:H p=some (.rng lo hi)) (_:(-(2^62)<=lo/\lo<2^62/\-(2^62)<=hi/\hi<2^62)) (_:(hi-lo).toNat<=16777216) (_:∀l,H l=none->Q ↑l (upd H l<|.lst<|(Vq lo hi).map V.int))
def pT(hc:X.calm=true):WB X (.type "list") (yR1):=by
 intro pins s σ H xs us Q I r h;let⟨p,lo,hi,rfl,hp,⟨b1,b2,b3,b4⟩,hz,q⟩:=h;let⟨u,rfl,ru⟩:=Tg r;let rfl:u=Value.ref p:=ru;let⟨t,u,v,e⟩:=(show ObjOk X.prog X.w H s.heap p (.rng lo hi) from I.hok p _ hp);let hn:Builtin.Range.rangeSize lo hi 1=(((hi-lo).toNat:Nat):Int):=by rw[rangeSize_one];split<;>grind
 show call_list_range (I.ok.hd hc) (t:=t) (u:=u) (v:=v) e (small_one b1 b2 b3 b4) hn hz λh' tk acc c' hk hS ha=>?_;let hl:acc.toList.length=(hi-lo).toNat:=by rw[Yw];show ha.1
 let rv:Vals ((Vq lo hi).map V.int) acc.toList:=pU (lo:=lo) hl λj w ew=>by let⟨t,e⟩:=ha.2 j w (by simpa using ew);exists t,by rw[e,Ky]
 exists .ref (~~~s),_,I.laid (o:=.lst<|(Vq lo hi).map V.int) hk (XM _) ⟨?_,acc.toList,c',rv,?_⟩,Z,q _<|I.hok.fresh<|XM _
 .rw[Yc,pV]
  have:sizeLine=16777216:=TM
  lia
 .rw[hS]
def seen(ns:Ac):(Ac):=firstMet (λi=>ns.getD i 0) ns.length
def pS{T:String}:WB X (.builtin "isinstance") (λxs H Q=>∃x t b,xs=[x,.ty T]/\TyOf X.K H x t/\PySem.W.kitOne X.K t (.type T)=some b/\Q (.bl b) H):=by intro pins s σ H xs us Q I r h;let⟨x,t,b,rfl,ty,e,q⟩:=h;let⟨u,v,rfl,ru,rv⟩:=c8 r;let rfl:v=Value.type T:=rv;show ZL8 I ru ty e λtk=>⟨.bl b,H,I.tok tk,Z,q⟩
def Fq(K:Ad)(a:Addr):(It):=
 ⟨λi H=>∃xs x,SqL K H a xs/\xs[i]?=some x,λi H v H'=>∃T x,H T=none/\v=.ref T/\H'=upd H T (.tup [.int i,x])/\∀xs,SqL K H a xs->xs[i]?=some x,λi H=>∃xs,SqL K H a xs/\xs.length<=i⟩
inductive xEnu(K:Ad)(vs:List V)(H1:Hp)(R:It->Hp->Prop):Prop
 |mk (a:_) (_:vs=[.ref a]) (_:∃xs,SqL K H1 a xs) (_:R (Fq K a) H1)
def CI(K:Ad)(ta:TA):(TI):=λσ H R=>ta σ H λvs H1=>xEnu K vs H1 R
def Zc8{P:Program}{w:World}{K:Ad}{elts:List Expr}{x1:Nat}{pos:Pos}(a e it:Addr)(XN:e≠it):Turn P w K (.Tuple elts x1 pos) (Fq K a) [e,it] e (λi h=>(∃old,IsEnum h e it i old)/\h.IsListIter it a i) where
 mem:=B
 obj:=λi h st b hb=>by
  let⟨⟨old,he⟩,o,eo,c,d⟩:=st;rcases Yi.mp hb with z|hb
  .subst z;exists _,he,λv z=>by let z':Data.fields _=Data.cell v:=z;cases z'
  .let z:b=it:=by simpa using hb
   subst z;exists o,eo,λv z=>by rw[d]at z;cases z
 keep:=λi h h' st k=>by let⟨⟨old,he⟩,hit⟩:=st;exists ⟨old,k e B _ he⟩,hit.at λo x=>k it B o x
 item:=by
  intro X hP hw hK hc i pins s σ H E I hf st hg;subst hP hw hK;let⟨xs,x,hq,hx⟩:=hg;let⟨⟨old,he⟩,hit⟩:=st;let⟨XX,rv,p,hz⟩:=I.list hq;let⟨u,hu,ru⟩:=rv.get hx;let⟨f0,f1,f2,f3,f4,f5⟩:=hf e B;let⟨g0,g1,g2,g3,g4,g5⟩:=hf it B;let pR:H (~~~s)=none:=I.hok.fresh (XM _)
  show wpAny_pyNext_enum_item he hit p.isList (x:=u) (by simpa using hu) XN λh' ho pQ hT hsz hk=>?_;let Nd:∀b ob,s.heap.get? b=some ob->b≠(~~~s):=λb ob z=>YD (Yq z)
  let OS:∀b ob,H b=some ob->b≠(~~~s):=λb ob z=>YD (I.hok.lt z);let Nc:∀b ob,H b=some ob->b≠e/\b≠it:=λb ob z=>⟨λq=>(by rw[q,f0]at z;cases z),λq=>(by rw[q,g0]at z;cases z)⟩
  let I1:Inv X pins σ (upd H (~~~s)<|.tup [.int i,x]) {s with heap:=h',toks:=s.toks+1}:=by
   show I.step (g':=s.gens) (d':=s.drawn) (ch:=[e,it]) (λb hb=>?_) (λb o _ _ VQ z _=>hk b o (λq=>VQ<|by simp[q]) (λq=>VQ<|by simp[q]) z) (λb o _ _ VQ z _=>⟨o.slots,hk b o (λq=>VQ<|by simp[q]) (λq=>VQ<|by simp[q]) z⟩)
    (λb o _ z n=>by rwa[XJ (Nd b o z)]) (λb o VQ z=>⟨o,hk b o (λq=>VQ<|by simp[q]) (λq=>VQ<|by simp[q]) z⟩) (λb ys z=>by rwa[XJ (OS b _ z)]) (λb o v z=>by rwa[XJ (OS b _ z)])
    (λb ps z=>⟨#[],by rw[XJ (OS b _ z),z];simp⟩) (λm hm=>?_) (λb v z=>?_) I.bare
   .rcases Yi.mp hb with q|hb
    .rw[q];exists f3,f1,f4,f5
    .let q:b=it:=by simpa using hb
     rw[q];exists g3,g1,g4,g5
   .let⟨o,es,ep,UW,r⟩:=hm;exists o,es,ep,hk _ o (Xa f1) (Xa g1) UW,r
   .cases hb:b=(~~~s)
    .subst hb;rw[XR]at z;cases z;exists by change 2<=sizeLine;decide,[.int i s.toks,u],.cons ⟨_,Z⟩<|.cons ru .nil,⟨_,hT,Z,_,Z⟩
    .rw[XJ hb]at z;show(I.hok b v z).stay (λc w' WQ q=>?_) (λc q=>by rwa[XJ (OS c _ q)]) λc ys q=>by rwa[XJ (OS c _ q)]
     rcases WQ with rfl|WQ
     .show hk c w' (Nc c _ z).1 (Nc c _ z).2 q
     .show hk c w' (Nc c _ WQ).1 (Nc c _ WQ).2 q
  exists _,Z,wpAny_letOwnedTupleGo_enum ho λh2 OR SO=>?_;let fT:e≠(~~~s):=Nd e _ he
  let I2:Inv X pins σ (upd H (~~~s)<|.tup [.int i,x]) {s with heap:=h2,toks:=s.toks+1}:=Inv.turned (s:={s with heap:=h',toks:=s.toks+1}) (h':=h2) (t':=s.toks+1) (it:=e) I1 (λb o hb z=>SO.extBut b o hb z) (by rwa[XJ fT]) f1 f3 f4 f5;exists .ref (~~~s),_,I2,Z,⟨_,x,pR,Z,Z,λys hy=>by rwa[I.list_inj hy hq]⟩,⟨⟨u,by simpa using OR⟩,pQ.at λo z=>SO.extBut it o (Xa XN) z⟩,λb hb=>?_;rcases Yi.mp hb with q|hb
  .rw[q,XJ fT];show f0
  .let q:b=it:=by simpa using hb
   let⟨o,eo,_⟩:=hit;rwa[q,XJ (Nd it o eo)]
 done:=by
  intro X hP hw hK hc i pins s σ H E I hf st hg;subst hP hw hK;let⟨xs,hq,hx⟩:=hg;let⟨⟨old,he⟩,hit⟩:=st;let⟨XX,rv,p,hz⟩:=I.list hq;let⟨g0,g1,g2,g3,g4,g5⟩:=hf it B;let hl:=rv.length
  show wpAny_pyNext_enum_end (I.ok.hd hc) he hit p.isList (by simp;lia) λh' eb=>⟨Z,I.turned (t':=s.toks) (it:=it) (λb o hb z=>eb b o hb z) g0 g1 g3 g4 g5⟩
 self:=λ_ _ _ _ _ st h=>by let⟨⟨_,he⟩,_⟩:=st;show wpAny_pyIter_enum he h
def pP{elts:List Expr}{x1:Nat}{RY:Pos}{a:Expr}{ta:TA}{p pos:Pos}(hg:Gl X "enumerate")(hm:X.mg "enumerate"=none)(ha:PA X [a] ta)(hs:starEach [a] X.env=[(false,eval a X.env)]:=by rfl):
  PI X (.Tuple elts x1 RY) (.Call (.Name "enumerate" p) [a] [] pos) (CI X.K ta):=by
 intro pins s σ H R I h;show Call_ (Qd I hg hm Boot.«enumerate»<|Jd (thn (ha pos pins s σ H _ I h) λus s1 Xs=>?_) hs Z);let⟨vs,H1,I1,r1,q1⟩:=Xs;let⟨b,e,⟨xs,hq⟩,q⟩:=q1;subst e;let⟨u,rfl,ru⟩:=Tg r1;let rfl:u=Value.ref b:=ru;let⟨XX,rv,pl,hz⟩:=I1.list hq;show call_enumerate_list pl.isList λh' he hit hsz hk=>?_;let I2:Inv X pins σ H1 {s1 with heap:=h'}:=I1.kept (t':=s1.toks) hk
 show wpAny_pyIter_enum he ?_;let nn:∀k,(~~~s1)<=k->H1 k=none:=λk hk=>I1.hok.fresh hk
 exists (~~~s1)+1,[(~~~s1)+1,(~~~s1)],_,_,H1,Z,I2,Zc8 b _ _<|Nat.succ_ne_self _,⟨⟨_,he⟩,hit⟩,λc hc=>?_,q;let hle:(~~~s1)<=c:=by
  rcases Yi.mp hc with q|hc
  .rw[q];show TZ _
  .let q:c=(~~~s1):=by simpa using hc
   rw[q];show XM _
 show I1.fpOk hle (nn c hle)
def CH{us:Ag}(r:Vals [kV k,y] us):∃u v,us=[u,v]/\RelV (kV k) u/\RelV y v:=c8 r
def pO:(V->List V->Hp->VK->Prop):=λx vs H Q=>∃d kvs k y,x=.ref d/\vs=[kV k,y]/\H d=some (.dK kvs)/\kvs.length<sizeLine/\(∀v,Wm kvs k=some v->Q v H)/\(Wm kvs k=none->Q y (upd H d<|.dK<|kvs++[(k,y)]))
def pN:Kk X "dict.setdefault" pO:=by
 intro pins s σ H x vs v us Q I rx rv h;let⟨d,kvs,k,y,rfl,rfl,hH,hz,h1,h2⟩:=h;cases rx;let⟨uk,uy,rfl,rk,ry⟩:=CH rv;let⟨z,hd,ws,rel,dd⟩:=QM I.hok hH;show call_meetsIn eW dd.typeIs PySem.F.entry_dict_setdefault (PySem.F.args_dict_setdefault_3 _ _ _) (kt_meets_setdefault (ZO X.prog X.w) d (Ie rk) hd uy)
  ⟨ws,dd,by rw[<-rel.length];show z,λv' xg=>?_,λhn h' Ic hs=>?_⟩
 .cases e:Wm kvs k with
  |none=>
   let q:=rel.val k;rw[e,xg]at q;show False.elim q
  |some w'=>
   let q:=rel.val k;rw[e,xg]at q;exists w',H,I.tok _,q,h1 w' e
 .let e:Wm kvs k=none:=by
   cases e:Wm kvs k with
   |none=>rfl
   |some w'=>
    let q:=rel.val k;rw[e,hn]at q;show False.elim q
  let he:∃q,h'.get? d=some q:=by let⟨q,_,_,hq,_⟩:=Ic;exists q,hq
  exists y,_,qz (ob:=.dK<|putK kvs k y) I (by rw[hH];show True.intro) hs he<|CU ?_ hd (rel.put k ry) Ic,ry,?_
  .have:=qE kvs k y;lia
  .rw[qD y e];show h2 e
def QK(p d:Addr):(HO):=.ext λh=>h.IsValuesView p d
def pM:(V->List V->Hp->VK->Prop):=λx vs H Q=>∃d kvs,x=.ref d/\vs=[]/\H d=some (.dK kvs)/\∀p,H p=none->Q ↑p (upd H p<|QK p d)
def Zu8:Kk X "dict.values" pM:=by
 intro pins s σ H x vs v us Q I rx rv h;let⟨d,kvs,rfl,rfl,hH,q⟩:=h;cases rx;cases rv;let⟨z,hd,ws,rel,dd⟩:=QM I.hok hH;show call_meetsIn eJ dd.typeIs PySem.F.entry_dict_values (PySem.F.args_dict_values_1 _) (meets_dict_values (ZO X.prog X.w) d hd) ⟨⟨ws,dd⟩,?_⟩;exists .ref (~~~s),_,I.laid (o:=QK (~~~s) d) (λb u e=>Xf _ e) (XM _) ?_,Z,q _<|I.hok.fresh<|XM _;let e:=Yo s.heap (o:={cls:=.type "dict_values",data:=.fields #[.ref d]}) rfl
 exists ⟨_,e,Z,Z⟩,⟨_,e⟩,λh1 h2 zz k=>by let⟨o,ho,r⟩:=zz;exists o,k o ho,r
def c7{h:Heap}(dd:h.DictOf (ZO P w) d ws):∃ep,h.DictAt (ZO P w) d ws ep:=by let⟨o,es,ep,r⟩:=dd;exists ep,o,es,r
def pL{κ:Type}{kvs:List (κ×V)}{ws:List (κ×Value)}(h:KV kvs ws):Vals (kvs.map (·.2)) (ws.map (·.2)):=by
 induction h with
 |nil=>show .nil
 |cons r t ih=>show .cons r.2 ih
def ZJ3(hc:X.calm=true):WB X (.type "list") (λxs H Q=>∃p d kvs,xs=[.ref p]/\H p=some (QK p d)/\H d=some (.dK kvs)/\∀l,H l=none->Q ↑l (upd H l (.lst (kvs.map (·.2))))):=by
 intro pins s σ H xs us Q I r h;let⟨p,d,kvs,rfl,hp,hd,q⟩:=h;let⟨u,rfl,ru⟩:=Tg r;let rfl:u=Value.ref p:=ru;let⟨hv,_,_⟩:=(show ObjOk X.prog X.w H s.heap p (QK p d) from I.hok p _ hp);let⟨z,hds,ws,rel,dd⟩:=QM I.hok hd;let⟨ep,da⟩:=c7 dd;let hl:ws.length=kvs.length:=rel.length.symm
 show PySem.W.kdl_call (PySem.W.kdl_values (knd:=ZO X.prog X.w) (kvs:=ws) (ep:=ep) (r:=p) (d:=d)) (I.ok.hd hc) ⟨hv,da⟩ J λh' tk acc c' hk hS ha=>?_;let ea:acc.toList=ws.map (·.2):=by
  show Nq λi=>?_;cases e:acc.toList[i]? with
  |none=>
   have:ws.length<=i:=by
    have:=uz.mp e
    rwa[Yw,ha.1]at this
   rw[uz.mpr (by rwa[Yc])]
  |some v=>
   let⟨k,ek⟩:=ha.2 i v (by simpa using e);rw[Ys,ek];rfl
 exists .ref (~~~s),_,I.laid (o:=.lst (kvs.map (·.2))) hk (XM _) ⟨by rw[Yc];show z,acc.toList,c',?_,by rw[hS]⟩,Z,q _<|I.hok.fresh<|XM _;rw[ea];show pL rel
end
inductive EqD(K:Ad)(H:Hp):Nat->V->V->Bool->Prop
 |flat {n:Nat} {x y:V} (fx:So x=true) (fy:So y=true):EqD K H n x y (Sn x y)
 |lsts {n:Nat} {a b:Addr} {xs ys:List V} {e:Nat->Bool} (ha:SqL K H a xs) (hb:SqL K H b ys) (hl:xs.length=ys.length) (h:∀i x y,xs[i]?=some x->ys[i]?=some y->EqD K H n x y (e i)):EqD K H (n+1) ↑a ↑b ((List.range xs.length).all e)
 |lens {n:Nat} {a b:Addr} {xs ys:List V} (ha:SqL K H a xs) (hb:SqL K H b ys) (hl:xs.length≠ys.length):EqD K H (n+1) ↑a ↑b false
 |tups {n:Nat} {a b:Addr} {xs ys:List V} {e:Nat->Bool} (ha:SqT K H a xs) (hb:SqT K H b ys) (h:∀i x y,xs[i]?=some x->ys[i]?=some y->EqD K H n x y (e i)):
   EqD K H (n+1) ↑a ↑b ((List.range<|min xs.length ys.length).all e&&xs.length == ys.length)
def pK(h:So x=true):Sn x x=true:=by cases x<;>first|rfl|(simp[Sn];done)|show absurd (show false=true from h) YG
section
variable{X:Cx}{pins:List (Addr×Obj)}{σ:St}{H:Hp}{s:Shared}
def Vals.at{j:Nat}(r:Vals xs us)(h:j<us.length):∃x,xs[j]?=some x/\RelV x us[j]:=by
 let hl:=r.length;let hx:xs[j]?=some (xs[j]'(by lia)):=Xq D
 let⟨u,e,ru⟩:=r.get hx;rw[Xq h]at e;cases e;exists _,hx,ru
def EqD.self(q:EqD X.K H n x y b)(I:Inv X pins σ H s):x=y->b=true:=by
 induction q with
 |flat fx fy=>intro e;subst e;show pK fx
 |@lsts n a b xs ys e ha hb hl h ih=>
  intro z;cases z;let e1:xs=ys:=I.list_inj ha hb
  subst e1;rw[QY];intro i hi;let hx:xs[i]?=some (xs[i]'(YS.mp hi)):=Xq _
  show ih i _ _ hx hx rfl
 |@lens n a b xs ys ha hb hl=>
  intro z;cases z;show absurd (YV List.length<|I.list_inj ha hb) hl
 |@tups n a b xs ys e ha hb h ih=>
  intro z;cases z;let e1:xs=ys:=I.tuple_inj ha hb
  subst e1;rw[Nat.min_self,Ja,QY];exists λi hi=>?_,B;let hx:xs[i]?=some (xs[i]'(YS.mp hi)):=Xq _
  show ih i _ _ hx hx rfl
def EqD.at(q:EqD X.K H n x y b)(I:Inv X pins σ H s):∀{A:Around}{u v:Value},A.units+n<cLine->RelV x u->RelV y v->SeqAt.EqAt A s u v b:=by
 induction q with
 |flat fx fy=>intro A u v _ ru rv;show Df ru rv fx fy
 |@lsts n a b xs ys e ha hb hl h ih=>
  intro A u v hu ru rv;let rfl:u=Value.ref a:=ru;let rfl:v=Value.ref b:=rv;cases Vh:a=b
  .let z:=EqD.self (EqD.lsts ha hb hl h) I (YV V.ref Vh);rw[z,Vh];show SeqAt.EqAt.same _
  let⟨us,rx,px,_⟩:=I.list ha;let⟨vs,ry,py,_⟩:=I.list hb;let l1:=rx.length
  let l2:=ry.length;let z:=SeqAt.RcAt.lists (A:=A) (s:=s) (e:=e) px.isList py.isList (by rw[Yb,Yb];lia) J λj h1 h2=>by let⟨x,ex,OQ⟩:=rx.at (j:=j) (by simpa using h1);let⟨y,ey,OP⟩:=ry.at (j:=j) (by simpa using h2);show ih j x y ex ey (A:=A.in1) (by change A.units+1+n<cLine;lia) (by simpa using OQ) (by simpa using OP)
  rw[Yb,<-l1]at z;show tT Vh z
 |@lens n a b xs ys ha hb hl=>
  intro A u v hu ru rv;let rfl:u=Value.ref a:=ru;let rfl:v=Value.ref b:=rv;let⟨us,rx,px,_⟩:=I.list ha;let⟨vs,ry,py,_⟩:=I.list hb;let l1:=rx.length
  let l2:=ry.length;let Vh:a≠b:=λz=>by subst z;show hl (YV List.length<|I.list_inj ha hb)
  show tT Vh (SeqAt.RcAt.lists_lengths px.isList py.isList (by rw[Yb,Yb];simp;lia) D)
 |@tups n a b xs ys e ha hb h ih=>
  intro A u v hu ru rv;let rfl:u=Value.ref a:=ru;let rfl:v=Value.ref b:=rv;cases Vh:a=b
  .let z:=EqD.self (EqD.tups ha hb h) I (YV V.ref Vh);rw[z,Vh];show SeqAt.EqAt.same _
  let⟨us,rx,px,_⟩:=I.tuple ha;let⟨vs,ry,py,_⟩:=I.tuple hb;let l1:=rx.length
  let l2:=ry.length;let z:=SeqAt.RcAt.tuples (A:=A) (s:=s) (e:=e) (show s.heap.IsTuple a us.toArray from px) (show s.heap.IsTuple b vs.toArray from py) D λj h1 h2=>by let⟨x,ex,OQ⟩:=rx.at (j:=j) (by simpa using h1);let⟨y,ey,OP⟩:=ry.at (j:=j) (by simpa using h2);show ih j x y ex ey (A:=A.in1) (by change A.units+1+n<cLine;omega) (by simpa using OQ) (by simpa using OP)
  rw[Yb,Yb,<-l1,<-l2]at z;show tT Vh z
end
section
variable{X:Cx}
inductive rEqD(K:Ad)(neg:Bool)(x:V)(y:V)(H:Hp)(Q:VK):Prop
 |mk (n b p q:_) (_:x=.ref p) (_:y=.ref q) (_:n<=6) (_:EqD K H n x y b) (_:Q (.bl<|if neg then !b else b) H)
def pJ(hu:X.A.units+8<cLine):Wy X (compareOp .Eq) (rEqD X.K false):=by
 intro pins s σ H x y u v Q I ru rv h;let⟨n,b,p,q,rfl,rfl,hn,d,hq⟩:=h;let rfl:u=Value.ref p:=ru;let rfl:v=Value.ref q:=rv;let fin:EP X pins σ Q (.bool b) s:=⟨.bl b,H,I,Z,hq⟩
 cases d with
 |flat fx fy=>show absurd (show false=true from fx) YG
 |@lsts n _ _ xs ys e ha hb hl h=>
  let⟨us,rx,px,_⟩:=I.list ha;let⟨vs,ry,py,_⟩:=I.list hb;let l1:=rx.length
  let l2:=ry.length;show SeqAt.eq_listAt (e:=e) px.isList py.isList (by rw[Yb,Yb];lia) J (λj h1 h2=>?_) (by rwa[Yb,<-l1]);let⟨x,ex,OQ⟩:=rx.at (j:=j) (by simpa using h1);let⟨y,ey,OP⟩:=ry.at (j:=j) (by simpa using h2);show(h j x y ex ey).at I (A:=X.A.in1) (by change X.A.units+1+n<cLine;lia) (by simpa using OQ) (by simpa using OP)
 |@lens n _ _ xs ys ha hb hl=>
  let⟨us,rx,px,_⟩:=I.list ha;let⟨vs,ry,py,_⟩:=I.list hb;let l1:=rx.length
  let l2:=ry.length;show SeqAt.eq_list_lengthsAt px.isList py.isList (by rw[Yb,Yb];simp;lia) D fin
 |@tups n _ _ xs ys e ha hb h=>
  let⟨us,rx,px,_⟩:=I.tuple ha;let⟨vs,ry,py,_⟩:=I.tuple hb;let l1:=rx.length
  let l2:=ry.length;show SeqAt.eq_tupleAt (e:=e) (show s.heap.IsTuple p us.toArray from px) (show s.heap.IsTuple q vs.toArray from py) D (λj h1 h2=>?_) (by rwa[Yb,Yb,<-l1,<-l2]);let⟨x,ex,OQ⟩:=rx.at (j:=j) (by simpa using h1);let⟨y,ey,OP⟩:=ry.at (j:=j) (by simpa using h2);show(h j x y ex ey).at I (A:=X.A.in1) (by change X.A.units+1+n<cLine;omega) (by simpa using OQ) (by simpa using OP)
def pI(hu:X.A.units+8<cLine):Wy X (compareOp .NotEq) (rEqD X.K true):=by
 intro pins s σ H x y u v Q I ru rv h;let⟨n,b,p,q,rfl,rfl,hn,d,hq⟩:=h;let rfl:u=Value.ref p:=ru;let rfl:v=Value.ref q:=rv;let fin:EP X pins σ Q (.bool<|!b) s:=⟨.bl<|!b,H,I,Z,hq⟩
 cases d with
 |flat fx fy=>show absurd (show false=true from fx) YG
 |@lsts n _ _ xs ys e ha hb hl h=>
  let⟨us,rx,px,_⟩:=I.list ha;let⟨vs,ry,py,_⟩:=I.list hb;let l1:=rx.length
  let l2:=ry.length;show SeqAt.RcNeAt.lists (e:=e) px.isList py.isList (by rw[Yb,Yb];omega) D (λj h1 h2=>?_) _ _ _ _ (by rwa[Yb,<-l1]);let⟨x,ex,OQ⟩:=rx.at (j:=j) (by simpa using h1);let⟨y,ey,OP⟩:=ry.at (j:=j) (by simpa using h2);show(h j x y ex ey).at I (A:=X.A.in1) (by change X.A.units+1+n<cLine;omega) (by simpa using OQ) (by simpa using OP)
 |@lens n _ _ xs ys ha hb hl=>
  let⟨us,rx,px,_⟩:=I.list ha;let⟨vs,ry,py,_⟩:=I.list hb;let l1:=rx.length
  let l2:=ry.length;show SeqAt.RcNeAt.lists_lengths px.isList py.isList (by rw[Yb,Yb];simp;omega) D _ _ _ _ fin
 |@tups n _ _ xs ys e ha hb h=>
  let⟨us,rx,px,_⟩:=I.tuple ha;let⟨vs,ry,py,_⟩:=I.tuple hb;let l1:=rx.length
  let l2:=ry.length;show SeqAt.RcNeAt.tuples (e:=e) (show s.heap.IsTuple p us.toArray from px) (show s.heap.IsTuple q vs.toArray from py) D (λj h1 h2=>?_) _ _ _ _ (by rwa[Yb,Yb,<-l1,<-l2]);let⟨x,ex,OQ⟩:=rx.at (j:=j) (by simpa using h1);let⟨y,ey,OP⟩:=ry.at (j:=j) (by simpa using h2);show(h j x y ex ey).at I (A:=X.A.in1) (by change X.A.units+1+n<cLine;omega) (by simpa using OQ) (by simpa using OP)
end
end L2
namespace My
open PySem L2
abbrev IL(ns:Ac):List V:=ns.map V.int
def Xy(ns:Ac):(IL ns).length=ns.length:=Yc ..
def wV(a b:Ac):IL (a++b)=IL a++IL b:=YK ..
def ZU(a:Ac)(r:Int):IL (a++[r])=IL a++[.int r]:=YK ..
def c6(a:Ac)(n:Nat):IL (a.take n)=(IL a).take n:=List.map_take ..
def pH(a:Ac)(n:Nat):IL (a.drop n)=(IL a).drop n:=List.map_drop ..
def UL{i:Nat}{z:Int}(h:ns[i]?=some z):(IL ns)[i]?=some (.int z):=by rw[Ys,h];rfl
def ZV{i:Nat}{x:V}(h:(IL ns)[i]?=some x):∃z,x=.int z/\ns[i]?=some z:=by
 rw[Ys]at h;cases e:ns[i]? with
 |none=>rw[e]at h;cases h
 |some z=>rw[e]at h;exists z,(Ye h).symm,Z
def ZI{a:Addr}(hn:H a=none)(s:Same H H2):Same H (upd H2 a o):=λb u e=>by rw[XJ (Za e hn)];show s b u e
def Zr{p:Addr}(s:Same H H2)(hp:H2 p=none):Same H (upd H2 p o):=ZI (s.free hp) s
def XZ{p:Addr}(hp:H p=none):Same H (upd H p o):=Zr (Same.refl H) hp
def Ke(e:Same H H')(h:SqT K H a xs):SqT K H' a xs:=by
 rcases h with (h|⟨o,h⟩)|h
 .show .inl (.inl<|e _ _ h)
 .show .inl (.inr ⟨o,e _ _ h⟩)
 .show .inr h
def OO{n:Nat}(h:n<=1000000):n<=sizeLine:=Yn h sT
def Zg{n:Nat}(h:n<=1000000):n<sizeLine:=xT h sT
def CG(hr:Room k A):A.units+8<cLine:=xT (Nat.add_le_add_left (by decide:8<=64) _) hr.units
def ZJ{α:Type}{xs:List α}{i:Int}{n:Nat}{x:α}(hi:i=(n:Int))(h:xs[n]?=some x):We xs i=some x:=by
 subst hi;let hn:n<xs.length:=(Xx.mp h).1
 unfold We Md;rw[if_pos (Int.natCast_nonneg n),if_pos D];simpa using h
def wU{c A sO:Prop}[Decidable c](hc:c)(h:A):if decide c=true then A else sO:=by rwa[if_pos (Yv hc)]
def HY{c A sO:Prop}[Decidable c](hc:¬c)(h:sO):if decide c=true then A else sO:=by rwa[if_neg (by simp[hc])]
def pG{c A sO:Prop}[Decidable c](hc:c)(h:sO):if (!decide c)=true then A else sO:=by rwa[if_neg (by simp[hc])]
def pF{c A sO:Prop}[Decidable c](hc:¬c)(h:A):if (!decide c)=true then A else sO:=by rwa[if_pos (by simp[hc])]
def WO{c A sO:Prop}[Decidable c](h1:c->A)(h2:¬c->sO):if decide c=true then A else sO:=by
 cases h:c
 .show wU h (h1 h)
 .show HY h (h2 h)
def WL{c A sO:Prop}[Decidable c](h1:c->sO)(h2:¬c->A):if (!decide c)=true then A else sO:=by
 cases h:c
 .show pG h (h1 h)
 .show pF h (h2 h)
def itb{b:Bool}{A sO:Prop}(h1:b=true->A)(h2:b=false->sO):if b=true then A else sO:=by
 cases b with
 |true=>show SI (h1 Z)
 |false=>show SJ (h2 Z)
def CF{b:Bool}{A sO:Prop}(h1:b=true->sO)(h2:b=false->A):if (!b)=true then A else sO:=by
 cases b with
 |true=>show SJ (h1 Z)
 |false=>show SI (h2 Z)
def SqK(k:Bool)(K:Ad)(H:Hp)(a:Addr)(xs:List V):(Prop):=match k with
 |false=>SqL K H a xs
 |true=>SqT K H a xs
def SqK.same(e:Same H H')(h:SqK k K H a xs):SqK k K H' a xs:=by
 cases k with
 |false=>show e.seq h
 |true=>show Ke e h
def SqK.or(h:SqK k K H a xs):SqL K H a xs\/SqT K H a xs:=by
 cases k with
 |false=>show .inl h
 |true=>show .inr h
def CD(K:Ad)(tl:TE):(TI):=λσ H R=>tl σ H λx H1=>∃a,x=.ref a/\(((∃xs,SqL K H1 a xs)/\R (Pe K a) H1)\/((∃xs,SqT K H1 a xs)/\R (Pd K a) H1))
def HW(hl:PE X l tl):PI X tg l (CD X.K tl):=by
 intro pins s σ H R I h;show thn (hl pins s σ H _ I h) λv s1 Xs=>?_;let⟨x,H1,I1,r1,q1⟩:=Xs;let⟨a,e,q⟩:=q1;subst e;cases r1;rcases q with ⟨⟨xs,hq⟩,q⟩|⟨⟨xs,hq⟩,q⟩
 .let⟨XX,rv,p,hz⟩:=I1.list hq;show xJ p.isList ?_;exists (~~~s1),[(~~~s1)],_,_,H1,Z,I1.kept (t':=s1.toks) λb o e=>Xf _ e,dI a _,⟨_,Yo _ Z,Z,Z⟩,λb hb=>?_,q;let e:b=(~~~s1):=by simpa using hb
  subst e;show I1.fpOk (XM _) (I1.hok.fresh<|XM _)
 .let⟨XX,rv,p,hz⟩:=I1.tuple hq;show wpAny_pyIter_tuple (show s1.heap.IsTuple a XX.toArray from p) ?_;exists (~~~s1),[(~~~s1)],_,_,H1,Z,I1.kept (t':=s1.toks) λb o e=>Xf _ e,dH a _,⟨_,Yo _ Z,Z,Z⟩,λb hb=>?_,q;let e:b=(~~~s1):=by simpa using hb
  subst e;show I1.fpOk (XM _) (I1.hok.fresh<|XM _)
def wR{g:TG}{tb:TS}{sP:Ends}(Pv:Nat->St->Hp->Prop)(h0:Pv 0 σ H)(hl:∀i σ H,i<=xs.length->Pv i σ H->SqK k K H a xs)
  (hs:∀i x σ H,xs[i]?=some x->Pv i σ H->g x σ H λσ2 H2=>tb {sP with nx:=Pv<|i+1,ct:=Pv<|i+1,bk:=sP.nx} σ2 H2)(hd:∀σ H,Pv xs.length σ H->sP.nx σ H):((∃xs,SqL K H a xs)/\∃W:Nat->Nat->St->Hp->Prop,(∃m,W 0 m σ H)/\∀i m σ H,W i m σ H->
   ((Pe K a).stop i H/\sP.nx σ H)\/((Pe K a).go i H/\∃N:St->Hp->Prop,(∀σ' H',N σ' H'->∃m',m'<m/\W (i+1) m' σ' H')/\∀x H',(Pe K a).yld i H x H'->g x σ H' λσ2 H2=>tb {sP with nx:=N,ct:=N,bk:=sP.nx} σ2 H2))\/
  ((∃xs,SqT K H a xs)/\∃W:Nat->Nat->St->Hp->Prop,(∃m,W 0 m σ H)/\∀i m σ H,W i m σ H->
   ((Pd K a).stop i H/\sP.nx σ H)\/((Pd K a).go i H/\∃N:St->Hp->Prop,(∀σ' H',N σ' H'->∃m',m'<m/\W (i+1) m' σ' H')/\∀x H',(Pd K a).yld i H x H'->g x σ H' λσ2 H2=>tb {sP with nx:=N,ct:=N,bk:=sP.nx} σ2 H2)):=by
 cases k with
 |false=>show .inl ⟨⟨xs,hl 0 σ H (Yk _) h0⟩,Iv (K:=K) (a:=a) (xs:=xs) Pv h0 hl hs hd⟩
 |true=>show .inr ⟨⟨xs,hl 0 σ H (Yk _) h0⟩,rL (K:=K) (a:=a) (xs:=xs) Pv h0 hl hs hd⟩
def PairV(H:Hp)(v:V)(p:Int×Int):(Prop):=∃t,v=.ref t/\H t=some (.tup [.int p.1,.int p.2])
def PairsV(H:Hp)(xs:List V)(ps:Aa):(Prop):=xs.length=ps.length/\∀(i:Nat)(p:Int×Int),ps[i]?=some p->∃v,xs[i]?=some v/\PairV H v p
def PairV.same(s:Same H H')(h:PairV H v p):PairV H' v p:=by let⟨t,e,q⟩:=h;exists t,e,s _ _ q
def PairsV.same(s:Same H H')(h:PairsV H xs ps):PairsV H' xs ps:=⟨h.1,λi p e=>by let⟨v,e1,q⟩:=h.2 i p e;exists v,e1,q.same s⟩
def PairsV.at(h:PairsV H xs ps){i:Nat}{v:V}(e:xs[i]?=some v):∃p,ps[i]?=some p/\PairV H v p:=by
 let hi:i<xs.length:=(Xx.mp e).1;let hp:i<ps.length:=by rwa[<-h.1]
 let⟨v',e1,q⟩:=h.2 i ps[i] (Xq hp);rw[e]at e1;cases e1;exists _,Xq hp,q
def PairsV.nil:PairsV H [] []:=⟨Z,λi p e=>by simp at e⟩
def PairsV.snoc(h:PairsV H xs ps)(q:PairV H v p):PairsV H (xs++[v]) (ps++[p]):=by
 show⟨by rw[Xt,Xt,h.1];rfl,λi p' e=>?_⟩;cases hi:i<ps.length
 .rw[Yp hi]at e;rw[Yp (by rwa[h.1])];show h.2 i p' e
 .let hl:i=ps.length:=by
   have:=(Xx.mp e).1
   rw[Xt,Yx]at this;lia
  subst hl;rw[Ym (XM _),Nl]at e;rw[Ym (by rw[h.1];show XM _),h.1,Nl];let e':p=p':=Ye e
  subst e';exists v,Z,q
def PairsV.app(h:PairsV H xs ps)(h2:PairsV H ys qs):PairsV H (xs++ys) (ps++qs):=by
 show⟨by rw[Xt,Xt,h.1,h2.1],λi p e=>?_⟩;cases hi:i<ps.length
 .rw[Yp hi]at e;rw[Yp (by rwa[h.1])];show h.2 i p e
 .rw[Ym J]at e;rw[Ym (by rw[h.1];omega),h.1];show h2.2 _ p e
def pE:¬(("places":Str)="ties"):=by decide +kernel
def wf(n:Int)(tl:Addr):(List (Str×V)):=XO "ties" ↑tl (XO "places" (.int n) [])
def HV(n:Int)(tl:Addr):(wf n tl).lookup ("places":Str)=some (.int n):=by unfold wf;rw[Ds,if_neg pE,Ds,if_pos Z]
def Nb(n:Int)(tl:Addr):(wf n tl).lookup ("ties":Str)=some ↑tl:=by unfold wf;rw[Ds,if_pos Z]
def WebAt(C:Addr)(H:Hp)(w:Addr)(n:Int)(ps:Aa):(Prop):=∃dx tl xs,H w=some (.ins C dx<|wf n tl)/\H tl=some (.lst xs)/\PairsV H xs ps
def WebAt.same(s:Same H H')(h:WebAt C H w n ps):WebAt C H' w n ps:=by let⟨dx,tl,xs,a,b,c⟩:=h;exists dx,tl,xs,s _ _ a,s _ _ b,c.same s
def Zy(n:Int)(ps:Aa):(Prop):=1<=n/\n<=14/\ps.length<=30/\∀p∈ps,0<=p.1/\p.1<n/\0<=p.2/\p.2<n
def cZ(K:Ad)(mg:Af)(x qual:Str)(st:Stmt)(fs:List Str):(Prop):=∃C f fd,mg x=some ↑C/\Fun K "__init__" qual st f fd/\Cls K C/\Mk K C f/\∀a∈fs,NoAttr K C a
def CC{mg:Af}{oc:Value}{od an:Option Addr}{Tf:Array (Option Value)}{kV doc pm Xu ct:Value}(X:K.In h)(G:h.Ns mainGlobals mg)
  (aC:PySem.W.nsIn K mainGlobals x=some (some<|.ref C))(a:PySem.W.findIn K ↑C "__init__"=some (some<|.ref f))(i:PySem.W.isFn K ↑f=true)
  (l:K.lookup f=some ⟨oc,od,.func<|PySem.W.fnOf "__init__" qual (Kh st) (QL st) (Xe st) .none kV doc pm an Xu ct,Tf⟩)(c:PySem.W.codeIn K Xu qual=true)(k:PySem.W.keepIn K ↑f=true)
  (pg:PySem.W.plainGet K C Str.empty=true)(hd:PySem.W.hasDictIn K C=true)(po:PySem.W.plainOver K C=true)(sa:PySem.W.findIn K ↑C "__setattr__"=some (some<|.builtin "object.__setattr__"))(mk:PySem.W.makesIn K C=true)(kc:PySem.W.keepIn K ↑C=true)
  (na:∀a∈fs,PySem.W.findIn K ↑C a=some none):cZ K mg x qual st fs:=
 ⟨C,f,_,xF X G aC,wZ l c k,⟨pg,hd,po,sa⟩,⟨mk,a,i,kc⟩,na⟩
def SH{mg:Af}{z:Int}{v:Value}(X:K.In h)(G:h.Ns mainGlobals mg)(a:PySem.W.nsIn K mainGlobals x=some (some v))(e:∃tk,v=.int z tk):∃tk,mg x=some (.int z tk):=by let⟨tk,rfl⟩:=e;exists tk,xF X G a
def cW{x:V}{A sO:St->Hp->Prop}(h:A (σ.set i (some x)) H):Mo i x σ H λσ2 H2=>tYes σ2 H2 λb H3=>if b=true then A σ2 H3 else sO σ2 H3:=
 (show if true=true then A (σ.set i<|some x) H else sO (σ.set i<|some x) H from SI h)
def nm{x:V}{Q:St->Hp->Prop}(h:Q (σ.set i (some x)) H):Mo i x σ H Q:=h
section
variable{K:Ad}{a:Addr}{xs:List V}{g:TG}{tt:TT}{te:TE}{o:Nat}{fr:List Nat}{σ:St}{H:Hp}{Q:VK}
abbrev Fp(Pv:Nat->List V->Hp->Prop)(g:TG)(tt:TT)(te:TE)(o:Nat)(fr:List Nat)(σ:St)(i:Nat)(x:V)(ys:List V)(H:Hp):Prop:=
 ∀S:Nat->List V->Hp->Prop,(∀ys H,Pv (i+1) ys H->S (i+1) ys H)->g x (σC o fr σ) H λσ2 H2=>tt σ2 H2 λb H3=>if b=true then te σ2 H3 λy H4=>S (i+1) (ys++[y]) H4 else S (i+1) ys H3
def Wc(Pv:Nat->List V->Hp->Prop)(h0:Pv 0 [] H)(hz:xs.length<sizeLine)(hl:∀i ys H,i<=xs.length->Pv i ys H->SqL K H a xs/\ys.length<=i)
  (hs:∀i x ys H,xs[i]?=some x->Pv i ys H->Fp Pv g tt te o fr σ i x ys H)(hd:∀ys H,Pv xs.length ys H->∀p,H p=none->Q ↑p (upd H p<|.lst ys)):Kg (Pe K a) g tt te o fr σ H Q:=by
 exists λi m ys H=>m=xs.length-i/\i<=xs.length/\Pv i ys H,⟨xs.length,B,Yk _,h0⟩,?_;rintro i m ys H ⟨rfl,hi,p⟩;let⟨q,hy⟩:=hl i ys H hi p;cases Xk:i<xs.length
 .show .inr ⟨⟨xs,xs[i],q,by simp[Xk]⟩,J,λx H' zz=>?_⟩;let⟨e,y⟩:=zz;subst e;let hx:=y xs q
  show hs i x ys _ hx p (λj ys H=>∃m',m'<xs.length-i/\m'=xs.length-j/\j<=xs.length/\Pv j ys H) λys H p'=>⟨xs.length-(i+1),sS,Z,Xk,p'⟩
 .let e:i=xs.length:=J;subst e;show .inl ⟨⟨xs,q,XM _⟩,J,hd ys H p⟩
def HU(Pv:Nat->List V->Hp->Prop)(h0:Pv 0 [] H)(hz:xs.length<sizeLine)(hl:∀i ys H,i<=xs.length->Pv i ys H->SqT K H a xs/\ys.length<=i)
  (hs:∀i x ys H,xs[i]?=some x->Pv i ys H->Fp Pv g tt te o fr σ i x ys H)(hd:∀ys H,Pv xs.length ys H->∀p,H p=none->Q ↑p (upd H p<|.lst ys)):Kg (Pd K a) g tt te o fr σ H Q:=by
 exists λi m ys H=>m=xs.length-i/\i<=xs.length/\Pv i ys H,⟨xs.length,B,Yk _,h0⟩,?_;rintro i m ys H ⟨rfl,hi,p⟩;let⟨q,hy⟩:=hl i ys H hi p;cases Xk:i<xs.length
 .show .inr ⟨⟨xs,xs[i],q,by simp[Xk]⟩,D,λx H' zz=>?_⟩;let⟨e,y⟩:=zz;subst e;let hx:=y xs q
  show hs i x ys _ hx p (λj ys H=>∃m',m'<xs.length-i/\m'=xs.length-j/\j<=xs.length/\Pv j ys H) λys H p'=>⟨xs.length-(i+1),D,Z,Xk,p'⟩
 .let e:i=xs.length:=D;subst e;show .inl ⟨⟨xs,q,XM _⟩,D,hd ys H p⟩
def wQ(Pv:Nat->List V->Hp->Prop)(h0:Pv 0 [] H)(hz:xs.length<sizeLine)(hl:∀i ys H,i<=xs.length->Pv i ys H->SqK k K H a xs/\ys.length<=i)
  (hs:∀i x ys H,xs[i]?=some x->Pv i ys H->Fp Pv g tt te o fr σ i x ys H)(hd:∀ys H,Pv xs.length ys H->∀p,H p=none->Q ↑p (upd H p<|.lst ys)):
  ((∃xs,SqL K H a xs)/\Kg (Pe K a) g tt te o fr σ H Q)\/((∃xs,SqT K H a xs)/\Kg (Pd K a) g tt te o fr σ H Q):=by
 cases k with
 |false=>show .inl ⟨⟨xs,(hl 0 [] H (Yk _) h0).1⟩,Wc Pv h0 hz hl hs hd⟩
 |true=>show .inr ⟨⟨xs,(hl 0 [] H (Yk _) h0).1⟩,HU Pv h0 hz hl hs hd⟩
def cV(Pv:Nat->List V->Hp->Prop)(h0:Pv 0 [] H)(hz:n<sizeLine)(hl:∀i ys H,i<=n->Pv i ys H->ys.length<=i)
  (hs:∀i ys H,i<n->Pv i ys H->Fp Pv g tt te o fr σ i (.int<|lo+i) ys H)(hd:∀ys H,Pv n ys H->∀p,H p=none->Q ↑p (upd H p<|.lst ys)):Kg (Iy lo n) g tt te o fr σ H Q:=by
 exists λi m ys H=>m=n-i/\i<=n/\Pv i ys H,⟨n,B,Yk _,h0⟩,?_;rintro i m ys H ⟨rfl,hi,p⟩;let hy:=hl i ys H hi p
 cases Xk:i<n
 .show .inr ⟨Xk,J,λx H' zz=>?_⟩;let⟨e,y⟩:=zz;subst e;subst y;show hs i ys _ Xk p (λj ys H=>∃m',m'<n-i/\m'=n-j/\j<=n/\Pv j ys H) λys H p'=>⟨n-(i+1),sS,Z,Xk,p'⟩
 .let e:i=n:=J;subst e;show .inl ⟨XM _,J,hd ys H p⟩
end
def Fo{α:Type}{l:List α}(h:l.Nodup){i j:Nat}{x:α}(a:l[i]?=some x)(b:l[j]?=some x):i=j:=by let⟨h1,e1⟩:=Xx.mp a;let⟨h2,e2⟩:=Xx.mp b;show(List.getElem_inj h).mp (e1.trans e2.symm)
def ZY{α:Type}{l:List α}{x d:α}(h:l[i]?=some x):l.getD i d=x:=by rw[WG,h];rfl
def cU{α:Type}{l:List α}{x:α}(h:l.Nodup)(hx:x∉l):(l++[x]).Nodup:=by rw[Wo];exists h,B,λa ha b hb=>?_;rw[XG]at hb;subst hb;rintro rfl;show hx ha
def CB{g:TG}{tb:TS}{sP:Ends}(Pv:Nat->St->Hp->Prop)(h0:Pv 0 σ H)(hl:∀i σ H,i<=xs.length->Pv i σ H->SqL K H a xs)
  (hs:∀(i:Nat) x σ H (p:Addr),H p=none->xs[i]?=some x->Pv i σ H->g ↑p σ (upd H p<|.tup [.int i,x]) λσ2 H2=>tb {sP with nx:=Pv<|i+1,ct:=Pv<|i+1,bk:=sP.nx} σ2 H2)(hd:∀σ H,Pv xs.length σ H->sP.nx σ H):
  ∃W:Nat->Nat->St->Hp->Prop,(∃m,W 0 m σ H)/\∀i m σ H,W i m σ H->
   ((Fq K a).stop i H/\sP.nx σ H)\/((Fq K a).go i H/\∃N:St->Hp->Prop,(∀σ' H',N σ' H'->∃m',m'<m/\W (i+1) m' σ' H')/\∀x H',(Fq K a).yld i H x H'->g x σ H' λσ2 H2=>tb {sP with nx:=N,ct:=N,bk:=sP.nx} σ2 H2):=by
 exists λi m σ H=>m=xs.length-i/\i<=xs.length/\Pv i σ H,⟨xs.length,B,Yk _,h0⟩,?_;rintro i m σ H ⟨rfl,hi,p⟩;let q:=hl i σ H hi p
 cases Xk:i<xs.length
 .show .inr ⟨⟨xs,xs[i],q,by simp[Xk]⟩,Pv<|i+1,λσ' H' p'=>⟨xs.length-(i+1),D,Z,Xk,p'⟩,λx H' zz=>?_⟩;let⟨T,y,hT,ex,eH,hy⟩:=zz;subst ex eH;show hs i y σ H T hT (hy xs q) p
 .let e:i=xs.length:=J;subst e;show .inl ⟨⟨xs,q,XM _⟩,hd σ H p⟩
end My
namespace L2
open PySem PySem.Spec PyProof.Rows
section
variable{X:Cx}{a b o e:Expr}{es:List Expr}{ta to:TE}{t:TA}{pos:Pos}
def Zd(K:Ad)(h:X.K=K:=by rfl):Di X (rIxL K):=h▸Dh
def ZK(K:Ad)(h:X.K=K:=by rfl):Di X (rIxT K):=h▸qU
def Kd(K:Ad)(h:X.K=K:=by rfl):qX X (rSlL K):=h▸qT
def HS(K:Ad)(h:X.K=K:=by rfl):Wy X (compareOp .In) (λx y H Q=>∃p xs,y=.ref p/\(SqL K H p xs\/SqT K H p xs)/\So x=true/\xs.all So=true/\Q (.bl<|Fu x xs) H):=h▸Zr8
def Tx(K:Ad)(h:X.K=K:=by rfl):Wy X (compareOp .NotIn) (λx y H Q=>∃p xs,y=.ref p/\(SqL K H p xs\/SqT K H p xs)/\So x=true/\xs.all So=true/\Q (.bl<|!Fu x xs) H):=h▸Zp4
def cT(K:Ad)(hu:X.A.units+8<cLine)(h:X.K=K:=by rfl):Wy X (compareOp .Eq) (rEqD K false):=h▸pJ hu
def cS(K:Ad)(hu:X.A.units+8<cLine)(h:X.K=K:=by rfl):Wy X (compareOp .NotEq) (rEqD K true):=h▸pI hu
def pD(K:Ad)(h:X.K=K:=by rfl):Wy X (binaryOp .Add) (Dj K):=h▸qW
def Zk(K:Ad)(he:PE X e ta)(hb:attributeBase e f X.env (eval e X.env)=eval e X.env)(h:X.K=K:=by rfl):PE X (.Attribute e f pos) (Dr K ta f):=h▸rm he hb
def Zp(K:Ad)(h:X.K=K:=by rfl):WB X (.builtin "len") (yR0 K):=h▸ZI4
def Fn(K:Ad)(h:X.K=K:=by rfl):WB X (.type "list") (λxs H Q=>∃p ys,xs=[.ref p]/\(SqL K H p ys\/SqT K H p ys)/\∀l,H l=none->Q ↑l (upd H l<|.lst ys)):=h▸ZH4
def ZS(K:Ad)(h:X.K=K:=by rfl):WB X (.type "tuple") (λxs H Q=>∃p ys,xs=[.ref p]/\((SqL K H p ys/\∀l,H l=none->Q ↑l (upd H l<|.tup ys))\/(SqT K H p ys/\Q ↑p H))):=h▸Zb4
def pC(K:Ad){T:String}(h:X.K=K:=by rfl):WB X (.builtin "isinstance") (λxs H Q=>∃x t b,xs=[x,.ty T]/\TyOf K H x t/\PySem.W.kitOne K t (.type T)=some b/\Q (.bl b) H):=h▸pS
def Zv(K:Ad)(hl:PE X l tl)(h:X.K=K:=by rfl):PI X tg l (DD K tl):=h▸rT hl
def Kc(K:Ad)(hl:PE X l tl)(h:X.K=K:=by rfl):PI X tg l (DC K tl):=h▸rS hl
def Kb(K:Ad)(hl:PE X l tl)(h:X.K=K:=by rfl):PI X tg l (My.CD K tl):=h▸My.HW hl
def LX(K:Ad){elts:List Expr}{x1:Nat}{RY:Pos}{a:Expr}{ta:TA}{p pos:Pos}(hg:Gl X "enumerate")(hm:X.mg "enumerate"=none)(ha:PA X [a] ta)(hs:starEach [a] X.env=[(false,eval a X.env)]:=by rfl)(h:X.K=K:=by rfl):
  PI X (.Tuple elts x1 RY) (.Call (.Name "enumerate" p) [a] [] pos) (CI K ta):=h▸pP hg hm ha hs
def QJ(K:Ad){es:List Expr}{k:Nat}{t:IC}{n:Nat}(hc:X.calm=true)(ht:DG X es t)
  (hn:(assignEach es X.env).length=n:=by rfl)(Wn:(assignEach es X.env).findIdx? (·.1)=none:=by rfl)(h:X.K=K:=by rfl):PG X (.Tuple es k pos) (gTup K n t):=h▸r9 hc ht hn Wn
def ON(K:Ad){name:Str}{apos WV:Pos}{T id:String}{r:V->List V->Hp->VK->Prop}(pa:PlainAttrs T)(slot:Slot T name id)(Ih:typeOf (.builtin id)=pure (.type "method_descriptor"))(hm:w9 X id r)(ho:PE X o to)(ha:PA X (e::es) t)
  (UO:attributeBase o name X.env (eval o X.env)=eval o X.env:=by rfl)
  (Ig:((backTo WV<|starEach (e::es) X.env).all (λx=>!x.1)&&(backToKw WV<|keywordEach [] X.env).all (λx=>x.1.isSome)
   && decide ((e::es).length+([]:List Keyword).length+(if ([]:List Keyword).isEmpty then 0 else 1)<30))=true:=by rfl)
  (UN:(apos.endLine == WV.line)=true:=by rfl)(hs:starEach (e::es) X.env=(false,eval e X.env)::starEach es X.env:=by rfl)(RU:(backTo WV<|starEach es X.env).any (·.1)=false:=by rfl)(h:X.K=K:=by rfl):
  PE X (.Call (.Attribute o name apos) (e::es) [] WV) (di K T r to t):=h▸qQ pa slot Ih hm ho ha UO Ig UN hs RU
def HR(K:Ad){name:Str}{apos WV:Pos}{T id:String}{r:V->List V->Hp->VK->Prop}(pa:PlainAttrs T)(slot:Slot T name id)(Ih:typeOf (.builtin id)=pure (.type "method_descriptor"))(hm:w9 X id r)(ho:PE X o to)
  (UO:attributeBase o name X.env (eval o X.env)=eval o X.env:=by rfl)(UN:(apos.endLine == WV.line)=true:=by rfl)(h:X.K=K:=by rfl):PE X (.Call (.Attribute o name apos) [] [] WV) (CZ K T r to):=h▸qR pa slot Ih hm ho UO UN
end
end L2
namespace My
abbrev mk(m:Ac)(i:Nat):Int:=m.getD i 0
def pm(m:Ac)(a b:Nat):(Ac):=
 if min (mk m a) (mk m b)<max (mk m a) (mk m b) then m.map (λk=>if k=max (mk m a) (mk m b) then min (mk m a) (mk m b) else k) else m
def lm(m:Ac)(a b:Nat):(Ac):=
 if mk m a≠mk m b then m.map (λk=>if k=mk m b then mk m a else k) else m
def SameP(m l:Ac):(Prop):=m.length=l.length/\∀i j,i<m.length->j<m.length->(mk m i=mk m j↔mk l i=mk l j)
def wO(m:Ac)(f:Int->Int)(h:i<m.length):mk (m.map f) i=f (mk m i):=by simp[mk,WG,Ys,Xq h]
def OM(m:Ac)(a b:Nat):(pm m a b).length=m.length:=by unfold pm;split<;>simp
def wN(m:Ac)(a b:Nat):(lm m a b).length=m.length:=by unfold lm;split<;>simp
def Fm(m:Ac)(a b i j:Nat):(Prop):=mk m i=mk m j\/((mk m i=mk m a\/mk m i=mk m b)/\(mk m j=mk m a\/mk m j=mk m b))
def HQ{x y p q:Int}:((if x=q then p else x)=(if y=q then p else y))↔(x=y\/((x=p\/x=q)/\(y=p\/y=q))):=by grind
def cR{x y p:Int}:x=y↔(x=y\/((x=p\/x=p)/\(y=p\/y=p))):=⟨.inl,λh=>h.elim id λh=>(h.1.elim id id).trans (h.2.elim id id).symm⟩
def pB(hi:i<m.length)(hj:j<m.length):mk (pm m a b) i=mk (pm m a b) j↔Fm m a b i j:=by
 unfold pm Fm;split
 .rename_i h;rw[wO _ _ hi,wO _ _ hj];cases wM:mk m a<mk m b
  .rw[tP (Mw wM),tV (Mw wM)];show HQ
  .rw[tW (DV.mp wM),tO<|DV.mp wM,Or.comm (a:=mk m i=mk m a),Or.comm (a:=mk m j=mk m a)];show HQ
 .rename_i h;let hh:=DV.mp h
  rw[show mk m a=mk m b from Int.le_antisymm (FC (Int.le_max_left _ _)<|FC hh<|Int.min_le_right _ _) (FC (Int.le_max_right _ _)<|FC hh<|Int.min_le_left _ _)];show cR
def CA(hi:i<m.length)(hj:j<m.length):mk (lm m a b) i=mk (lm m a b) j↔Fm m a b i j:=by
 unfold lm Fm;split
 .rename_i h;rw[wO _ _ hi,wO _ _ hj];show HQ
 .rename_i h;rw[show mk m a=mk m b from Classical.not_not.mp h];show cR
def SameP.step{m l:Ac}(s:SameP m l){a b:Nat}(ha:a<m.length)(hb:b<m.length):SameP (pm m a b) (lm l a b):=by let⟨hl,h⟩:=s;show⟨by rw[OM,wN,hl],λi j hi hj=>?_⟩;rw[OM]at hi hj;rw[pB hi hj,CA D D];unfold Fm;rw[h i j hi hj,h i a hi ha,h i b hi hb,h j a hj ha,h j b hj hb]
def XB(n:Nat)(es:List (Nat×Nat)):(Ac):=es.foldl (λm e=>pm m e.1 e.2) ((List.range n).map λ(i:Nat)=>(i:Int))
def Xb(n:Nat)(es:List (Nat×Nat)):(Ac):=es.foldl (λm e=>lm m e.1 e.2) ((List.range n).map λ(i:Nat)=>(i:Int))
def ZD(n:Nat)(es:List (Nat×Nat)):(XB n es).length=n:=by
 have:∀(es:List (Nat×Nat))(m:Ac),(es.foldl (λm e=>pm m e.1 e.2) m).length=m.length:=by
  intro es
  induction es with
  |nil=>intro m;rfl
  |cons e es ih=>intro m;rw[Ec,ih,OM]
 unfold XB;rw[this];simp
def ZE(n:Nat)(es:List (Nat×Nat)):(Xb n es).length=n:=by
 have:∀(es:List (Nat×Nat))(m:Ac),(es.foldl (λm e=>lm m e.1 e.2) m).length=m.length:=by
  intro es
  induction es with
  |nil=>intro m;rfl
  |cons e es ih=>intro m;rw[Ec,ih,wN]
 unfold Xb;rw[this];simp
def pq(n:Nat)(es:List (Nat×Nat))(e:Nat×Nat):XB n (es++[e])=pm (XB n es) e.1 e.2:=by unfold XB;rw[xS];rfl
def Na(n:Nat)(es:List (Nat×Nat))(e:Nat×Nat):Xb n (es++[e])=lm (Xb n es) e.1 e.2:=by unfold Xb;rw[xS];rfl
def wL:∀{es:List (Nat×Nat)},(∀e∈es,e.1<n/\e.2<n)->SameP (XB n es) (Xb n es):=by
 intro es;let key:∀(es:List (Nat×Nat))(m l:Ac),SameP m l->m.length=n->(∀e∈es,e.1<n/\e.2<n)->SameP (es.foldl (λm e=>pm m e.1 e.2) m) (es.foldl (λm e=>lm m e.1 e.2) l):=by
  intro es
  induction es with
  |nil=>intro m l s _ _;show s
  |cons e es ih=>
   intro m l s hm he;let h1:=he e Yd
   show ih _ _ (s.step D D) (by rwa[OM]) λx hx=>he x (Yf _ hx)
 show key es _ _ ⟨Z,λi j _ _=>Iff.rfl⟩ B
def RS(g:List (Int×Ac))(place k:Int):(List (Int×Ac)):=
 if k∈g.map (·.1) then g.map (λkv=>if kv.1=k then (kv.1,kv.2++[place]) else kv) else g++[(k,[place])]
def Xp(M:Ac):(Nat->List (Int×Ac))
 |0=>[]
 |i+1=>RS (Xp M i) (i:Int) (mk M i)
def HP(M:Ac):(List (Int×Ac)):=Xp M M.length
def LW(g:List (Int×Ac))(p k:Int):(RS g p k).map (·.1)=if k∈g.map (·.1) then g.map (·.1) else g.map (·.1)++[k]:=by
 unfold RS;split
 .rw[Px];show VN λkv _=>?_;change(if kv.1=k then (kv.1,kv.2++[p]) else kv).1=kv.1
  split<;>rfl
 .simp
def Za6(h:(g.map (·.1)).Nodup):((RS g p k).map (·.1)).Nodup:=by
 rw[LW];split
 .show h
 .rename_i hk;rw[Wo];exists h,B,λa ha b hb=>?_;rw[XG]at hb;subst hb;rintro rfl;show hk ha
def pj(M:Ac):∀i,((Xp M i).map (·.1)).Nodup
 |0=>by simp[Xp]
 |i+1=>Za6 (pj M i)
def UK(M:Ac):∀i kv,kv∈Xp M i->∀z:Int,z∈kv.2↔(0<=z/\z<(i:Int)/\mk M z.toNat=kv.1)
 |0,kv,h,z=>by simp[Xp]at h
 |i+1,kv,h,z=>by
  unfold Xp RS at h;split at h
  .rename_i hk;let⟨wK,h0,e⟩:=YR.mp h;let ih:=UK M i wK h0 z
   cases hc:wK.1=mk M i
   .rw[if_pos hc]at e;subst e;rw[XA,ih,XG];constructor
    .rintro(⟨a,b,c⟩|rfl)
     .exists a,J,c
     .exists J,J,by simpa using hc.symm
    .rintro⟨a,b,c⟩;cases hz:z<(i:Int)
     .show .inl ⟨a,hz,c⟩
     .show .inr J
   .rw[if_neg hc]at e;subst e;rw[ih];constructor
    .rintro⟨a,b,c⟩;exists a,D,c
    .rintro⟨a,b,c⟩;exists a,?_,c;cases hz:z<(i:Int)
     .show hz
     .let e:z.toNat=i:=sS;rw[e]at c;show absurd c.symm hc
  .rename_i hk;rcases XA.mp h with h0|h0
   .let ih:=UK M i kv h0 z;rw[ih];constructor
    .rintro⟨a,b,c⟩;exists a,J,c
    .rintro⟨a,b,c⟩;exists a,?_,c;cases hz:z<(i:Int)
     .show hz
     .let e:z.toNat=i:=sS;rw[e]at c;show absurd (YR.mpr ⟨kv,h0,c.symm⟩) hk
   .rw[XG]at h0;subst h0;simp only[XG];constructor
    .rintro rfl;exists J,J,B
    .rintro⟨a,b,c⟩;cases hz:z<(i:Int)
     .exfalso;let key:=grpA_key M i z.toNat J
      rw[c]at key;show hk key
     .lia
where
 grpA_key (M:Ac):∀i j,j<i->mk M j∈(Xp M i).map (·.1)
  |0,j,h=>absurd h (Sv j)
  |i+1,j,h=>by
   change mk M j∈(RS (Xp M i) (i:Int)<|mk M i).map (·.1);rw[LW];cases hj:j<i
   .have:=grpA_key M i j hj
    split
    .show this
    .show Yg _ this
   .let e:j=i:=J;subst e;split
    .assumption
    .simp
def grpA_key(h:j<i):mk M j∈(Xp M i).map (·.1):=UK.grpA_key M i j h
def wJ(M:Ac):∀i k,k∈(Xp M i).map (·.1)->∃j,j<i/\mk M j=k
 |0,k,h=>by simp[Xp]at h
 |i+1,k,h=>by
  let h:k∈(RS (Xp M i) (i:Int)<|mk M i).map (·.1):=h;rw[LW]at h;let old:k∈(Xp M i).map (·.1)->∃j,j<i+1/\mk M j=k:=λq=>by let⟨j,hj,e⟩:=wJ M i k q;exists j,J,e
  split at h
  .show old h
  .rcases XA.mp h with q|q
   .show old q
   .rw[XG]at q;exists i,J,q.symm
def cQ(hM:1<=M.length):(HP M).length=1↔∀i j,i<M.length->j<M.length->mk M i=mk M j:=by
 unfold HP;constructor
 .intro h i j hi hj;let⟨kv,e⟩:=ug.mp h;let h1:=grpA_key (M:=M) hi
  let h2:=grpA_key (M:=M) hj;rw[e]at h1 h2;rw[List.map_singleton,XG]at h1 h2;rw[h1,h2]
 .intro h;let nd:=pj M M.length
  let h0:=grpA_key (M:=M) (i:=M.length) (j:=0) J;generalize hg:(Xp M M.length)=g at *
  match g,hg with
  |[],_=>simp at h0
  |[kv],_=>rfl
  |a::b::r,hg=>
   exfalso;let⟨i,hi,e1⟩:=wJ M M.length a.1 (by rw[hg];simp)
   let⟨j,hj,e2⟩:=wJ M M.length b.1 (by rw[hg];simp);let e3:=h i j hi hj
   have:a.1=b.1:=by rw[<-e1,<-e2,e3]
   simp[this]at nd
def SameP.one(s:SameP m l):(∀i j,i<m.length->j<m.length->mk m i=mk m j)↔(∀i j,i<l.length->j<l.length->mk l i=mk l j):=by
 let⟨hl,h⟩:=s;rw[<-hl];constructor
 .intro q i j hi hj;show(h i j hi hj).mp (q i j hi hj)
 .intro q i j hi hj;show(h i j hi hj).mpr (q i j hi hj)
def ph:∀{i:Nat}{kv:Int×Ac},kv∈Xp M i->kv.2.length<=i
 |0,kv,h=>by simp[Xp]at h
 |i+1,kv,h=>by
  unfold Xp RS at h;split at h
  .let⟨wK,h0,e⟩:=YR.mp h;let ih:=ph h0
   cases hc:wK.1=mk M i
   .rw[if_pos hc]at e;subst e;rw[Xt,Yx];lia
   .rw[if_neg hc]at e;subst e;lia
  .rcases XA.mp h with h0|h0
   .let ih:=ph h0;omega
   .rw[XG]at h0;subst h0;simp
end My
namespace My
open PySem L2 PyProof.Rows
def Vc(z:Int)(l:Ac):Fu (.int z) (IL l)=decide (z∈l):=by
 unfold Fu;rw[List.any_map];rw[Qh,Eg,YL];constructor
 .rintro⟨y,hy,e⟩;let e':y=z:=by simpa[Sn] using e
  rwa[<-e']
 .intro h;exists z,h,by simp[Sn]
def ZP(l:Ac):(IL l).all So=true:=by rw[List.all_map,QY];intro x _;rfl
def pf{K:Ad}{t:Value}:PySem.W.kitOne K t t=some true:=by unfold PySem.W.kitOne;rw[if_pos (xP t)]
def ZA:decide (V.int a=V.int b)=decide (a=b):=by
 cases h:a=b
 .subst h;simp
 .let h':¬V.int a=V.int b:=λz=>h (V.int.inj z);rw[Sw h,Sw h']
end My
namespace My
open PySem L2
def IsSet(m:Nat)(ns:Ac):(Prop):=∀i z,ns[i]?=some z->0<=z/\z<(m:Int)/\∀y,i≠0->ns[i-1]?=some y->y<z
def XU(ps:Aa)(ns:Ac):(List (Nat×Nat)):=ns.map λz=>((ps.getD z.toNat (0,0)).1.toNat,(ps.getD z.toNat (0,0)).2.toNat)
def Ze6{ns:Ac}{z:Int}(h:ns[i]?=some z):XU ps (ns.take (i+1))=XU ps (ns.take i)++[((ps.getD z.toNat (0,0)).1.toNat,(ps.getD z.toNat (0,0)).2.toNat)]:=by unfold XU;rw[YY,h];simp
def VP(h:i<m.length):m[i]?=some (mk m i):=by rw[Xq h];simp[mk,WG,Xq h]
def pd(n:Int):Vq 0 n=(List.range n.toNat).map λ(i:Nat)=>(i:Int):=by unfold Vq;rw[Int.sub_zero];show VN λi _=>?_;lia
def Uk(g:List (Int×Ac))(as:List Addr):(List (Key×V)):=List.zipWith (λkv a=>((Sum.inl kv.1:Key),V.ref a)) g as
def Zv7(h:as.length=g.length):(Uk g as).length=g.length:=by unfold Uk;rw[Ej];grind
def cP:∀{g:List (Int×Ac)}{as:List Addr},as.length=g.length->(Uk g as).map (·.2)=as.map V.ref
 |[],[],_=>rfl
 |[],_::_,h=>by simp at h
 |_::_,[],h=>by simp at h
 |kv::g,a::as,h=>by change V.ref a::(Uk g as).map (·.2)=V.ref a::as.map V.ref;rw[cP (Mz h)]
def cO:∀{g g':List (Int×Ac)}{as:List Addr},g.map (·.1)=g'.map (·.1)->Uk g as=Uk g' as
 |[],[],_,_=>rfl
 |[],_::_,_,h=>by simp at h
 |_::_,[],_,h=>by simp at h
 |kv::g,wI::g',[],_=>rfl
 |kv::g,wI::g',a::as,h=>by
  rw[Uz,Uz,List.cons.injEq]at h;change((Sum.inl kv.1:Key),V.ref a)::Uk g as=((Sum.inl wI.1:Key),V.ref a)::Uk g' as
  rw[h.1,cO h.2]
def cN:∀{g:List (Int×Ac)}{as:List Addr}{kv:Int×Ac}{a:Addr},as.length=g.length->Uk (g++[kv]) (as++[a])=Uk g as++[((Sum.inl kv.1:Key),V.ref a)]
 |[],[],_,_,_=>rfl
 |[],_::_,_,_,h=>by simp at h
 |_::_,[],_,_,h=>by simp at h
 |x::g,y::as,kv,a,h=>by change _::Uk (g++[kv]) (as++[a])=_::(Uk g as++_);rw[cN (Mz h)]
def o9:∀{g:List (Int×Ac)}{as:List Addr}{k:Int},as.length=g.length->
  (Wm (Uk g as) (Sum.inl k:Key)=none/\k∉g.map (·.1))\/∃(j:Nat)(kv:Int×Ac)(a:Addr),g[j]?=some kv/\as[j]?=some a/\kv.1=k/\Wm (Uk g as) (Sum.inl k:Key)=some ↑a
 |[],[],k,_=>.inl ⟨Z,B⟩
 |[],_::_,_,h=>by simp at h
 |_::_,[],_,h=>by simp at h
 |kv::g,a::as,k,h=>by
  cases e:kv.1=k
  .show .inr ⟨0,kv,a,Z,Z,e,?_⟩;change Wm (((Sum.inl kv.1:Key),V.ref a)::Uk g as) _=_
   rw[w5 (by rw[e])]
  .let e':¬((Sum.inl kv.1:Key)=Sum.inl k):=λz=>e (Sum.inl.inj z);let ev:Wm (Uk (kv::g)<|a::as) (Sum.inl k:Key)=Wm (Uk g as) (Sum.inl k:Key):=w4 (p:=((Sum.inl kv.1:Key),V.ref a)) e'
   rcases o9 (g:=g) (as:=as) (k:=k) (Mz h) with ⟨h1,h2⟩|⟨j,wI,a',h1,h2,h3,h4⟩
   .show .inl ⟨by rw[ev];show h1,?_⟩;rw[Uz,Yi];rintro(z|z)
    .show e z.symm
    .show h2 z
   .show .inr ⟨j+1,wI,a',by simpa using h1,by simpa using h2,h3,by rwa[ev]⟩
structure GrpAt(H0 H:Hp)(g:List (Int×Ac))(as:List Addr):Prop where
 len:as.length=g.length
 nd:as.Nodup
 at_:∀(i:Nat)(kv:Int×Ac)(a:Addr),g[i]?=some kv->as[i]?=some a->H a=some (.lst<|IL kv.2)
 new:∀a∈as,H0 a=none
def GrpAt.same(s:Same H H')(h:GrpAt H0 H g as):GrpAt H0 H' g as:=⟨h.len,h.nd,λi kv a e1 e2=>s _ _<|h.at_ i kv a e1 e2,h.new⟩
def GrpAt.mem(h:GrpAt H0 H g as){a:Addr}(ha:a∈as):∃l,H a=some (.lst l):=by
 let⟨i,hi,e⟩:=xX ha;let hg:i<g.length:=by rwa[<-h.len]
 exists _,h.at_ i g[i] a (Xq hg)<|by rw[Xq hi,e]
def IsSet.all(h:IsSet m ns):∀z∈ns,0<=z/\z<(m:Int):=λz hz=>by let⟨i,hi,e⟩:=xX hz;let⟨a,b,_⟩:=h i z (by rw[Xq hi,e]);exists a,b
def IsSet.nil(m:Nat):IsSet m []:=λi z e=>by simp at e
def IsSet.up(h:IsSet m ns):IsSet (m+1) ns:=λi z e=>by let⟨a,b,c⟩:=h i z e;exists a,D,c
def IsSet.snoc(h:IsSet m ns):IsSet (m+1) (ns++[(m:Int)]):=λi z e=>by
 cases hi:i<ns.length
 .rw[Yp hi]at e;let⟨a,b,c⟩:=h i z e;exists a,J,λy h0 ey=>?_;rw[Yp D]at ey;show c y h0 ey
 .let hl:i=ns.length:=by
   have:=(Xx.mp e).1
   rw[Xt,Yx]at this;lia
  subst hl;rw[Ym (XM _),Nl]at e;let e:(m:Int)=z:=Ye e
  subst e;exists J,J,λy h0 ey=>?_;rw[Yp D]at ey;show(h _ y ey).2.1
def IsSet.len:∀{ns:Ac},IsSet m ns->ns.length<=m:=λ{ns} h=>by
 let key:∀(i:Nat)(z:Int),ns[i]?=some z->(i:Int)<=z:=by
  intro i
  induction i with
  |zero=>intro z e;show(h 0 z e).1
  |succ i ih=>
   intro z e;let hi:i<ns.length:=by have:=(Xx.mp e).1;lia
   let e2:ns[i]?=some ns[i]:=Xq hi
   have:=ih _ e2
   have:=(h (i+1) z e).2.2 ns[i] J (by rwa[t8])
   lia
 cases h0:ns.length=0
 .lia
 .let e:ns[ns.length-1]?=some (ns[ns.length-1]'(by lia)):=Xq _;let a:=key _ _ e
  let b:=(h _ _ e).2.1;lia
end My
namespace L2
open PySem PySem.Spec PyProof.Rows
section
variable{X:Cx}
def o8(K:Ad):(V->List V->Hp->VK->Prop):=λx vs H Q=>∃(p:Addr)(ns:Ac)(z:Int)(j:Nat),x=.ref p/\vs=[.int z]/\SqL K H p (ns.map V.int)/\ns[j]?=some z/\(∀i,i<j->ns[i]?≠some z)/\Q (.int j) H
def Zv8(K:Ad)(h:X.K=K:=by rfl):Kk X "list.index" (o8 K):=by
 subst h;intro pins s σ H x vs v us Q I rx rv h;let⟨p,ns,z,j,rfl,rfl,hq,hj,PY,q⟩:=h;cases rx;let⟨u,rfl,t,rfl⟩:=rv.one;let⟨XX,r,⟨o,n,e,hc,hd,HN⟩,hz⟩:=I.list hq;let hl:XX.length=ns.length:=by rw[<-r.length,Yc]
 let Vg:j<ns.length:=(Xx.mp hj).1;let hsz:sizeLine=16777216:=TM
 rw[Yc]at hz;let⟨oc,od,o7,Tf⟩:=o;let hc:oc=.type "list":=hc
 let HN:o7=.seq XX.toArray n:=HN;subst hc HN;let at_:∀(i:Nat)(hi:i<XX.length),∃tk,XX[i]=.int (ns[i]'(by lia)) tk:=λi hi=>by
  let⟨x,ex,rx⟩:=r.at hi;rw[Ys,Xq D]at ex;let ex:V.int (ns[i]'(by omega))=x:=Ye ex
  subst ex;show rx
 show RZ F.slot_list_index ⟨_,e,Z⟩ F.entry_list_index (F.args_list_index_2 _ _) (SeqAt.list_indexAt p XX.toArray n od Tf (.int z t) (λy=>Te (.int z) y) j (by rw[Yb];lia) J ?_ ?_) ⟨e,λy hy=>?_,?_⟩
 .let⟨tk,e1⟩:=at_ j D;let e2:ns[j]'(by lia)=z:=by rw[Xq Vg]at hj;show Ye hj
  let e3:XX.toArray[j]'(by rw[Yb];lia)=.int z tk:=by rw[<-e2];simpa using e1
  rw[e3];simp[Te,Sn]
 .intro m hm hmj;let Ka:m<XX.length:=by rwa[Yb]at hm
  let⟨tk,e1⟩:=at_ m Ka;let e3:XX.toArray[m]'hm=.int (ns[m]'(by omega)) tk:=by simpa using e1
  rw[e3];let XN:=PY m hmj
  rw[Xq D]at XN;let OL:ns[m]'(by omega)≠z:=λw=>XN (YV some w)
  simp[Te,Sn,OL]
 .show Dc (x:=.int z) ⟨t,Z⟩ Z r ?_ y (by simpa using hy);rw[List.all_map,QY];intro _ _;rfl
 .exists .int j,H,I.tok _,⟨_,Z⟩,q
def o6{XX:Array Value}{bs:List Bool}(h:∀(i:Nat)(v:Value),XX[i]?=some v->∃b,bs[i]?=some b/\v=.bool b):TruthOf prog w A (λi v=>XX[i]?=some v) (λi=>bs.getD i false):=by
 intro i v s Q E hP hQ;let⟨b,eb,rfl⟩:=h i v hP;let hQ:Q (bs.getD i false) s:=hQ
 rw[WG,eb]at hQ;show Np hQ
def o5(bs:List Bool):(List.range bs.length).all (λi=>bs.getD i false)=bs.all id:=by
 rw[Qh,QY,QY];constructor
 .intro h b hb;let⟨i,hi,e⟩:=xX hb
  have:=h i (YS.mpr hi)
  rwa[WG,Xq hi,e]at this
 .intro h i hi;let hi:=YS.mp hi
  rw[WG,Xq hi];show h _ (TL hi)
def o4{bs:List Bool}(r:Vals (bs.map V.bl) XX):∀(i:Nat)(v:Value),XX.toArray[i]?=some v->∃b,bs[i]?=some b/\v=.bool b:=λi v e=>by
 let e:XX[i]?=some v:=by simpa using e
 let hi:i<XX.length:=(Xx.mp e).1;let⟨x,ex,rx⟩:=r.at hi;rw[Ys]at ex;cases eb:bs[i]? with
 |none=>rw[eb]at ex;cases ex
 |some b=>
  rw[eb]at ex;let ex:V.bl b=x:=Ye ex
  subst ex;rw[Xq hi]at e;let e:XX[i]=v:=Ye e
  rw[e]at rx;exists b,Z,rx
def o3(K:Ad)(hc:X.calm=true)(h:X.K=K:=by rfl):WB X (.builtin "all") (λxs H Q=>∃(p:Addr)(bs:List Bool),xs=[.ref p]/\SqL K H p (bs.map V.bl)/\Q (.bl<|bs.all id) H):=by
 subst h;intro pins s σ H xs us Q I r h;let⟨p,bs,rfl,hq,q⟩:=h;let⟨u,rfl,ru⟩:=Tg r;let rfl:u=Value.ref p:=ru;let⟨XX,rv,pl,hz⟩:=I.list hq;let hl:XX.toArray.size=bs.length:=by rw[Yb,<-rv.length,Yc]
 let XN:p≠(~~~s):=YD (by let⟨_,_,e,_⟩:=pl;show Yq e);show call_all_walk (xJ pl.isList ⟨(~~~s),_,_,_,_,_,_,Z,Walks.list (A:=X.A.in1) (I.ok.hd hc) (~~~s) p XN XX.toArray,⟨⟨_,Yo _ Z,Z,Z⟩,pl.isList.push _⟩,o6<|o4 rv,λh' tk hk=>?_⟩);rw[hl,o5];exists .bl<|bs.all id,H,I.kept λb o e=>hk b o ?_<|Xf _ e,Z,q;intro z;rw[XG.mp z]at e;show absurd (Yq e) (QX _)
end
end L2
namespace My
open PySem L2
section
variable{K:Ad}{H:Hp}{α:Type}[DecidableEq α]
def Bears(R:V->α->Prop)(xs:List V)(l:List α):(Prop):=xs.length=l.length/\∀(i:Nat)(a:α),l[i]?=some a->∃x,xs[i]?=some x/\R x a
def Bears.at{R:V->α->Prop}(h:Bears R xs l){i:Nat}{x:V}(e:xs[i]?=some x):∃a,l[i]?=some a/\R x a:=by
 let hi:i<xs.length:=(Xx.mp e).1;let hl:i<l.length:=by rwa[<-h.1]
 let⟨x',e1,q⟩:=h.2 i l[i] (Xq hl);rw[e]at e1;cases e1;exists _,Xq hl,q
def JZ{l m:List α}(h:l.length=m.length):(List.range l.length).all (λi=>decide (l[i]?=m[i]?))=decide (l=m):=by
 rw[Qh,QY,YL];constructor
 .intro q;show Nq λi=>?_;cases hi:i<l.length
  .show Yt (q i<|YS.mpr hi)
  .rw[VF J,VF J]
 .rintro rfl i _;simp
def cM{R:V->α->Prop}(hp:SqL K H p xs)(hq:SqL K H q ys)(h1:Bears R xs l)(h2:Bears R ys m)(hR:∀x y a b,R x a->R y b->EqD K H n x y (decide (a=b))):EqD K H (n+1) ↑p ↑q (decide (l=m)):=by
 cases hl:xs.length=ys.length
 .let e:=JZ (l:=l) (m:=m) (by rw[<-h1.1,<-h2.1,hl]);rw[<-e,<-h1.1];show EqD.lsts hp hq hl λi x y ex ey=>?_;let⟨a,ea,ra⟩:=h1.at ex;let⟨b,eb,rb⟩:=h2.at ey;rw[ea,eb,show decide (some a=some b)=decide (a=b) by simp];show hR x y a b ra rb
 .let e:decide (l=m)=false:=Sw λz=>hl (by rw[h1.1,h2.1,z]);rw[e];show EqD.lens hp hq hl
def oZ{R:V->α->Prop}(hp:SqT K H p xs)(hq:SqT K H q ys)(h1:Bears R xs l)(h2:Bears R ys m)(hR:∀x y a b,R x a->R y b->EqD K H n x y (decide (a=b))):EqD K H (n+1) ↑p ↑q (decide (l=m)):=by
 let key:=EqD.tups (e:=λi=>decide<|l[i]?=m[i]?) hp hq λi x y ex ey=>by let⟨a,ea,ra⟩:=h1.at ex;let⟨b,eb,rb⟩:=h2.at ey;rw[ea,eb,show decide (some a=some b)=decide (a=b) by simp];show hR x y a b ra rb
 cases hl:xs.length=ys.length
 .let e:=JZ (l:=l) (m:=m) (by rw[<-h1.1,<-h2.1,hl]);rwa[<-hl,Nat.min_self,h1.1,e,show(l.length == l.length)=true by simp,Bool.and_true]at key
 .let e:decide (l=m)=false:=Sw λz=>hl (by rw[h1.1,h2.1,z]);rw[show(xs.length == ys.length)=false by simpa using hl,Bool.and_false]at key;rwa[e]
def wH(ns:Ac):Bears (λx (z:Int)=>x=.int z) (IL ns) ns:=⟨Xy ns,λi z e=>⟨_,UL e,Z⟩⟩
def cL{a b:Int}(hx:x=.int a)(hy:y=.int b):EqD K H n x y (decide (a=b)):=by
 subst hx hy;let e:decide (a=b)=Sn (.int a) (.int b):=by change decide (a=b)=(a == b);rw[Bool.beq_eq_decide_eq]
 rw[e];show EqD.flat Z rfl
def oY(hp:SqL K H p (IL ns))(hq:SqL K H q (IL ms)):EqD K H 1 ↑p ↑q (decide (ns=ms)):=
 cM hp hq (wH ns) (wH ms) λ_ _ _ _=>cL
def oX(hp:SqT K H p (IL ns))(hq:SqT K H q (IL ms)):EqD K H 1 ↑p ↑q (decide (ns=ms)):=
 oZ hp hq (wH ns) (wH ms) λ_ _ _ _=>cL
def Uj(H:Hp)(v:V)(l:Ac):(Prop):=∃a,v=.ref a/\H a=some (.lst<|IL l)
end
end My
namespace My
def Wb(M:Ac)(p:Nat):(Bool):=(List.range p).all λi=>decide (mk M i≠mk M p)
def Ui(M:Ac)(k:Int)(i:Nat):(Ac):=((List.range i).filter λj=>decide<|mk M j=k).map λ(j:Nat)=>(j:Int)
def Vb(M:Ac)(i:Nat):(List Nat):=(List.range i).filter (Wb M)
def Xz:Wb M p=true↔∀i,i<p->mk M i≠mk M p:=by
 unfold Wb;rw[QY];constructor
 .intro h i hi;show Yt (h i<|YS.mpr hi)
 .intro h i hi;show Yv (h i<|YS.mp hi)
def oW(M:Ac)(k:Int)(i:Nat):Ui M k (i+1)=Ui M k i++(if mk M i=k then [(i:Int)] else []):=by
 unfold Ui;rw[Ee,Rx,YK];congr 1;cases h:mk M i=k
 .rw[if_pos h,YW,if_pos (by simpa using h)];rfl
 .rw[if_neg h,YW,if_neg (by simpa using h)];rfl
def cK(M:Ac)(i:Nat):Vb M (i+1)=Vb M i++(if Wb M i=true then [i] else []):=by
 unfold Vb;rw[Ee,Rx];congr 1;cases h:Wb M i=true
 .rw[if_pos h,YW,if_pos h];rfl
 .rw[if_neg h,YW,if_neg h];rfl
def cJ(M:Ac):∀i,Xp M i=(Vb M i).map λp=>(mk M p,Ui M (mk M p) i)
 |0=>rfl
 |i+1=>by
  let ih:=cJ M i;change RS (Xp M i) (i:Int) (mk M i)=_
  let hk:(mk M i∈(Xp M i).map (·.1))↔Wb M i≠true:=by
   constructor
   .intro h q;let⟨j,hj,e⟩:=wJ M i _ h;show Xz.mp q j hj e
   .intro h;cases q:∃j,j<i/\mk M j=mk M i
    .let⟨j,hj,e⟩:=q;rw[<-e];show grpA_key hj
    .show absurd (Xz.mpr λj hj e=>q ⟨j,hj,e⟩) h
  unfold RS;cases h:mk M i∈(Xp M i).map (·.1)
  .let hf:=hk.mp h;rw[if_pos h,cK,if_neg hf,Yu,ih,Px];show VN λp _=>?_;change(if mk M p=mk M i then (mk M p,Ui M (mk M p) i++[(i:Int)]) else (mk M p,Ui M (mk M p) i))=(mk M p,Ui M (mk M p)<|i+1)
   rw[oW];cases e:mk M p=mk M i
   .rw[if_pos e,if_pos e.symm]
   .rw[if_neg e,if_neg λz=>e z.symm,Yu]
  .let hf:Wb M i=true:=by
    cases q:Wb M i with
    |true=>rfl
    |false=>show absurd (hk.mpr<|by rw[q];show YG) h
   rw[if_neg h,cK,if_pos hf,YK,ih];congr 1
   .show VN λp hp=>?_;let OJ:p<i:=YS.mp (Ya.mp hp).1
    rw[oW,if_neg λz=>Xz.mp hf p OJ z.symm,Yu]
   .change [(mk M i,[(i:Int)])]=[(mk M i,Ui M (mk M i)<|i+1)];rw[oW,if_pos Z];let e0:Ui M (mk M i) i=[]:=by unfold Ui;rw[List.filter_eq_nil_iff.mpr λj hj=>by simpa using Xz.mp hf j (YS.mp hj)];rfl
    rw[e0];rfl
end My
namespace My
open PySem L2
def Bears.snoc{α:Type}[DecidableEq α]{R:V->α->Prop}{xs:List V}{l:List α}{x:V}{a:α}(h:Bears R xs l)(hx:R x a):Bears R (xs++[x]) (l++[a]):=by
 show⟨by rw[Xt,Xt,h.1];rfl,λi b e=>?_⟩;cases hi:i<l.length
 .rw[Yp hi]at e;rw[Yp (by rwa[h.1])];show h.2 i b e
 .let hl:i=l.length:=by
   have:=(Xx.mp e).1
   rw[Xt,Yx]at this;lia
  subst hl;rw[Ym (XM _),Nl]at e;rw[Ym (by rw[h.1];show XM _),h.1,Nl];let e':a=b:=Ye e
  subst e';exists x,Z,hx
def Bears.imp{α:Type}[DecidableEq α]{R R':V->α->Prop}{xs:List V}{l:List α}(h:Bears R xs l)(f:∀x a,R x a->R' x a):Bears R' xs l:=⟨h.1,λi a e=>by let⟨x,e1,r⟩:=h.2 i a e;exists x,e1,f x a r⟩
def LV{p1 p2:Addr}(h1:H p1=some (.lst (IL l1)))(h2:H p2=some (.lst (IL l2)))(hl:l1.length+l2.length<=1000000)(k:∀r,H r=none->Q ↑r (upd H r (.lst (IL (l1++l2))))):rCat ↑p1 ↑p2 H Q:=by
 exists p1,p2,_,_,Z,Z,h1,h2,?_,λr hr=>?_
 .rw[Xy,Xy];show OO hl
 .have:=k r hr
  rwa[wV]at this
def LU(ns:Ac)(lo hi:Option Int):(Ac):=(ns.drop<|HT.UP ns.length 0 lo).take (HT.UP ns.length ns.length hi-HT.UP ns.length 0 lo)
def JY(ns:Ac)(lo hi:Option Int):Wx (IL ns) lo hi=IL (LU ns lo hi):=by unfold Wx LU;rw[c6,pH,Xy]
end My
namespace L2
open PySem PySem.Spec PyProof.Rows
def ZZ:∀{us:Ag}{ns:Ac},IntsAre us ns->Vals (ns.map V.int) us
 |[],[],_=>.nil
 |_::_,[],h=>by cases h
 |[],_::_,h=>by cases h
 |u::us,n::ns,h=>by
  cases h with
  |cons _ _ t=>show .cons ⟨_,Z⟩ (ZZ t)
def Vals.rev{xs:List V}{us:Ag}(h:Vals xs us):Vals xs.reverse us.reverse:=by
 induction h with
 |nil=>show .nil
 |cons r t ih=>
  rw[Pu,Pu];show ih.append (.cons r .nil)
section
variable{X:Cx}
inductive yR2(K:Ad)(xs:List V)(H:Hp)(Q:VK):Prop
 |mk (p ns:_) (_:xs=[.ref p]) (_:SqL K H p (ns.map V.int)) (_:ns.length<64) (_:∀ms:Ac,ms.Perm ns->ms.Pairwise (·<=·)->∀l,H l=none->Q ↑l (upd H l<|.lst<|ms.map V.int))
def QI(K:Ad)(hk:X.K=K:=by rfl):WB X (.builtin "sorted") (yR2 K):=by
 subst hk;intro pins s σ H xs us Q I r h;let⟨p,ns,rfl,hq,hn,q⟩:=h;let⟨u,rfl,ru⟩:=Tg r;let rfl:u=Value.ref p:=ru;let⟨XX,rv,pl,hz⟩:=I.list hq;let hi:=ZC rv
 let hl:XX.length=ns.length:=by rw[<-rv.length,Yc]
 show sorted_ints pl.isList hi J λout ms h1 h2 h3=>?_;let⟨e,he⟩:=sortedAll_at s.heap XX out;let MZ:ms.length=ns.length:=h2.length_eq
 exists .ref<|(~~~s)+1,_,I.laid (t':=s.toks) (o:=.lst<|ms.map V.int) (λb o g=>sortedAll_old g) (TZ _) ⟨?_,out.toList,e,ZZ h1,?_⟩,Z,q ms h2 h3 _<|I.hok.fresh<|TZ _
 .rw[Yc,MZ]
  have:sizeLine=16777216:=TM
  lia
 .show he
def oV:typeLookup (.type "list_reverseiterator") "__length_hint__"=pure (some (.builtin "list_reverseiterator.__length_hint__")):=by rw[QU,FN];kernel_rfl
def Zs8:typeLookup (.type "list_reverseiterator") "__len__"=pure none:=by rw[QU,FN];kernel_rfl
def Cz{E:Ae}{s:Shared}{r:Addr}{Q:Bool->Shared->Prop}(hT:s.TypeIs ↑r "list_reverseiterator")(h:Q false s):wpAny (model prog w) A (Builtin.List.listLengthHint ↑r) Q E s:=by
 unfold Builtin.List.listLengthHint;show XW (wpAny_specialOf hT Zs8 ?_);change wpAny _ A (specialOf (Value.ref r) (Str.ofString "__length_hint__") >>= _) _ _ _
 show XW (wpAny_specialOf hT oV ?_);generalize Cy:("list_reverseiterator.__length_hint__":String)=oU
 wp_delta
 rw[show splitId oU=some ("list_reverseiterator","__length_hint__") from by subst Cy;decide +kernel];subst Cy;show XW (Ms (T:="list_reverseiterator") (b:=true) hT (by rw[xC];kernel_rfl) ?_);show Yl h
section
variable{prog:Program}{w:World}{A:Around}{E:Ae}{s:Shared}{it a:Addr}{items:Array Value}
def Zf7{R:Result->Shared->Prop}(hh:A.handled=none)(hi:s.heap.IsRevIter it a ((items.size:Int)-1))(hl:s.heap.IsList a items)(XN:a≠it){S:Addr}(h1:S≠it)(h2:S≠a){c0:Nat}
  (hS:s.heap.get? S=some {cls:=.type "list",data:=.seq #[] c0})(hz:items.size<=sizeLine)
  (k:∀h' tk acc c,(∀b o,b≠S->b≠it->s.heap.get? b=some o->h'.get? b=some o)->h'.get? S=some {cls:=.type "list",dict:=none,data:=.seq acc c,slots:=#[]}->ItemsOf (λi v=>items[items.size-1-i]?=some v) acc items.size->R (.ok<|.ret res) {s with heap:=h',toks:=tk}):
  wpAny (model prog w) A.in1 (Builtin.List.listExtendWith ↑S ↑it res)
   (λfin s'=>match fin with | .done f=>R (.ok f) s' | .again c'=>c'.quiet=true/\codeAny (model prog w) A c' R s') (λe s'=>R (.error e) s') s:=by
 let W:=Walks.listRev (prog:=prog) (w:=w) (A:=A.in1) hh it a XN items;let RR:S∉[it,a]:=by simp only[Yi,tX,or_false,not_or];exists h1,h2
 let Fl:(0<=items.size/\s.heap.IsRevIter it a ((items.size:Int)-1-((0:Nat):Int))/\s.heap.IsList a items):=⟨Yk _,by rw[show((items.size:Int)-1-((0:Nat):Int))=(items.size:Int)-1 by lia];show hi,hl⟩;let hT:s.TypeIs ↑it "list_reverseiterator":=hi.typeIs
 let key:codeAny (model prog w) A (.builtin "list.extend.loop" ⟨[.ref S,.ref it,res],[]⟩) R s:=by
  show codeAny_extend_loopS W.toS hz S RR res items.size 0 _ #[] c0 Z (Yk _) Fl hS (ItemsOf.nil _) λs' acc c hm Uh VA=>?_;rw[Moved.eq_with hm];show k s'.heap s'.toks acc c (λb o hb hbi e=>hm.heap b o (λhmem=>?_) e) Uh VA;rcases Yi.mp hmem with e'|hmem
  .show hb e'
  .show hbi (XG.mp hmem)
 unfold Builtin.List.listExtendWith;show XW (Mr (T:="list_reverseiterator") hT ?_);let e1:Builtin.List.listSameRef ↑S ↑it=false:=by simp[Builtin.List.listSameRef,h1]
 rw[if_neg (by rw[e1];decide)];show XW (wpAny_pyIter_revIter hi ?_);show XW (SX<|Cz hT ?_);rw[if_neg sT];show Yl ⟨MA eO _,key⟩
def Cw{Q:Ae}(hh:A.handled=none)(hi:s.heap.IsRevIter it a ((items.size:Int)-1))(hl:s.heap.IsList a items)(XN:a≠it)(hz:items.size<=sizeLine)
  (k:∀h' tk acc c,(∀b o,b≠it->s.heap.get? b=some o->h'.get? b=some o)->h'.get? (~~~s)=some {cls:=.type "list",dict:=none,data:=.seq acc c,slots:=#[]}->ItemsOf (λi v=>items[items.size-1-i]?=some v) acc items.size->
   Q (.ref (~~~s)) {s with heap:=h',toks:=tk}):wpAny (model prog w) A (call (.type "list") [.ref it]) Q E s:=by
 let⟨oi,hoi,_⟩:=id hi;let⟨ol,Rp,_⟩:=id hl;let n1:(~~~s)≠it:=Sd (Yq hoi)
 let n2:(~~~s)≠a:=Sd (Yq Rp);show callType_codes (Q₁:=λob s₁=>ob=.ref (~~~s)/\s₁={s with heap:=s.heap.push {cls:=.type "list",data:=.seq #[]} }) PySem.F.called_list (PySem.F.typeCall_list_1 _) PySem.F.entry_list_init (code_list_new _ ⟨Z,Z⟩) λob s₁ z=>?_;let⟨rfl,rfl⟩:=z;let Fj:(s.heap.push {cls:=.type "list",data:=.seq #[]}).get? (~~~s)=some {cls:=.type "list",data:=.seq #[]}:=Yo _ rfl
 exists ⟨_,Fj,Z⟩,PySem.F.args_list_init_2 _ _,?_;change wpAny _ A.in1.in1 (do let old <-Builtin.List.listItems (.ref (~~~s));Builtin.List.listUpdate (.ref (~~~s)) λ_=>#[];letGo old.toList.reverse;Builtin.List.listExtendWith (.ref (~~~s)) ↑it .none) _ _ _
 show XW ?_;unfold Builtin.List.listItems;show XW (IW Fj Z<|Yl ?_);show XW (xH (a:=(~~~s)) Fj Z ?_);let Cv:=PF (Obj.mapSeq λ_=>(#[]:Array Value)) Fj rfl
 let HM:∀b o,b≠(~~~s)->s.heap.get? b=some o->((s.heap.push {cls:=.type "list",data:=.seq #[]}).update (~~~s) (Obj.mapSeq λ_=>(#[]:Array Value))).get? b=some o:=
  λb o hb e=>(VS _ _<|Xa hb).trans (Xf _ e)
 show XW (Fz ?_);show Zf7 (A:=A.in1) (items:=items) hh (hi.at λo e=>HM it o (Xa n1) e) (hl.at λo e=>HM a o (Xa n2) e) XN n1 n2 Cv hz λh' tk acc c hk Uh VA=>?_;exists Z,k h' tk acc c (λb o hb e=>hk b o (YD<|Yq e) hb<|HM b o (YD<|Yq e) e) Uh VA
end
end
section
variable{X:Cx}{p p2 pos UJ:Pos}{e:Expr}{t:TA}
def oS(K:Ad)(t:TA):(TE):=λσ H Q=>t σ H λvs H1=>∃a ys,vs=[.ref a]/\SqL K H1 a ys/\∀l,H1 l=none->Q ↑l (upd H1 l<|.lst ys.reverse)
def oR(K:Ad)(hc:X.calm=true)(g1:Gl X "list")(m1:X.mg "list"=none)(g2:Gl X "reversed")(m2:X.mg "reversed"=none)(ha:PA X [e] t)(hk:X.K=K:=by rfl)
  (he:starEach [e] X.env=[(false,eval e X.env)]:=by rfl)
  (OR:starEach [.Call (.Name "reversed" p2) [e] [] UJ] X.env=[(false,eval (.Call (.Name "reversed" p2) [e] [] UJ) X.env)]:=by rfl):
  PE X (.Call (.Name "list" p) [.Call (.Name "reversed" p2) [e] [] UJ] [] pos) (oS K t):=by
 subst hk;intro pins s σ H Q I h;show Nv (Qd I g1 m1 Boot.«list» ?_);show Jd ?_ (by rw[OR];rfl) rfl;rw[OR];change wpAny _ _ (spliced<|(false,eval (.Call (.Name "reversed" p2) [e] [] UJ) X.env)::backTo pos []) _ _ s
 show tN ?_;show Nv (Qd I g2 m2 Boot.«reversed» ?_);show Jd (thn (ha UJ pins s σ H _ I h) λus s1 zz=>?_) (by rw[he];rfl) rfl;let⟨vs,H1,I1,r1,q1⟩:=zz;let⟨a,ys,rfl,hq,q⟩:=q1;let⟨u,rfl,ru⟩:=Tg r1;let rfl:u=Value.ref a:=ru;let⟨XX,rv,pl,hz⟩:=I1.list hq;show call_reversed_list pl.isList ?_;show II ?_;let el:XX.toArray.size=ys.length:=by rw[Yb,<-rv.length]
 let hit:(s1.heap.push<|revObj a<|(XX.toArray.size:Int)-1).IsRevIter (~~~s1) a ((XX.toArray.size:Int)-1):=⟨_,Yo _ Z,Z,Z⟩;let XN:a≠(~~~s1):=YD (by let⟨_,_,e,_⟩:=pl;show Yq e)
 show Cw (I.ok.hd hc) hit (pl.isList.push _) XN (by rwa[el]) λh' tk acc c hk hS Fi=>?_;let el2:XX.length=ys.length:=rv.length.symm
 let ea:acc.toList=XX.reverse:=by
  show Nq λi=>?_;let h1:=Fi.1
  cases hi:i<XX.length
  .obtain⟨v,ev⟩:∃v,acc[i]?=some v:=⟨_,YT<|by rwa[h1,Yb]⟩;let h2:=Fi.2 i v ev
   rw[KH hi];let e3:acc.toList[i]?=some v:=by simpa using ev
   rw[e3];let e4:XX[XX.length-1-i]?=some v:=by simpa using h2
   rw[e4]
  .rw[VF (by rw[Yw,h1,Yb];grind),VF (by rw[YN];omega)]
 rw[Fy]at hS ⊢;exists .ref<|(~~~s1)+1,_,I1.laid (o:=.lst ys.reverse) (h':=h') (t':=tk) (λb o e=>hk b o (YD<|Yq e)<|Xf _ e) (TZ _) ⟨?_,acc.toList,c,?_,?_⟩,Z,q _<|I1.hok.fresh<|TZ _
 .rw[YN];show hz
 .rw[ea];show rv.rev
 .rw[hS]
end
end L2
namespace My
open PySem L2
def XS:IsSet m ns↔(∀z∈ns,0<=z/\z<(m:Int))/\ns.Pairwise (·<·):=by
 constructor
 .intro h;exists h.all,?_;rw[Nx];intro i j hi hj WJ
  induction j with
  |zero=>show absurd WJ (Sv i)
  |succ j ih=>
   let OI:j<ns.length:=sS;let key:=(h (j+1) ns[j+1]<|Xq hj).2.2 ns[j] J (by rw[t8];show Xq OI)
   cases e:i=j
   .subst e;show key
   .have:=ih OI J
    lia
 .rintro⟨ha,hp⟩ i z hz;let⟨hi,ei⟩:=Xx.mp hz;let hm:=ha z (Xj hz)
  exists hm.1,hm.2,λy h0 hy=>?_;let⟨Tw,ei'⟩:=Xx.mp hy
  have:=Nx.mp hp (i-1) i Tw hi J
  rwa[ei,ei']at this
def OH{ns:Ac}(h:ns.Pairwise (·<·)):ns.Nodup:=h.imp λVh e=>J
def IsSet.nodup(h:IsSet m ns):ns.Nodup:=OH (XS.mp h).2
end My
namespace My
def LS{α:Type}{P:List α->Prop}(h0:P [])(h1:∀l x,P l->P (l++[x])):∀l,P l:=by
 intro l;rw[<-List.reverse_reverse l]
 induction l.reverse with
 |nil=>show h0
 |cons x r ih=>
  rw[Pu];show h1 _ _ ih
inductive Conn(es:List (Nat×Nat)):Nat->Nat->Prop
 |refl (i:Nat):Conn es i i
 |edge {a b:Nat} (h:(a,b)∈es):Conn es a b
 |symm {i j:Nat}:Conn es i j->Conn es j i
 |trans {i j k:Nat}:Conn es i j->Conn es j k->Conn es i k
def Conn.mono(h:∀e∈es,e∈fs)(c:Conn es i j):Conn fs i j:=by
 induction c with
 |refl i=>show .refl i
 |edge q=>show .edge (h _ q)
 |symm _ ih=>show .symm ih
 |trans _ _ i1 i2=>show .trans i1 i2
def wG{n i:Nat}(h:i<n):mk ((List.range n).map λ(i:Nat)=>(i:Int)) i=(i:Int):=by rw[mk_map' h]
where
 mk_map' {n i:Nat} (h:i<n):mk ((List.range n).map λ(i:Nat)=>(i:Int)) i=(i:Int):=by simp[mk,WG,Ys,IM h]
def InN(n:Nat)(es:List (Nat×Nat)):(Prop):=∀e∈es,e.1<n/\e.2<n
def InN.snoc{e:Nat×Nat}(h:InN n (es++[e])):InN n es/\e.1<n/\e.2<n:=⟨λx hx=>h x<|Yg _ hx,h e B⟩
def Cu:∀es:List (Nat×Nat),InN n es->∀e∈es,mk (Xb n es) e.1=mk (Xb n es) e.2:=by
 show LS (λ_ e h=>by cases h) λes x ih hn e he=>?_;let⟨h1,h2,h3⟩:=hn.snoc;let hl:=ZE n es
 let hx:=hn e he;rw[Na];show(CA J J).mpr ?_;rcases XA.mp he with q|q
 .show .inl (ih h1 e q)
 .rw[XG.mp q];show .inr ⟨.inl Z,.inr Z⟩
def Ct:∀es:List (Nat×Nat),InN n es->∀i j,i<n->j<n->mk (Xb n es) i=mk (Xb n es) j->Conn es i j:=by
 show LS (λ_ i j hi hj h=>?_) λes x ih hn i j hi hj h=>?_
 .let h:mk ((List.range n).map λ(i:Nat)=>(i:Int)) i=mk ((List.range n).map λ(i:Nat)=>(i:Int)) j:=h;rw[wG hi,wG hj]at h
  have:i=j:=J
  subst this;show .refl i
 .let⟨h1,h2,h3⟩:=hn.snoc;let hl:=ZE n es
  let up:∀{i j:Nat},Conn es i j->Conn (es++[x]) i j:=λc=>c.mono λe he=>Yg _ he;let ex:Conn (es++[x]) x.1 x.2:=.edge B
  rw[Na]at h;rcases(CA J J).mp h with q|⟨q1,q2⟩
  .show up (ih h1 i j hi hj q)
  .let ci:Conn (es++[x]) i x.1:=by
    rcases q1 with q|q
    .show up (ih h1 i _ hi h2 q)
    .show(up<|ih h1 i _ hi h3 q).trans ex.symm
   let cj:Conn (es++[x]) j x.1:=by
    rcases q2 with q|q
    .show up (ih h1 j _ hj h2 q)
    .show(up<|ih h1 j _ hj h3 q).trans ex.symm
   show ci.trans cj.symm
def oQ(hn:InN n es)(c:Conn es i j):i=j\/(i<n/\j<n/\mk (Xb n es) i=mk (Xb n es) j):=by
 induction c with
 |refl i=>show .inl rfl
 |edge q=>show .inr ⟨(hn _ q).1,(hn _ q).2,Cu es hn _ q⟩
 |symm _ ih=>
  rcases ih with e|⟨a,b,c⟩
  .show .inl e.symm
  .show .inr ⟨b,a,c.symm⟩
 |trans _ _ i1 i2=>
  rcases i1 with e|⟨a,b,c⟩
  .rw[e];show i2
  .rcases i2 with e|⟨a',b',c'⟩
   .rw[<-e];show .inr ⟨a,b,c⟩
   .show .inr ⟨a,b',c.trans c'⟩
def Wa(hn:InN n es)(hi:i<n)(hj:j<n):mk (Xb n es) i=mk (Xb n es) j↔Conn es i j:=by
 constructor
 .show Ct es hn i j hi hj
 .intro c;rcases oQ hn c with e|⟨_,_,e⟩
  .rw[e]
  .show e
def Ro(hn:InN n es)(hi:i<n)(hj:j<n):mk (XB n es) i=mk (XB n es) j↔Conn es i j:=by
 rw[<-Wa hn hi hj];let s:=wL (n:=n) (es:=es) hn
 show s.2 i j (by rwa[ZD]) (by rwa[ZD])
def cnt(M:Ac):(Nat):=(Vb M M.length).length
def wF(M:Ac):∃p,p<=i/\mk M p=mk M i/\Wb M p=true:=by
 induction i using Nat.strongRecOn with
 |ind i ih=>
  cases h:Wb M i=true
  .exists i,XM _,Z,h
  .have:∃j,j<i/\mk M j=mk M i:=by
    cases q:∃j,j<i/\mk M j=mk M i
    .show q
    .show absurd (Xz.mpr λj hj e=>q ⟨j,hj,e⟩) h
   let⟨j,hj,e⟩:=this;let⟨p,h1,h2,h3⟩:=ih j hj;exists p,J,h2.trans e,h3
def ZT7{p q:Nat->Bool}{x n:Nat}(hx:x<n)(hpx:p x=true)(h:∀y,y<n->q y=(p y && !decide (y=x))):((List.range n).filter q).length+1=((List.range n).filter p).length:=by
 induction n with
 |zero=>show absurd hx (Sv x)
 |succ n ih=>
  rw[Ee,Rx,Rx,Xt,Xt];cases e:x=n
  .subst e;let e1:(List.range x).filter q=(List.range x).filter p:=Nr λy hy=>by let hy:=YS.mp hy;rw[h y J,show decide (y=x)=false from Sw J];simp
   let e2:q x=false:=by rw[h x J];simp
   rw[e1];simp[YW,e2,hpx]
  .let hq:q n=p n:=by rw[h n J,show decide (n=x)=false from Sw λz=>e z.symm];simp
   have:=ih J λy hy=>h y J
   simp only[YW,tQ,hq];lia
def wD(hp:Wb M p=true)(hq:Wb M q=true)(e:mk M p=mk M q):p=q:=by
 rcases Nat.lt_trichotomy p q with h|h|h
 .show absurd e (Xz.mp hq p h)
 .show h
 .show absurd e.symm (Xz.mp hp q h)
def oP(ha:a<m.length)(hb:b<m.length)(XN:mk m a≠mk m b):cnt (lm m a b)+1=cnt m:=by
 let⟨A,JX,Sl,Fh⟩:=wF m (i:=a);let⟨sO,cI,LR,JW⟩:=wF m (i:=b);let hAB:A≠sO:=λe=>XN (by rw[<-Sl,<-LR,e])
 unfold cnt Vb;rw[wN];show ZT7 (x:=max A sO) sS ?_ λy hy=>?_
 .rcases Nat.le_total A sO with h|h
  .rw[Nat.max_eq_right h];show JW
  .rw[Nat.max_eq_left h];show Fh
 .rw[Qh,Ja,Xz,Xz];let key:∀i,i<y->(mk (lm m a b) i=mk (lm m a b) y↔Fm m a b i y):=λi hi=>CA J hy
  let oO:(!decide (y=max A sO))=true↔y≠max A sO:=B;rw[oO];constructor
  .intro q;exists λi hi e=>q i hi<|(key i hi).mpr (.inl e),λe=>?_;rcases Nat.lt_or_gt_of_ne hAB with h|h
   .let ey:y=sO:=J;subst ey;show q A h ((key A h).mpr (.inr ⟨.inl Sl,.inr LR⟩))
   .let ey:y=A:=sS;subst ey;show q sO h ((key sO h).mpr (.inr ⟨.inr LR,.inl Sl⟩))
  .rintro⟨q1,q2⟩ i hi e;rcases(key i hi).mp e with e|⟨e1,e2⟩
   .show q1 i hi e
   .let fy:Wb m y=true:=Xz.mpr q1;rcases e2 with e2|e2
    .let ey:y=A:=wD fy Fh (e2.trans Sl.symm);rcases e1 with e1|e1
     .show q1 i hi (e1.trans e2.symm)
     .let⟨p,p1,p2,p3⟩:=wF m (i:=i)
      have:p=sO:=wD p3 JW (by rw[p2,e1,LR])
      grind
    .let ey:y=sO:=wD fy JW (e2.trans LR.symm);rcases e1 with e1|e1
     .let⟨p,p1,p2,p3⟩:=wF m (i:=i)
      have:p=A:=wD p3 Fh (by rw[p2,e1,Sl])
      grind
     .show q1 i hi (e1.trans e2.symm)
def cH(n:Nat):cnt ((List.range n).map λ(i:Nat)=>(i:Int))=n:=by
 unfold cnt Vb;rw[Yc,MG];let e:(List.range n).filter (Wb<|(List.range n).map λ(i:Nat)=>(i:Int))=List.range n:=by
  show xV.mpr λp hp=>Xz.mpr λi hi e=>?_;let hp:=YS.mp hp
  rw[wG J,wG hp]at e;lia
 rw[e,MG]
def oN(hM:1<=M.length):cnt M=1↔∀i j,i<M.length->j<M.length->mk M i=mk M j:=by
 let e:cnt M=(HP M).length:=by unfold cnt HP;rw[cJ,Yc]
 rw[e];show cQ hM
end My
namespace My
open PySem L2
def Cs{i:Int}{n:Nat}(h0:0<=i)(h1:i<(n:Int)):seqIndex? i n=some i.toNat:=by let e:(if i<0 then i+(n:Int) else i)=i:=if_neg J;unfold seqIndex?;simp only[e];rw[if_pos (by simp;lia)]
def Ze(n:Int)(ps:Aa)(ns:Ac):(Prop):=IsSet ps.length ns/\ns⁻¹=n-1/\∀i j,i<n.toNat->j<n.toNat->Conn (XU ps ns) i j
def ZR(g:Zy n ps)(h:∀z∈ns,0<=z/\z<ps⁻¹):InN n.toNat (XU ps ns):=λe he=>by
 let⟨z,hz,rfl⟩:=YR.mp he;let⟨z0,z1⟩:=h z hz;let hp:ps[z.toNat]?=some (ps[z.toNat]'(by lia)):=Xq _
 rw[ZY hp];let⟨b1,b2,b3,b4⟩:=g.2.2.2 _ (Xj hp);exists J,J
def ZW(h:∀z∈ns,z∈ms):∀e∈XU ps ns,e∈XU ps ms:=λe he=>by let⟨z,hz,rfl⟩:=YR.mp he;show YR.mpr ⟨z,h z hz,Z⟩
def Cr(h:InN n es):(∀i j,i<(Xb n es).length->j<(Xb n es).length->mk (Xb n es) i=mk (Xb n es) j)↔∀i j,i<n->j<n->Conn es i j:=by
 rw[ZE];constructor
 .intro q i j hi hj;show(Wa h hi hj).mp (q i j hi hj)
 .intro q i j hi hj;show(Wa h hi hj).mpr (q i j hi hj)
def oM(hn:1<=n)(h:InN n es):(HP (XB n es)).length=1↔∀i j,i<n->j<n->Conn es i j:=by rw[cQ (by rwa[ZD]),(wL h).one];show Cr h
def LQ(h:∀z,z∈ns↔z∈ms):Conn (XU ps ns) i j↔Conn (XU ps ms) i j:=
 ⟨λc=>c.mono<|ZW λz hz=>(h z).mp hz,λc=>c.mono<|ZW λz hz=>(h z).mpr hz⟩
section
variable{K:Ad}{a:Addr}{xs:List V}{g:TG}{tt:TT}{te:TE}{o:Nat}{fr:List Nat}{σ:St}{H:Hp}{Q:VK}
def wC(Pv:Nat->List V->Hp->Prop)(h0:Pv 0 [] H)(hz:xs.length<sizeLine)(hl:∀i ys H,i<=xs.length->Pv i ys H->SqL K H a xs/\ys.length<=i)
  (hs:∀(i:Nat) x ys H (p:Addr),H p=none->xs[i]?=some x->Pv i ys H->Fp Pv g tt te o fr σ i ↑p ys (upd H p<|.tup [.int i,x]))(hd:∀ys H,Pv xs.length ys H->∀p,H p=none->Q ↑p (upd H p<|.lst ys)):Kg (Fq K a) g tt te o fr σ H Q:=by
 exists λi m ys H=>m=xs.length-i/\i<=xs.length/\Pv i ys H,⟨xs.length,B,Yk _,h0⟩,?_;rintro i m ys H ⟨rfl,hi,p⟩;let⟨q,hy⟩:=hl i ys H hi p;cases Xk:i<xs.length
 .show .inr ⟨⟨xs,xs[i],q,by simp[Xk]⟩,J,λx H' zz=>?_⟩;let⟨T,y,hT,ex,eH,hyy⟩:=zz;subst ex eH;show hs i y ys H T hT (hyy xs q) p (λj ys H=>∃m',m'<xs.length-i/\m'=xs.length-j/\j<=xs.length/\Pv j ys H) λys H p'=>⟨xs.length-(i+1),sS,Z,Xk,p'⟩
 .let e:i=xs.length:=J;subst e;show .inl ⟨⟨xs,q,XM _⟩,J,hd ys H p⟩
end
def unlike(M:Ac)(ps:Aa)(i:Nat):(Ac):=((List.range i).filter λk=>decide<|mk M (ps.getD k (0,0)).1.toNat≠mk M (ps.getD k (0,0)).2.toNat).map λ(k:Nat)=>(k:Int)
def Cq(M:Ac)(ps:Aa)(i:Nat):unlike M ps (i+1)=unlike M ps i++(if mk M (ps.getD i (0,0)).1.toNat≠mk M (ps.getD i (0,0)).2.toNat then [(i:Int)] else []):=by
 unfold unlike;rw[Ee,Rx,YK];congr 1;cases h:mk M (ps.getD i (0,0)).1.toNat≠mk M (ps.getD i (0,0)).2.toNat
 .rw[if_pos h,YW,if_pos (Yv h)];rfl
 .rw[if_neg h,YW,if_neg (by simpa using h)];rfl
def Zu6(M:Ac)(ps:Aa)(i:Nat):(unlike M ps i).length<=i:=by unfold unlike;rw[Yc];show Yn (Yr _ _) B
def wo(ns:Ac)(z:Int):(Ac):=ns.filter λy=>decide (y≠z)
def Xi{z y:Int}:y∈wo ns z↔y∈ns/\y≠z:=by unfold wo;rw[Ya];simp
def LP(ns:Ac)(z:Int):(wo ns z).length<=ns.length:=Yr _ _
def wB{ns:Ac}{y z:Int}(h:ns[i]?=some y):wo (ns.take (i+1)) z=wo (ns.take i) z++(if y≠z then [y] else []):=by
 unfold wo;rw[YY,h,Rx];congr 1;cases e:y≠z
 .rw[if_pos e];change List.filter _ [y]=_;rw[YW,if_pos (Yv e)];rfl
 .rw[if_neg e];change List.filter _ [y]=_;rw[YW,if_neg (by simpa using e)];rfl
def ZZ5(g:Zy n ps)(hM:M.length=n.toNat)(s:SameP M L):unlike M ps ps.length=unlike L ps ps.length:=by
 unfold unlike;congr 1;show Nr λk hk=>?_;let hk:=YS.mp hk
 let hp:ps[k]?=some ps[k]:=Xq hk;rw[ZY hp];let⟨b1,b2,b3,b4⟩:=g.2.2.2 _ (Xj hp)
 have:=s.2 ps[k].1.toNat ps[k].2.toNat sS sS
 rw[Qh,YL,YL];show not_congr this
def Td(n:Int)(ps:Aa)(ns:Ac)(z:Int)(l:Ac):(Ac):=l.filter λy=>decide (z∈unlike (Xb n.toNat<|XU ps<|wo ns y) ps ps.length)
def cG{l:Ac}{y:Int}(h:l[i]?=some y):
  Td n ps ns z (l.take<|i+1)=Td n ps ns z (l.take i)++(if z∈unlike (Xb n.toNat<|XU ps<|wo ns y) ps ps.length then [y] else []):=by
 unfold Td;rw[YY,h,Rx];congr 1;cases e:z∈unlike (Xb n.toNat<|XU ps<|wo ns y) ps ps.length
 .rw[if_pos e];change List.filter _ [y]=_;rw[YW,if_pos (Yv e)];rfl
 .rw[if_neg e];change List.filter _ [y]=_;rw[YW,if_neg (by simpa using e)];rfl
def HL(n:Int)(ps:Aa)(ns:Ac)(z:Int)(l:Ac):(Td n ps ns z l).length<=l.length:=Yr _ _
def Zt6{z:Int}(h0:0<=z)(h1:z<ps⁻¹):z∈unlike M ps ps.length↔mk M (ps.getD z.toNat (0,0)).1.toNat≠mk M (ps.getD z.toNat (0,0)).2.toNat:=by
 unfold unlike;rw[YR];constructor
 .rintro⟨k,hk,rfl⟩
  have:=Yt (Ya.mp hk).2
  rwa[QP]
 .intro h;exists z.toNat,Ya.mpr ⟨YS.mpr sS,Yv h⟩,J
def RQ{a b:Ac}(h:a.Perm b)(h1:a.Pairwise (·<=·))(h2:b.Pairwise (·<=·)):a=b:=by
 induction a generalizing b with
 |nil=>show(List.Perm.nil_eq h)
 |cons x a ih=>
  cases b with
  |nil=>show absurd h.length_eq B
  |cons y b=>
   let⟨hx,ha⟩:=YZ.mp h1;let⟨hy,hb⟩:=YZ.mp h2;let e:x=y:=by
    let m1:y∈x::a:=h.mem_iff.mpr Yd;let m2:x∈y::b:=h.mem_iff.mp Yd
    rcases Yi.mp m1 with e1|e1
    .show e1.symm
    .rcases Yi.mp m2 with e2|e2
     .show e2
     .have:=hx y e1;have:=hy x e2;lia
   subst e;rw[ih (List.Perm.cons_inv h) ha hb]
end My
namespace L2
open PySem PySem.Spec PyProof.Rows
section
variable{prog:Program}{w:World}{A:Around}{E:Ae}{s:Shared}
def Zf6{tp:Addr}{vs:Ag}{Q:List Value->Shared->Prop}{ot:Obj}(ht:s.heap.get? tp=some ot)(hc:ot.cls=.type "tuple")(hd:ot.data=.seq vs.toArray m)(hz:vs.length<=sizeLine)
  (k:Q vs {s with heap:=(s.heap.push<|seqObj "list" #[] 0).update (~~~s) (Obj.mapSeq (·++vs.toArray))}):wpAny (model prog w) A (collect<|.ref tp) Q E s:=by
 let cF:(s.heap.push<|seqObj "list" #[] 0).get? tp=some ot:=Xf _ ht;let HK:(s.heap.push<|seqObj "list" #[] 0).get? (~~~s)=some (seqObj "list" #[] 0):=Yo _ rfl
 unfold collect;show XW (xE<|Rv IG ?_);change wpAny _ _ (do again (.builtin "list.__iadd__" ⟨[<-newList [],.ref tp],[]⟩)) _ _ s
 show XW (Nm<|Yl ⟨xK _ sQ,Rv entry_list_iadd' ?_⟩);change wpAny _ _ (Builtin.List.listExtendWith (.ref (~~~s)) ↑tp<|.ref (~~~s)) _ _ {s with heap:=s.heap.push (seqObj "list" #[] 0)}
 unfold Builtin.List.listExtendWith;show XW (Mr (T:="tuple") ⟨ot,cF,hc⟩ ?_);rw[if_pos (by rw[show(Value.type "tuple" == Value.type "tuple")=true from Z];simp)];show XW (Pl cF hd ?_);show XW (Pl (xs:=#[]) (n:=0) HK Z ?_);rw[if_neg B];show XW (Nk (xs:=#[]) (n:=0) HK Z ?_ (Yk _)<|by change(#[]++vs.toArray).size<=sizeLine+1;simp only[Array.size_append,Yb,KA];lia);show Yl ?_;show XW (wpAny_load (Po HK _) ?_);change wpAny _ _ (pure ((#[]:Array Value)++vs.toArray).toList) Q E _
 rw[show((#[]:Array Value)++vs.toArray).toList=vs by simp];show Yl k
def oK{tp:Addr}{Q:Ae}{ot:Obj}(ht:s.heap.get? tp=some ot)(hc:ot.cls=.type "tuple")(hd:ot.data=.seq vs.toArray m)(hI:IntsAre vs ns)(Rn:vs.length<64)
  (k:∀out ms,IntsAre out.toList ms->ms.Perm ns->ms.Pairwise (·<=·)->Q (.ref<|(~~~s)+1) {s with heap:=sortedAll s.heap vs out}):
  wpAny (model prog w) A (call (.builtin "sorted") [.ref tp]) Q E s:=by
 let LO:sizeLine=16777216:=TM;let hsz:((s.heap.push<|seqObj "list" #[] 0).update (~~~s) (Obj.mapSeq (·++vs.toArray))).objs.size=(~~~s)+1:=by rw[tu,Fy]
 let Nh:(((s.heap.push<|seqObj "list" #[] 0).update (~~~s) (Obj.mapSeq (·++vs.toArray))).push (seqObj "list" vs.toArray 0)).get? ((~~~s)+1)=some (seqObj "list" vs.toArray 0):=by rw[<-hsz];show Yo _ rfl
 show x8 kind_sorted Pm Pk (args_sorted1 _) ?_;unfold Builtin.«sorted»;show XW (m:=checkCount "sorted" 1 1 _) (Yl ?_);show XW (Zf6 ht hc hd J ?_);show XW (Nm ?_);change wpAny _ _ _ _ _ {s with heap:=((s.heap.push<|seqObj "list" #[] 0).update (~~~s) (Obj.mapSeq (·++vs.toArray))).push (seqObj "list" vs.toArray 0)}
 rw[hsz];show XW (SX<|Uq DW ⟨_,Nh,Z⟩ Pn (list_sort_tree Nh hI Rn λout ms b1 b2 b3=>⟨_,Z,?_⟩)<|xr _);show Yl ⟨_,Z,k out ms b1 b2 b3⟩
end
section
variable{X:Cx}
def ZG4(K:Ad)(hk:X.K=K:=by rfl):WB X (.builtin "sorted") (λxs H Q=>∃p ns,xs=[.ref p]/\SqT K H p (ns.map V.int)/\ns.length<64/\
  ∀ms:Ac,ms.Perm ns->ms.Pairwise (·<=·)->∀l,H l=none->Q ↑l (upd H l<|.lst<|ms.map V.int)):=by
 subst hk;intro pins s σ H xs us Q I r h;let⟨p,ns,rfl,hq,hn,q⟩:=h;let⟨u,rfl,ru⟩:=Tg r;let rfl:u=Value.ref p:=ru;let⟨XX,rv,⟨ot,h1,h2,m,h3⟩,hz⟩:=I.tuple hq;let hi:=ZC rv
 let hl:XX.length=ns.length:=by rw[<-rv.length,Yc]
 show oK h1 h2 h3 hi J λout ms b1 b2 b3=>?_;let⟨e,he⟩:=sortedAll_at s.heap XX out;let MZ:ms.length=ns.length:=b2.length_eq
 exists .ref<|(~~~s)+1,_,I.laid (t':=s.toks) (o:=.lst<|ms.map V.int) (λb o g=>sortedAll_old g) (TZ _) ⟨?_,out.toList,e,ZZ b1,he⟩,Z,q ms b2 b3 _<|I.hok.fresh<|TZ _;rw[Yc,MZ]
 have:sizeLine=16777216:=TM
 lia
def HJ(K:Ad):(R2):=λx y H Q=>∃a b xs ys,x=.ref a/\y=.ref b/\SqT K H a xs/\SqT K H b ys/\xs.length+ys.length<=sizeLine/\
 (xs=[]->Q ↑b H)/\(xs≠[]->ys=[]->Q ↑a H)/\(xs≠[]->ys≠[]->∀p,H p=none->Q ↑p (upd H p<|.tup<|xs++ys))
def HI(K:Ad)(hk:X.K=K:=by rfl):Wy X (binaryOp .Add) (HJ K):=by
 intro pins s σ H x y v u Q I rx ry h;let⟨a,b,xs,ys,e1,e2,ha,hb,hz,q0,q1,q2⟩:=id h;cases hx:xs=[]
 .subst hk e1 e2;cases rx;cases ry;let⟨XX,r1,p1,_⟩:=I.tuple ha;let⟨Vs,r2,p2,_⟩:=I.tuple hb;let hi:XX=[]:=r1.nil_iff.mpr hx
  let⟨⟨cls,dd,data,sl⟩,ho,hc,n,hd⟩:=id p1;let⟨⟨qZ,xc,data2,xb⟩,RV,Ul,n2,hd2⟩:=id p2;simp only at hc hd Ul hd2;subst hc hd Ul hd2;show concat_meets ⟨_,ho,Z⟩ ⟨_,RV,Z⟩ tE seq_tuple_add uh uj (ur _ _)
   (tuple_addW0 a b XX.toArray Vs.toArray n n2 dd xc sl xb<|by simp[hi]) ⟨ho,RV,⟨.ref b,H,I,Z,q0 hx⟩⟩
 .show pD K hk pins s σ H x y v u Q I rx ry ⟨a,b,xs,ys,e1,e2,ha,hb,hx,hz,q1 hx,q2 hx⟩
end
end L2
namespace My
open PySem L2
def Cp(h:mk m a=mk m b):lm m a b=m:=by unfold lm;rw[if_neg λz=>z h]
def cE(ha:a<m.length)(hb:b<m.length):cnt m<=cnt (lm m a b)+1:=by
 cases e:mk m a=mk m b
 .rw[Cp e];lia
 .have:=oP ha hb e;lia
def wA:∀es:List (Nat×Nat),InN n es->n<=cnt (Xb n es)+es.length:=by
 show LS (λ_=>?_) λes x ih hn=>?_
 .have:cnt (Xb n [])=n:=cH n
  lia
 .let⟨h1,h2,h3⟩:=hn.snoc;let hl:=ZE n es
  have:=cE (m:=Xb n es) (a:=x.1) (b:=x.2) J J
  have:=ih h1
  rw[Na,Xt,YI,KA];lia
def oJ(h:1<=M.length):1<=cnt M:=by unfold cnt Vb;show FR (a:=0) (Ya.mpr ⟨YS.mpr J,Xz.mpr λi hi=>absurd hi<|Sv i⟩)
def JV(hn:1<=n)(h:InN n es):cnt (Xb n es)=1↔∀i j,i<n->j<n->Conn es i j:=by rw[oN (by rwa[ZE])];show Cr h
def cD(hn:ts.Nodup)(ho:o∈ts):(wo ts o).length+1=ts.length:=by
 induction ts with
 |nil=>cases ho
 |cons x r ih=>
  let⟨h1,h2⟩:=Qi.mp hn;unfold wo;rw[YW];cases e:x=o
  .subst e;rw[if_neg B]
   have:r.filter (λy=>decide<|y≠x)=r:=xV.mpr λy hy=>Yv λe=>h1 (e▸hy)
   rw[this];rfl
  .rw[if_pos (Yv e)]
   have:=ih h2 ((Yi.mp ho).resolve_left λz=>e z.symm)
   unfold wo at this;rw[YI,YI];lia
def Zq(ps:Aa)(z:Int):(Nat×Nat):=((ps.getD z.toNat (0,0)).1.toNat,(ps.getD z.toNat (0,0)).2.toNat)
def JU(ps:Aa)(ns:Ac)(z:Int):XU ps (ns++[z])=XU ps ns++[Zq ps z]:=by unfold XU Zq;rw[YK];rfl
def Tv(g:Zy n ps)(z0:0<=z)(z1:z<ps⁻¹):(Zq ps z).1<n.toNat/\(Zq ps z).2<n.toNat:=by
 have:=ZR (ns:=[z]) g (λy hy=>by rw[XG.mp hy];exists z0,z1)
 show this (Zq ps z) (by unfold XU Zq;simp)
def JT(hT:Ze n ps ts):∀y∈wo ts o,0<=y/\y<ps⁻¹:=λy hy=>hT.1.all y (Xi.mp hy).1
def HH(g:Zy n ps)(hT:Ze n ps ts)(ho:o∈ts)(z0:0<=z)(z1:z<ps⁻¹):
  (∀i j,i<n.toNat->j<n.toNat->Conn (XU ps<|wo ts o++[z]) i j)↔¬Conn (XU ps<|wo ts o) (Zq ps z).1 (Zq ps z).2:=by
 let hn:1<=n.toNat:=by have:=g.1;lia
 let hw:=cD hT.1.nodup ho;let hl:ts⁻¹=n-1:=hT.2.1
 let i0:InN n.toNat (XU ps<|wo ts o):=ZR g (JT hT);let hz:=Tv g z0 z1
 let ob:=hT.1.all o ho;let Fg:=Tv g ob.1 ob.2
 let i1:InN n.toNat (XU ps (wo ts o)++[Zq ps z]):=λe he=>(XA.mp he).elim (i0 e) λq=>by rwa[XG.mp q]
 let i2:InN n.toNat (XU ps (wo ts o)++[Zq ps o]):=λe he=>(XA.mp he).elim (i0 e) λq=>by rwa[XG.mp q]
 let hL:=ZE n.toNat (XU ps<|wo ts o);let le:(XU ps<|wo ts o).length=(wo ts o).length:=by unfold XU;rw[Yc]
 rw[JU];constructor
 .intro hc c;let h1:cnt (Xb n.toNat<|XU ps (wo ts o)++[Zq ps z])=1:=(JV hn i1).mpr hc
  rw[Na,Cp ((Wa i0 hz.1 hz.2).mpr c)]at h1
  have:=wA _ i0
  lia
 .intro hc;let h2:cnt (Xb n.toNat<|XU ps (wo ts o)++[Zq ps o])=1:=by
   show(JV hn i2).mpr λi j hi hj=>?_;rw[<-JU];show(LQ λy=>?_).mp (hT.2.2 i j hi hj);rw[XA,Xi,XG];constructor
   .intro hy;cases e:y=o
    .show .inr e
    .show .inl ⟨hy,e⟩
   .rintro(q|q)
    .show q.1
    .rw[q];show ho
  rw[Na]at h2;let h3:=cE (m:=Xb n.toNat<|XU ps<|wo ts o) (a:=(Zq ps o).1) (b:=(Zq ps o).2) J J
  let h4:=oP (m:=Xb n.toNat<|XU ps<|wo ts o) (a:=(Zq ps z).1) (b:=(Zq ps z).2) J J λe=>hc ((Wa i0 hz.1 hz.2).mp e);let h5:=oJ (M:=lm (Xb n.toNat<|XU ps<|wo ts o) (Zq ps z).1 (Zq ps z).2) (by rw[wN];lia)
  show(JV hn i1).mp ?_;rw[Na];lia
def UI(n:Int)(ps:Aa)(ts:Ac)(o:Int):(Ac):=unlike (Xb n.toNat<|XU ps<|wo ts o) ps ps.length
def Zv6{z:Int}(h:z∈unlike M ps i):0<=z/\z<(i:Int):=by
 unfold unlike at h;let⟨k,hk,rfl⟩:=YR.mp h
 have:=YS.mp (Ya.mp hk).1
 lia
def Va(g:Zy n ps)(hT:Ze n ps ts)(z0:0<=z)(z1:z<ps⁻¹):z∈UI n ps ts o↔¬Conn (XU ps (wo ts o)) (Zq ps z).1 (Zq ps z).2:=by let hz:=Tv g z0 z1;unfold UI;rw[Zt6 z0 z1];show not_congr (Wa (ZR g<|JT hT) hz.1 hz.2)
def exg(n:Int)(ps:Aa)(ts:Ac)(o z:Int):(Prop):=o∈ts/\z≠o/\z∈UI n ps ts o
instance (n:Int) (ps:Aa) (ts:Ac) (o z:Int):Decidable (exg n ps ts o z):=by unfold exg;infer_instance
def Ff(g:Zy n ps)(hT:Ze n ps ts):
  exg n ps ts o z↔o∈ts/\z∉ts/\0<=z/\z<ps⁻¹/\∀i j,i<n.toNat->j<n.toNat->Conn (XU ps<|wo ts o++[z]) i j:=by
 constructor
 .rintro⟨h1,h2,h3⟩;let⟨z0,z1⟩:=Zv6 h3;let hc:=(Va g hT z0 z1).mp h3
  exists h1,λhz=>hc ?_,z0,z1,(HH g hT h1 z0 z1).mpr hc;show .edge ?_;show YR.mpr ⟨z,Xi.mpr ⟨hz,h2⟩,Z⟩
 .rintro⟨h1,h2,z0,z1,hc⟩;exists h1,λe=>h2<|e▸h1,(Va g hT z0 z1).mpr ((HH g hT h1 z0 z1).mp hc)
end My
namespace L2
open PySem PySem.Spec PyProof.Rows
section
variable{X:Cx}
def HG(e:Addr->Bool):(V->Bool)
 | .ref a=>e a
 |_=>false
def Co(K:Ad):(R2):=λx y H Q=>∃n p xs e,y=.ref p/\SqL K H p xs/\n<=6/\(∀v∈xs,∃a,v=.ref a/\EqD K H n v x (e a))/\Q (.bl<|xs.any<|HG e) H
def Cn{e:Addr->Bool}:∀{xs:List V}{us:Ag},Vals xs us->(∀v∈xs,∃a,v=.ref a)->(us.any λu=>match u with | .ref a=>e a|_=>false)=xs.any (HG e)
 |_,_,.nil,_=>rfl
 |x::xs,u::us,.cons r t,h=>by let⟨a,rfl⟩:=h x Yd;let rfl:u=Value.ref a:=r;rw[IV,IV,Cn t λv hv=>h v (Yf _ hv)];rfl
def oH{e:Addr->Bool}(I:Inv X pins σ H s)(hu:A.units+n<cLine)(rx:RelV x w){xs:List V}{us:Ag}(h0:Vals xs us)(h:∀v∈xs,∃a,v=.ref a/\EqD X.K H n v x (e a)):∀u∈us,SeqAt.EqAt A s u w (match u with | .ref a=>e a|_=>false):=by
 induction h0 with
 |nil=>intro u hu;cases hu
 |@cons y u xs us r t ih=>
  intro u' oG;rcases Yi.mp oG with rfl|oG
  .let⟨a,rfl,q⟩:=h y Yd;let rfl:u'=Value.ref a:=r;show q.at I hu Z rx
  .show ih (λv hv=>h v<|Yf _ hv) u' oG
def oE(K:Ad)(hu:X.A.units+8<cLine)(hk:X.K=K:=by rfl):Wy X (compareOp .In) (Co K):=by
 subst hk;intro pins s σ H x y v u Q I rx ry h;let⟨n,p,xs,e,rfl,hq,hn,he,q⟩:=h;cases ry;let⟨XX,r,pl,hz⟩:=I.list hq;show SeqAt.in_listAt (λu=>match u with | .ref a=>e a|_=>false) pl.isList (λw hw=>oH I (by change X.A.units+1+n<cLine;lia) rx r he w<|by simpa using hw) ⟨.bl _,H,I,Z,?_⟩
 rw[show XX.toArray.any (λu=>match u with | .ref a=>e a|_=>false)=XX.any (λu=>match u with | .ref a=>e a|_=>false) by simp,Cn r λv hv=>by let⟨a,ea,_⟩:=he v hv;exists a,ea]
 show q
end
end L2
namespace My
open PySem L2
def OG{o y:Int}(g:Zy n ps)(hT:Ze n ps ts)(ho:o∈ts)(hy:y∈ts):y∈UI n ps ts o↔y=o:=by
 let yb:=hT.1.all y hy;rw[Va g hT yb.1 yb.2];constructor
 .intro h;cases e:y=o
  .show e
  .show absurd (.edge<|YR.mpr ⟨y,Xi.mpr ⟨hy,e⟩,Z⟩) h
 .rintro rfl;show(HH g hT hy yb.1 yb.2).mp λi j hi hj=>(LQ λz=>?_).mp (hT.2.2 i j hi hj);rw[XA,Xi,XG];constructor
  .intro hz;cases e:z=y
   .show .inr e
   .show .inl ⟨hz,e⟩
  .rintro(q|q)
   .show q.1
   .rw[q];show hy
def Vp:y∈Td n ps ts z l↔y∈l/\z∈UI n ps ts y:=by unfold Td;rw[Ya,YL];show Iff.rfl
def Cm(g:Zy n ps)(hT:Ze n ps ts)(hx:exg n ps ts o z)(UZ:ms.Perm (wo ts o++[z]))(QH:ms.Pairwise (·<=·)):Ze n ps ms:=by
 let⟨ho,hz,z0,z1,hc⟩:=(Ff g hT).mp hx;let nd:(wo ts o++[z]).Nodup:=cU (hT.1.nodup.sublist IK) λh=>hz (Xi.mp h).1
 let ndm:ms.Nodup:=UZ.nodup_iff.mpr nd;let hl:=cD hT.1.nodup ho
 let VB:=UZ.length_eq;rw[Xt,Yx]at VB;show⟨XS.mpr ⟨λy hy=>?_,(d7.mpr ⟨QH,ndm⟩).imp λ{x y} h=>by have:=h.1;have:=h.2;lia⟩,by rw[VB,hl];show hT.2.1,λi j hi hj=>(LQ λy=>UZ.mem_iff).mpr (hc i j hi hj)⟩;rcases XA.mp (UZ.mem_iff.mp hy) with h|h
 .show hT.1.all y (Xi.mp h).1
 .rw[XG.mp h];exists z0,z1
section
variable{n:Int}{ps:Aa}{ts ms:Ac}{o z:Int}(g:Zy n ps)(hT:Ze n ps ts)(hx:exg n ps ts o z)(UZ:ms.Perm (wo ts o++[z]))(QH:ms.Pairwise (·<=·))
include g hT hx UZ QH
def wz{y:Int}:y∈ms↔(y∈ts/\y≠o)\/y=z:=by rw[UZ.mem_iff,XA,Xi,XG]
end
def cC:∀{a b:Ac},a.length=b.length->HT.lexLt a b=true->∃p x y r s,a=p++x::r/\b=p++y::s/\x<y
 |[],[],_,h=>by cases h
 |[],_::_,e,_=>by simp at e
 |_::_,[],e,_=>by simp at e
 |x::xs,y::ys,e,h=>by
  rw[HT.Xn]at h;cases q:x=y
  .subst q;rw[if_pos Z]at h;let⟨p,u,v,r,s,e1,e2,e3⟩:=cC (by simpa using e) h;exists x::p,u,v,r,s,by rw[e1];rfl,by rw[e2];rfl,e3
  .rw[if_neg q]at h;exists [],x,y,xs,ys,Z,Z,Yt h
def Xv:∀{a b:Ac},HT.lexLt a b=false->HT.lexLt b a=false->a=b
 |[],[],_,_=>rfl
 |[],_::_,h,_=>by cases h
 |_::_,[],_,h=>by cases h
 |x::xs,y::ys,h1,h2=>by
  rw[HT.Xn]at h1 h2;cases q:x=y
  .subst q;rw[if_pos Z]at h1 h2;rw[Xv h1 h2]
  .rw[if_neg q]at h1;rw[if_neg λe=>q e.symm]at h2
   have:=of_decide_eq_false h1
   have:=of_decide_eq_false h2
   lia
def Wv:∀{a b c:Ac},HT.lexLt a b=true->HT.lexLt b c=true->HT.lexLt a c=true
 |[],[],_,h,_=>by cases h
 |[],_::_,[],_,h=>by cases h
 |[],_::_,_::_,_,_=>rfl
 |_::_,[],_,h,_=>by cases h
 |_::_,_::_,[],_,h=>by cases h
 |x::xs,y::ys,z::zs,h1,h2=>by
  rw[HT.Xn]at h1 h2 ⊢;cases e1:x=y
  .subst e1;rw[if_pos Z]at h1;cases e2:x=z
   .subst e2;rw[if_pos Z]at h2 ⊢;show Wv h1 h2
   .rw[if_neg e2]at h2 ⊢;show h2
  .rw[if_neg e1]at h1;let h1:=Yt h1
   cases e2:y=z
   .subst e2;rw[if_neg e1];show Yv h1
   .rw[if_neg e2]at h2;let h2:=Yt h2
    rw[if_neg J];show Yv D
def WU:∀a:Ac,HT.lexLt a a=false
 |[]=>rfl
 |x::xs=>by rw[HT.Xn,if_pos Z];show WU xs
def Rm(bt:Nat->Nat->Bool):∀j,argBest bt j<=j
 |0=>XM _
 |j+1=>by
  unfold argBest;split
  .show XM _
  .have:=Rm bt j;lia
def WT(H:Hp)(v:V)(l:Ac):(Prop):=∃a,v=.ref a/\H a=some (.tup<|IL l)
def TupsV(H:Hp)(xs:List V)(L:Ab):(Prop):=xs.length=L.length/\∀(i:Nat)(l:Ac),L[i]?=some l->∃v,xs[i]?=some v/\WT H v l
def TupsV.same(s:Same H H')(h:TupsV H xs L):TupsV H' xs L:=⟨h.1,λi l e=>by let⟨v,e1,a,e2,e3⟩:=h.2 i l e;exists v,e1,a,e2,s _ _ e3⟩
def TupsV.at(h:TupsV H xs L){i:Nat}{v:V}(e:xs[i]?=some v):∃l,L[i]?=some l/\WT H v l:=by
 let hi:i<xs.length:=(Xx.mp e).1;let hp:i<L.length:=by rwa[<-h.1]
 let⟨v',e1,q⟩:=h.2 i L[i] (Xq hp);rw[e]at e1;cases e1;exists _,Xq hp,q
def TupsV.nil:TupsV H [] []:=⟨Z,λi p e=>by simp at e⟩
def TupsV.app(h:TupsV H xs L)(h2:TupsV H ys M):TupsV H (xs++ys) (L++M):=by
 show⟨by rw[Xt,Xt,h.1,h2.1],λi l e=>?_⟩;cases hi:i<L.length
 .rw[Yp hi]at e;let⟨v,e1,q⟩:=h.2 i l e;exists v,by rw[Yp (by rwa[h.1])];show e1,q
 .rw[Ym J]at e;let⟨v,e1,q⟩:=h2.2 _ l e;exists v,by rw[Ym (by rw[h.1];omega),h.1];show e1,q
def TupsV.one(q:WT H v l):TupsV H [v] [l]:=⟨Z,λi m e=>by
 cases i with
 |zero=>have e:l=m:=(by simpa using e);exists v,Z,e▸q
 |succ i=>simp at e⟩
def TupsV.snoc(h:TupsV H xs L)(q:WT H v l):TupsV H (xs++[v]) (L++[l]):=h.app (.one q)
def TupsV.mut{d:Addr}{ys zs xs:List V}(hP:TupsV H xs L)(hl:H d=some (.lst ys)):TupsV (upd H d (.lst zs)) xs L:=by exists hP.1,λj p e=>?_;let⟨v,e1,tt,e2,e3⟩:=hP.2 j p e;exists v,e1,tt,e2,by rwa[XJ (Vt e3 hl (λz=>nomatch z))]
def cB(hx:WT H x a)(hy:WT H y b):EqD K H 1 x y (decide (a=b)):=by let⟨t,rfl,ht⟩:=hx;let⟨u,rfl,hu⟩:=hy;show oX (SqT.of ht) (SqT.of hu)
def oB(hp:SqL K H p xs)(hq:SqL K H q ys)(h1:TupsV H xs L)(h2:TupsV H ys M):EqD K H 2 ↑p ↑q (decide (L=M)):=
 cM (R:=WT H) hp hq h1 h2 λ_ _ _ _=>cB
def RP(s:Ac):(Int):=match s.getLast? with|none=>0|some x=>x+1
def QG(m:Int)(s:Ac):(Ab):=(List.range (m-RP s).toNat).map λ(i:Nat)=>s++[RP s+(i:Int)]
def HF(m:Int):(Nat->Ab)
 |0=>[[]]
 |k+1=>(HF m k).flatMap (QG m)
def oz(s:Ac)(x:Int):RP (s++[x])=x+1:=by unfold RP;rw[List.getLast?_append];rfl
def VZ{s l:Ac}:l∈QG m s↔∃t,RP s<=t/\t<m/\l=s++[t]:=by
 unfold QG;rw[YR];constructor
 .rintro⟨i,hi,rfl⟩
  have:=YS.mp hi
  exists _,J,D,Z
 .rintro⟨t,h1,h2,rfl⟩;exists (t-RP s).toNat,YS.mpr J,by rw[show RP s+(((t-RP s).toNat:Nat):Int)=t by lia]
def SG{t:Int}:IsSet m (s++[t])↔IsSet m s/\RP s<=t/\0<=t/\t<(m:Int):=by
 rw[XS,XS,YJ];let last:(∀a∈s,∀b∈[t],a<b)/\s.Pairwise (·<·)->RP s<=t\/t<0:=by
  rintro⟨h,_⟩;unfold RP;cases e:s.getLast? with
  |none=>by_cases h0:0<=t;show .inl h0;show .inr J
  |some x=>have:=h x (List.mem_of_getLast? e) t B;show .inl (by change x+1<=t;lia)
 constructor
 .rintro⟨h1,h2,_,h3⟩;let ht:=h1 t B
  exists ⟨λz hz=>h1 z<|Yg _ hz,h2⟩,?_,ht;rcases last ⟨h3,h2⟩ with h|h
  .show h
  .omega
 .rintro⟨⟨h1,h2⟩,h3,h4,h5⟩;exists λz hz=>?_,h2,KI ..,λa ha b hb=>?_
  .rcases XA.mp hz with h|h
   .show h1 z h
   .rw[XG.mp h];exists h4,h5
  .rw[XG.mp hb];let key:∀{s:Ac}{a:Int},s.Pairwise (·<·)->a∈s->a<RP s:=by
    show λ{s}=>LS (P:=λs=>∀{a:Int},s.Pairwise (·<·)->a∈s->a<RP s) (λ{a} _ h=>by cases h) (λl x ih {a} hp h=>?_) s;rw[oz];rw[YJ]at hp;rcases XA.mp h with h|h
    .have:=hp.2.2 a h x B;lia
    .rw[XG.mp h];lia
   have:=key h2 ha
   lia
def UU{m:Nat}:∀{k:Nat}{l:Ac},l∈HF (m:Int) k↔l.length=k/\IsSet m l
 |0,l=>by
  change l∈[[]]↔_;rw[XG];constructor
  .rintro rfl;exists Z,λi z e=>by simp at e
  .rintro⟨h,_⟩;show YX.mp h
 |k+1,l=>by
  change l∈(HF (m:Int) k).flatMap (QG m)↔_;rw[List.mem_flatMap];constructor
  .rintro⟨s,hs,hl⟩;let⟨t,h1,h2,rfl⟩:=VZ.mp hl;let⟨e,hI⟩:=UU.mp hs;let n0:0<=RP s:=by
    unfold RP;cases q:s.getLast? with
    |none=>show IS 0
    |some x=>have:=(hI.all x<|List.mem_of_getLast? q).1;change 0<=x+1;lia
   exists by rw[Xt,e];rfl,SG.mpr ⟨hI,h1,J,h2⟩
  .rintro⟨e,hI⟩;let XN:l≠[]:=λz=>by rw[z]at e;simp at e
   obtain⟨s,t,rfl⟩:∃s t,l=s++[t]:=⟨l.dropLast,l.getLast XN,(eV XN).symm⟩;let⟨h1,h2,h3,h4⟩:=SG.mp hI;exists s,UU.mpr ⟨by rw[Xt]at e;simpa using e,h1⟩,VZ.mpr ⟨t,h2,h4,Z⟩
def LN{α:Type}{l:List α}{f:α->Bool}{y:α}(h:l[i]?=some y):(l.take (i+1)).filter f=(l.take i).filter f++(if f y=true then [y] else []):=by
 rw[YY,h,Rx];congr 1;cases e:f y=true
 .rw[if_pos e];change List.filter _ [y]=_;rw[YW,if_pos e];rfl
 .rw[if_neg e];change List.filter _ [y]=_;rw[YW,if_neg e];rfl
def Ck:∀{w t:Ac},t.Pairwise (·<·)->w.Pairwise (·<·)->(∀z∈t,z∈w)->t.Sublist w
 |[],[],_,_,_=>List.Sublist.slnil
 |[],x::t,_,_,h=>absurd (h x Yd) B
 |y::w,[],_,_,_=>List.nil_sublist _
 |y::w,x::t,ht,hw,h=>by
  let⟨h1,h2⟩:=YZ.mp ht;let⟨h3,h4⟩:=YZ.mp hw;cases e:x=y
  .subst e;show List.Sublist.cons₂ _ (Ck h2 h4 λz hz=>?_);rcases Yi.mp (h z<|Yf _ hz) with q|q
   .have:=h1 z hz;lia
   .show q
  .let hx:x∈w:=(Yi.mp<|h x Yd).resolve_left e;show List.Sublist.cons _ (Ck ht h4 λz hz=>?_);rcases Yi.mp (h z hz) with q|q
   .have:=h3 x hx
    rcases Yi.mp hz with q2|q2
    .rw[q2];show hx
    .have:=h1 z q2;lia
   .show q
def MY(M:Ac)(es:List (Nat×Nat)):(Ac):=es.foldl (λm e=>pm m e.1 e.2) M
def ou(M:Ac)(es:List (Nat×Nat))(e:Nat×Nat):MY M (es++[e])=pm (MY M es) e.1 e.2:=by unfold MY;rw[xS];rfl
def ZY6(M:Ac):∀es:List (Nat×Nat),(MY M es).length=M.length:=by
 intro es;unfold MY
 induction es generalizing M with
 |nil=>rfl
 |cons e l ih=>rw[Ec,ih,OM]
def oq{i:Int}(h0:0<=i):Wx xs none (some i)=xs.take i.toNat:=by
 let e:HT.UP xs.length xs.length (some i)=min i.toNat xs.length:=by change(if i<0 then (i+xs⁻¹).toNat else min i.toNat xs.length)=_;rw[if_neg J]
 unfold Wx;rw[e,HT.SN,Kz,xB];cases h:i.toNat<=xs.length
 .rw[IZ h]
 .rw[tY J,YO<|XM _,YO D]
def VJ(m:Nat):(Ac):=(List.range m).map λ(i:Nat)=>(i:Int)
def Xr{z:Int}:z∈VJ m↔0<=z/\z<(m:Int):=by
 unfold VJ;rw[YR];constructor
 .rintro⟨i,hi,rfl⟩
  have:=YS.mp hi
  lia
 .intro h;exists z.toNat,YS.mpr J,J
def ZN(m:Nat):(VJ m).length=m:=by unfold VJ;simp
def JS(m:Nat):(VJ m).Pairwise (·<·):=by unfold VJ;rw[Nt];show Eo.imp λh=>D
def LM(m:Nat):IsSet m (VJ m):=XS.mpr ⟨λz hz=>Xr.mp hz,JS m⟩
def RO(n:Nat)(ps:Aa)(G:Ac)(z:Int):(Ac):=if mk (Xb n<|XU ps G) (Zq ps z).1=mk (Xb n<|XU ps G) (Zq ps z).2 then G else G++[z]
def WH(n:Nat)(ps:Aa)(zs:Ac):(Ac):=zs.foldl (RO n ps) []
def LL(n:Nat)(ps:Aa)(zs:Ac)(z:Int):WH n ps (zs++[z])=RO n ps (WH n ps zs) z:=by unfold WH;rw[xS];rfl
def wy(n:Nat)(ps:Aa)(zs:Ac):∀ys,∃us,WH n ps (zs++ys)=WH n ps zs++us/\us.Sublist ys:=by
 show LS ⟨[],B⟩ λys y ih=>?_;let⟨us,e,s⟩:=ih;rw[<-Yy,LL,e];unfold RO;split
 .exists us,Z,s.trans<|List.sublist_append_left _ _
 .exists us++[y],by rw[Yy],s.append<|List.Sublist.refl _
def OF(n:Nat)(ps:Aa)(zs:Ac):(WH n ps zs).Sublist zs:=by let⟨us,e,s⟩:=wy n ps [] zs;rw[Pz]at e;rwa[e]
def oo(h:∀z∈zs,0<=z/\z<ps⁻¹):∀z∈WH n ps zs,0<=z/\z<ps⁻¹:=λz hz=>h z ((OF n ps zs).subset hz)
def Fe(g:Zy n ps)(h:∀z∈zs,0<=z/\z<ps⁻¹):InN n.toNat (XU ps (WH n.toNat ps zs)):=ZR g (oo h)
def wx(g:Zy n ps):∀zs:Ac,(∀z∈zs,0<=z/\z<ps⁻¹)->cnt (Xb n.toNat (XU ps (WH n.toNat ps zs)))+(WH n.toNat ps zs).length=n.toNat:=by
 show LS (λ_=>cH n.toNat) λzs z ih h=>?_;let h1:∀z∈zs,0<=z/\z<ps⁻¹:=λy hy=>h y (Yg _ hy)
 let ih:=ih h1;let⟨z0,z1⟩:=h z (Yj _<|XG.mpr Z);let he:=Tv (z:=z) g z0 z1
 let hl:=ZE n.toNat (XU ps<|WH n.toNat ps zs);rw[LL];unfold RO;split
 .show ih
 .rename_i h;rw[JU,Na,Xt,Yx]
  have:=oP (m:=Xb n.toNat<|XU ps<|WH n.toNat ps zs) J J h
  grind
def cz(g:Zy n ps)(h:∀z∈zs,0<=z/\z<ps⁻¹):(WH n.toNat ps zs).length<=14:=by
 have:=wx g zs h
 have:=g.2.1
 lia
def om(g:Zy n ps):∀zs:Ac,(∀z∈zs,0<=z/\z<ps⁻¹)->∀{i j:Nat},Conn (XU ps zs) i j->Conn (XU ps (WH n.toNat ps zs)) i j:=by
 show LS (λ_ _ _ c=>c) λzs z IH h i j c=>?_;let h1:∀z∈zs,0<=z/\z<ps⁻¹:=λy hy=>h y (Yg _ hy)
 let⟨z0,z1⟩:=h z (Yj _<|XG.mpr Z);let he:=Tv (z:=z) g z0 z1
 let up:∀{a b:Nat},Conn (XU ps<|WH n.toNat ps zs) a b->Conn (XU ps<|WH n.toNat ps<|zs++[z]) a b:=λc=>by
  rw[LL];unfold RO;split
  .show c
  .show c.mono (ZW λy hy=>Yg _ hy)
 let own:Conn (XU ps<|WH n.toNat ps<|zs++[z]) (Zq ps z).1 (Zq ps z).2:=by
  rw[LL];unfold RO;split
  .rename_i e;show(Wa (Fe g h1) he.1 he.2).mp e
  .rw[JU];show .edge (Yj _<|XG.mpr Z)
 induction c with
 |refl i=>show .refl i
 |symm _ ih=>show .symm ih
 |trans _ _ i1 i2=>show .trans i1 i2
 |@edge a b e=>
  rw[JU]at e;rcases XA.mp e with e|e
  .show up (IH h1<|.edge e)
  .let e:=XG.mp e;let ea:a=(Zq ps z).1:=YV Prod.fst e
   let eb:b=(Zq ps z).2:=YV Prod.snd e;rwa[ea,eb]
end My
namespace PyProof.Rows
open PySem
def Fd:(Bool->Keyed->Array Keyed->Nat->Nat->Nat->StateT SortSt Sem (Option Nat)):=sortPriv% PySem.Builtin.gallop
def Cj:(Array Keyed->Array Keyed->StateT SortSt Sem (Array Keyed)):=sortPriv% PySem.Builtin.mergeLo
def cy:(Array Keyed->Array Keyed->StateT SortSt Sem (Array Keyed)):=sortPriv% PySem.Builtin.mergeHi
def WA(M:Model)(A:Around)(E:Ae)(s:Shared)(O:KeyOrd)(key:Keyed->O.α)(kd:SortKind)(S:Keyed->Prop):(Prop):=
 ∀x y st Q,S x->S y->kindOf st=kd->Q (some<|O.blt (key x)<|key y) st->wpS M A E s (lt' x y) Q st
abbrev dK:Keyed:=(Value.none,Value.none)
section
variable{M:Model}{A:Around}{E:Ae}{s:Shared}{O:KeyOrd}{key:Keyed->O.α}{kd:SortKind}{S:Keyed->Prop}
def ke(key:Keyed->O.α)(arr:Array Keyed)(i:Nat):(O.α):=key (arr.getD i dK)
def UH{p:Keyed}(h:arr[i]?=some p):ke key arr i=key p:=by unfold ke;rw[YA,h];rfl
def Zs{p:Keyed}{Q:Keyed->SortSt->Prop}{st:SortSt}(h:arr[i]?=some p)(q:Q p st):wpS M A E s (elem' arr i) Q st:=by rw[elem'_eq,h];show YM q
def beyB(O:KeyOrd)(key:Keyed->O.α)(left:Bool)(kx:Keyed)(arr:Array Keyed)(j:Nat):(Bool):=if left then O.blt (ke key arr j) (key kx) else !O.blt (key kx) (ke key arr j)
def oj(h:O.kle (ke key arr i) (ke key arr j))(hb:beyB O key left kx arr j=true):beyB O key left kx arr i=true:=by
 unfold beyB at *;cases left with
 |true=>
  simp only[US]at *;show KeyOrd.klt_of_kle_of_klt h hb
 |false=>
  simp only[Rw,Ss,xQ]at *;show Wg h hb
def Fc(L:WA M A E s O key kd S){st:SortSt}{Q:Option Nat->SortSt->Prop}(hk:kindOf st=kd)(hS:S kx)(hA:∀i,i<n->∃p,arr[base+i]?=some p/\S p)(hh:hint<n)
  (hm:∀i j,i<=j->j<n->O.kle (ke key arr<|base+i) (ke key arr<|base+j))
  (h:∀k,k<=n->(∀i,i<k->beyB O key left kx arr (base+i)=true)->(∀i,k<=i->i<n->beyB O key left kx arr (base+i)=false)->Q (some k) st):wpS M A E s (Fd left kx arr base n hint) Q st:=by
 let Ci:∀i,i<n->∀Q,Q (some<|beyB O key left kx arr<|base+i) st->
   wpS M A E s (do let x <-elem' arr (base+i);if left=true then lt' x kx else do let r <-lt' kx x;pure (Option.map (λx=>!x) r)) Q st:=λi hi Q q=>by
  let⟨p,e,hp⟩:=hA i hi;show YB (Zs e ?_);unfold beyB at q;rw[UH e]at q;cases left with
  |true=>
   rw[if_pos Z];show L _ _ _ _ hp hS hk q
  |false=>
   rw[if_neg B];show YB (L _ _ _ _ hS hp hk<|YM q)
 let dn:∀{i j:Nat},i<=j->j<n->beyB O key left kx arr (base+j)=true->beyB O key left kx arr (base+i)=true:=λWJ hj hb=>oj (hm _ _ WJ hj) hb;let up:∀{i j:Nat},i<=j->j<n->beyB O key left kx arr (base+i)=false->beyB O key left kx arr (base+j)=false:=λ{i j} WJ hj hb=>by
  cases e:beyB O key left kx arr (base+j) with
  |false=>rfl
  |true=>rw[dn WJ hj e]at hb;cases hb
 generalize hB:(λj=>beyB O key left kx arr<|base+j)=sO at *;let eB:∀j,beyB O key left kx arr (base+j)=sO j:=λj=>congrFun hB j
 simp only[eB]at Ci dn up h;let last:∀lo hi,lo<=hi->hi<=n->(∀i,i<lo->sO i=true)->(∀i,hi<=i->i<n->sO i=false)->∀f,(∀lo hi,f (none,lo,hi)=pure (some hi))->
   wpS M A E s (forIn [0:n] ((none,lo,hi):Option (Option Nat)×Nat×Nat) (λ_ r=>if r.2.1 >= r.2.2 then pure (ForInStep.done (none,r.2.1,r.2.2)) else do
    let x <-(do let x <-elem' arr (base+(r.2.1+(r.2.2-r.2.1)/2));if left=true then lt' x kx else do let r <-lt' kx x;pure (Option.map (λx=>!x) r))
    match x with
    |some more=>if more=true then pure (ForInStep.yield (none,r.2.1+(r.2.2-r.2.1)/2+1,r.2.2)) else pure (ForInStep.yield (none,r.2.1,r.2.1+(r.2.2-r.2.1)/2))
    |_=>pure<|ForInStep.done (some none,r.2.1,r.2.2)) >>= f) Q st:=by
  intro lo hi h1 h2 h3 h4 f hf;show YB (Sa (SW (I:=λx c XQ=>XQ=st/\∃l r,c=(none,l,r)/\l<=r/\r<=n/\r-l<=n-x/\(∀i,i<l->sO i=true)/\(∀i,r<=i->i<n->sO i=false))
   (Q:=λc XQ=>XQ=st/\∃r,c=(none,r,r)/\r<=n/\(∀i,i<r->sO i=true)/\(∀i,r<=i->i<n->sO i=false)) ?_ ?_ ⟨Z,lo,hi,Z,h1,h2,sS,h3,h4⟩) ?_)
  .rintro x c XQ _ hx ⟨rfl,l,r,rfl,a1,a2,a3,a4,a5⟩;dsimp only;cases hc:l >= r
   .rw[if_pos hc]
    have:l=r:=J
    subst this;show YM ⟨Z,l,Z,a2,a4,a5⟩
   .rw[if_neg hc];show YB (Ci _ sS _ ?_);dsimp only;cases e:sO (l+(r-l)/2) with
    |true=>
     rw[if_pos Z];show YM ⟨Z,_,_,Z,sS,a2,sS,λi hi=>dn (j:=l+(r-l)/2) J sS e,a5⟩
    |false=>
     rw[if_neg B];show YM ⟨Z,_,_,Z,J,sS,sS,a4,λi hi Wu=>up (i:=l+(r-l)/2) hi Wu e⟩
  .rintro c XQ ⟨rfl,l,r,rfl,a1,a2,a3,a4,a5⟩
   have:l=r:=sS
   subst this;exists Z,l,Z,a2,a4,a5
  .rintro c XQ ⟨rfl,r,rfl,a2,a4,a5⟩;rw[hf];show YM (h r a2 a4 a5)
 unfold Fd;show YB (Ci hint hh _ ?_);dsimp only;cases e0:sO hint with
 |true=>
  rw[if_pos Z];show YB (Sa (SW (I:=λx c XQ=>XQ=st/\∃l o,c=(none,l,o)/\l<o/\hint+l<n/\x+1<=o/\sO (hint+l)=true)
   (Q:=λc XQ=>XQ=st/\∃l o,c=(none,l,o)/\l<o/\hint+l<n/\sO (hint+l)=true/\(n-hint<=o\/sO (hint+o)=false)) ?_ ?_ ⟨Z,0,1,Z,D,J,J,e0⟩) ?_)
  .rintro x c XQ _ hx ⟨rfl,l,o,rfl,a1,a2,a3,a4⟩;dsimp only;cases hc:o >= n-hint
   .rw[if_pos hc];show YM ⟨Z,l,o,Z,a1,a2,a4,.inl hc⟩
   .rw[if_neg hc];show YB (Ci _ sS _ ?_);dsimp only;cases e:sO (hint+o) with
    |false=>
     rw[if_pos sT];show YM ⟨Z,l,o,Z,a1,a2,a4,.inr e⟩
    |true=>
     rw[if_neg sT];show YM ⟨Z,o,2*o+1,Z,J,D,J,e⟩
  .rintro c XQ ⟨rfl,l,o,rfl,a1,a2,a3,a4⟩;exists Z,l,o,Z,a1,a2,a4,.inl sS
  .rintro c XQ ⟨rfl,l,o,rfl,a1,a2,a4,a5⟩;dsimp only;show last _ _ J J (λi hi=>dn (j:=hint+l) J a2 a4) (λi hi Wu=>?_) _ λ_ _=>rfl;rcases a5 with a5|a5
   .lia
   .cases h9:n-hint<=o
    .omega
    .show up (i:=hint+o) sS Wu a5
 |false=>
  rw[if_neg B];show YB (Sa (SW (I:=λx c XQ=>XQ=st/\∃l o,c=(none,l,o)/\l<o/\l<=hint/\x+1<=o/\sO (hint-l)=false)
   (Q:=λc XQ=>XQ=st/\∃l o,c=(none,l,o)/\l<o/\l<=hint/\sO (hint-l)=false/\(hint+1<=o\/(o<=hint/\sO (hint-o)=true))) ?_ ?_ ⟨Z,0,1,Z,D,J,D,e0⟩) ?_)
  .rintro x c XQ _ hx ⟨rfl,l,o,rfl,a1,a2,a3,a4⟩;dsimp only;cases hc:o >= hint+1
   .rw[if_pos hc];show YM ⟨Z,l,o,Z,a1,a2,a4,.inl hc⟩
   .rw[if_neg hc];show YB (Ci _ sS _ ?_);dsimp only;cases e:sO (hint-o) with
    |true=>
     rw[if_pos Z];show YM ⟨Z,l,o,Z,a1,a2,a4,.inr ⟨J,e⟩⟩
    |false=>
     rw[if_neg B];show YM ⟨Z,o,2*o+1,Z,D,D,D,e⟩
  .rintro c XQ ⟨rfl,l,o,rfl,a1,a2,a3,a4⟩;exists Z,l,o,Z,a1,a2,a4,.inl J
  .rintro c XQ ⟨rfl,l,o,rfl,a1,a2,a4,a5⟩;dsimp only;show last _ _ D sS (λi hi=>?_) (λi hi Wu=>up (i:=hint-l) J Wu a4) _ λ_ _=>rfl;rcases a5 with a5|⟨a5,a6⟩
   .lia
   .show dn (j:=hint-o) sS sS a6
def RK(O:KeyOrd)(key:Keyed->O.α)(x y:Keyed):(Prop):=O.kle (key x) (key y)
structure MI(O:KeyOrd)(key:Keyed->O.α)(la lb:List Keyed)(out:Array Keyed)(ia ib:Nat):Prop where
 so:out.toList.Pairwise (RK O key)
 oa:∀x∈out.toList,∀y∈la.drop ia,RK O key x y
 ob:∀x∈out.toList,∀y∈lb.drop ib,RK O key x y
 pm:(out.toList++la.drop ia++lb.drop ib).Perm (la++lb)
def Vo(O:KeyOrd)(key:Keyed->O.α)(la lb:List Keyed)(r:Array Keyed):(Prop):=r.toList.Pairwise (RK O key)/\r.toList.Perm (la++lb)
def Cg{la:List Keyed}(h:la.Pairwise (RK O key))(i k:Nat):((la.drop i).take k).Pairwise (RK O key)/\∀x∈(la.drop i).take k,∀y∈la.drop (i+k),RK O key x y:=by let h1:(la.drop i).Pairwise (RK O key):=h.sublist (Pr i la);rw[<-ML k (la.drop i),YJ,Ea]at h1;exists h1.1,h1.2.2
def cx{α:Type}{la:List α}{i k:Nat}{y:α}(h:y∈la.drop (i+k)):y∈la.drop i:=by rw[<-Ea]at h;show MK h
def MI.a(h:MI O key la lb out ia ib)(sa:la.Pairwise (RK O key))(k:Nat)(hx:∀x∈(la.drop ia).take k,∀y∈lb.drop ib,RK O key x y)(e:out'.toList=out.toList++(la.drop ia).take k):MI O key la lb out' (ia+k) ib:=by
 let⟨p1,p2⟩:=Cg sa ia k;exists ?_,?_,?_,?_
 .rw[e,YJ];exists h.so,p1,λx hx y hy=>h.oa x hx y<|VR hy
 .intro x Xm y hy;rw[e,XA]at Xm;rcases Xm with Xm|Xm
  .show h.oa x Xm y (cx hy)
  .show p2 x Xm y hy
 .intro x Xm y hy;rw[e,XA]at Xm;rcases Xm with Xm|Xm
  .show h.ob x Xm y hy
  .show hx x Xm y hy
 .rw[e,Yy out.toList,<-Ea,ML];show h.pm
def MI.b(h:MI O key la lb out ia ib)(sb:lb.Pairwise (RK O key))(k:Nat)(hx:∀x∈(lb.drop ib).take k,∀y∈la.drop ia,RK O key x y)(e:out'.toList=out.toList++(lb.drop ib).take k):MI O key la lb out' ia (ib+k):=by
 let⟨p1,p2⟩:=Cg sb ib k;exists ?_,?_,?_,?_
 .rw[e,YJ];exists h.so,p1,λx hx y hy=>h.ob x hx y<|VR hy
 .intro x Xm y hy;rw[e,XA]at Xm;rcases Xm with Xm|Xm
  .show h.oa x Xm y hy
  .show hx x Xm y hy
 .intro x Xm y hy;rw[e,XA]at Xm;rcases Xm with Xm|Xm
  .show h.ob x Xm y (cx hy)
  .show p2 x Xm y hy
 .show List.Perm.trans ?_ h.pm;rw[e,<-Ea];show List.Perm.trans (l₂:=out.toList++la.drop ia++((lb.drop ib).take k++(lb.drop ib).drop k)) ?_ (by rw[ML]);rw[Yy,Yy,Yy];show Nw _ ?_;rw[<-Yy,<-Yy];show En _ Em
def LK(a:Array Keyed)(i:Nat):(a.extract i a.size).toList=a.toList.drop i:=by rw[FO,FU];show YO B
def cu(a:Array Keyed)(i k:Nat):(a.extract i (i+k)).toList=(a.toList.drop i).take k:=by rw[FO,FU,ui]
def MI.last{a b out:Array Keyed}(h:MI O key a.toList b.toList out ia ib)(sa:a.toList.Pairwise (RK O key))(sb:b.toList.Pairwise (RK O key))(hx:∀x∈b.toList.drop ib,∀y∈a.toList.drop ia,RK O key x y):Vo O key a.toList b.toList (out++b.extract ib b.size++a.extract ia a.size):=by
 let e1:(b.toList.drop ib).take b.size=b.toList.drop ib:=YO B;let e2:(a.toList.drop ia).take a.size=a.toList.drop ia:=YO B
 let d1:b.toList.drop (ib+b.size)=[]:=YQ B;let d2:a.toList.drop (ia+a.size)=[]:=YQ B
 let h1:=h.b sb b.size (by rwa[e1]) (out':=out++b.extract ib b.size) (by rw[Ql,LK,e1]);let h2:=h1.a sa a.size (by rw[d1];intro _ _ _ hy;cases hy) (out':=out++b.extract ib b.size++a.extract ia a.size) (by rw[Ql,LK,e2])
 let p:=h2.pm;rw[d1,d2,Yu,Yu]at p;exists h2.so,p
def MI.done{a b out:Array Keyed}(h:MI O key a.toList b.toList out ia ib)(sa:a.toList.Pairwise (RK O key))(sb:b.toList.Pairwise (RK O key))(hx:b.toList.drop ib=[]\/a.toList.drop ia=[]):Vo O key a.toList b.toList (out++a.extract ia a.size++b.extract ib b.size):=by
 let e1:(b.toList.drop ib).take b.size=b.toList.drop ib:=YO B;let e2:(a.toList.drop ia).take a.size=a.toList.drop ia:=YO B
 let d1:b.toList.drop (ib+b.size)=[]:=YQ B;let d2:a.toList.drop (ia+a.size)=[]:=YQ B
 let h1:=h.a sa a.size (by rw[e2];intro x Xm y hy;rcases hx with hx|hx;(rw[hx]at hy;cases hy);(rw[hx]at Xm;cases Xm)) (out':=out++a.extract ia a.size) (by rw[Ql,LK,e2])
 let h2:=h1.b sb b.size (by rw[d2];intro _ _ _ hy;cases hy) (out':=out++a.extract ia a.size++b.extract ib b.size) (by rw[Ql,LK,e1]);let p:=h2.pm
 rw[d1,d2,Yu,Yu]at p;exists h2.so,p
def LJ{a:Array Keyed}{p:Keyed}(h:a[i]?=some p):(a.toList.drop i).take 1=[p]:=by
 let h':a.toList[i]?=some p:=by simpa using h
 let⟨hi,e⟩:=Xx.mp h';rw[FT hi,e];rfl
def LI{a:Array Keyed}{p:Keyed}(sa:a.toList.Pairwise (RK O key))(h:a[i]?=some p):∀y∈a.toList.drop i,RK O key p y:=by
 let h':a.toList[i]?=some p:=by simpa using h
 let⟨hi,e⟩:=Xx.mp h';let h1:(a.toList.drop i).Pairwise (RK O key):=sa.sublist (Pr i _)
 rw[FT hi,e]at h1 ⊢;intro y hy;rcases Yi.mp hy with rfl|hy
 .show Qg _
 .show(YZ.mp h1).1 y hy
def Cf{a:Array Keyed}{i k:Nat}{x:Keyed}(h:x∈(a.toList.drop i).take k):∃j,j<k/\a[i+j]?=some x:=by
 let⟨j,hj⟩:=YF h;let Vg:=(Xx.mp hj).1
 rw[Yh]at Vg;rw[Qk,if_pos sS,SU]at hj;exists j,D,by simpa using hj
def cq{a:Array Keyed}{x:Keyed}(h:x∈a.toList.drop i):∃j,i<=j/\j<a.size/\a[j]?=some x:=by
 let⟨j,hj⟩:=YF h;rw[SU]at hj;let Vg:=(Xx.mp hj).1
 exists i+j,J,by simpa using Vg,by simpa using hj
def Ce(sa:a.toList.Pairwise (RK O key))(WJ:i<=j)(hj:j<a.size):O.kle (ke key a i) (ke key a j):=by
 let hi:i<a.size:=J;rw[UH (Tn a i hi),UH (Tn a j hj)];cases e:i=j
 .subst e;show Qg _
 .have:=Nx.mp sa i j (by simpa using hi) (by simpa using hj) J
  simpa[RK] using this
def OE:(Nat->StateT SortSt Sem Unit):=sortPriv% PySem.Builtin.setMinGallop
def wu{E:Ae}{st:SortSt}{Q:Unit->SortSt->Prop}(h:Q () (SortSt.mk' (kindOf st) (arrOf st) (pendingOf st) g (failedOf st))):wpS M A E s (OE g) Q st:=Pq h
abbrev JR:=Option (Array Keyed)×Array Keyed×Nat×Nat×Nat×Nat×Nat
def LH(a b out:Array Keyed)(ia ib g ac bc:Nat):(StateT SortSt Sem (ForInStep JR)):=elem' a ia >>= λx=>
 if (ia+1+1 == a.size)=true then pure (.done (some<|out.push x++b.extract ib b.size++a.extract (ia+1) a.size,out.push x,ia+1,ib,g,ac,bc))
 else if (decide (ac<7)&&decide (bc<7))=true then pure (.done (none,out.push x,ia+1,ib,g,ac,bc)) else pure (.yield (none,out.push x,ia+1,ib,g,ac,bc))
def LG(a b out:Array Keyed)(ia ib g ac bc:Nat):(StateT SortSt Sem (ForInStep JR)):=elem' b ib >>= λx=>
 if (ib+1 == b.size)=true then pure (.done (some<|out.push x++a.extract ia a.size++b.extract (ib+1) b.size,out.push x,ia,ib+1,g,ac,bc))
 else elem' a ia >>= λy=>Fd true y b (ib+1) (b.size-(ib+1)) 0 >>= λr=>match r with
  |some k=>if k>0 then
    if (ib+1+k == b.size)=true then pure (.done (some<|out.push x++b.extract (ib+1) (ib+1+k)++a.extract ia a.size++b.extract (ib+1+k) b.size,out.push x++b.extract (ib+1) (ib+1+k),ia,ib+1+k,g,ac,k))
    else LH a b (out.push x++b.extract (ib+1) (ib+1+k)) ia (ib+1+k) g ac k
   else LH a b (out.push x) ia (ib+1) g ac k
  |_=>pure (.done (some<|out.push x++a.extract ia a.size++b.extract (ib+1) b.size,out.push x,ia,ib+1,g,ac,bc))
def OD(a b out:Array Keyed)(ia ib g ac bc:Nat):(StateT SortSt Sem (ForInStep JR)):=OE g >>= λ_=>elem' b ib >>= λx=>Fd false x a ia (a.size-ia) 0 >>= λr=>match r with
 |some k=>if k>0 then
   if (ia+k+1 == a.size)=true then pure (.done (some<|out++a.extract ia (ia+k)++b.extract ib b.size++a.extract (ia+k) a.size,out++a.extract ia (ia+k),ia+k,ib,g,k,bc))
   else if (ia+k == a.size)=true then pure (.done (some<|out++a.extract ia (ia+k)++a.extract (ia+k) a.size++b.extract ib b.size,out++a.extract ia (ia+k),ia+k,ib,g,k,bc))
   else LG a b (out++a.extract ia (ia+k)) (ia+k) ib g k bc
  else LG a b out ia ib g k bc
 |_=>pure (.done (some<|out++a.extract ia a.size++b.extract ib b.size,out,ia,ib,g,ac,bc))
def Zt{α σ:Type}{c:Prop}[Decidable c]{x y:StateT σ Sem α}{Q:α->σ->Prop}{st:σ}(hc:c)(h:wpS M A E s x Q st):wpS M A E s (if c then x else y) Q st:=by rwa[if_pos hc]
def ZT{α σ:Type}{c:Prop}[Decidable c]{x y:StateT σ Sem α}{Q:α->σ->Prop}{st:σ}(hc:¬c)(h:wpS M A E s y Q st):wpS M A E s (if c then x else y) Q st:=by rwa[if_neg hc]
section
variable{a b out:Array Keyed}{ia ib:Nat}{st:SortSt}{R:ForInStep JR->SortSt->Prop}
def cn{pa:Keyed}(sa:a.toList.Pairwise (RK O key))(sb:b.toList.Pairwise (RK O key))(h2:∀x∈b.toList,∀y∈a.toList.drop (a.size-1),RK O key x y)(ea:a[ia]?=some pa)(MX:ia+1<a.size)(OC:ib<b.size)(m:MI O key a.toList b.toList out ia ib)(below:∀y∈b.toList.drop ib,RK O key pa y)
  (hd:∀r z,Vo O key a.toList b.toList r->R (.done (some r,z)) st)(hn:∀o2 i2 j2 g3 a3 b3,MI O key a.toList b.toList o2 i2 j2->i2+1<a.size->j2<b.size->a.size-i2+(b.size-j2)<=a.size-ia+(b.size-ib)->R (.done (none,o2,i2,j2,g3,a3,b3)) st/\R (.yield (none,o2,i2,j2,g3,a3,b3)) st):wpS M A E s (LH a b out ia ib g ac bc) R st:=by
 unfold LH;show YB (Zs ea ?_);let m5:MI O key a.toList b.toList (out.push pa) (ia+1) ib:=m.a sa 1 (by rw[LJ ea];intro x hx y hy;rw[XG.mp hx];show below y hy) (by rw[LJ ea,Sf])
 cases d5:ia+1+1=a.size
 .show Zt (by simpa using d5) (YM<|hd _ _<|m5.last sa sb λx hx y hy=>h2 x (MK hx) y<|by rwa[show a.size-1=ia+1 by lia])
 .show ZT (by simpa using d5) ?_;let z:=λg3 a3 b3=>hn _ _ _ g3 a3 b3 m5 J OC sS
  split
  .show YM (z _ _ _).1
  .show YM (z _ _ _).2
def cm(L:WA M A E s O key kd S){pb:Keyed}(hk:kindOf st=kd)(Vn:∀x∈a.toList,S x)(Vm:∀x∈b.toList,S x)(sa:a.toList.Pairwise (RK O key))(sb:b.toList.Pairwise (RK O key))(h2:∀x∈b.toList,∀y∈a.toList.drop (a.size-1),RK O key x y)(eb:b[ib]?=some pb)(MX:ia+1<a.size)(OC:ib<b.size)(m:MI O key a.toList b.toList out ia ib)(above:∀y∈a.toList.drop ia,RK O key pb y)
  (hd:∀r z,Vo O key a.toList b.toList r->R (.done (some r,z)) st)(hn:∀o2 i2 j2 g3 a3 b3,MI O key a.toList b.toList o2 i2 j2->i2+1<a.size->j2<b.size->a.size-i2+(b.size-j2)<=a.size-ia+(b.size-ib)->R (.done (none,o2,i2,j2,g3,a3,b3)) st/\R (.yield (none,o2,i2,j2,g3,a3,b3)) st):wpS M A E s (LG a b out ia ib g ac bc) R st:=by
 let Cd:∀{i},i=b.size->b.toList.drop i=[]:=λe=>YQ (by simp[e]);unfold LG;show YB (Zs eb ?_);let m3:MI O key a.toList b.toList (out.push pb) ia (ib+1):=m.b sb 1 (by rw[LJ eb];intro x hx y hy;rw[XG.mp hx];show above y hy) (by rw[LJ eb,Sf])
 cases d3:ib+1=b.size
 .show Zt (by simpa using d3) (YM<|hd _ _<|m3.done sa sb<|.inl<|Cd d3)
 show ZT (by simpa using d3) ?_;let ea:a[ia]?=some a[ia]:=Tn a ia D
 let Fi:S a[ia]:=Vn _ B;show YB (Zs ea ?_);show YB (Fc L hk Fi (λi hi=>⟨b[ib+1+i],Tn b _ D,Vm _ B⟩) sS (λi j WJ hj=>Ce sb J sS) λkk JQ VB Hz=>?_);dsimp only;let below:∀y∈b.toList.drop (ib+1+kk),RK O key a[ia] y:=λy hy=>by
  let⟨j,j1,j2,ey⟩:=cq hy
  have:=Hz (j-(ib+1)) J D
  unfold beyB at this;rwa[show ib+1+(j-(ib+1))=j by lia,UH ey]at this
 cases OB:kk>0
 .show Zt OB ?_;let m4:MI O key a.toList b.toList (out.push pb++b.extract (ib+1) (ib+1+kk)) ia (ib+1+kk):=m3.b sb kk (λx hx y hy=>by
   let⟨j,hj,ex⟩:=Cf hx
   have:=VB j hj
   unfold beyB at this;rw[UH ex]at this;show Wg (Qj this)<|LI sa ea y hy) (by rw[Ql,cu])
  cases d4:ib+1+kk=b.size
  .show Zt (by simpa using d4) (YM<|hd _ _<|m4.done sa sb<|.inl<|Cd d4)
  .show ZT (by simpa using d4) (cn sa sb h2 ea MX sS m4 below hd λo2 i2 j2 g3 a3 b3 m' e1 e2 e3=>hn o2 i2 j2 g3 a3 b3 m' e1 e2 sS)
 .show ZT OB (cn sa sb h2 ea MX J m3 (λy hy=>below y<|by rwa[show kk=0 by lia]) hd λo2 i2 j2 g3 a3 b3 m' e1 e2 e3=>hn o2 i2 j2 g3 a3 b3 m' e1 e2 sS)
def cg(L:WA M A E s O key kd S)(hk:kindOf st=kd)(Vn:∀x∈a.toList,S x)(Vm:∀x∈b.toList,S x)(sa:a.toList.Pairwise (RK O key))(sb:b.toList.Pairwise (RK O key))(h2:∀x∈b.toList,∀y∈a.toList.drop (a.size-1),RK O key x y)(MX:ia+1<a.size)(OC:ib<b.size)(m:MI O key a.toList b.toList out ia ib)
  (hd:∀r z,Vo O key a.toList b.toList r->R (.done (some r,z)) (SortSt.mk' (kindOf st) (arrOf st) (pendingOf st) g<|failedOf st))(hn:∀o2 i2 j2 g3 a3 b3,MI O key a.toList b.toList o2 i2 j2->i2+1<a.size->j2<b.size->a.size-i2+(b.size-j2)<=a.size-ia+(b.size-ib)->R (.done (none,o2,i2,j2,g3,a3,b3)) (SortSt.mk' (kindOf st) (arrOf st) (pendingOf st) g<|failedOf st)/\R (.yield (none,o2,i2,j2,g3,a3,b3)) (SortSt.mk' (kindOf st) (arrOf st) (pendingOf st) g<|failedOf st)):wpS M A E s (OD a b out ia ib g ac bc) R st:=by
 unfold OD;show YB (wu ?_);let eb:b[ib]?=some b[ib]:=Tn b ib OC
 show YB (Zs eb ?_);show YB (Fc L hk (Vm _ B) (λi hi=>⟨a[ia+i],Tn a _ D,Vn _ B⟩) sS (λi j WJ hj=>Ce sa J J) λk Fb hl UT=>?_);dsimp only;let above:∀y∈a.toList.drop (ia+k),RK O key b[ib] y:=λy hy=>by
  let⟨j,j1,j2,ey⟩:=cq hy
  have:=UT (j-ia) J J
  unfold beyB at this;rw[show ia+(j-ia)=j by lia,UH ey]at this;simp only[Rw,Ss,t6]at this;show Qj this
 cases Cc:k>0
 .show Zt Cc ?_;let m2:MI O key a.toList b.toList (out++a.extract ia (ia+k)) (ia+k) ib:=m.a sa k (λx hx y hy=>by
   let⟨j,hj,ex⟩:=Cf hx
   have:=hl j hj
   unfold beyB at this;rw[UH ex]at this;simp only[Rw,Ss,xQ]at this;show Wg this<|LI sb eb y hy) (by rw[Ql,cu])
  cases d1:ia+k+1=a.size
  .show Zt (by simpa using d1) (YM<|hd _ _<|m2.last sa sb λx hx y hy=>h2 x (MK hx) y<|by rwa[show a.size-1=ia+k by grind])
  show ZT (by simpa using d1) ?_;cases d2:ia+k=a.size
  .show Zt (by simpa using d2) (YM<|hd _ _<|m2.done sa sb<|.inr<|YQ<|by simp[d2])
  .show ZT (by simpa using d2) (cm L hk Vn Vm sa sb h2 eb sS OC m2 above hd λo2 i2 j2 g3 a3 b3 m' e1 e2 e3=>hn o2 i2 j2 g3 a3 b3 m' e1 e2 sS)
 .show ZT Cc (cm L hk Vn Vm sa sb h2 eb MX OC m (λy hy=>above y<|by rwa[show k=0 by omega]) hd λo2 i2 j2 g3 a3 b3 m' e1 e2 e3=>hn o2 i2 j2 g3 a3 b3 m' e1 e2 J)
end
abbrev Cb:=Option (Array Keyed)×Array Keyed×Nat×Nat×Nat×Nat
def loB1(a b:Array Keyed)(g:Nat)(c:Cb):(StateT SortSt Sem (ForInStep Cb)):=elem' b c.2.2.2.1 >>= λy=>elem' a c.2.2.1 >>= λx=>lt' y x >>= λr=>match r with
 |some t=>if t=true then elem' b c.2.2.2.1 >>= λy=>
    if (c.2.2.2.1+1 == b.size)=true then pure (.done (some<|c.2.1.push y++a.extract c.2.2.1 a.size++b.extract (c.2.2.2.1+1) b.size,c.2.1.push y,c.2.2.1,c.2.2.2.1+1,0,c.2.2.2.2.2+1))
    else if c.2.2.2.2.2+1 >= g then pure (.done (none,c.2.1.push y,c.2.2.1,c.2.2.2.1+1,0,c.2.2.2.2.2+1)) else pure (.yield (none,c.2.1.push y,c.2.2.1,c.2.2.2.1+1,0,c.2.2.2.2.2+1))
   else elem' a c.2.2.1 >>= λx=>
    if (c.2.2.1+1+1 == a.size)=true then pure (.done (some<|c.2.1.push x++b.extract c.2.2.2.1 b.size++a.extract (c.2.2.1+1) a.size,c.2.1.push x,c.2.2.1+1,c.2.2.2.1,c.2.2.2.2.1+1,0))
    else if c.2.2.2.2.1+1 >= g then pure (.done (none,c.2.1.push x,c.2.2.1+1,c.2.2.2.1,c.2.2.2.2.1+1,0)) else pure (.yield (none,c.2.1.push x,c.2.2.1+1,c.2.2.2.1,c.2.2.2.2.1+1,0))
 |_=>pure (.done (some<|c.2.1++a.extract c.2.2.1 a.size++b.extract c.2.2.2.1 b.size,c.2.1,c.2.2.1,c.2.2.2.1,c.2.2.2.2.1,c.2.2.2.2.2))
abbrev Hy:=Option (Array Keyed)×Array Keyed×Nat×Nat×Nat
def OA(a b:Array Keyed)(c:JR):(StateT SortSt Sem (ForInStep JR)):=if c.2.2.2.2.1>1 then OD a b c.2.1 c.2.2.1 c.2.2.2.1 (c.2.2.2.2.1-1) c.2.2.2.2.2.1 c.2.2.2.2.2.2 else OD a b c.2.1 c.2.2.1 c.2.2.2.1 c.2.2.2.2.1 c.2.2.2.2.2.1 c.2.2.2.2.2.2
def oh(c:JR):(StateT SortSt Sem (ForInStep Hy)):=match c.1 with
 |some r=>pure (.done (some r,c.2.1,c.2.2.1,c.2.2.2.1,c.2.2.2.2.1))
 |none=>OE (c.2.2.2.2.1+1) >>= λ_=>pure (.yield (none,c.2.1,c.2.2.1,c.2.2.2.1,c.2.2.2.2.1+1))
def Ca(a b:Array Keyed)(g:Nat)(c:Cb):(StateT SortSt Sem (ForInStep Hy)):=match c.1 with
 |some r=>pure (.done (some r,c.2.1,c.2.2.1,c.2.2.2.1,g))
 |none=>liftM (rule "list.sort.gallop") >>= λ_=>forIn [0:a.size+b.size] ((none,c.2.1,c.2.2.1,c.2.2.2.1,g+1,c.2.2.2.2.1,c.2.2.2.2.2):JR) (λ_ s=>OA a b s) >>= oh
def wq(a b:Array Keyed)(c:Hy):(StateT SortSt Sem (ForInStep Hy)):=forIn [0:a.size+b.size] ((none,c.2.1,c.2.2.1,c.2.2.2.1,0,0):Cb) (λ_ s=>loB1 a b c.2.2.2.2 s) >>= Ca a b c.2.2.2.2
def og(c:Hy):(StateT SortSt Sem (Array Keyed)):=match c.1 with
 |some r=>pure r
 |none=>liftM (unsupported "internal:list.sort.merge-bound":Sem (Array Keyed))
def Hx(a b:Array Keyed):(StateT SortSt Sem (Array Keyed)):=liftM (rule "list.sort.merge-lo") >>= λ_=>elem' b 0 >>= λx=>
 if (1 == b.size)=true then pure (#[x]++a.extract 0 a.size++b.extract 1 b.size) else if (0+1 == a.size)=true then pure (#[x]++b.extract 1 b.size++a.extract 0 a.size)
 else get >>= λst=>forIn [0:a.size+b.size] ((none,#[x],0,1,gallopOf st):Hy) (λ_ c=>wq a b c) >>= og
def QF{α β γ:Type _}(f:α->β->γ){a a':α}{b b':β}(h:a=a')(k:b=b'):f a b=f a' b':=by subst h k;rfl
def EZ{α:Type _}{c:Prop}[Decidable c]{a a' b b':α}(h:a=a')(k:b=b'):(if c then a else b)=if c then a' else b':=by subst h k;rfl
def oe(a b:Array Keyed):Cj a b=Hx a b:=by
 unfold Hx;show YV (Bind.bind _) (funext λ_=>YV (Bind.bind _)<|funext λx=>?_);show EZ Z (EZ Z<|YV (Bind.bind _)<|funext λst=>?_);show QF Bind.bind (YV (forIn _ _)<|funext λ_=>funext λc=>?_) ?_
 .unfold wq;show QF Bind.bind (YV (forIn _ _)<|funext λ_=>funext λc=>?_) ?_
  .unfold loB1;show YV (Bind.bind _) (funext λ_=>YV (Bind.bind _)<|funext λ_=>YV (Bind.bind _)<|funext λr=>?_);cases r with
   |none=>rfl
   |some r=>rfl
  .funext c
   unfold Ca;let⟨c1,c2⟩:=c;cases c1 with
   |some r=>rfl
   |none=>
    show YV (Bind.bind _) (funext λ_=>QF Bind.bind (YV (forIn _ _)<|funext λ_=>funext λc=>?_) ?_)
    .unfold OA;show EZ ?_ ?_
     .unfold OD;show YV (Bind.bind _) (funext λ_=>YV (Bind.bind _)<|funext λ_=>YV (Bind.bind _)<|funext λr=>?_);cases r with
      |none=>rfl
      |some r=>rfl
     .rfl
    .funext c
     let⟨c1,c2⟩:=c;cases c1<;>rfl
 .funext c
  let⟨c1,c2⟩:=c;cases c1<;>rfl
section
variable{a b:Array Keyed}{st:SortSt}
def BZ(L:WA M A E s O key kd S){out:Array Keyed}{ja jb ac bc g:Nat}{R:ForInStep Cb->SortSt->Prop}(hk:kindOf st=kd)(Vn:∀x∈a.toList,S x)(Vm:∀x∈b.toList,S x)(sa:a.toList.Pairwise (RK O key))(sb:b.toList.Pairwise (RK O key))(h2:∀x∈b.toList,∀y∈a.toList.drop (a.size-1),RK O key x y)(RN:ja+1<a.size)(Sk:jb<b.size)(m:MI O key a.toList b.toList out ja jb)
  (hd:∀r z,Vo O key a.toList b.toList r->R (.done (some r,z)) st)(hn:∀o2 i2 j2 a3 b3,MI O key a.toList b.toList o2 i2 j2->i2+1<a.size->j2<b.size->i2+j2=ja+jb+1->R (.done (none,o2,i2,j2,a3,b3)) st/\R (.yield (none,o2,i2,j2,a3,b3)) st):wpS M A E s (loB1 a b g (none,out,ja,jb,ac,bc)) R st:=by
 let ea:a[ja]?=some a[ja]:=Tn a ja D;let eb:b[jb]?=some b[jb]:=Tn b jb Sk
 unfold loB1;show YB (Zs eb<|YB<|Zs ea<|YB<|L _ _ _ _ (Vm _ B) (Vn _ B) hk ?_);dsimp only;cases hc:O.blt (key b[jb]) (key a[ja]) with
 |true=>
  show Zt Z (YB<|Zs eb ?_);let m':MI O key a.toList b.toList (out.push b[jb]) ja (jb+1):=m.b sb 1 (by rw[LJ eb];intro x hx y hy;rw[XG.mp hx];show Wg (Qj hc)<|LI sa ea y hy) (by rw[LJ eb,Sf])
  cases d1:jb+1=b.size
  .show Zt (by simpa using d1) (YM<|hd _ _<|m'.done sa sb<|.inl<|YQ<|by simp[d1])
  .show ZT (by simpa using d1) ?_;let z:=λa3 b3=>hn _ _ _ a3 b3 m' RN J J
   cases d2:bc+1 >= g
   .show Zt d2 (YM (z _ _).1)
   .show ZT d2 (YM (z _ _).2)
 |false=>
  show ZT B (YB<|Zs ea ?_);let m':MI O key a.toList b.toList (out.push a[ja]) (ja+1) jb:=m.a sa 1 (by rw[LJ ea];intro x hx y hy;rw[XG.mp hx];show Wg hc<|LI sb eb y hy) (by rw[LJ ea,Sf])
  cases d1:ja+1+1=a.size
  .show Zt (by simpa using d1) (YM<|hd _ _<|m'.last sa sb λx hx y hy=>h2 x (MK hx) y<|by rwa[show a.size-1=ja+1 by omega])
  .show ZT (by simpa using d1) ?_;let z:=λa3 b3=>hn _ _ _ a3 b3 m' D Sk J
   cases d2:ac+1 >= g
   .show Zt d2 (YM (z _ _).1)
   .show ZT d2 (YM (z _ _).2)
def Tc(st XQ:SortSt):(Prop):=kindOf XQ=kindOf st/\arrOf XQ=arrOf st/\pendingOf XQ=pendingOf st/\failedOf XQ=failedOf st
def Zp6(L:WA M A E s O key kd S){XQ:SortSt}{out:Array Keyed}{ia ib g:Nat}{R:ForInStep Hy->SortSt->Prop}(hk:kindOf st=kd)(Vn:∀x∈a.toList,S x)(Vm:∀x∈b.toList,S x)(sa:a.toList.Pairwise (RK O key))(sb:b.toList.Pairwise (RK O key))(h2:∀x∈b.toList,∀y∈a.toList.drop (a.size-1),RK O key x y)(MX:ia+1<a.size)(OC:ib<b.size)(m:MI O key a.toList b.toList out ia ib)(ks:Tc st XQ)
  (hd:∀r z Xg,Vo O key a.toList b.toList r->Tc st Xg->R (.done (some r,z)) Xg)(hn:∀o2 i2 j2 g3 Xg,MI O key a.toList b.toList o2 i2 j2->i2+1<a.size->j2<b.size->ia+ib+1<=i2+j2->Tc st Xg->R (.yield (none,o2,i2,j2,g3)) Xg):wpS M A E s (wq a b (none,out,ia,ib,g)) R XQ:=by
 unfold wq;show YB (Sa (SW
  (I:=λy c Xg=>Xg=XQ/\∃out ja jb ac bc,c=(none,out,ja,jb,ac,bc)/\MI O key a.toList b.toList out ja jb/\ja+1<a.size/\jb<b.size/\ja+jb=ia+ib+y)
  (Q:=λc Xg=>Xg=XQ/\((∃r z,c=(some r,z)/\Vo O key a.toList b.toList r)\/∃out ja jb ac bc,c=(none,out,ja,jb,ac,bc)/\MI O key a.toList b.toList out ja jb/\ja+1<a.size/\jb<b.size/\ia+ib+1<=ja+jb)) ?_ ?_ ⟨Z,_,_,_,_,_,Z,m,MX,OC,Z⟩) ?_)
 .rintro y c Xg _ hy ⟨rfl,out,ja,jb,ac,bc,rfl,m,RN,Sk,hr⟩;show BZ L (ks.1.trans hk) Vn Vm sa sb h2 RN Sk m (λr z hr=>⟨Z,.inl ⟨r,z,Z,hr⟩⟩) λo2 i2 j2 a3 b3 m' e1 e2 e3=>⟨⟨Z,.inr ⟨_,_,_,_,_,Z,m',e1,e2,J⟩⟩,⟨Z,_,_,_,_,_,Z,m',e1,e2,J⟩⟩
 .rintro c Xg ⟨rfl,out,ja,jb,ac,bc,rfl,m,RN,Sk,hr⟩;exists Z,.inr ⟨_,_,_,_,_,Z,m,RN,Sk,J⟩
 rintro c Xg ⟨rfl,Vz⟩;rcases Vz with ⟨r,z,rfl,hr⟩|⟨out,ja,jb,ac,bc,rfl,m,RN,Sk,hr⟩
 .show YM (hd r _ _ hr ks)
 show YB (wpS_lift<|Qe ⟨Z,?_⟩);show YB (Sa (SW
  (I:=λy c WK=>Tc st WK/\∃out MW MV g ac bc,c=(none,out,MW,MV,g,ac,bc)/\MI O key a.toList b.toList out MW MV/\MW+1<a.size/\MV<b.size/\a.size-MW+(b.size-MV)<=a.size-ja+(b.size-jb))
  (Q:=λc WK=>Tc st WK/\((∃r z,c=(some r,z)/\Vo O key a.toList b.toList r)\/∃out MW MV g ac bc,c=(none,out,MW,MV,g,ac,bc)/\MI O key a.toList b.toList out MW MV/\MW+1<a.size/\MV<b.size/\a.size-MW+(b.size-MV)<=a.size-ja+(b.size-jb))) ?_ (λc WK z=>⟨z.1,.inr z.2⟩) ⟨ks,_,_,_,_,_,_,Z,m,RN,Sk,XM _⟩) ?_)
 .rintro y c WK _ hy ⟨k1,out,MW,MV,g',ac',bc',rfl,m,BY,BX,Rl⟩;unfold OA;cases hg:g'>1
  .show Zt hg (cg L (k1.1.trans hk) Vn Vm sa sb h2 BY BX m (λr z hr=>⟨k1,.inl ⟨r,z,Z,hr⟩⟩) λo2 i2 j2 g3 a3 b3 m3 e1 e2 e3=>⟨⟨k1,.inr ⟨o2,i2,j2,g3,a3,b3,Z,m3,e1,e2,Yn e3 Rl⟩⟩,⟨k1,o2,i2,j2,g3,a3,b3,Z,m3,e1,e2,Yn e3 Rl⟩⟩)
  .show ZT hg (cg L (k1.1.trans hk) Vn Vm sa sb h2 BY BX m (λr z hr=>⟨k1,.inl ⟨r,z,Z,hr⟩⟩) λo2 i2 j2 g3 a3 b3 m3 e1 e2 e3=>⟨⟨k1,.inr ⟨o2,i2,j2,g3,a3,b3,Z,m3,e1,e2,Yn e3 Rl⟩⟩,⟨k1,o2,i2,j2,g3,a3,b3,Z,m3,e1,e2,Yn e3 Rl⟩⟩)
 .rintro c WK ⟨k1,Vz⟩;rcases Vz with ⟨r,z,rfl,Uy⟩|⟨Hw,ia3,ib3,g3,ac3,bc3,rfl,m3,n9,n8,Uy⟩
  .show YM (hd r _ _ Uy k1)
  .show YB (wu<|YM<|hn Hw ia3 ib3 (g3+1) _ m3 n9 n8 sS k1)
def ZV5(L:WA M A E s O key kd S){Q:Array Keyed->SortSt->Prop}(hk:kindOf st=kd)(Vn:∀x∈a.toList,S x)(Vm:∀x∈b.toList,S x)(sa:a.toList.Pairwise (RK O key))(sb:b.toList.Pairwise (RK O key))(ha:1<=a.size)(hb:1<=b.size)
  (h1:∀x∈b.toList.take 1,∀y∈a.toList,RK O key x y)(h2:∀x∈b.toList,∀y∈a.toList.drop (a.size-1),RK O key x y)
  (h:∀r g,Vo O key a.toList b.toList r->Q r (SortSt.mk' (kindOf st) (arrOf st) (pendingOf st) g<|failedOf st)):wpS M A E s (Cj a b) Q st:=by
 let bump:∀XQ,Tc st XQ->∀r,Vo O key a.toList b.toList r->Q r XQ:=λXQ ⟨e1,e2,e3,e4⟩ r hr=>by
  have:=h r (gallopOf XQ) hr
  rwa[<-e1,<-e2,<-e3,<-e4]at this
 let k0:Tc st st:=⟨Z,Z,Z,Z⟩;let e0:b[0]?=some b[0]:=Tn b 0 hb
 let m0:MI O key a.toList b.toList #[] 0 0:=⟨List.Pairwise.nil,λ_ h=>(by cases h),λ_ h=>(by cases h),B⟩;let m1:MI O key a.toList b.toList #[b[0]] 0 1:=m0.b sb 1 (by rwa[Kz,Kz]) (by rw[LJ e0];rfl)
 rw[oe];unfold Hx;show YB (wpS_lift<|Qe ⟨Z,?_⟩);show YB (Zs e0 ?_);cases c1:1=b.size
 .show Zt (by simpa using c1) (YM<|bump st k0 _<|m1.done sa sb<|.inl<|YQ<|by simp[<-c1])
 show ZT (by simpa using c1) ?_;cases c2:0+1=a.size
 .show Zt (by simpa using c2) (YM<|bump st k0 _<|m1.last sa sb λx hx y hy=>h2 x (MK hx) y<|by rwa[show a.size-1=0 by lia])
 show ZT (by simpa using c2) (YB<|QT ?_);show YB (Sa (SW
  (I:=λx c XQ=>Tc st XQ/\∃out ia ib g,c=(none,out,ia,ib,g)/\MI O key a.toList b.toList out ia ib/\ia+1<a.size/\ib<b.size/\x<=ia+ib)
  (Q:=λc XQ=>Tc st XQ/\∃r,c.1=some r/\Vo O key a.toList b.toList r) ?_ ?_ ⟨k0,_,_,_,_,Z,m1,J,J,J⟩) ?_)
 .rintro x c XQ _ hx ⟨k1,out,ia,ib,g,rfl,m,MX,OC,Hv⟩;show Zp6 L hk Vn Vm sa sb h2 MX OC m k1 (λr z Xg hr k2=>⟨k2,r,Z,hr⟩) λo2 i2 j2 g3 Xg m' e1 e2 e3 k2=>⟨k2,_,_,_,_,Z,m',e1,e2,J⟩
 .rintro c XQ ⟨k1,out,ia,ib,g,rfl,m,MX,OC,Hv⟩;lia
 .rintro⟨c1,c2⟩ XQ ⟨k1,r,hc,hr⟩;cases hc;show YM (bump XQ k1 r hr)
end
end
section
variable{M:Model}{A:Around}{E:Ae}{s:Shared}{O:KeyOrd}{key:Keyed->O.α}{kd:SortKind}{S:Keyed->Prop}
structure MH(O:KeyOrd)(key:Keyed->O.α)(la lb:List Keyed)(out:Array Keyed)(na nb:Nat):Prop where
 so:out.toList.Pairwise λx y=>RK O key y x
 oa:∀x∈la.take na,∀y∈out.toList,RK O key x y
 ob:∀x∈lb.take nb,∀y∈out.toList,RK O key x y
 pm:(la.take na++lb.take nb++out.toList).Perm (la++lb)
def cf{α:Type}{la:List α}(hi:i<=n){y:α}(h:y∈la.take i):y∈la.take n:=by rw[show i=min i n by lia,<-tI]at h;show VR h
def n6{la:List Keyed}(hi:i<=n):la.take n=la.take i++(la.take n).drop i:=by let e:=(ML i<|la.take n).symm;rwa[tI,show min i n=i by lia]at e
def cb{la:List Keyed}(h:la.Pairwise (RK O key))(hi:i<=n):((la.take n).drop i).Pairwise (RK O key)/\∀x∈la.take i,∀y∈(la.take n).drop i,RK O key x y:=by let h1:(la.take n).Pairwise (RK O key):=h.sublist (MJ n la);rw[n6 hi,YJ]at h1;exists h1.2.1,h1.2.2
def MH.a(h:MH O key la lb out na nb)(sa:la.Pairwise (RK O key))(hi:i<=na)(hx:∀x∈lb.take nb,∀y∈(la.take na).drop i,RK O key x y)(e:out'.toList=out.toList++((la.take na).drop i).reverse):MH O key la lb out' i nb:=by
 let⟨p1,p2⟩:=cb sa hi;exists ?_,?_,?_,?_
 .rw[e,YJ];exists h.so,Mu.mpr p1,λx hx y hy=>h.oa y (MK<|Se.mp hy) x hx
 .intro x Xm y hy;rw[e,XA,Se]at hy;rcases hy with hy|hy
  .show h.oa x (cf hi Xm) y hy
  .show p2 x Xm y hy
 .intro x Xm y hy;rw[e,XA,Se]at hy;rcases hy with hy|hy
  .show h.ob x Xm y hy
  .show hx x Xm y hy
 .show List.Perm.trans ?_ h.pm;rw[e]
  conv=>rhs;rw[n6 hi]
  rw[Yy,Yy,Yy];show Nw _ ?_;show List.Perm.trans (l₂:=lb.take nb++(((la.take na).drop i)++out.toList)) ?_ ?_
  .show Nw _ (Em.trans<|(FK _).append_right _)
  .rw[<-Yy,<-Yy];show En _ Em
def MH.b(h:MH O key la lb out na nb)(sb:lb.Pairwise (RK O key))(hi:i<=nb)(hx:∀x∈la.take na,∀y∈(lb.take nb).drop i,RK O key x y)(e:out'.toList=out.toList++((lb.take nb).drop i).reverse):MH O key la lb out' na i:=by
 let⟨p1,p2⟩:=cb sb hi;exists ?_,?_,?_,?_
 .rw[e,YJ];exists h.so,Mu.mpr p1,λx hx y hy=>h.ob y (MK<|Se.mp hy) x hx
 .intro x Xm y hy;rw[e,XA,Se]at hy;rcases hy with hy|hy
  .show h.oa x Xm y hy
  .show hx x Xm y hy
 .intro x Xm y hy;rw[e,XA,Se]at hy;rcases hy with hy|hy
  .show h.ob x (cf hi Xm) y hy
  .show p2 x Xm y hy
 .show List.Perm.trans ?_ h.pm;rw[e]
  conv=>rhs;rw[n6 hi]
  rw[Yy,Yy,Yy];show Nw _ (Nw _ ?_);show Em.trans ((FK _).append_right _)
def LF(a:Array Keyed)(n:Nat):(a.extract 0 n).toList=a.toList.take n:=by rw[FO,FU,Kz,xB]
def b9(a:Array Keyed)(i n:Nat):((a.extract i n).reverse).toList=((a.toList.take n).drop i).reverse:=by rw[IQ,FO,FU,tH]
def MH.ab{a b out:Array Keyed}(h:MH O key a.toList b.toList out na nb)(sa:a.toList.Pairwise (RK O key))(sb:b.toList.Pairwise (RK O key))(hx:∀x∈a.toList.take na,∀y∈b.toList.take nb,RK O key x y):Vo O key a.toList b.toList (a.extract 0 na++b.extract 0 nb++out.reverse):=by
 unfold Vo;rw[Ql,Ql,LF,LF,IQ];exists ?_,(Nw _<|FK _).trans h.pm;rw[YJ,YJ];exists ⟨sa.sublist<|MJ _ _,sb.sublist<|MJ _ _,hx⟩,Mu.mpr h.so,λx Xm y hy=>?_;rw[XA]at Xm;rcases Xm with Xm|Xm
 .show h.oa x Xm y (Se.mp hy)
 .show h.ob x Xm y (Se.mp hy)
def MH.ba{a b out:Array Keyed}(h:MH O key a.toList b.toList out na nb)(sa:a.toList.Pairwise (RK O key))(sb:b.toList.Pairwise (RK O key))(hx:∀x∈b.toList.take nb,∀y∈a.toList.take na,RK O key x y):Vo O key a.toList b.toList (b.extract 0 nb++a.extract 0 na++out.reverse):=by
 unfold Vo;rw[Ql,Ql,LF,LF,IQ];exists ?_,((Nw _<|FK _).trans (En _ Em)).trans h.pm;rw[YJ,YJ];exists ⟨sb.sublist<|MJ _ _,sa.sublist<|MJ _ _,hx⟩,Mu.mpr h.so,λx Xm y hy=>?_;rw[XA]at Xm;rcases Xm with Xm|Xm
 .show h.ob x Xm y (Se.mp hy)
 .show h.oa x Xm y (Se.mp hy)
def QE{a:Array Keyed}{i n:Nat}{p:Keyed}(hn:n=i+1)(h:a[i]?=some p):((a.toList.take n).drop i).reverse=[p]:=by
 subst hn;let h':a.toList[i]?=some p:=by simpa using h
 rw[tH,ui];let⟨hi,e⟩:=Xx.mp h';rw[FT hi,e];rfl
def wm{a:Array Keyed}{i n:Nat}{p y:Keyed}(hn:n=i+1)(h:a[i]?=some p)(hy:y∈(a.toList.take n).drop i):y=p:=by
 have:=QE hn h
 rw[<-Se,this]at hy;show XG.mp hy
def n5{a:Array Keyed}{x:Keyed}(h:x∈a.toList.take n):∃j,j<n/\j<a.size/\a[j]?=some x:=by
 let⟨j,hj⟩:=YF h;let Vg:=(Xx.mp hj).1
 rw[Yh]at Vg;rw[Qk,if_pos sS]at hj;exists j,D,by simp at Vg;grind,by simpa using hj
def BW{a:Array Keyed}{i n:Nat}{x:Keyed}(h:x∈(a.toList.take n).drop i):∃j,i<=j/\j<n/\j<a.size/\a[j]?=some x:=by
 let⟨j,hj⟩:=YF h;let Vg:=(Xx.mp hj).1
 rw[WE,Yh]at Vg;rw[SU,Qk,if_pos sS]at hj;exists i+j,J,D,by simp at Vg;grind,by simpa using hj
def LD{a:Array Keyed}{i n:Nat}{p:Keyed}(sa:a.toList.Pairwise (RK O key))(hn:n=i+1)(h:a[i]?=some p):∀x∈a.toList.take n,RK O key x p:=λx hx=>by
 let⟨j,j1,j2,ej⟩:=n5 hx;let hi:i<a.size:=(eQ.mp h).1
 have:=Ce sa (i:=j) (j:=i) J hi
 rwa[UH ej,UH h]at this
abbrev JP:=Option (Array Keyed)×Nat×Nat×Array Keyed×Nat×Nat×Nat
def LC(a b out:Array Keyed)(na nb g ac bc:Nat):(StateT SortSt Sem (ForInStep JP)):=elem' a (na-1) >>= λx=>
 if (na-1 == 0)=true then pure (.done (some<|a.extract 0 (na-1)++b.extract 0 nb++(out.push x).reverse,na-1,nb,out.push x,g,ac,bc))
 else if (decide (ac<7)&&decide (bc<7))=true then pure (.done (none,na-1,nb,out.push x,g,ac,bc)) else pure (.yield (none,na-1,nb,out.push x,g,ac,bc))
def LB(a b out:Array Keyed)(na nb g ac bc:Nat):(StateT SortSt Sem (ForInStep JP)):=elem' b (nb-1) >>= λx=>
 if (nb-1 == 1)=true then pure (.done (some<|b.extract 0 (nb-1)++a.extract 0 na++(out.push x).reverse,na,nb-1,out.push x,g,ac,bc))
 else elem' a (na-1) >>= λy=>Fd true y b 0 (nb-1) (nb-1-1) >>= λr=>match r with
  |some k=>if nb-1-k>0 then
    if (k == 1)=true then pure (.done (some<|b.extract 0 k++a.extract 0 na++(out.push x++(b.extract k<|nb-1).reverse).reverse,na,k,out.push x++(b.extract k<|nb-1).reverse,g,ac,nb-1-k))
    else if (k == 0)=true then pure (.done (some<|a.extract 0 na++b.extract 0 k++(out.push x++(b.extract k<|nb-1).reverse).reverse,na,k,out.push x++(b.extract k<|nb-1).reverse,g,ac,nb-1-k))
    else LC a b (out.push x++(b.extract k<|nb-1).reverse) na k g ac (nb-1-k)
   else LC a b (out.push x) na (nb-1) g ac (nb-1-k)
  |_=>pure (.done (some<|a.extract 0 na++b.extract 0 (nb-1)++(out.push x).reverse,na,nb-1,out.push x,g,ac,bc))
def Oz(a b out:Array Keyed)(na nb g ac bc:Nat):(StateT SortSt Sem (ForInStep JP)):=OE g >>= λ_=>elem' b (nb-1) >>= λx=>Fd false x a 0 na (na-1) >>= λr=>match r with
 |some k=>if na-k>0 then
   if (k == 0)=true then pure (.done (some<|a.extract 0 k++b.extract 0 nb++(out++(a.extract k na).reverse).reverse,k,nb,out++(a.extract k na).reverse,g,na-k,bc))
   else LB a b (out++(a.extract k na).reverse) k nb g (na-k) bc
  else LB a b out na nb g (na-k) bc
 |_=>pure (.done (some<|a.extract 0 na++b.extract 0 nb++out.reverse,na,nb,out,g,ac,bc))
section
variable{a b out:Array Keyed}{na nb:Nat}{st:SortSt}{R:ForInStep JP->SortSt->Prop}
def b8{pa:Keyed}(sa:a.toList.Pairwise (RK O key))(sb:b.toList.Pairwise (RK O key))(ea:a[na-1]?=some pa)(Hu:1<=na)(RM:na<=a.size)(LA:2<=nb)(RL:nb<=b.size)(m:MH O key a.toList b.toList out na nb)(below:∀x∈b.toList.take nb,RK O key x pa)
  (hd:∀r z,Vo O key a.toList b.toList r->R (.done (some r,z)) st)(hn:∀i2 j2 o2 g3 a3 b3,MH O key a.toList b.toList o2 i2 j2->1<=i2->i2<=a.size->2<=j2->j2<=b.size->i2+j2<=na+nb->R (.done (none,i2,j2,o2,g3,a3,b3)) st/\R (.yield (none,i2,j2,o2,g3,a3,b3)) st):wpS M A E s (LC a b out na nb g ac bc) R st:=by
 let en:na=na-1+1:=sS;unfold LC;show YB (Zs ea ?_);let m5:MH O key a.toList b.toList (out.push pa) (na-1) nb:=m.a sa J (λx hx y hy=>by rw[wm en ea hy];show below x hx) (by rw[QE en ea,Sf])
 cases d5:na-1=0
 .show Zt (by simpa using d5) (YM<|hd _ _<|m5.ab sa sb<|by rw[d5];intro _ h;cases h)
 .show ZT (by simpa using d5) ?_;let z:=λg3 a3 b3=>hn _ _ _ g3 a3 b3 m5 J J LA RL J
  split
  .show YM (z _ _ _).1
  .show YM (z _ _ _).2
def b7(L:WA M A E s O key kd S){pb:Keyed}(hk:kindOf st=kd)(Vn:∀x∈a.toList,S x)(Vm:∀x∈b.toList,S x)(sa:a.toList.Pairwise (RK O key))(sb:b.toList.Pairwise (RK O key))(h1:∀x∈b.toList.take 1,∀y∈a.toList,RK O key x y)(eb:b[nb-1]?=some pb)(Hu:1<=na)(RM:na<=a.size)(LA:2<=nb)(RL:nb<=b.size)(m:MH O key a.toList b.toList out na nb)(above:∀x∈a.toList.take na,RK O key x pb)
  (hd:∀r z,Vo O key a.toList b.toList r->R (.done (some r,z)) st)(hn:∀i2 j2 o2 g3 a3 b3,MH O key a.toList b.toList o2 i2 j2->1<=i2->i2<=a.size->2<=j2->j2<=b.size->i2+j2<=na+nb->R (.done (none,i2,j2,o2,g3,a3,b3)) st/\R (.yield (none,i2,j2,o2,g3,a3,b3)) st):wpS M A E s (LB a b out na nb g ac bc) R st:=by
 let Oy:∀{i j},i=1->∀x∈b.toList.take i,∀y∈a.toList.take j,RK O key x y:=λ{i j} e x hx y hy=>h1 x (by rwa[e]at hx) y (VR hy);let en:nb=nb-1+1:=sS
 unfold LB;show YB (Zs eb ?_);let m3:MH O key a.toList b.toList (out.push pb) na (nb-1):=m.b sb J (λx hx y hy=>by rw[wm en eb hy];show above x hx) (by rw[QE en eb,Sf])
 cases d3:nb-1=1
 .show Zt (by simpa using d3) (YM<|hd _ _<|m3.ba sa sb<|Oy d3)
 show ZT (by simpa using d3) ?_;let ha:na-1<a.size:=sS
 let ea:a[na-1]?=some a[na-1]:=Tn a _ ha;let BV:na=na-1+1:=D
 show YB (Zs ea ?_);show YB (Fc L hk (Vn _ B) (λi hi=>⟨b[0+i],Tn b _ D,Vm _ B⟩) J (λi j WJ hj=>Ce sb J J) λkk JQ VB Hz=>?_);dsimp only;let below:∀x∈b.toList.take kk,RK O key x a[na-1]:=λx hx=>by
  let⟨j,j1,j2,ex⟩:=n5 hx
  have:=VB j j1
  unfold beyB at this;rw[Tj,UH ex]at this;show Qj this
 cases OB:nb-1-kk>0
 .show Zt OB ?_;let m4:MH O key a.toList b.toList (out.push pb++(b.extract kk<|nb-1).reverse) na kk:=m3.b sb JQ (λx hx y hy=>by
   let⟨j,j1,j2,j3,ey⟩:=BW hy
   have:=Hz j j1 j2
   unfold beyB at this;rw[Tj,UH ey]at this;show Wg (LD sa BV ea x hx) this) (by rw[Ql,b9])
  cases d4:kk=1
  .show Zt (by simpa using d4) (YM<|hd _ _<|m4.ba sa sb<|Oy d4)
  show ZT (by simpa using d4) ?_;cases d6:kk=0
  .show Zt (by simpa using d6) (YM<|hd _ _<|m4.ab sa sb<|by rw[d6];intro _ _ _ h;cases h)
  .show ZT (by simpa using d6) (b8 sa sb ea Hu RM J J m4 below hd λi2 j2 o2 g3 a3 b3 m' e1 e2 e3 e4 e5=>hn i2 j2 o2 g3 a3 b3 m' e1 e2 e3 e4 J)
 .let ekk:kk=nb-1:=J;show ZT OB (b8 sa sb ea Hu RM J J m3 (λx hx=>below x<|by rwa[ekk]) hd λi2 j2 o2 g3 a3 b3 m' e1 e2 e3 e4 e5=>hn i2 j2 o2 g3 a3 b3 m' e1 e2 e3 e4 J)
def bZ(L:WA M A E s O key kd S)(hk:kindOf st=kd)(Vn:∀x∈a.toList,S x)(Vm:∀x∈b.toList,S x)(sa:a.toList.Pairwise (RK O key))(sb:b.toList.Pairwise (RK O key))(h1:∀x∈b.toList.take 1,∀y∈a.toList,RK O key x y)(Hu:1<=na)(RM:na<=a.size)(LA:2<=nb)(RL:nb<=b.size)(m:MH O key a.toList b.toList out na nb)
  (hd:∀r z,Vo O key a.toList b.toList r->R (.done (some r,z)) (SortSt.mk' (kindOf st) (arrOf st) (pendingOf st) g<|failedOf st))(hn:∀i2 j2 o2 g3 a3 b3,MH O key a.toList b.toList o2 i2 j2->1<=i2->i2<=a.size->2<=j2->j2<=b.size->i2+j2<=na+nb->R (.done (none,i2,j2,o2,g3,a3,b3)) (SortSt.mk' (kindOf st) (arrOf st) (pendingOf st) g<|failedOf st)/\R (.yield (none,i2,j2,o2,g3,a3,b3)) (SortSt.mk' (kindOf st) (arrOf st) (pendingOf st) g<|failedOf st)):wpS M A E s (Oz a b out na nb g ac bc) R st:=by
 unfold Oz;show YB (wu ?_);let hb:nb-1<b.size:=sS
 let eb:b[nb-1]?=some b[nb-1]:=Tn b _ hb;let en:nb=nb-1+1:=D
 show YB (Zs eb ?_);show YB (Fc L hk (Vm _ B) (λi hi=>⟨a[0+i],Tn a _ D,Vn _ B⟩) D (λi j WJ hj=>Ce sa D J) λk Fb hl UT=>?_);dsimp only;let above:∀x∈a.toList.take k,RK O key x b[nb-1]:=λx hx=>by
  let⟨j,j1,j2,ex⟩:=n5 hx
  have:=hl j j1
  unfold beyB at this;rw[Tj,UH ex]at this;simp only[Rw,Ss,xQ]at this;show this
 cases Cc:na-k>0
 .show Zt Cc ?_;let m2:MH O key a.toList b.toList (out++(a.extract k na).reverse) k nb:=m.a sa Fb (λx hx y hy=>by
   let⟨j,j1,j2,j3,ey⟩:=BW hy
   have:=UT j j1 j2
   unfold beyB at this;rw[Tj,UH ey]at this;simp only[Rw,Ss,t6]at this;show Wg (LD sb en eb x hx)<|Qj this) (by rw[Ql,b9])
  cases d1:k=0
  .show Zt (by simpa using d1) (YM<|hd _ _<|m2.ab sa sb<|by rw[d1];intro _ h;cases h)
  .show ZT (by simpa using d1) (b7 L hk Vn Vm sa sb h1 eb J J LA RL m2 above hd λi2 j2 o2 g3 a3 b3 m' e1 e2 e3 e4 e5=>hn i2 j2 o2 g3 a3 b3 m' e1 e2 e3 e4 J)
 .let ek:k=na:=sS;show ZT Cc (b7 L hk Vn Vm sa sb h1 eb Hu RM LA RL m (λx hx=>above x<|by rwa[ek]) hd hn)
end
abbrev BU:=Option (Array Keyed)×Nat×Nat×Array Keyed×Nat×Nat
def hiB1(a b:Array Keyed)(g:Nat)(c:BU):(StateT SortSt Sem (ForInStep BU)):=elem' b (c.2.2.1-1) >>= λy=>elem' a (c.2.1-1) >>= λx=>lt' y x >>= λr=>match r with
 |some t=>if t=true then elem' a (c.2.1-1) >>= λx=>
    if (c.2.1-1 == 0)=true then pure (.done (some<|a.extract 0 (c.2.1-1)++b.extract 0 c.2.2.1++(c.2.2.2.1.push x).reverse,c.2.1-1,c.2.2.1,c.2.2.2.1.push x,c.2.2.2.2.1+1,0))
    else if c.2.2.2.2.1+1 >= g then pure (.done (none,c.2.1-1,c.2.2.1,c.2.2.2.1.push x,c.2.2.2.2.1+1,0)) else pure (.yield (none,c.2.1-1,c.2.2.1,c.2.2.2.1.push x,c.2.2.2.2.1+1,0))
   else elem' b (c.2.2.1-1) >>= λy=>
    if (c.2.2.1-1 == 1)=true then pure (.done (some<|b.extract 0 (c.2.2.1-1)++a.extract 0 c.2.1++(c.2.2.2.1.push y).reverse,c.2.1,c.2.2.1-1,c.2.2.2.1.push y,0,c.2.2.2.2.2+1))
    else if c.2.2.2.2.2+1 >= g then pure (.done (none,c.2.1,c.2.2.1-1,c.2.2.2.1.push y,0,c.2.2.2.2.2+1)) else pure (.yield (none,c.2.1,c.2.2.1-1,c.2.2.2.1.push y,0,c.2.2.2.2.2+1))
 |_=>pure (.done (some<|a.extract 0 c.2.1++b.extract 0 c.2.2.1++c.2.2.2.1.reverse,c.2.1,c.2.2.1,c.2.2.2.1,c.2.2.2.2.1,c.2.2.2.2.2))
abbrev Ht:=Option (Array Keyed)×Nat×Nat×Array Keyed×Nat
def Hs(a b:Array Keyed)(c:JP):(StateT SortSt Sem (ForInStep JP)):=if c.2.2.2.2.1>1 then Oz a b c.2.2.2.1 c.2.1 c.2.2.1 (c.2.2.2.2.1-1) c.2.2.2.2.2.1 c.2.2.2.2.2.2 else Oz a b c.2.2.2.1 c.2.1 c.2.2.1 c.2.2.2.2.1 c.2.2.2.2.2.1 c.2.2.2.2.2.2
def n4(c:JP):(StateT SortSt Sem (ForInStep Ht)):=match c.1 with
 |some r=>pure (.done (some r,c.2.1,c.2.2.1,c.2.2.2.1,c.2.2.2.2.1))
 |none=>OE (c.2.2.2.2.1+1) >>= λ_=>pure (.yield (none,c.2.1,c.2.2.1,c.2.2.2.1,c.2.2.2.2.1+1))
def BS(a b:Array Keyed)(g:Nat)(c:BU):(StateT SortSt Sem (ForInStep Ht)):=match c.1 with
 |some r=>pure (.done (some r,c.2.1,c.2.2.1,c.2.2.2.1,g))
 |none=>liftM (rule "list.sort.gallop") >>= λ_=>forIn [0:a.size+b.size] ((none,c.2.1,c.2.2.1,c.2.2.2.1,g+1,c.2.2.2.2.1,c.2.2.2.2.2):JP) (λ_ s=>Hs a b s) >>= n4
def wk(a b:Array Keyed)(c:Ht):(StateT SortSt Sem (ForInStep Ht)):=forIn [0:a.size+b.size] ((none,c.2.1,c.2.2.1,c.2.2.2.1,0,0):BU) (λ_ s=>hiB1 a b c.2.2.2.2 s) >>= BS a b c.2.2.2.2
def nZ(c:Ht):(StateT SortSt Sem (Array Keyed)):=match c.1 with
 |some r=>pure r
 |none=>liftM (unsupported "internal:list.sort.merge-bound":Sem (Array Keyed))
def Hr(a b:Array Keyed):(StateT SortSt Sem (Array Keyed)):=liftM (rule "list.sort.merge-hi") >>= λ_=>elem' a (a.size-1) >>= λx=>
 if (a.size-1 == 0)=true then pure (a.extract 0 (a.size-1)++b.extract 0 b.size++(#[x]:Array Keyed).reverse) else if (b.size == 1)=true then pure (b.extract 0 b.size++a.extract 0 (a.size-1)++(#[x]:Array Keyed).reverse)
 else get >>= λst=>forIn [0:a.size+b.size] ((none,a.size-1,b.size,#[x],gallopOf st):Ht) (λ_ c=>wk a b c) >>= nZ
def nY(a b:Array Keyed):cy a b=Hr a b:=by
 unfold Hr;show YV (Bind.bind _) (funext λ_=>YV (Bind.bind _)<|funext λx=>?_);show EZ Z (EZ Z<|YV (Bind.bind _)<|funext λst=>?_);show QF Bind.bind (YV (forIn _ _)<|funext λ_=>funext λc=>?_) ?_
 .unfold wk;show QF Bind.bind (YV (forIn _ _)<|funext λ_=>funext λc=>?_) ?_
  .unfold hiB1;show YV (Bind.bind _) (funext λ_=>YV (Bind.bind _)<|funext λ_=>YV (Bind.bind _)<|funext λr=>?_);cases r with
   |none=>rfl
   |some r=>rfl
  .funext c
   unfold BS;let⟨c1,c2⟩:=c;cases c1 with
   |some r=>rfl
   |none=>
    show YV (Bind.bind _) (funext λ_=>QF Bind.bind (YV (forIn _ _)<|funext λ_=>funext λc=>?_) ?_)
    .unfold Hs;show EZ ?_ ?_
     .unfold Oz;show YV (Bind.bind _) (funext λ_=>YV (Bind.bind _)<|funext λ_=>YV (Bind.bind _)<|funext λr=>?_);cases r with
      |none=>rfl
      |some r=>rfl
     .rfl
    .funext c
     let⟨c1,c2⟩:=c;cases c1<;>rfl
 .funext c
  let⟨c1,c2⟩:=c;cases c1<;>rfl
section
variable{a b:Array Keyed}{st:SortSt}
def nX(L:WA M A E s O key kd S){out:Array Keyed}{ja jb ac bc g:Nat}{R:ForInStep BU->SortSt->Prop}(hk:kindOf st=kd)(Vn:∀x∈a.toList,S x)(Vm:∀x∈b.toList,S x)(sa:a.toList.Pairwise (RK O key))(sb:b.toList.Pairwise (RK O key))(h1:∀x∈b.toList.take 1,∀y∈a.toList,RK O key x y)(RN:1<=ja)(RJ:ja<=a.size)(Sk:2<=jb)(RI:jb<=b.size)(m:MH O key a.toList b.toList out ja jb)
  (hd:∀r z,Vo O key a.toList b.toList r->R (.done (some r,z)) st)(hn:∀i2 j2 o2 a3 b3,MH O key a.toList b.toList o2 i2 j2->1<=i2->i2<=a.size->2<=j2->j2<=b.size->i2+j2+1=ja+jb->R (.done (none,i2,j2,o2,a3,b3)) st/\R (.yield (none,i2,j2,o2,a3,b3)) st):wpS M A E s (hiB1 a b g (none,ja,jb,out,ac,bc)) R st:=by
 let ha:ja-1<a.size:=D;let hb:jb-1<b.size:=D
 let ea:a[ja-1]?=some a[ja-1]:=Tn a _ ha;let eb:b[jb-1]?=some b[jb-1]:=Tn b _ hb
 let en:ja=ja-1+1:=sS;let BV:jb=jb-1+1:=D
 unfold hiB1;show YB (Zs eb<|YB<|Zs ea<|YB<|L _ _ _ _ (Vm _ B) (Vn _ B) hk ?_);dsimp only;cases hc:O.blt (key b[jb-1]) (key a[ja-1]) with
 |true=>
  show Zt Z (YB<|Zs ea ?_);let m':MH O key a.toList b.toList (out.push a[ja-1]) (ja-1) jb:=m.a sa D (λx hx y hy=>by rw[wm en ea hy];show Wg (LD sb BV eb x hx)<|Qj hc) (by rw[QE en ea,Sf])
  cases d1:ja-1=0
  .show Zt (by simpa using d1) (YM<|hd _ _<|m'.ab sa sb<|by rw[d1];intro _ h;cases h)
  .show ZT (by simpa using d1) ?_;let z:=λa3 b3=>hn _ _ _ a3 b3 m' J D Sk RI J
   cases d2:ac+1 >= g
   .show Zt d2 (YM (z _ _).1)
   .show ZT d2 (YM (z _ _).2)
 |false=>
  show ZT B (YB<|Zs eb ?_);let m':MH O key a.toList b.toList (out.push b[jb-1]) ja (jb-1):=m.b sb D (λx hx y hy=>by rw[wm BV eb hy];show Wg (LD sa en ea x hx) hc) (by rw[QE BV eb,Sf])
  cases d1:jb-1=1
  .show Zt (by simpa using d1) (YM<|hd _ _<|m'.ba sa sb λx hx y hy=>h1 x (by rwa[d1]at hx) y<|VR hy)
  .show ZT (by simpa using d1) ?_;let z:=λa3 b3=>hn _ _ _ a3 b3 m' RN RJ J sS J
   cases d2:bc+1 >= g
   .show Zt d2 (YM (z _ _).1)
   .show ZT d2 (YM (z _ _).2)
def Zq6(L:WA M A E s O key kd S){XQ:SortSt}{out:Array Keyed}{na nb g:Nat}{R:ForInStep Ht->SortSt->Prop}(hk:kindOf st=kd)(Vn:∀x∈a.toList,S x)(Vm:∀x∈b.toList,S x)(sa:a.toList.Pairwise (RK O key))(sb:b.toList.Pairwise (RK O key))(h1:∀x∈b.toList.take 1,∀y∈a.toList,RK O key x y)(Hu:1<=na)(RM:na<=a.size)(LA:2<=nb)(RL:nb<=b.size)(m:MH O key a.toList b.toList out na nb)(ks:Tc st XQ)
  (hd:∀r z Xg,Vo O key a.toList b.toList r->Tc st Xg->R (.done (some r,z)) Xg)(hn:∀i2 j2 o2 g3 Xg,MH O key a.toList b.toList o2 i2 j2->1<=i2->i2<=a.size->2<=j2->j2<=b.size->i2+j2+1<=na+nb->Tc st Xg->R (.yield (none,i2,j2,o2,g3)) Xg):wpS M A E s (wk a b (none,na,nb,out,g)) R XQ:=by
 unfold wk;show YB (Sa (SW
  (I:=λy c Xg=>Xg=XQ/\∃ja jb out ac bc,c=(none,ja,jb,out,ac,bc)/\MH O key a.toList b.toList out ja jb/\1<=ja/\ja<=a.size/\2<=jb/\jb<=b.size/\ja+jb+y=na+nb)
  (Q:=λc Xg=>Xg=XQ/\((∃r z,c=(some r,z)/\Vo O key a.toList b.toList r)\/∃ja jb out ac bc,c=(none,ja,jb,out,ac,bc)/\MH O key a.toList b.toList out ja jb/\1<=ja/\ja<=a.size/\2<=jb/\jb<=b.size/\ja+jb+1<=na+nb)) ?_ ?_ ⟨Z,_,_,_,_,_,Z,m,Hu,RM,LA,RL,Z⟩) ?_)
 .rintro y c Xg _ hy ⟨rfl,ja,jb,out,ac,bc,rfl,m,RN,RJ,Sk,RI,hr⟩;show nX L (ks.1.trans hk) Vn Vm sa sb h1 RN RJ Sk RI m (λr z hr=>⟨Z,.inl ⟨r,z,Z,hr⟩⟩) λi2 j2 o2 a3 b3 m' e1 e2 e3 e4 e5=>⟨⟨Z,.inr ⟨_,_,_,_,_,Z,m',e1,e2,e3,e4,J⟩⟩,⟨Z,_,_,_,_,_,Z,m',e1,e2,e3,e4,J⟩⟩
 .rintro c Xg ⟨rfl,ja,jb,out,ac,bc,rfl,m,RN,RJ,Sk,RI,hr⟩;exists Z,.inr ⟨_,_,_,_,_,Z,m,RN,RJ,Sk,RI,J⟩
 rintro c Xg ⟨rfl,Vz⟩;rcases Vz with ⟨r,z,rfl,hr⟩|⟨ja,jb,out,ac,bc,rfl,m,RN,RJ,Sk,RI,hr⟩
 .show YM (hd r _ _ hr ks)
 show YB (wpS_lift<|Qe ⟨Z,?_⟩);show YB (Sa (SW
  (I:=λy c WK=>Tc st WK/\∃PX PV out g ac bc,c=(none,PX,PV,out,g,ac,bc)/\MH O key a.toList b.toList out PX PV/\1<=PX/\PX<=a.size/\2<=PV/\PV<=b.size/\PX+PV<=ja+jb)
  (Q:=λc WK=>Tc st WK/\((∃r z,c=(some r,z)/\Vo O key a.toList b.toList r)\/∃PX PV out g ac bc,c=(none,PX,PV,out,g,ac,bc)/\MH O key a.toList b.toList out PX PV/\1<=PX/\PX<=a.size/\2<=PV/\PV<=b.size/\PX+PV<=ja+jb)) ?_ (λc WK z=>⟨z.1,.inr z.2⟩) ⟨ks,_,_,_,_,_,_,Z,m,RN,RJ,Sk,RI,XM _⟩) ?_)
 .rintro y c WK _ hy ⟨k1,PX,PV,out,g',ac',bc',rfl,m,BR,JO,BQ,JN,Rl⟩;unfold Hs;cases hg:g'>1
  .show Zt hg (bZ L (k1.1.trans hk) Vn Vm sa sb h1 BR JO BQ JN m (λr z hr=>⟨k1,.inl ⟨r,z,Z,hr⟩⟩) λi2 j2 o2 g3 a3 b3 m3 e1 e2 e3 e4 e5=>⟨⟨k1,.inr ⟨i2,j2,o2,g3,a3,b3,Z,m3,e1,e2,e3,e4,Yn e5 Rl⟩⟩,⟨k1,i2,j2,o2,g3,a3,b3,Z,m3,e1,e2,e3,e4,Yn e5 Rl⟩⟩)
  .show ZT hg (bZ L (k1.1.trans hk) Vn Vm sa sb h1 BR JO BQ JN m (λr z hr=>⟨k1,.inl ⟨r,z,Z,hr⟩⟩) λi2 j2 o2 g3 a3 b3 m3 e1 e2 e3 e4 e5=>⟨⟨k1,.inr ⟨i2,j2,o2,g3,a3,b3,Z,m3,e1,e2,e3,e4,Yn e5 Rl⟩⟩,⟨k1,i2,j2,o2,g3,a3,b3,Z,m3,e1,e2,e3,e4,Yn e5 Rl⟩⟩)
 .rintro c WK ⟨k1,Vz⟩;rcases Vz with ⟨r,z,rfl,Uy⟩|⟨na3,nb3,Hw,g3,ac3,bc3,rfl,m3,e1,e2,e3,e4,Uy⟩
  .show YM (hd r _ _ Uy k1)
  .show YB (wu<|YM<|hn na3 nb3 Hw (g3+1) _ m3 e1 e2 e3 e4 J k1)
def ZW5(L:WA M A E s O key kd S){Q:Array Keyed->SortSt->Prop}(hk:kindOf st=kd)(Vn:∀x∈a.toList,S x)(Vm:∀x∈b.toList,S x)(sa:a.toList.Pairwise (RK O key))(sb:b.toList.Pairwise (RK O key))(ha:1<=a.size)(hb:1<=b.size)
  (h1:∀x∈b.toList.take 1,∀y∈a.toList,RK O key x y)(h2:∀x∈b.toList,∀y∈a.toList.drop (a.size-1),RK O key x y)
  (h:∀r g,Vo O key a.toList b.toList r->Q r (SortSt.mk' (kindOf st) (arrOf st) (pendingOf st) g<|failedOf st)):wpS M A E s (cy a b) Q st:=by
 let bump:∀XQ,Tc st XQ->∀r,Vo O key a.toList b.toList r->Q r XQ:=λXQ ⟨e1,e2,e3,e4⟩ r hr=>by
  have:=h r (gallopOf XQ) hr
  rwa[<-e1,<-e2,<-e3,<-e4]at this
 let k0:Tc st st:=⟨Z,Z,Z,Z⟩;let hl:a.size-1<a.size:=D
 let e0:a[a.size-1]?=some a[a.size-1]:=Tn a _ hl;let ta:a.toList.take a.size=a.toList:=YO B
 let tb:b.toList.take b.size=b.toList:=YO B;let m0:MH O key a.toList b.toList #[] a.size b.size:=⟨List.Pairwise.nil,λ_ _ _ h=>(by cases h),λ_ _ _ h=>(by cases h),by rw[ta,tb];simp⟩
 let m1:MH O key a.toList b.toList #[a[a.size-1]] (a.size-1) b.size:=m0.a sa J (by rwa[ta,tb]) (by rw[QE sS e0];rfl);rw[nY];unfold Hr;show YB (wpS_lift<|Qe ⟨Z,?_⟩);show YB (Zs e0 ?_);cases c1:a.size-1=0
 .show Zt (by simpa using c1) (YM<|bump st k0 _<|m1.ab sa sb<|by rw[c1];intro _ h;cases h)
 show ZT (by simpa using c1) ?_;cases c2:b.size=1
 .show Zt (by simpa using c2) (YM<|bump st k0 _<|m1.ba sa sb λx hx y hy=>h1 x (by rwa[c2]at hx) y<|VR hy)
 show ZT (by simpa using c2) (YB<|QT ?_);show YB (Sa (SW
  (I:=λx c XQ=>Tc st XQ/\∃na nb out g,c=(none,na,nb,out,g)/\MH O key a.toList b.toList out na nb/\1<=na/\na<=a.size/\2<=nb/\nb<=b.size/\na+nb+x<=a.size+b.size)
  (Q:=λc XQ=>Tc st XQ/\∃r,c.1=some r/\Vo O key a.toList b.toList r) ?_ ?_ ⟨k0,_,_,_,_,Z,m1,J,D,J,XM _,J⟩) ?_)
 .rintro x c XQ _ hx ⟨k1,na,nb,out,g,rfl,m,e1,e2,e3,e4,Hv⟩;show Zq6 L hk Vn Vm sa sb h1 e1 e2 e3 e4 m k1 (λr z Xg hr k2=>⟨k2,r,Z,hr⟩) λi2 j2 o2 g3 Xg m' f1 f2 f3 f4 f5 k2=>⟨k2,_,_,_,_,Z,m',f1,f2,f3,f4,J⟩
 .rintro c XQ ⟨k1,na,nb,out,g,rfl,m,e1,e2,e3,e4,Hv⟩;lia
 .rintro⟨c1,c2⟩ XQ ⟨k1,r,hc,hr⟩;cases hc;show YM (bump XQ k1 r hr)
end
end
section
variable{M:Model}{A:Around}{E:Ae}{s:Shared}{O:KeyOrd}{key:Keyed->O.α}{kd:SortKind}{S:Keyed->Prop}
def BP{σ:Type}{st x:σ}{Q:PUnit->σ->Prop}(h:Q ⟨⟩ x):wpS M A E s (set x:StateT σ Sem PUnit) Q st:=by unfold wpS;rw[StateT.run_set];show Yl ⟨Z,h⟩
def bY:∀(r:List Keyed)(o k:Nat)(arr:Array Keyed),o+k+r.length<=arr.size->
  ((r.zipIdx k).foldl (λa x=>match x with|(p,j)=>a.setIfInBounds (o+j) p) arr).toList=arr.toList.take (o+k)++r++arr.toList.drop (o+k+r.length)
 |[],o,k,arr,h=>B
 |p::r,o,k,arr,h=>by
  rw[YI]at h;let ih:=bY r o (k+1) (arr.setIfInBounds (o+k) p) (by rw[Array.size_setIfInBounds];lia)
  rw[List.zipIdx_cons,Ec];show ih.trans ?_;rw[eR,YI];let hl:o+k<arr.toList.length:=by simp;lia
  rw[List.drop_set_of_lt J,show o+(k+1)=o+k+1 by lia,List.take_set,List.take_succ_eq_append_getElem hl,d8 _ _ (by rw[Yh];grind)];simp[show o+k+1+r.length=o+k+(r.length+1) by lia,IZ (by simpa using Qf hl:o+k<=arr.size)]
def ZX5(L:WA M A E s O key kd S){st:SortSt}{i sa na sb nb pw BO:Nat}{P X Y T:List Keyed}{PA PB:List (Nat×Nat×Nat)}{Q:Bool->SortSt->Prop}(hk:kindOf st=kd)(hf:failedOf st=none)(ea:(arrOf st).toList=P++X++Y++T)(hS:∀x∈(arrOf st).toList,S x)
  (ep:(pendingOf st).toList=PA++(sa,na,pw)::(sb,nb,BO)::PB)(hi:PA.length=i)(h1:P.length=sa)(h2:X.length=na)(h3:sb=sa+na)(h4:Y.length=nb)(h5:1<=na)(h6:1<=nb)(sX:X.Pairwise (RK O key))(sY:Y.Pairwise (RK O key))
  (h:∀sG XQ,sG.Pairwise (RK O key)->sG.Perm (X++Y)->(arrOf XQ).toList=P++sG++T->(pendingOf XQ).toList=PA++(sa,na+nb,pw)::PB->kindOf XQ=kd->failedOf XQ=none->Q true XQ):wpS M A E s (mergeAt' i) Q st:=by
 let hsz:(arrOf st).size=P.length+X.length+Y.length+T.length:=by rw[<-Yw,ea];simp;lia
 let BN:∀j,j<na->∃p,(arrOf st)[sa+j]?=some p/\X[j]?=some p/\S p:=λj hj=>by let e:X[j]?=some X[j]:=Xq D;show⟨X[j],?_,e,hS _<|by rw[ea];simp⟩;rw[<-YH,ea,Yy,Yy,Ym J,Yp sS,show sa+j-P.length=j by lia,e]
 let BM:∀j,j<nb->∃p,(arrOf st)[sb+j]?=some p/\Y[j]?=some p/\S p:=λj hj=>by let e:Y[j]?=some Y[j]:=Xq D;show⟨Y[j],?_,e,hS _<|by rw[ea];simp⟩;rw[<-YH,ea,Yy,Ym (by simp;lia),Yp (by simp;lia),show sb+j-(P++X).length=j by simp;lia,e]
 let Lz:∀{l:List Keyed}(_:l.Pairwise (RK O key)){i j:Nat}{p q:Keyed},i<=j->l[i]?=some p->l[j]?=some q->RK O key p q:=λ{l} sl {i j p q} WJ ei ej=>by
  let⟨h1,rfl⟩:=Xx.mp ei;let⟨h2,rfl⟩:=Xx.mp ej;cases e:i=j
  .subst e;show Qg _
  .show Nx.mp sl i j h1 h2 J
 let bX:∀{j p},X[j]?=some p->j<na->ke key (arrOf st) (sa+j)=key p:=λ{j p} e hj=>by let⟨q,e1,e2,_⟩:=BN j hj;rw[e]at e2;cases e2;show UH e1
 let bW:∀{j p},Y[j]?=some p->j<nb->ke key (arrOf st) (sb+j)=key p:=λ{j p} e hj=>by let⟨q,e1,e2,_⟩:=BM j hj;rw[e]at e2;cases e2;show UH e1
 let pe:((((pendingOf st).setIfInBounds i (sa,na+nb,pw)).eraseIdxIfInBounds (i+1)).toList)=PA++(sa,na+nb,pw)::PB:=by
  let e1:((pendingOf st).setIfInBounds i (sa,na+nb,pw)).toList=PA++(sa,na+nb,pw)::(sb,nb,BO)::PB:=by rw[eR,ep,d8 _ _ J,hi,Nl];rfl
  unfold Array.eraseIdxIfInBounds;let Xk:i+1<((pendingOf st).setIfInBounds i (sa,na+nb,pw)).size:=by rw[<-Yw,e1];simp;lia
  rw[dif_pos Xk,Array.toList_eraseIdx,e1,List.eraseIdx_append_of_length_le J,show i+1-PA.length=1 by grind];rfl
 let gi:(pendingOf st)[i]?=some (sa,na,pw):=by rw[<-YH,ep,Ym D,show i-PA.length=0 by grind];rfl
 let gi1:(pendingOf st)[i+1]?=some (sb,nb,BO):=by rw[<-YH,ep,Ym J,show i+1-PA.length=1 by grind];rfl
 let⟨p0,q1,q2,q3⟩:=BM 0 h6;let fY:∀y∈Y,RK O key p0 y:=λy hy=>by let⟨j,ej⟩:=YF hy;show Lz sY (Yk j) q2 ej
 unfold mergeAt';show YB (QT ?_);rw[gi,gi1];dsimp only;show YB (BP ?_);show YB (Zs q1 ?_);show YB (Fc L hk q3 (λj hj=>by let⟨p,a,_,b⟩:=BN j hj;exists p,a,b) J (λj l Vg hl=>?_) λk Fb hl hr=>?_)
 .let⟨p,e1,e2,_⟩:=BN j J;let⟨q,e3,e4,_⟩:=BN l hl;rw[UH e1,UH e3];show Lz sX Vg e2 e4
 dsimp only;let BL:∀x∈X.take k,RK O key x p0:=λx hx=>by
  let⟨j,ej⟩:=YF hx;let hj:=(Xx.mp ej).1
  rw[Yh]at hj;rw[Qk,if_pos J]at ej
  have:=hl j D
  unfold beyB at this;rw[bX ej sS]at this;simp only[Rw,Ss,xQ]at this;show this
 let BK:∀x∈X.drop k,RK O key p0 x:=λx hx=>by
  let⟨j,ej⟩:=YF hx;let hj:=(Xx.mp ej).1
  rw[WE]at hj;rw[SU]at ej
  have:=hr (k+j) J sS
  unfold beyB at this;rw[bX ej D]at this;simp only[Rw,Ss,t6]at this;show Qj this
 cases c1:na-k=0
 .rw[if_pos (by simpa using c1)];show YM (h (X++Y) _ ?_ (tG _) (by change(arrOf st).toList=_;rw[ea];simp) pe hk hf);rw[YJ];exists sX,sY,λx hx y hy=>Wg (BL x<|by rwa[YO sS])<|fY y hy
 rw[if_neg (by simpa using c1)];let⟨pz,z1,z2,z3⟩:=BN (na-1) sS;rw[show sa+(na-1)=sa+k+(na-k)-1 by lia]at z1;show YB (Zs z1 ?_);show YB (Fc L hk z3 (λj hj=>by let⟨p,a,_,b⟩:=BM j hj;exists p,a,b) sS (λj l Vg hl=>?_) λkb hkb VB UT=>?_)
 .let⟨p,e1,e2,_⟩:=BM j J;let⟨q,e3,e4,_⟩:=BM l hl;rw[UH e1,UH e3];show Lz sY Vg e2 e4
 dsimp only;let Ox:∀x∈X,RK O key x pz:=λx hx=>by
  let⟨j,ej⟩:=YF hx;let hj:=(Xx.mp ej).1
  show Lz sX sS ej z2
 let nW:∀y∈Y.take kb,RK O key y pz:=λy hy=>by
  let⟨j,ej⟩:=YF hy;let hj:=(Xx.mp ej).1
  rw[Yh]at hj;rw[Qk,if_pos J]at ej
  have:=VB j D
  unfold beyB at this;rw[bW ej sS]at this;show Qj this
 let Ow:∀y∈Y.drop kb,RK O key pz y:=λy hy=>by
  let⟨j,ej⟩:=YF hy;let hj:=(Xx.mp ej).1
  rw[WE]at hj;rw[SU]at ej
  have:=UT (kb+j) J sS
  unfold beyB at this;rwa[bW ej D]at this
 cases c2:kb=0
 .rw[if_pos (by simpa using c2)];show YM (h (X++Y) _ ?_ (tG _) (by change(arrOf st).toList=_;rw[ea];simp) pe hk hf);rw[YJ];exists sX,sY,λx hx y hy=>Wg (Ox x hx)<|Ow y<|by rwa[c2,Kz]
 rw[if_neg (by simpa using c2)];let eX:((arrOf st).extract (sa+k) sb).toList=X.drop k:=by rw[FO,FU,ea,Yy,Yy,xM,YQ J,Pz,Py J,FV (by rw[WE];grind),show sa+k-P.length=k by grind];show YO (by rw[WE];omega)
 let eY:((arrOf st).extract sb (sb+kb)).toList=Y.take kb:=by rw[FO,FU,ea,Yy,xM,YQ (by simp;omega),Pz,show sb-(P++X).length=0 by simp;omega,Kz,FV D,ui]
 let zX:((arrOf st).extract (sa+k) sb).size=na-k:=by rw[<-Yw,eX,WE];omega
 let zY:((arrOf st).extract sb (sb+kb)).size=kb:=by rw[<-Yw,eY,Yh];omega
 let pX:=ML k X;let pY:=ML kb Y
 let sX2:(X.drop k).Pairwise (RK O key):=sX.sublist (Pr _ _);let sY1:(Y.take kb).Pairwise (RK O key):=sY.sublist (MJ _ _)
 let cX:∀x∈X.take k,∀y∈X.drop k,RK O key x y:=by
  have:=sX
  rw[<-pX,YJ]at this;show this.2.2
 let cY:∀x∈Y.take kb,∀y∈Y.drop kb,RK O key x y:=by
  have:=sY
  rw[<-pY,YJ]at this;show this.2.2
 let bV:∀x∈((arrOf st).extract sb (sb+kb)).toList.take 1,∀y∈((arrOf st).extract (sa+k) sb).toList,RK O key x y:=λx hx y hy=>by
  rw[eY,tI,show min 1 kb=1 by omega]at hx;rw[eX]at hy
  have:x=p0:=by
   obtain⟨y0,l,e⟩:∃y0 l,Y=y0::l:=by
    cases hY:Y with
    |nil=>rw[hY]at h4;simp at h4;omega
    |cons y0 l=>exists y0,l,Z
   rw[e]at hx q2;simp at hx q2;rw[hx,q2]
  rw[this];show BK y hy
 let hd2:∀x∈((arrOf st).extract sb (sb+kb)).toList,∀y∈((arrOf st).extract (sa+k) sb).toList.drop (((arrOf st).extract (sa+k) sb).size-1),RK O key x y:=λx hx y hy=>by
  rw[eY]at hx;rw[eX,zX,Ea,show k+(na-k-1)=na-1 by omega]at hy
  have:y=pz:=by let⟨Xk,ez⟩:=Xx.mp z2;rw[FT Xk,ez,YQ D]at hy;show XG.mp hy
  rw[this];show nW x hx
 let fin:∀(r:Array Keyed)(g:Nat)(ar:Array Keyed),ar=arrOf st->Vo O key ((arrOf st).extract (sa+k) sb).toList ((arrOf st).extract sb (sb+kb)).toList r->
   Q true (SortSt.mk' (kindOf st) (List.foldl (λa x=>match x with|(p,j)=>a.setIfInBounds (sa+k+j) p) ar r.toList.zipIdx) (((pendingOf st).setIfInBounds i (sa,na+nb,pw)).eraseIdxIfInBounds (i+1)) g<|failedOf st):=by
  rintro r g _ rfl ⟨gs,gp⟩;rw[eX,eY]at gp;let rl:r.toList.length=na-k+kb:=by rw[gp.length_eq,Xt,WE,Yh];omega
  show h (X.take k++r.toList++Y.drop kb) _ ?_ ?_ ?_ pe hk hf
  .rw[YJ,YJ];exists ⟨sX.sublist<|MJ _ _,gs,λx hx y hy=>?_⟩,sY.sublist<|Pr _ _,λx hx y hy=>?_
   .rcases XA.mp (gp.mem_iff.mp hy) with hy|hy
    .show cX x hx y hy
    .show Wg (BL x hx) (fY y<|VR hy)
   .rcases XA.mp hx with hx|hx
    .show Wg (Ox x<|VR hx) (Ow y hy)
    .rcases XA.mp (gp.mem_iff.mp hx) with hx|hx
     .show Wg (Ox x<|MK hx) (Ow y hy)
     .show cY x hx y hy
  .let p1:(X.take k++r.toList++Y.drop kb).Perm (X.take k++(X.drop k++Y.take kb)++Y.drop kb):=En _ (Nw _ gp);show p1.trans (List.Perm.of_eq ?_);rw[<-Yy,pX,Yy,pY]
  .let e:=bY r.toList (sa+k) 0 (arrOf st) (by rw[rl];omega);show e.trans ?_;rw[Nat.add_zero,rl,ea];let t1:(P++X++Y++T).take (sa+k)=P++X.take k:=by rw[Yy,Yy,List.take_append,YO D,FV D,show sa+k-P.length=k by omega]
   let t2:(P++X++Y++T).drop (sa+k+(na-k+kb))=Y.drop kb++T:=by rw[Yy,xM,YQ (by simp;omega),Pz,show sa+k+(na-k+kb)-(P++X).length=kb by simp;omega,Py D]
   rw[t1,t2];simp
 let bU:∀x∈((arrOf st).extract (sa+k) sb).toList,S x:=λx hx=>hS x (by rw[eX]at hx;rw[ea];simp[MK hx]);let bT:∀x∈((arrOf st).extract sb (sb+kb)).toList,S x:=λx hx=>hS x (by rw[eY]at hx;rw[ea];simp[VR hx])
 let sx:((arrOf st).extract (sa+k) sb).toList.Pairwise (RK O key):=by rwa[eX]
 let sy:((arrOf st).extract sb (sb+kb)).toList.Pairwise (RK O key):=by rwa[eY]
 split
 .show YB (ZV5 L hk bU bT sx sy (by rw[zX];omega) (by rw[zY];omega) bV hd2 λr g hg=>?_);show YB (Pq<|YB<|QT<|YM ?_);change Q (failedOf st).isNone _
  rw[hf]
  have:=fin r g _ Z hg
  rwa[hf]at this
 .show YB (ZW5 L hk bU bT sx sy (by rw[zX];omega) (by rw[zY];omega) bV hd2 λr g hg=>?_);show YB (Pq<|YB<|QT<|YM ?_);change Q (failedOf st).isNone _
  rw[hf]
  have:=fin r g _ Z hg
  rwa[hf]at this
def Stp(lo:Nat)(st XQ:SortSt):(Prop):=kindOf XQ=kindOf st/\failedOf XQ=failedOf st/\pendingOf XQ=pendingOf st/\(arrOf XQ).Perm (arrOf st)/\∀i,i<lo->(arrOf XQ)[i]?=(arrOf st)[i]?
def Stp.refl(lo:Nat)(st:SortSt):Stp lo st st:=⟨Z,Z,Z,Eb _,λ_ _=>rfl⟩
def Stp.trans{lo:Nat}{a b c:SortSt}(h:Stp lo a b)(k:Stp lo b c):Stp lo a c:=⟨k.1.trans h.1,k.2.1.trans h.2.1,k.2.2.1.trans h.2.2.1,k.2.2.2.1.trans h.2.2.2.1,λi hi=>(k.2.2.2.2 i hi).trans (h.2.2.2.2 i hi)⟩
def Stp.size{lo:Nat}{a b:SortSt}(h:Stp lo a b):(arrOf b).size=(arrOf a).size:=h.2.2.2.1.size_eq
def Stp.all{lo:Nat}{a b:SortSt}(h:Stp lo a b)(hS:∀x∈(arrOf a).toList,S x):∀x∈(arrOf b).toList,S x:=λx hx=>hS x ((Ur.mp h.2.2.2.1).mem_iff.mp hx)
def Stp.mirror{lo i j:Nat}{st:SortSt}(hi:lo<=i)(hj:j<=(arrOf st).size):Stp lo st (setArr st (PyProof.Rows.mirror (arrOf st) i j ((j-i)/2))):=
 ⟨Z,Z,Z,mirror_perm _ _ _ _,λk hk=>by change(PyProof.Rows.mirror (arrOf st) i j<|(j-i)/2)[k]?=_;rw[tq hj,if_neg J]⟩
def Stp.bubble{lo src d:Nat}{st:SortSt}(hs:src<(arrOf st).size)(hd:d<=src)(Ng:lo<=src-d):Stp lo st (setArr st (PyProof.Rows.bubble (arrOf st) src d)):=
 ⟨Z,Z,Z,bubble_perm _ _ _,λk hk=>by change(PyProof.Rows.bubble (arrOf st) src d)[k]?=_;rw[getElem?_bubble hs d hd,if_neg J,if_neg J]⟩
def BJ(h:xs[i]?=ys[j]?):ke key xs i=ke key ys j:=by unfold ke;rw[YA,YA,h]
def Ly(hj:j<=xs.size)(k:Nat):ke key (mirror xs i j ((j-i)/2)) k=if i<=k/\k<j then ke key xs (i+j-1-k) else ke key xs k:=by
 let e:=tq (i:=i) hj k;split
 .rename_i h;rw[if_pos h]at e;show BJ e
 .rename_i h;rw[if_neg h]at e;show BJ e
def bS(hs:src<xs.size)(hd:d<=src)(k:Nat):ke key (bubble xs src d) k=if k=src-d then ke key xs src else if src-d<k/\k<=src then ke key xs (k-1) else ke key xs k:=by
 let e:=getElem?_bubble hs d hd k;split
 .rename_i h;rw[if_pos h]at e;show BJ e
 .rename_i h;rw[if_neg h]at e;split
  .rename_i h;rw[if_pos h]at e;show BJ e
  .rename_i h;rw[if_neg h]at e;show BJ e
def BI(L:WA M A E s O key kd S){st:SortSt}{Q:Option Bool->SortSt->Prop}(hk:kindOf st=kd)(hS:∀x∈(arrOf st).toList,S x)(hi:i<(arrOf st).size)(hj:j<(arrOf st).size)
  (h:Q (some<|O.blt (ke key (arrOf st) i)<|ke key (arrOf st) j) st):wpS M A E s (ltAt' i j) Q st:=by
 let e1:=Tn (arrOf st) i hi;let e2:=Tn (arrOf st) j hj
 rw[UH e1,UH e2]at h;rw[ltAt'_eq];show YB (QT ?_);show YB (Zs e1<|YB<|Zs e2 ?_);show L _ _ _ _ (hS _ B) (hS _ B) hk h
def JM{st:SortSt}{Q:Unit->SortSt->Prop}(h:Q () (setArr st (mirror (arrOf st) i j ((j-i)/2)))):wpS M A E s (reverseSlice' i j) Q st:=by rw[reverseSlice'_eq];show Pq h
def UG(O:KeyOrd)(key:Keyed->O.α)(arr:Array Keyed)(lo k:Nat):(Prop):=∀i j,i<=j->j<k->O.kle (ke key arr<|lo+i) (ke key arr<|lo+j)
def UY(O:KeyOrd)(key:Keyed->O.α)(arr:Array Keyed)(lo k:Nat):(Prop):=∀i j,i<=j->j<k->O.kle (ke key arr<|lo+j) (ke key arr<|lo+i)
def BH(lo a WN:Nat):(StateT SortSt Sem (Option (Option Nat)×Nat)):=forIn [a:WN] ((none,a):Option (Option Nat)×Nat) λ_ r=>do
 let x <-ltAt' (lo+r.2) (lo+r.2-1)
 match x with
 |some b=>if b=true then pure (.done (none,r.2)) else pure (.yield (none,r.2+1))
 |_=>pure (.done (some none,r.2))
def BG(L:WA M A E s O key kd S){st:SortSt}{lo a WN:Nat}{Q:Option (Option Nat)×Nat->SortSt->Prop}(hk:kindOf st=kd)(hS:∀x∈(arrOf st).toList,S x)(hn:lo+WN<=(arrOf st).size)(ha:1<=a)(han:a<=WN)(hs:UG O key (arrOf st) lo a)
  (h:∀n,a<=n->n<=WN->UG O key (arrOf st) lo n->(n=WN\/O.klt (ke key (arrOf st)<|lo+n) (ke key (arrOf st)<|lo+n-1))->Q (none,n) st):wpS M A E s (BH lo a WN) Q st:=by
 unfold BH;show SW (I:=λx c XQ=>XQ=st/\c=(none,x)/\UG O key (arrOf st) lo x) ?_ ?_ ⟨Z,Z,hs⟩
 .rintro x c XQ nV hxn ⟨rfl,rfl,Wd⟩;show YB (BI L hk hS J J ?_);dsimp only;cases e:O.blt (ke key (arrOf XQ)<|lo+x) (ke key (arrOf XQ)<|lo+x-1) with
  |true=>
   rw[if_pos Z];show YM (h x nV J Wd<|.inr e)
  |false=>
   rw[if_neg B];show YM ⟨Z,Z,λi j WJ hj=>?_⟩;cases BF:j<x
   .show Wd i j WJ BF
   .let OI:j=x:=J;subst OI;cases Tw:i=j
    .subst Tw;show Qg _
    .have:=Wd i (j-1) J J
     rw[show lo+(j-1)=lo+j-1 by lia]at this;show Wg this e
 .rintro c XQ ⟨rfl,rfl,Wd⟩;rw[show max a WN=WN by lia]at Wd ⊢;show h WN han (XM _) Wd (.inl Z)
def JL(lo n WN:Nat):(StateT SortSt Sem (Option (Option Nat)×Nat×Nat)):=forIn [n:WN] ((none,n,0):Option (Option Nat)×Nat×Nat) λ_ r=>do
 let x <-ltAt' (lo+r.2.1) (lo+r.2.1-1)
 match x with
 |some b=>
  if b=true then
   if r.2.2>0 then do
    reverseSlice' (lo+r.2.1-(r.2.2+1)) (lo+r.2.1)
    pure (.yield (none,r.2.1+1,0))
   else pure (.yield (none,r.2.1+1,0))
  else do
   let y <-ltAt' (lo+r.2.1-1) (lo+r.2.1)
   match y with
   |some c=>if c=true then pure (.done (none,r.2.1,r.2.2)) else pure (.yield (none,r.2.1+1,r.2.2+1))
   |_=>pure (.done (some none,r.2.1,r.2.2))
 |_=>pure (.done (some none,r.2.1,r.2.2))
def ZB(hj:j<=xs.size)(he:∀k,i<=k->k<j->ke key xs k=ke key xs (j-1))(k:Nat):ke key (mirror xs i j ((j-i)/2)) k=ke key xs k:=by
 rw[Ly hj];split
 .rw[he _ D D,he k J J]
 .rfl
def bR(L:WA M A E s O key kd S){st:SortSt}{lo n WN:Nat}{Q:Option (Option Nat)×Nat×Nat->SortSt->Prop}(hk:kindOf st=kd)(hS:∀x∈(arrOf st).toList,S x)(hn:lo+WN<=(arrOf st).size)(h1:1<=n)(hnn:n<=WN)(hs:UY O key (arrOf st) lo n)
  (h:∀m Vy XQ,Stp lo st XQ->n<=m->m<=WN->UY O key (arrOf XQ) lo m->Vy+1<=m->(∀i,lo+m-(Vy+1)<=i->i<lo+m->ke key (arrOf XQ) i=ke key (arrOf XQ) (lo+m-1))->Q (none,m,Vy) XQ):wpS M A E s (JL lo n WN) Q st:=by
 unfold JL;show SW (I:=λx c XQ=>∃Vy,c=(none,x,Vy)/\Stp lo st XQ/\UY O key (arrOf XQ) lo x/\Vy+1<=x/\(∀i,lo+x-(Vy+1)<=i->i<lo+x->ke key (arrOf XQ) i=ke key (arrOf XQ) (lo+x-1))) ?_ ?_ ⟨0,Z,Stp.refl _ _,hs,J,λi h1 h2=>by congr 1;lia⟩
 .rintro x c XQ nV hxn ⟨Vy,rfl,Wn,Wd,hq,he⟩;let Ux:=Wn.1.trans hk
  let Uh:=Wn.all hS;let hz:=Wn.size
  dsimp only;show YB (BI L Ux Uh J J ?_);dsimp only;cases e:O.blt (ke key (arrOf XQ)<|lo+x) (ke key (arrOf XQ)<|lo+x-1) with
  |true=>
   rw[if_pos Z];let non:∀ar,(∀k,k<=lo+x->ke key ar k=ke key (arrOf XQ) k)->UY O key ar lo (x+1):=λar bQ i j WJ hj=>by
    rw[bQ _ J,bQ _ J];cases BF:j<x
    .show Wd i j WJ BF
    .let OI:j=x:=J;subst OI;cases Tw:i=j
     .subst Tw;show Qg _
     .have:=Wd i (j-1) J J
      rw[show lo+(j-1)=lo+j-1 by lia]at this;show Wg (Qj e) this
   cases c:Vy>0
   .rw[if_pos c];show YB (JM<|YM ⟨0,Z,Wn.trans<|Stp.mirror J J,?_,J,λi h1 h2=>by congr 1;lia⟩);show non _ λk hk=>ZB J he k
   .rw[if_neg c];show YM ⟨0,Z,Wn,non _ λ_ _=>rfl,D,λi h1 h2=>by congr 1;omega⟩
  |false=>
   rw[if_neg B];show YB (BI L Ux Uh D D ?_);dsimp only;cases e2:O.blt (ke key (arrOf XQ)<|lo+x-1) (ke key (arrOf XQ)<|lo+x) with
   |true=>
    rw[if_pos Z];show YM (h x Vy XQ Wn nV J Wd hq he)
   |false=>
    rw[if_neg B];let eq:ke key (arrOf XQ) (lo+x-1)=ke key (arrOf XQ) (lo+x):=O.total _ _ e2 e
    show YM ⟨Vy+1,Z,Wn,λi j WJ hj=>?_,J,λi h1 h2=>?_⟩
    .cases BF:j<x
     .show Wd i j WJ BF
     .let OI:j=x:=D;subst OI;cases Tw:i=j
      .subst Tw;show Qg _
      .have:=Wd i (j-1) D D
       rwa[show lo+(j-1)=lo+j-1 by omega,eq]at this
    .rw[show lo+(x+1)-1=lo+x by lia,<-eq];cases hi:i<lo+x
     .show he i J hi
     .rw[show i=lo+x by lia,eq]
 .rintro c XQ ⟨Vy,rfl,Wn,Wd,hq,he⟩;rw[show max n WN=WN by lia]at *;show h WN Vy XQ Wn hnn (XM _) Wd hq he
def Zr6(L:WA M A E s O key kd S){st:SortSt}{lo WN:Nat}{Q:Option Nat->SortSt->Prop}(hk:kindOf st=kd)(hS:∀x∈(arrOf st).toList,S x)(hn:lo+WN<=(arrOf st).size)(h1:1<=WN)
  (h:∀m XQ,Stp lo st XQ->1<=m->m<=WN->UG O key (arrOf XQ) lo m->Q (some m) XQ):wpS M A E s (countRun' lo WN) Q st:=by
 rw[countRun'_eq];let one:UG O key (arrOf st) lo 1:=λi j WJ hj=>by
  have:i=j:=J
  subst this;show Qg _
 show YB (BG L hk hS hn (XM _) h1 one λn EY OZ hs hx=>?_);dsimp only;cases c1:n=WN
 .rw[if_pos (by simpa using c1)];show YM (h n st (Stp.refl _ _) EY OZ hs)
 rw[if_neg (by simpa using c1)];let Xk:O.klt (ke key (arrOf st)<|lo+n) (ke key (arrOf st)<|lo+n-1):=hx.resolve_left c1
 cases c2:n>1
 .rw[if_pos c2];show YB (BI L hk hS J J ?_);dsimp only;cases e:O.blt (ke key (arrOf st) lo) (ke key (arrOf st)<|lo+n-1) with
  |true=>
   rw[if_pos Z];show YM (h n st (Stp.refl _ _) EY OZ hs)
  |false=>
   rw[if_neg B];show YB (JM ?_);let t1:Stp lo st (setArr st<|mirror (arrOf st) lo (lo+n)<|(lo+n-lo)/2):=Stp.mirror (XM _) J
   let eqs:∀k,lo<=k->k<lo+n->ke key (arrOf st) k=ke key (arrOf st) (lo+n-1):=λk k1 k2=>by
    let a1:=hs (k-lo) (n-1) sS J;let a2:=hs 0 (k-lo) J sS
    rw[show lo+(k-lo)=k by grind,show lo+(n-1)=lo+n-1 by lia]at a1;rw[show lo+(k-lo)=k by omega,Nat.add_zero]at a2;show KeyOrd.kle_antisymm a1 (Wg e a2)
   let RH:UY O key (mirror (arrOf st) lo (lo+n)<|(lo+n-lo)/2) lo (n+1):=λi j WJ hj=>by
    rw[ZB J eqs,ZB D eqs];cases hjn:j<n
    .rw[eqs (lo+i) J J,eqs (lo+j) J J];show Qg _
    .let OI:j=n:=J;subst OI;cases Tw:i=j
     .subst Tw;show Qg _
     .rw[eqs (lo+i) J J];show Qj Xk
   obtain⟨Sm,e1⟩:∃Sm,Sm=setArr st (mirror (arrOf st) lo (lo+n)<|(lo+n-lo)/2):=⟨_,Z⟩;let RH:UY O key (arrOf Sm) lo (n+1):=by rwa[e1]
   rw[<-e1]at t1 ⊢;show YB (wpS_lift<|Qe ⟨Z,?_⟩);show YB (bR L (t1.1.trans hk) (t1.all hS) (by have:=t1.size;lia) J J RH λm Vy Xg nU TU WI Ov nT heq=>?_);dsimp only;let t2:=t1.trans nU
   cases c3:Vy>0
   .rw[if_pos c3];show YB (JM ?_);let t3:Stp lo st (setArr Xg<|mirror (arrOf Xg) (lo+m-(Vy+1)) (lo+m)<|(lo+m-(lo+m-(Vy+1)))/2):=t2.trans (Stp.mirror J (by have:=t2.size;lia))
    let Vl:UY O key (mirror (arrOf Xg) (lo+m-(Vy+1)) (lo+m)<|(lo+m-(lo+m-(Vy+1)))/2) lo m:=λi j WJ hj=>by rw[ZB (by have:=t2.size;lia) heq,ZB (by have:=t2.size;omega) heq];show Ov i j WJ hj
    obtain⟨WK,e3⟩:∃WK,WK=setArr Xg (mirror (arrOf Xg) (lo+m-(Vy+1)) (lo+m)<|(lo+m-(lo+m-(Vy+1)))/2):=⟨_,Z⟩;let Vl:UY O key (arrOf WK) lo m:=by rwa[e3]
    rw[<-e3]at t3 ⊢;show YB (JM ?_);let t4:Stp lo st (setArr WK<|mirror (arrOf WK) lo (lo+m)<|(lo+m-lo)/2):=t3.trans (Stp.mirror (XM _) (by have:=t3.size;lia))
    show YB (BG L (t4.1.trans hk) (t4.all hS) (by have:=t4.size;lia) J WI ?_ λq EX Sj Ou _=>?_)
    .intro i j WJ hj;change O.kle (ke key (mirror (arrOf WK) lo (lo+m)<|(lo+m-lo)/2)<|lo+i) (ke key (mirror (arrOf WK) lo (lo+m)<|(lo+m-lo)/2)<|lo+j)
     rw[Ly (by have:=t3.size;lia),Ly (by have:=t3.size;omega),if_pos J,if_pos J,show lo+(lo+m)-1-(lo+i)=lo+(m-1-i) by lia,show lo+(lo+m)-1-(lo+j)=lo+(m-1-j) by lia];show Vl _ _ sS sS
    .show YM (h q _ t4 J Sj Ou)
   .rw[if_neg c3];let t3:=t2
    let Vl:=Ov;obtain⟨WK,e3⟩:∃WK,WK=Xg:=⟨_,Z⟩;rw[<-e3]at t3 Vl ⊢;show YB (JM ?_);let t4:Stp lo st (setArr WK<|mirror (arrOf WK) lo (lo+m)<|(lo+m-lo)/2):=t3.trans (Stp.mirror (XM _) (by have:=t3.size;omega))
    show YB (BG L (t4.1.trans hk) (t4.all hS) (by have:=t4.size;omega) J WI ?_ λq EX Sj Ou _=>?_)
    .intro i j WJ hj;change O.kle (ke key (mirror (arrOf WK) lo (lo+m)<|(lo+m-lo)/2)<|lo+i) (ke key (mirror (arrOf WK) lo (lo+m)<|(lo+m-lo)/2)<|lo+j)
     rw[Ly (by have:=t3.size;omega),Ly (by have:=t3.size;omega),if_pos D,if_pos D,show lo+(lo+m)-1-(lo+i)=lo+(m-1-i) by omega,show lo+(lo+m)-1-(lo+j)=lo+(m-1-j) by omega];show Vl _ _ D D
    .show YM (h q _ t4 J Sj Ou)
 .rw[if_neg c2];let t1:=Stp.refl lo st
  let RH:UY O key (arrOf st) lo (n+1):=λi j WJ hj=>by
   cases Tw:i=j
   .subst Tw;show Qg _
   .let h3:i=0:=J;let h4:j=n:=J
    subst h3 h4;rw[show lo+0=lo+j-1 by lia];show Qj Xk
  obtain⟨Sm,e1⟩:∃Sm,Sm=st:=⟨_,Z⟩;let RH:UY O key (arrOf Sm) lo (n+1):=by rwa[e1]
  let t1:Stp lo st Sm:=by rwa[e1]
  rw[<-e1];show YB (wpS_lift<|Qe ⟨Z,?_⟩);show YB (bR L (t1.1.trans hk) (t1.all hS) (by have:=t1.size;omega) J J RH λm Vy Xg nU TU WI Ov nT heq=>?_);dsimp only;let t2:=t1.trans nU
  cases c3:Vy>0
  .rw[if_pos c3];show YB (JM ?_);let t3:Stp lo st (setArr Xg<|mirror (arrOf Xg) (lo+m-(Vy+1)) (lo+m)<|(lo+m-(lo+m-(Vy+1)))/2):=t2.trans (Stp.mirror D (by have:=t2.size;omega))
   let Vl:UY O key (mirror (arrOf Xg) (lo+m-(Vy+1)) (lo+m)<|(lo+m-(lo+m-(Vy+1)))/2) lo m:=λi j WJ hj=>by rw[ZB (by have:=t2.size;omega) heq,ZB (by have:=t2.size;omega) heq];show Ov i j WJ hj
   obtain⟨WK,e3⟩:∃WK,WK=setArr Xg (mirror (arrOf Xg) (lo+m-(Vy+1)) (lo+m)<|(lo+m-(lo+m-(Vy+1)))/2):=⟨_,Z⟩;let Vl:UY O key (arrOf WK) lo m:=by rwa[e3]
   rw[<-e3]at t3 ⊢;show YB (JM ?_);let t4:Stp lo st (setArr WK<|mirror (arrOf WK) lo (lo+m)<|(lo+m-lo)/2):=t3.trans (Stp.mirror (XM _) (by have:=t3.size;omega))
   show YB (BG L (t4.1.trans hk) (t4.all hS) (by have:=t4.size;omega) J WI ?_ λq EX Sj Ou _=>?_)
   .intro i j WJ hj;change O.kle (ke key (mirror (arrOf WK) lo (lo+m)<|(lo+m-lo)/2)<|lo+i) (ke key (mirror (arrOf WK) lo (lo+m)<|(lo+m-lo)/2)<|lo+j)
    rw[Ly (by have:=t3.size;omega),Ly (by have:=t3.size;omega),if_pos D,if_pos D,show lo+(lo+m)-1-(lo+i)=lo+(m-1-i) by omega,show lo+(lo+m)-1-(lo+j)=lo+(m-1-j) by omega];show Vl _ _ D D
   .show YM (h q _ t4 D Sj Ou)
  .rw[if_neg c3];let t3:=t2
   let Vl:=Ov;obtain⟨WK,e3⟩:∃WK,WK=Xg:=⟨_,Z⟩;rw[<-e3]at t3 Vl ⊢;show YB (JM ?_);let t4:Stp lo st (setArr WK<|mirror (arrOf WK) lo (lo+m)<|(lo+m-lo)/2):=t3.trans (Stp.mirror (XM _) (by have:=t3.size;omega))
   show YB (BG L (t4.1.trans hk) (t4.all hS) (by have:=t4.size;omega) D WI ?_ λq EX Sj Ou _=>?_)
   .intro i j WJ hj;change O.kle (ke key (mirror (arrOf WK) lo (lo+m)<|(lo+m-lo)/2)<|lo+i) (ke key (mirror (arrOf WK) lo (lo+m)<|(lo+m-lo)/2)<|lo+j)
    rw[Ly (by have:=t3.size;omega),Ly (by have:=t3.size;omega),if_pos D,if_pos D,show lo+(lo+m)-1-(lo+i)=lo+(m-1-i) by omega,show lo+(lo+m)-1-(lo+j)=lo+(m-1-j) by omega];show Vl _ _ D D
   .show YM (h q _ t4 D Sj Ou)
def ZY5(L:WA M A E s O key kd S){st:SortSt}{lo n ok:Nat}{Q:Bool->SortSt->Prop}(hk:kindOf st=kd)(hS:∀x∈(arrOf st).toList,S x)(hn:lo+n<=(arrOf st).size)(hok:ok<=n)(hs:UG O key (arrOf st) lo ok)
  (h:∀XQ,Stp lo st XQ->UG O key (arrOf XQ) lo n->Q true XQ):wpS M A E s (binarySort' lo n ok) Q st:=by
 rw[binarySort'_eq];show YB (Sa (SW (I:=λk c XQ=>c=(none,())/\Stp lo st XQ/\UG O key (arrOf XQ) lo (min k n))
  (Q:=λc XQ=>c=(none,())/\Stp lo st XQ/\UG O key (arrOf XQ) lo n) ?_ ?_ ?_) ?_)
 .rintro k c XQ Ot Fb ⟨rfl,Wn,Wd⟩;rw[show min k n=k by lia]at Wd;let hz:=Wn.size
  let Ux:=Wn.1.trans hk;let Uh:=Wn.all hS
  show YB (Sa (SW (I:=λx c UE=>UE=XQ/\∃l r,c=(none,l,r)/\l<=r/\r<=k/\r-l<=k-x/\
    (∀i,i<l->O.kle (ke key (arrOf XQ)<|lo+i) (ke key (arrOf XQ)<|lo+k))/\(∀i,r<=i->i<k->O.klt (ke key (arrOf XQ)<|lo+k) (ke key (arrOf XQ)<|lo+i)))
   (Q:=λc UE=>UE=XQ/\∃l r,c=(none,l,r)/\l<=k/\
    (∀i,i<l->O.kle (ke key (arrOf XQ)<|lo+i) (ke key (arrOf XQ)<|lo+k))/\(∀i,l<=i->i<k->O.klt (ke key (arrOf XQ)<|lo+k) (ke key (arrOf XQ)<|lo+i))) ?_ ?_ ⟨Z,0,k,Z,J,J,J,λi hi=>J,λi h1 h2=>J⟩) ?_)
  .rintro x c UE _ hxk ⟨rfl,l,r,rfl,hlr,nS,hm,Ng,EW⟩;dsimp only;cases Tu:l >= r
   .rw[if_pos Tu]
    have:l=r:=J
    subst this;show YM ⟨Z,l,l,Z,nS,Ng,EW⟩
   .rw[if_neg Tu];show YB (BI L Ux Uh J J ?_);dsimp only;cases JK:O.blt (ke key (arrOf UE)<|lo+k) (ke key (arrOf UE)<|lo+(l+r)/2) with
    |true=>
     rw[if_pos Z];show YM ⟨Z,l,(l+r)/2,Z,J,J,sS,Ng,λi h1 h2=>?_⟩;show KeyOrd.klt_of_klt_of_kle JK (Wd _ _ h1 h2)
    |false=>
     rw[if_neg B];show YM ⟨Z,(l+r)/2+1,r,Z,J,J,sS,λi h1=>?_,EW⟩;show Wg (Wd i ((l+r)/2) J J) (show O.kle _ _ from JK)
  .rintro c UE ⟨rfl,l,r,rfl,hlr,nS,hm,Ng,EW⟩
   have:l=r:=sS
   subst this;exists Z,l,l,Z,nS,Ng,EW
  .rintro c UE ⟨rfl,l,r,rfl,hlk,Ng,EW⟩;dsimp only;rw[moveDown'_eq];show YB (Pq<|YM ⟨Z,Wn.trans<|Stp.bubble J sS J,?_⟩);rw[show min (k+1) n=k+1 by lia];let Si:lo+k<(arrOf UE).size:=D
   intro i j WJ hj;change O.kle (ke key (bubble (arrOf UE) (lo+k)<|lo+k-(lo+l))<|lo+i) (ke key (bubble (arrOf UE) (lo+k)<|lo+k-(lo+l))<|lo+j)
   rw[bS Si sS,bS Si D,show lo+k-(lo+k-(lo+l))=lo+l by grind];let BE:∀i,l<i->lo+i-1=lo+(i-1):=λi hi=>J
   repeat' split
   all_goals first
    | (exfalso;omega)
    |show Qg _
    |show Ng _ D
    |show Wd _ _ D D
    | (rw[BE j sS];show Qj<|EW _ J J)
    | (rw[BE j D];show Wd _ _ D D)
    | (rw[BE i sS,BE j sS];show Wd _ _ J J)
    | (rw[BE i D];show Wd _ _ D D)
 .rintro c XQ ⟨hc,Wn,Wd⟩;exists hc,Wn,?_
  rwa[show min (max (max ok 1) n) n=n by lia]at Wd
 .exists Z,Stp.refl _ _,λi j WJ hj=>?_;cases h1:ok=0
  .have:i=j:=J
   subst this;show Qg _
  .show hs i j WJ J
 .rintro c XQ ⟨rfl,Wn,Wd⟩;show YM (h XQ Wn Wd)
def VI:(List (List Keyed)->Nat->List (Nat×Nat))
 |[],_=>[]
 |g::gs,o=>(o,g.length)::VI gs (o+g.length)
def Hq:∀a b o,VI (a++b) o=VI a o++VI b (o+a.flatten.length)
 |[],b,o=>by simp[VI]
 |g::gs,b,o=>by simp[VI,Hq gs b,Nat.add_assoc]
def nR:∀a o,(VI a o).length=a.length
 |[],o=>rfl
 |g::gs,o=>by simp[VI,nR gs]
structure PI(O:KeyOrd)(key:Keyed->O.α)(kd:SortKind)(a₀:Array Keyed)(st:SortSt)(segs:List (List Keyed))(rest:List Keyed):Prop where
 kind:kindOf st=kd
 fail:failedOf st=none
 perm:(arrOf st).Perm a₀
 arr:(arrOf st).toList=segs.flatten++rest
 srt:∀g∈segs,1<=g.length/\g.Pairwise (RK O key)
 pend:(pendingOf st).toList.map (λp=>(p.1,p.2.1))=VI segs 0
def PI.psize{st:SortSt}(h:PI O key kd a₀ st segs rest):(pendingOf st).size=segs.length:=by
 have:=YV List.length h.pend
 rwa[Yc,nR,Yw]at this
def PI.size{st:SortSt}(h:PI O key kd a₀ st segs rest):a₀.size=segs.flatten.length+rest.length:=by rw[<-h.perm.size_eq,<-Yw,h.arr,Xt]
def bP:∀{segs:List (List Keyed)},(∀g∈segs,1<=g.length/\g.Pairwise (RK O key))->segs.length<=segs.flatten.length
 |[],_=>XM _
 |g::gs,h=>by
  have:=bP (segs:=gs) λx hx=>h x (Yf _ hx)
  have:=(h g Yd).1
  simp;simp at *
  lia
def nQ(L:WA M A E s O key kd S)(hS:∀x∈a₀.toList,S x){st:SortSt}{Q:Bool->SortSt->Prop}(h:PI O key kd a₀ st segs rest)(hi:i+1<segs.length)
  (q:∀XQ Oq,PI O key kd a₀ XQ Oq rest->Oq.length+1=segs.length->Oq.flatten.length=segs.flatten.length->Q true XQ):wpS M A E s (mergeAt' i) Q st:=by
 obtain⟨S1,X,Y,S2,e,hl⟩:∃S1 X Y S2,segs=S1++X::Y::S2/\S1.length=i:=by show⟨segs.take i,segs[i],segs[i+1],segs.drop<|i+2,?_,by rw[Yh];lia⟩;rw[<-FT (i:=i+1) J,<-FT (i:=i) D,ML]
 subst e;let hp:=h.pend
 rw[Hq,Tj]at hp;let⟨PA,PR,e1,e2,e3⟩:=List.map_eq_append_iff.mp hp;simp only[VI]at e3;let⟨p1,PR1,e4,e5,e6⟩:=List.map_eq_cons_iff.mp e3;let⟨p2,PB,e7,e8,e9⟩:=List.map_eq_cons_iff.mp e6;let⟨sa,na,pw⟩:=p1;let⟨sb,nb,BO⟩:=p2;cases e5;cases e8;let hPA:PA.length=i:=by
  have:=YV List.length e2
  rw[Yc,nR]at this;lia
 let hX:=h.srt X B;let hY:=h.srt Y B
 let ep:(pendingOf st).toList=PA++(S1.flatten.length,X.length,pw)::(S1.flatten.length+X.length,Y.length,BO)::PB:=by rw[e1,e4,e7];rfl
 show ZX5 (P:=S1.flatten) (X:=X) (Y:=Y) (T:=S2.flatten++rest) L h.kind h.fail (by rw[h.arr];simp) (λx hx=>hS x<|(Ur.mp h.perm).mem_iff.mp hx) ep hPA Z Z Z Z hX.1 hY.1 hX.2 hY.2 λsG XQ z1 z2 z3 z4 z5 z6=>?_;let zl:sG.length=X.length+Y.length:=by rw[z2.length_eq,Xt]
 show q XQ (S1++sG::S2) ⟨z5,z6,?_,by rw[z3];simp,?_,?_⟩ (by simp;omega) (by simp;omega)
 .show Ur.mpr (List.Perm.trans ?_<|Ur.mp h.perm);rw[z3,h.arr];let e:(S1++X::Y::S2).flatten++rest=S1.flatten++(X++Y)++(S2.flatten++rest):=B
  rw[e];show En _ (Nw _ z2)
 .intro g hg;rcases XA.mp hg with hg|hg
  .show h.srt g (by simp[hg])
  .rcases Yi.mp hg with rfl|hg
   .exists by have:=hX.1;omega,z1
   .show h.srt g (by simp[hg])
 .rw[z4,YK,Uz,e2,e9,Hq,Tj];simp only[VI];rw[zl,Nat.add_assoc]
def nP{arr:Array Keyed}{lo n:Nat}(h:UG O key arr lo n):((arr.toList.drop lo).take n).Pairwise (RK O key):=by
 rw[Nx];intro i j hi hj WJ;rw[Yh,WE]at hi hj;let a1:arr[lo+i]?=some ((arr.toList.drop lo).take n)[i]:=by rw[<-YH];simp
 let a2:arr[lo+j]?=some ((arr.toList.drop lo).take n)[j]:=by rw[<-YH];simp
 have:=h i j J sS
 rwa[UH a1,UH a2]at this
def PI.push{st XQ:SortSt}(h:PI O key kd a₀ st segs rest)(hr:n<=rest.length)(t:Stp segs.flatten.length st XQ)(hs:UG O key (arrOf XQ) segs.flatten.length n):
  ∃run WC,run.length=n/\WC.length+n=rest.length/\PI O key kd a₀ XQ segs (run++WC)/\run.Pairwise (RK O key):=by
 let hz:=t.size;let nO:(arrOf st).size=segs.flatten.length+rest.length:=by rw[<-Yw,h.arr,Xt]
 let e0:(arrOf XQ).toList.take segs.flatten.length=segs.flatten:=by
  apply Nq;intro i;cases hi:i<segs.flatten.length
  .rw[Qk,if_pos hi,YH,t.2.2.2.2 i hi,<-YH,h.arr,Yp hi]
  .rw[VF (by rw[Yh];grind),VF J]
 let e1:=ML segs.flatten.length (arrOf XQ).toList;let e2:=ML n ((arrOf XQ).toList.drop segs.flatten.length)
 exists ((arrOf XQ).toList.drop segs.flatten.length).take n,((arrOf XQ).toList.drop segs.flatten.length).drop n,?_,?_,⟨t.1.trans h.kind,t.2.1.trans h.fail,t.2.2.2.1.trans h.perm,?_,h.srt,?_⟩,nP hs
 .rw[Yh,WE,Yw];lia
 .rw[WE,WE,Yw];lia
 .rw[e2];rw[e0]at e1;show e1.symm
 .rw[t.2.2.1];show h.pend
def BD(L:WA M A E s O key kd S){a₀:Array Keyed}(hS:∀x∈a₀.toList,S x){st:SortSt}{Q:Unit->SortSt->Prop}(hk:kindOf st=kd)(hf:failedOf st=none)(ha:arrOf st=a₀)(hp:pendingOf st=#[])
  (h:∀XQ,(arrOf XQ).Perm a₀->failedOf XQ=none->(arrOf XQ).toList.Pairwise (RK O key)->Q () XQ):wpS M A E s sortRuns' Q st:=by
 rw[sortRuns'_eq];show YB (QT ?_);dsimp only;rw[ha];let pi0:PI O key kd a₀ st [] a₀.toList:=⟨hk,hf,ha▸Eb _,by rw[ha];rfl,λ_ h=>(by cases h),by rw[hp];rfl⟩
 show YB (Sa (SW
  (I:=λx c XQ=>∃lo,c=(none,lo)/\∃segs rest,lo=segs.flatten.length/\PI O key kd a₀ XQ segs rest/\(x<=lo\/a₀.size<=lo))
  (Q:=λc XQ=>∃lo,c=(none,lo)/\∃segs rest,lo=segs.flatten.length/\PI O key kd a₀ XQ segs rest/\a₀.size<=lo) ?_ ?_ ⟨0,Z,[],a₀.toList,Z,pi0,.inl<|XM _⟩) ?_)
 .rintro x c XQ _ hx ⟨lo,rfl,segs,rest,rfl,pi,MU⟩;dsimp only;cases c1:segs.flatten.length >= a₀.size
  .rw[if_pos c1];show YM ⟨_,Z,segs,rest,Z,pi,c1⟩
  rw[if_neg c1];let hz:=pi.size
  let JJ:∀x∈(arrOf XQ).toList,S x:=λx hx=>hS x ((Ur.mp pi.perm).mem_iff.mp hx);let hsz:=pi.perm.size_eq
  show YB (Zr6 L pi.kind JJ sS sS λm Xg t2 TU WI SO=>?_);dsimp only;let nO:=t2.size
  cases c2:m<minRun' a₀.size a₀.size 0
  .rw[if_pos c2];show YB (wpS_lift<|Qe ⟨Z,?_⟩);show YB (ZY5 L (t2.1.trans pi.kind) (t2.all JJ) sS sS SO λWK t3 hs3=>?_);rw[if_neg B];let n1:1<=min (a₀.size-segs.flatten.length) (minRun' a₀.size a₀.size 0):=sS
   let n2:min (a₀.size-segs.flatten.length) (minRun' a₀.size a₀.size 0)<=rest.length:=sS;let⟨run,WC,EV,BC,Ho,Oo⟩:=pi.push n2 (t2.trans t3) hs3;generalize min (a₀.size-segs.flatten.length) (minRun' a₀.size a₀.size 0)=n at *;obtain⟨Lx,e4⟩:∃Lx,Lx=WK:=⟨_,Z⟩;rw[<-e4]at Ho ⊢;show YB (QT ?_);cases BB:(pendingOf Lx).back? with
   |none=>
    dsimp only;let Wt:=Ho
    let Wl:segs.flatten.length=segs.flatten.length:=rfl;obtain⟨XF,e5⟩:∃XF,XF=segs:=⟨_,Z⟩;obtain⟨WW,BA⟩:∃WW,WW=Lx:=⟨_,Z⟩;rw[<-e5,<-BA]at Wt;let Wl:XF.flatten.length=segs.flatten.length:=by rw[e5]
    rw[<-BA];show YB (Pq<|YM ?_);exists _,Z,XF++[run],WC,by rw[xW,Xt,ME,xN,Yu];lia,⟨Wt.kind,Wt.fail,Wt.perm,?_,?_,?_⟩,sS
    .change(arrOf WW).toList=_;rw[Wt.arr];simp
    .intro g hg;rcases XA.mp hg with hg|hg
     .show Wt.srt g hg
     .rw[XG.mp hg];exists J,Oo
    .change((pendingOf WW).push _).toList.map _=_;rw[Sf,YK,Wt.pend,Hq,Tj,Wl];simp[VI,EV]
   |some p=>
    let⟨s1,n1,p1⟩:=p;dsimp only;show YB (Sa (SW (I:=λ_ c WW=>c=(none,())/\∃XF,PI O key kd a₀ WW XF (run++WC)/\XF.flatten.length=segs.flatten.length)
     (Q:=λc WW=>c=(none,())/\∃XF,PI O key kd a₀ WW XF (run++WC)/\XF.flatten.length=segs.flatten.length) ?_ (λ_ _ z=>z) ⟨Z,segs,Ho,Z⟩) ?_)
    .rintro y c WW _ _ ⟨rfl,XF,Wt,Wl⟩;show YB (QT ?_);cases c5:(pendingOf WW).size>1
     .rw[if_pos c5];cases hp:(pendingOf WW)[(pendingOf WW).size-2]? with
      |none=>show YM ⟨Z,XF,Wt,Wl⟩
      |some pp=>
       let⟨w1,w2,w3⟩:=pp;dsimp only;split
       .show YM ⟨Z,XF,Wt,Wl⟩
       .show YB (nQ L hS Wt (by rw[<-Wt.psize];lia) λst6 Om nN l6 f6=>?_);rw[if_neg B];show YM ⟨Z,Om,nN,f6.trans Wl⟩
     .rw[if_neg c5];show YM ⟨Z,XF,Wt,Wl⟩
    .rintro c WW ⟨rfl,XF,Vk,Wl⟩;dsimp only;show YB (Pq ?_);let Wt:PI O key kd a₀ (setPending WW<|(pendingOf WW).modify ((pendingOf WW).size-1) λx=>(x.1,x.2.1,power' a₀.size (2*s1+n1) (2*s1+n1+n1+n) a₀.size)) XF (run++WC):=by
      exists Vk.kind,Vk.fail,Vk.perm,Vk.arr,Vk.srt,?_;change((pendingOf WW).modify _ _).toList.map _=_
      rw[<-Vk.pend,Array.toList_modify];apply Nq;intro i;rw[Ys,Ys,List.getElem?_modify];cases (pendingOf WW).toList[i]? with
      |none=>rfl
      |some x=>
       simp only[Ef];split<;>rfl
     generalize setPending WW ((pendingOf WW).modify ((pendingOf WW).size-1) λx=>(x.1,x.2.1,power' a₀.size (2*s1+n1) (2*s1+n1+n1+n) a₀.size))=WW at *;show YB (Pq<|YM ?_);exists _,Z,XF++[run],WC,by rw[xW,Xt,ME,xN,Yu];omega,⟨Wt.kind,Wt.fail,Wt.perm,?_,?_,?_⟩,D
     .change(arrOf WW).toList=_;rw[Wt.arr];simp
     .intro g hg;rcases XA.mp hg with hg|hg
      .show Wt.srt g hg
      .rw[XG.mp hg];exists D,Oo
     .change((pendingOf WW).push _).toList.map _=_;rw[Sf,YK,Wt.pend,Hq,Tj,Wl];simp[VI,EV]
  .rw[if_neg c2];let⟨run,WC,EV,BC,Ho,Oo⟩:=pi.push sS t2 SO;obtain⟨n,en⟩:∃n,n=m:=⟨_,Z⟩;rw[<-en]at EV BC ⊢;obtain⟨Lx,e4⟩:∃Lx,Lx=Xg:=⟨_,Z⟩;rw[<-e4]at Ho ⊢;show YB (QT ?_);cases BB:(pendingOf Lx).back? with
   |none=>
    dsimp only;let Wt:=Ho
    let Wl:segs.flatten.length=segs.flatten.length:=rfl;obtain⟨XF,e5⟩:∃XF,XF=segs:=⟨_,Z⟩;obtain⟨WW,BA⟩:∃WW,WW=Lx:=⟨_,Z⟩;rw[<-e5,<-BA]at Wt;let Wl:XF.flatten.length=segs.flatten.length:=by rw[e5]
    rw[<-BA];show YB (Pq<|YM ?_);exists _,Z,XF++[run],WC,by rw[xW,Xt,ME,xN,Yu];lia,⟨Wt.kind,Wt.fail,Wt.perm,?_,?_,?_⟩,sS
    .change(arrOf WW).toList=_;rw[Wt.arr];simp
    .intro g hg;rcases XA.mp hg with hg|hg
     .show Wt.srt g hg
     .rw[XG.mp hg];exists J,Oo
    .change((pendingOf WW).push _).toList.map _=_;rw[Sf,YK,Wt.pend,Hq,Tj,Wl];simp[VI,EV]
   |some p=>
    let⟨s1,n1,p1⟩:=p;dsimp only;show YB (Sa (SW (I:=λ_ c WW=>c=(none,())/\∃XF,PI O key kd a₀ WW XF (run++WC)/\XF.flatten.length=segs.flatten.length)
     (Q:=λc WW=>c=(none,())/\∃XF,PI O key kd a₀ WW XF (run++WC)/\XF.flatten.length=segs.flatten.length) ?_ (λ_ _ z=>z) ⟨Z,segs,Ho,Z⟩) ?_)
    .rintro y c WW _ _ ⟨rfl,XF,Wt,Wl⟩;show YB (QT ?_);cases c5:(pendingOf WW).size>1
     .rw[if_pos c5];cases hp:(pendingOf WW)[(pendingOf WW).size-2]? with
      |none=>show YM ⟨Z,XF,Wt,Wl⟩
      |some pp=>
       let⟨w1,w2,w3⟩:=pp;dsimp only;split
       .show YM ⟨Z,XF,Wt,Wl⟩
       .show YB (nQ L hS Wt (by rw[<-Wt.psize];omega) λst6 Om nN l6 f6=>?_);rw[if_neg B];show YM ⟨Z,Om,nN,f6.trans Wl⟩
     .rw[if_neg c5];show YM ⟨Z,XF,Wt,Wl⟩
    .rintro c WW ⟨rfl,XF,Vk,Wl⟩;dsimp only;show YB (Pq ?_);let Wt:PI O key kd a₀ (setPending WW<|(pendingOf WW).modify ((pendingOf WW).size-1) λx=>(x.1,x.2.1,power' a₀.size (2*s1+n1) (2*s1+n1+n1+n) a₀.size)) XF (run++WC):=by
      exists Vk.kind,Vk.fail,Vk.perm,Vk.arr,Vk.srt,?_;change((pendingOf WW).modify _ _).toList.map _=_
      rw[<-Vk.pend,Array.toList_modify];apply Nq;intro i;rw[Ys,Ys,List.getElem?_modify];cases (pendingOf WW).toList[i]? with
      |none=>rfl
      |some x=>
       simp only[Ef];split<;>rfl
     generalize setPending WW ((pendingOf WW).modify ((pendingOf WW).size-1) λx=>(x.1,x.2.1,power' a₀.size (2*s1+n1) (2*s1+n1+n1+n) a₀.size))=WW at *;show YB (Pq<|YM ?_);exists _,Z,XF++[run],WC,by rw[xW,Xt,ME,xN,Yu];omega,⟨Wt.kind,Wt.fail,Wt.perm,?_,?_,?_⟩,D
     .change(arrOf WW).toList=_;rw[Wt.arr];simp
     .intro g hg;rcases XA.mp hg with hg|hg
      .show Wt.srt g hg
      .rw[XG.mp hg];exists D,Oo
     .change((pendingOf WW).push _).toList.map _=_;rw[Sf,YK,Wt.pend,Hq,Tj,Wl];simp[VI,EV]
 .rintro c XQ ⟨lo,rfl,segs,rest,e,pi,MU⟩;exists lo,Z,segs,rest,e,pi,J
 .rintro c XQ ⟨lo,rfl,segs,rest,e,pi,MU⟩;dsimp only;show YB (Sa (SW
   (I:=λx c Xg=>c=(none,())/\∃segs,PI O key kd a₀ Xg segs rest/\a₀.size<=segs.flatten.length/\(segs.length+x<=a₀.size\/segs.length<=1))
   (Q:=λc Xg=>c=(none,())/\∃segs,PI O key kd a₀ Xg segs rest/\a₀.size<=segs.flatten.length/\segs.length<=1) ?_ ?_ ⟨Z,segs,pi,J,.inl (by have:=bP pi.srt;have:=pi.size;lia)⟩) ?_)
  .rintro x c Xg _ hx ⟨rfl,TR,PU,VB,hc⟩;show YB (QT ?_);cases c1:(pendingOf Xg).size<=1
   .rw[if_pos c1];show YM ⟨Z,TR,PU,VB,by rwa[<-PU.psize]⟩
   .rw[if_neg c1];let hps:=PU.psize
    show YB (nQ L hS PU ?_ λWK Bz pi3 l3 f3=>?_)
    .let two:∀bb:Bool,(if bb=true then (pendingOf Xg).size-2-1 else (pendingOf Xg).size-2)+1<TR.length:=λbb=>by cases bb<;>simp<;>lia
     show two _
    .rw[if_neg B];show YM ⟨Z,Bz,pi3,J,sS⟩
  .rintro c Xg ⟨rfl,TR,PU,VB,hc⟩;exists Z,TR,PU,VB,?_;rcases hc with hc|hc
   .lia
   .show hc
  .rintro c Xg ⟨rfl,TR,PU,VB,hc⟩;show YM (h Xg PU.perm PU.fail ?_);let hr:rest=[]:=by have:=PU.size;show YX.mp J
   rw[PU.arr,hr,Yu]
   match TR,hc,PU.srt with
   |[],_,_=>show List.Pairwise.nil
   |[g],_,hg=>simpa using (hg g Yd).2
end
end PyProof.Rows
namespace L2
open PySem PySem.Spec PyProof.Rows
section
variable{prog:Program}{w:World}{A:Around}{E:Ae}{s:Shared}
def nM{α:Type}{R:α->α->Prop}:∀{l:List α},l.length<2->l.Pairwise R
 |[],_=>List.Pairwise.nil
 |[_],_=>KI ..
 |_::_::_,h=>absurd h B
def sameBut(a:Addr)(h h':Heap):(Prop):=∀b o,b≠a->h.get? b=some o->h'.get? b=some o
def nL{key:Keyed->O.α}{kd:SortKind}{P:Fin->Shared->Prop}(ho:s.heap.get? a=some (seqObj "list" vs.toArray n))(hz:vs.length<=1000000)
  (JQ:∀h':Heap,sameBut a s.heap h'->2<=vs.length->∀Q:SortKind->Shared->Prop,Q kd {s with heap:=h'}->wpAny (model prog w) A (keyKind' vs.toArray) Q E {s with heap:=h'})
  (L:∀h':Heap,sameBut a s.heap h'->WA (model prog w) A E {s with heap:=h'} O key kd λx=>x∈(pairsOf vs).toList)
  (h:∀out:Array Keyed,out.Perm (pairsOf vs)->out.toList.Pairwise (RK O key)->P (.done<|.ret .none) {s with heap:=sortedHeap s.heap a vs (out.map (·.2))}):wpAny (model prog w) A (Builtin.«list.sort» ⟨[.ref a],[]⟩) P E s:=by
 let LO:sizeLine=16777216:=TM;let ha:a<(~~~s):=Yq ho
 obtain⟨e1,By⟩:∃e1,(s.heap.update a<|Obj.mapSeq λ_=>(#[]:Array Value)).get? a=some (seqObj "list" #[] e1):=⟨_,Po ho λ_=>#[]⟩;rw[list_sort_plain];show XW (Pl ho Z<|XW<|Nk ho Z ?_ (by rw[Yb];lia)<|Yk _);show XW (seqEpoch_at By Z<|XW<|wpAny_newTuple ?_<|by simp;omega);show XW (Nm<|SX ?_);let sm:sameBut a s.heap (((s.heap.update a<|Obj.mapSeq λ_=>#[]).push (seqObj "tuple" vs.toArray 0)).push (seqObj "list" #[] 0)):=λb o hb e=>Xf _ (Xf _<|(VS _ _<|Xa hb).trans e)
 let wj:(((s.heap.update a<|Obj.mapSeq λ_=>#[]).push (seqObj "tuple" vs.toArray 0)).push (seqObj "list" #[] 0)).get? a=some (seqObj "list" #[] e1):=Xf _ (Xf _ By);change wpAny (model prog w) A _ P E {s with heap:=((s.heap.update a<|Obj.mapSeq λ_=>#[]).push (seqObj "tuple" vs.toArray 0)).push (seqObj "list" #[] 0)}
 dsimp only;let SO:vs.toArray.size=vs.length:=B
 cases h2:vs.toArray.size<2
 .rw[if_pos h2,if_pos h2];show XW (Yl ?_);rw[StateT.run_pure];show XW (Yl ?_);dsimp only;show XW (seqEpoch_at wj Z<|XW<|Nk wj Z ?_ (Yk _)<|by rw[Array.size_map];change(pairsOf vs).size<=sizeLine+1;rw[pairsOf_size];lia);simp only[t5,Rw,Ss];show Yl (h (pairsOf vs) (Eb _) ?_);show nM (by rw[Yw,pairsOf_size];lia)
 .rw[if_neg h2,if_neg h2];show XW (JQ _ sm J _ ?_);show XW (Su (BD (L _ sm) (a₀:=pairsOf vs) (λx hx=>hx) (st:=SortSt.mk' kd (vs.toArray.zip vs.toArray) #[] 7 none)
   (Q:=λ_ XQ=>(arrOf XQ).Perm (pairsOf vs)/\failedOf XQ=none/\(arrOf XQ).toList.Pairwise (RK O key)) Z Z Z Z λXQ a1 a2 a3=>⟨a1,a2,a3⟩) ?_ λ_ _ e=>e)
  rintro⟨⟨⟩,XQ⟩ s' ⟨rfl,hp,hf,hs⟩;dsimp only;let hsz:(arrOf XQ).size=vs.length:=hp.size_eq.trans (pairsOf_size _)
  show XW (seqEpoch_at wj Z<|XW<|Nk wj Z ?_ (Yk _)<|by show Yn (xA<|(Array.size_map ..).trans hsz) ?_;lia);rw[hf];simp only[t5,Rw,Ss];show Yl (h _ hp hs)
def ZJ6{key:Keyed->O.α}{kd:SortKind}{Q:Ae}(hl:s.heap.IsList l vs.toArray)(hz:vs.length<=1000000)
  (JQ:∀A h',(∀b o,s.heap.get? b=some o->h'.get? b=some o)->2<=vs.length->∀E Q,Q kd {s with heap:=h'}->wpAny (model prog w) A (keyKind' vs.toArray) Q E {s with heap:=h'})
  (L:∀A' h' E,A'.units<=A.units+4->(∀b o,s.heap.get? b=some o->h'.get? b=some o)->WA (model prog w) A' E {s with heap:=h'} O key kd λx=>x∈(pairsOf vs).toList)
  (h:∀out:Array Keyed,out.Perm (pairsOf vs)->out.toList.Pairwise (RK O key)->Q (.ref<|(~~~s)+1) {s with heap:=sortedAll s.heap vs (out.map (·.2))}):wpAny (model prog w) A (call (.builtin "sorted") [.ref l]) Q E s:=by
 let hsz:((s.heap.push<|seqObj "list" #[] 0).update (~~~s) (Obj.mapSeq (·++vs.toArray))).objs.size=(~~~s)+1:=by rw[tu,Fy]
 let Nh:(((s.heap.push<|seqObj "list" #[] 0).update (~~~s) (Obj.mapSeq (·++vs.toArray))).push (seqObj "list" vs.toArray 0)).get? ((~~~s)+1)=some (seqObj "list" vs.toArray 0):=hsz▸Yo _ rfl;let LO:sizeLine=16777216:=TM
 show x8 kind_sorted Pm Pk (args_sorted1 _) ?_;unfold Builtin.«sorted»;show XW (m:=checkCount "sorted" 1 1 _) (Yl<|XW<|collect_list hl ?_ J);show XW (Nm ?_ D);change wpAny _ _ _ _ _ {s with heap:=((s.heap.push<|seqObj "list" #[] 0).update (~~~s) (Obj.mapSeq (·++vs.toArray))).push (seqObj "list" vs.toArray 0)}
 rw[hsz];let old:∀b o,s.heap.get? b=some o->(((s.heap.push<|seqObj "list" #[] 0).update (~~~s) (Obj.mapSeq (·++vs.toArray))).push (seqObj "list" vs.toArray 0)).get? b=some o:=λb o e=>
  Xf _ ((VS _ _<|Xa<|YD<|Yq e).trans (Xf _ e))
 let ne:∀b o,s.heap.get? b=some o->b≠(~~~s)+1:=λb o e=>YD (SS<|Yq e);show XW (SX<|Uq DW ⟨_,Nh,rfl⟩ Pn (nL (O:=O) (key:=key) (kd:=kd) Nh hz (λh' k h2 Q q=>JQ _ h' (λb o e=>k b o (ne b o e)<|old b o e) h2 _ Q q) (λh' k=>L _ h' _ (by first|(show A.units+1<=A.units+4;omega)|(show A.units+1+1<=A.units+4;lia)|(show A.units<=A.units+4;omega)) λb o e=>k b o (ne b o e)<|old b o e) λout a1 a2=>⟨_,rfl,?_⟩)<|xr _)
 show Yl ⟨_,Z,h out a1 a2⟩
def nK:(KeyOrd) where
 α:=Ac
 blt:=HT.lexLt
 irrefl:=My.WU
 trans a b c:=My.Wv
 negTrans a b c h:=by
  cases e:HT.lexLt a b with
  |true=>show .inl rfl
  |false=>
   show .inr ?_;cases e2:HT.lexLt b a with
   |true=>show My.Wv e2 h
   |false=>
    have:=My.Xv e e2
    subst this;show h
 total a b h1 h2:=My.Xv h1 h2
def bO{Q:Bool->Shared->Prop}:∀{vs ws:Ag}{ns ms:Ac}(i:Nat),IntsAre vs ns->IntsAre ws ms->(fin=true↔vs.length<ws.length)->Q (HT.lexLt ns ms) s->W.KatLex prog w A b fin Q (vs.zip ws) i s
 |_,_,_,_,i,.nil,.nil,hf,h=>by
  have:fin=false:=by cases fin with|false=>rfl|true=>show absurd (hf.mp rfl) B
  subst this;show W.kat_nil h
 |_,_,_,_,i,.nil,.cons c u hw,hf,h=>by
  have:fin=true:=hf.mpr B
  subst this;show W.kat_nil h
 |_,_,_,_,i,.cons a t hv,.nil,hf,h=>by
  have:fin=false:=by cases fin with|false=>rfl|true=>show absurd (hf.mp rfl) B
  subst this;show W.kat_nil h
 |_,_,_,_,i,.cons a t hv,.cons c u hw,hf,h=>by
  rw[HT.Xn]at h;rw[List.zip_cons_cons];show W.kat_cons (wpAny_eqBool_int<|W.kat_go (λe=>?_) λe=>?_)
  .rw[if_pos (eq_of_beq e)]at h;show W.kat_yes (bO (i+1) hv hw (by rw[hf];simp) h)
  .rw[if_neg (λq=>by rw[q]at e;simp at e)]at h;show W.kat_no ?_;cases (b&&i == 0) with
   |true=>show oneLt_int h
   |false=>show W.kat_one _ _ (lt_int h)
end
end L2
namespace L2
open PySem PySem.Spec PyProof.Rows My
def bM:∀{vs:Ag}{ns ms:Ac},IntsAre vs ns->IntsAre vs ms->ns=ms
 |_,_,_,.nil,.nil=>rfl
 |_,_,_,.cons n t h,.cons _ _ k=>by rw[bM h k]
def bL{f:Value->Ac}:∀{vs:Ag},(∀v∈vs,∃a o xs n,v=.ref a/\h.get? a=some o/\o.cls=.type "tuple"/\o.data=.seq xs n/\IntsAre xs.toList (f v)/\f v≠[])->∃fs,W.KatTups h vs fs/\fs.length=vs.length/\∀v∈fs,∃n t,v=Value.int n t
 |[],_=>⟨[],W.KatTups.nil,Z,λ_ h=>(by cases h)⟩
 |v::vs,H=>by
  let⟨a,o,xs,n,e,h1,h2,h3,h4,h5⟩:=H v Yd;let⟨fs,t,l,k⟩:=bL (vs:=vs) λy hy=>H y (Yf _ hy);obtain⟨z,u,hz⟩:∃z u,xs[0]?=some (Value.int z u):=by
   cases hx:xs.toList with
   |nil=>
    rw[hx]at h4;generalize f v=g at h4 h5;cases h4;show absurd Z h5
   |cons x r=>
    rw[hx]at h4;generalize f v=g at h4 h5;cases h4 with
    |cons z u _=>exists z,u,by rw[<-YH,hx];rfl
  subst e;show⟨.int z u::fs,W.KatTups.cons h1 h2 h3 hz t,by simp[l],λy hy=>?_⟩;rcases Yi.mp hy with rfl|hy
  .exists z,u,Z
  .show k y hy
section
variable{X:Cx}
def Zc4(K:Ad)(hk:X.K=K:=by rfl):WB X (.builtin "sorted") (λxs H Q=>∃(p:Addr)(ys:List V)(L:Ab)(R:V->Ac->Prop),xs=[.ref p]/\SqL K H p ys/\Bears R ys L/\(∀v l,R v l->∃a,v=.ref a/\SqT K H a (l.map V.int))/\(ys.length<2\/∀l∈L,l≠[])/\ys.length<=1000000/\
  ∀(zs:List V)(M:Ab),Bears R zs M->M.Perm L->M.Pairwise (λa b=>HT.lexLt b a=false)->∀l,H l=none->Q ↑l (upd H l<|.lst zs)):=by
 subst hk;intro pins s σ H xs us Q I r h;let⟨p,ys,L,R,rfl,hq,hb,hR,XN,hz,q⟩:=h;let⟨u,rfl,ru⟩:=Tg r;let rfl:u=Value.ref p:=ru;let⟨XX,rv,pl,wg⟩:=I.list hq;let QD:ys.length=XX.length:=rv.length
 let uniq:∀{a:Addr}{l m:Ac},R ↑a l->R ↑a m->l=m:=λ{a l m} h1 h2=>by
  let⟨a1,e1,t1⟩:=hR _ _ h1;let⟨a2,e2,t2⟩:=hR _ _ h2;cases e1;cases e2;let⟨i1,r1,⟨o1,g1,c1,n1,d1⟩,_⟩:=I.tuple t1;let⟨i2,r2,⟨o2,g2,c2,n2,d2⟩,_⟩:=I.tuple t2;rw[g1]at g2;cases g2;rw[d1]at d2;let e:i1.toArray=i2.toArray:=by injection d2
  let e:i1=i2:=by simpa using YV Array.toList e
  subst e;show bM (ZC r1) (ZC r2)
 classical
 obtain⟨f,hf⟩:∃f:Value->Ac,∀(a:Addr)(l:Ac),R ↑a l->f ↑a=l:=by
  exists λv=>if h:∃l,∃a,v=Value.ref a/\R ↑a l then Classical.choose h else [],λa l hl=>?_;let ex:∃l,∃b,Value.ref a=Value.ref b/\R ↑b l:=⟨l,a,Z,hl⟩
  change(if h:∃l,∃b,Value.ref a=Value.ref b/\R ↑b l then Classical.choose h else [])=l;rw[dif_pos ex];let⟨b,e,hb⟩:=dY ex;cases e;show uniq hb hl
 let each:∀(i:Nat)(v:Value),XX[i]?=some v->∃a,v=.ref a/\ys[i]?=some ↑a/\R ↑a (f v)/\L[i]?=some (f v):=λi v e=>by
  let⟨hi,hv⟩:=Xx.mp e;let⟨y,ey,ry⟩:=rv.at hi;rw[hv]at ry;let⟨l,el,hl⟩:=hb.at ey;let⟨a,ea,_⟩:=hR _ _ hl;subst ea;let rfl:v=Value.ref a:=ry
  have:=hf a l hl
  exists a,Z,ey,by rw[this];show hl,by rwa[this]
 let eL:L=XX.map f:=by
  apply Nq;intro i;rw[Ys];cases e:XX[i]? with
  |none=>
   have:XX.length<=i:=uz.mp e
   show VF (by have:=hb.1;grind)
  |some v=>
   let⟨_,_,_,_,el⟩:=each i v e;rw[el];rfl
 let tup:∀v∈XX,∃a o xs n,v=Value.ref a/\s.heap.get? a=some o/\o.cls=.type "tuple"/\o.data=.seq xs n/\IntsAre xs.toList (f v):=λv hv=>by let⟨i,e⟩:=YF hv;let⟨a,rfl,_,hr,_⟩:=each i v e;let⟨a1,e1,t1⟩:=hR _ _ hr;cases e1;let⟨i1,r1,⟨o1,g1,c1,n1,d1⟩,_⟩:=I.tuple t1;exists a,o1,_,n1,Z,g1,c1,d1,by simpa using ZC r1
 let Lw:∀x∈(pairsOf XX).toList,x.1∈XX/\x.2=x.1:=λx hx=>by
  let hx:x∈(XX.toArray.zip XX.toArray).toList:=hx;rw[Array.toList_zip]at hx;let⟨i,e⟩:=YF hx;rw[eM]at e;let e1:XX[i]?=some x.1:=by simpa using e.1
  let e2:XX[i]?=some x.2:=by simpa using e.2
  rw[e1]at e2;cases x;cases e2;exists Xj e1,Z
 show ZJ6 (O:=nK) (key:=λk=>f k.1) (kd:=tuples'<|Value.type "int" != Value.type "tuple") pl.isList J (λA' h' keep h2 E' Q' q'=>?_) (λA' h' E' _ keep x y st Q' hx hy hkd q'=>?_) λout a1 a2=>?_
 .let OL:∀v∈XX,f v≠[]:=λv hv=>by
   rcases XN with XN|XN
   .lia
   .show XN _ (by rw[eL];show List.mem_map_of_mem hv)
  let⟨fs,t,l,k⟩:=bL (h:=h') (f:=f) (vs:=XX) λv hv=>by let⟨a,o,xs,n,e1,e2,e3,e4,e5⟩:=tup v hv;exists a,o,xs,n,e1,keep a o e2,e3,e4,e5,OL v hv
  show W.kat_kind (T:=.type "int") t J (λv hv=>?_) Z q';let⟨n,t,rfl⟩:=k v hv;show W.Looks.now
 .let⟨ax,ox,xx,nx,e1,e2,e3,e4,e5⟩:=tup x.1 (Lw x hx).1;let⟨ay,oy,xy,ny,g1,g2,g3,g4,g5⟩:=tup y.1 (Lw y hy).1;rw[lt'_eq];show YB (QT ?_);rw[hkd,e1,g1];show YB (wpS_lift<|FA<|W.kat_lt (keep ax ox e2) e4 (keep ay oy g2) g4<|bO 0 e5 g5 B ⟨Z,?_⟩);show YM q'
 .let⟨e,he⟩:=sortedAll_at s.heap XX (out.map (·.2));let po:out.toList.Perm (pairsOf XX).toList:=Ur.mp a1
  let zip2:((pairsOf XX).toList.map (·.2))=XX:=by change((XX.toArray.zip XX.toArray).toList.map (·.2))=XX;rw[Array.toList_zip];show List.map_snd_zip B
  let pv:(out.map (·.2)).toList.Perm XX:=by rw[Array.toList_map];show zip2▸po.map (·.2)
  let mo:∀v∈(out.map (·.2)).toList,∃a,v=Value.ref a/\R ↑a (f v):=λv hv=>by let⟨i,e⟩:=YF (pv.mem_iff.mp hv);let⟨a,e1,_,e3,_⟩:=each i v e;exists a,e1,e3
  obtain⟨zs,vz,bz⟩:∃zs:List V,Vals zs (out.map (·.2)).toList/\Bears R zs ((out.map (·.2)).toList.map f):=by
   clear he pv;generalize (out.map (·.2)).toList=os at mo
   induction os with
   |nil=>exists [],.nil,Z,λi a e=>by simp at e
   |cons v os ih=>
    let⟨zs,vz,bz⟩:=ih λy hy=>mo y (Yf _ hy);let⟨a,rfl,hr⟩:=mo v Yd;show⟨.ref a::zs,.cons Z vz,by simp[bz.1],λi l e=>?_⟩;cases i with
    |zero=>
     have:f ↑a=l:=by simpa using e
     exists .ref a,Z,this▸hr
    |succ i=>show bz.2 i l (by simpa using e)
  let we:zs.length=XX.length:=by rw[vz.length,pv.length_eq]
  exists .ref<|(~~~s)+1,_,I.laid (t':=s.toks) (o:=.lst zs) (λb o g=>sortedAll_old g) (TZ _) ⟨?_,(out.map (·.2)).toList,e,vz,?_⟩,Z,q zs _ bz ?_ ?_ _<|I.hok.fresh<|TZ _
  .have:sizeLine=16777216:=TM
   lia
  .show he
  .rw[eL];show pv.map f
  .rw[Array.toList_map,Px,Nt];show Ep (λ{x y} hx hy Lv=>?_) a2;let h1:=(Lw x<|po.mem_iff.mp hx).2
   let h2:=(Lw y<|po.mem_iff.mp hy).2;change HT.lexLt (f y.2) (f x.2)=false
   rwa[h1,h2]
end
end L2
namespace My
open PySem L2
open Classical in
def nJ(hx:WT H x z)(hP:TupsV H xs L):∃e:Addr->Bool,(∀v∈xs,∃a,v=.ref a/\EqD K H 1 v x (e a))/\xs.any (HG e)=decide (z∈L):=by
 let key:∀{a:Addr}{w:Ac},WT H ↑a w->(WT H ↑a z↔w=z):=by
  rintro a w ⟨t,e,h⟩;cases e;constructor
  .rintro⟨t,e,h2⟩;cases e;rw[h]at h2;injection h2 with h2
   injection h2 with h2;show(List.map_inj_right λ_ _ h=>by injection h).mp h2
  .rintro rfl;exists _,Z,h
 exists λa=>decide<|WT H ↑a z,λv hv=>?_,?_
 .let⟨i,hi⟩:=YF hv;let⟨w,hw,t,rfl,ht⟩:=hP.at hi;exists t,Z,?_;let k:=key ⟨t,Z,ht⟩
  change EqD K H 1 (V.ref t) x (decide<|WT H (V.ref t) z);rw[show decide (WT H ↑t z)=decide (w=z) by rw[FJ];show k];show cB ⟨t,Z,ht⟩ hx
 .rw[Qh,Eg,YL];constructor
  .rintro⟨v,hv,hb⟩;let⟨i,hi⟩:=YF hv;let⟨w,hw,t,rfl,ht⟩:=hP.at hi;let hb:decide (WT H ↑t z)=true:=hb
   rw[YL,key ⟨t,Z,ht⟩]at hb;rw[<-hb];show Xj hw
  .intro hz;let⟨i,hi⟩:=YF hz;let⟨v,hv,t,rfl,ht⟩:=hP.2 i z hi;exists _,Xj hv,Yv ⟨t,Z,ht⟩
def nI(hx:WT H x z)(hp:SqL K H p xs)(hP:TupsV H xs L)(q:Q (.bl (decide (z∈L))) H):Co K x ↑p H Q:=by let⟨e,h1,h2⟩:=nJ (K:=K) hx hP;exists 1,p,xs,e,Z,hp,sT,h1,by rwa[h2]
abbrev Vj(a b:Ac):Prop:=HT.lexLt a b=true
def bK:∀p a b,HT.lexLt (p++a) (p++b)=HT.lexLt a b
 |[],a,b=>rfl
 |x::p,a,b=>by rw[Eh,Eh,HT.Xn,if_pos Z,bK p]
def bJ:∀{s t:Ac}(a b:Ac),s.length=t.length->HT.lexLt s t=true->HT.lexLt (s++a) (t++b)=true
 |[],[],a,b,_,h=>by cases h
 |[],_::_,a,b,e,_=>by simp at e
 |_::_,[],a,b,e,_=>by simp at e
 |x::s,y::t,a,b,e,h=>by
  rw[HT.Xn]at h;rw[Eh,Eh,HT.Xn];split
  .rename_i q;rw[if_pos q]at h;show bJ a b (by simpa using e) h
  .rename_i q;rwa[if_neg q]at h
def bI(h:Vj a b):a≠b:=λe=>by subst e;have:=WU a;rw[h]at this;cases this
def ZC8(h:Vj a b)(k:Vj b a):False:=bI (Wv h k) rfl
def nH{a:Ab}(h:a.Pairwise λx y=>HT.lexLt y x=false)(hn:a.Nodup):a.Pairwise Vj:=by
 show(h.and hn).imp ?_;rintro x y ⟨h1,h2⟩;change HT.lexLt x y=true
 cases e:HT.lexLt x y with
 |true=>rfl
 |false=>show absurd (Xv e h1) h2
def Zj7{a:Ab}(h:a.Pairwise Vj):a.Nodup:=h.imp λh=>bI h
def nG(m:Int):∀k,∀l∈HF m k,l.length=k
 |0,l,h=>by rw[XG.mp h];rfl
 |k+1,l,h=>by let⟨s,hs,hl⟩:=List.mem_flatMap.mp h;let⟨t,_,_,rfl⟩:=VZ.mp hl;rw[Xt,nG m k s hs];rfl
def JI(m:Int):∀k,(HF m k).Pairwise Vj
 |0=>KI ..
 |k+1=>by
  change((HF m k).flatMap (QG m)).Pairwise Vj;rw[List.pairwise_flatMap];exists λs _=>?_,Ep (λ{s t} hs ht Wn=>?_)<|JI m k
  .unfold QG;rw[Nt];show Eo.imp λ{i j} WJ=>?_;change HT.lexLt _ _=true
   rw[bK,HT.Xn,if_neg J];show Yv J
  .intro x hx y hy;let⟨u,_,_,rfl⟩:=VZ.mp hx;let⟨v,_,_,rfl⟩:=VZ.mp hy;show bJ _ _ (by rw[nG m k s hs,nG m k t ht]) Wn
def Hn{α:Type}[DecidableEq α]:∀{l m:List α},l.Nodup->(∀x∈l,x∈m)->l.length<=m.length
 |[],m,_,_=>Yk _
 |x::l,m,h,hs=>by
  let⟨h1,h2⟩:=Qi.mp h;let hx:=hs x Yd
  have:=Hn (l:=l) (m:=m.erase x) h2 λy hy=>(uc λ(e:y=x)=>h1<|e▸hy).mpr (hs y<|Yf _ hy)
  rw[uo hx]at this
  have:=FR hx
  rw[YI];grind
end My
namespace L2
open PySem PySem.Spec PyProof.Rows
def nF(i j:Int):(Prop):=(-(10^200)<i/\i<10^200)/\(-(10^200)<j/\j<10^200)
def bH(h1:-(10^200)<a)(h2:a<10^200):Builtin.Int.intBits a<=1000:=by let h:a.natAbs<10^200:=D;show PySem.intBits_le_iff.mpr (Nat.lt_trans h sT)
section
variable{X:Cx}
def Ol:Wy X (binaryOp .Mult) (rI nF λi j=>.int (i*j)):=Ir λ_ _ _ _ _ _ _ hc q=>mul_int q (.of_bits (Yn (bH hc.1.1 hc.1.2) sT)<|Yn (bH hc.2.1 hc.2.2) sT)
end
end L2
namespace My
open PySem L2
def Bx(g:Zy n ps)(hT:Ze n ps T)(z0:0<=z)(z1:z<ps⁻¹):Conn (XU ps (Td n ps T z T)) (Zq ps z).1 (Zq ps z).2:=by
 let he:=Tv (z:=z) g z0 z1;let key:∀sP:Ac,(∀o∈sP,o∈T/\z∉UI n ps T o)->Conn (XU ps<|T.filter λy=>decide<|y∉sP) (Zq ps z).1 (Zq ps z).2:=by
  intro sP
  induction sP with
  |nil=>
   intro _;let e:(T.filter λy=>decide<|y∉([]:Ac))=T:=xV.mpr λy _=>B
   rw[e];show hT.2.2 _ _ he.1 he.2
  |cons o sP ih=>
   intro hD;let c:=ih λy hy=>hD y (Yf _ hy)
   let⟨wd,xo⟩:=hD o Yd;cases xf:o∈sP
   .show c.mono (ZW λy hy=>?_);let⟨h1,h2⟩:=Ya.mp hy;let h2:=Yt h2
    show Ya.mpr ⟨h1,Yv λh=>(Yi.mp h).elim (λe=>h2<|e▸xf) h2⟩
   .show Yz λPY=>?_;let Bw:∀y,y∈(T.filter λy=>decide<|y∉o::sP)->y∈wo T o:=λy hy=>by
     let⟨h1,h2⟩:=Ya.mp hy;let h2:=Yt h2
     show Xi.mpr ⟨h1,λe=>h2<|by rw[e];show Yd⟩
    let c2:Conn (XU ps<|(T.filter λy=>decide<|y∉o::sP)++[o]) (Zq ps z).1 (Zq ps z).2:=(LQ λy=>by
     rw[XA,Ya,Ya,XG];simp only[Jb,Yi,not_or];constructor
     .rintro⟨h1,h2⟩;cases e:y=o
      .show .inr e
      .show .inl ⟨h1,e,h2⟩
     .rintro(⟨h1,_,h2⟩|e)
      .exists h1,h2
      .rw[e];exists wd,xf).mp c
    let UM:∀y∈(T.filter λy=>decide<|y∉o::sP),0<=y/\y<ps⁻¹:=λy hy=>hT.1.all y (Ya.mp hy).1;let⟨o0,o1⟩:=hT.1.all o wd;let Wu:InN n.toNat (XU ps<|T.filter λy=>decide<|y∉o::sP):=ZR g UM
    let nE:InN n.toNat (XU ps<|(T.filter λy=>decide<|y∉o::sP)++[o]):=ZR g λy hy=>by
     rcases XA.mp hy with h|h
     .show UM y h
     .rw[XG.mp h];exists o0,o1
    let Fg:=Tv (z:=o) g o0 o1;let hl:=ZE n.toNat (XU ps<|T.filter λy=>decide<|y∉o::sP)
    let own:¬Conn (XU ps<|wo T o) (Zq ps o).1 (Zq ps o).2:=(Va g hT o0 o1).mp ((OG g hT wd wd).mpr Z);let cw:Conn (XU ps<|wo T o) (Zq ps z).1 (Zq ps z).2:=Yz λh=>xo ((Va g hT z0 z1).mpr h)
    let up:∀{i j:Nat},i<n.toNat->j<n.toNat->mk (Xb n.toNat<|XU ps<|T.filter λy=>decide<|y∉o::sP) i=mk (Xb n.toNat<|XU ps<|T.filter λy=>decide<|y∉o::sP) j->Conn (XU ps<|wo T o) i j:=λhi hj e=>((Wa Wu hi hj).mp e).mono (ZW Bw);let m:=(Wa nE he.1 he.2).mpr c2
    rw[JU,Na,CA J J]at m;rcases m with m|⟨m1,m2⟩
    .show PY ((Wa Wu he.1 he.2).mp m)
    .rcases m1 with m1|m1<;>rcases m2 with m2|m2
     .show PY ((Wa Wu he.1 he.2).mp (m1.trans m2.symm))
     .show own (((up he.1 Fg.1 m1).symm.trans cw).trans (up he.2 Fg.2 m2))
     .show own (((up he.2 Fg.1 m2).symm.trans cw.symm).trans (up he.1 Fg.2 m1))
     .show PY ((Wa Wu he.1 he.2).mp (m1.trans m2.symm))
 let c:=key (T.filter λy=>decide<|z∉UI n ps T y) λo ho=>by let⟨h1,h2⟩:=Ya.mp ho;exists h1,Yt h2
 show c.mono (ZW λy hy=>?_);let⟨h1,h2⟩:=Ya.mp hy;let h2:=Yt h2
 show Vp.mpr ⟨h1,Yz λh=>h2<|Ya.mpr ⟨h1,Yv h⟩⟩
def Hm{a b:Ac}(ha:a.Pairwise (·<·))(hb:b.Pairwise (·<·))(h:∀z,z∈a↔z∈b):a=b:=
 (Ck ha hb λz hz=>(h z).mp hz).eq_of_length (tS (Ck ha hb λz hz=>(h z).mp hz).length_le (Ck hb ha λz hz=>(h z).mpr hz).length_le)
def bG{i:Int}(h0:0<=i):Wx xs (some i) none=xs.drop i.toNat:=by
 let e:HT.UP xs.length 0 (some i)=min i.toNat xs.length:=by change(if i<0 then (i+xs⁻¹).toNat else min i.toNat xs.length)=_;rw[if_neg J]
 unfold Wx;rw[e,HT.SN,YO (by rw[WE];show XM _)];cases h:i.toNat<=xs.length
 .rw[IZ h]
 .rw[tY J,YQ<|XM _,YQ D]
def cutz{α:Type}(l:List α)(z:Int):(List α):=l.take z.toNat++l.drop (z.toNat+1)
def nB{z:Int}(h0:0<=z):Wx xs none (some z)++Wx xs (some (z+1)) none=cutz xs z:=by rw[oq h0,bG J,show(z+1).toNat=z.toNat+1 by lia];rfl
def nz{α:Type}(l:List α)(z:Int):(cutz l z).length<=l.length:=by unfold cutz;rw[Xt,Yh,WE];grind
def dn(lo hi i:Int):(Int):=if i=hi then lo else if i<hi then i else i-1
def bF(i:Nat):VJ (i+1)=VJ i++[(i:Int)]:=by unfold VJ;rw[Ee,YK];rfl
end My
namespace L2
open PySem PySem.Spec PyProof.Rows
def JH{N a b:St->Hp->Prop}{r:VK}{σ:St}{H:Hp}(h:N σ H):Ends.nx {nx:=N,rt:=r,bk:=a,ct:=b} σ H:=h
end L2
namespace My
def Bv{α:Type}{l:List α}(h:l.length=1):∃a,l=[a]:=by
 cases l with
 |nil=>cases h
 |cons a l=>cases l with
  |nil=>exists a,Z
  |cons b l=>simp at h
def Bu{α:Type}{l:List α}(h:l.length=2):∃a b,l=[a,b]:=by
 cases l with
 |nil=>cases h
 |cons a l=>
  let⟨b,rfl⟩:=Bv (Mz h);exists a,b,Z
def Bt{α:Type}{l:List α}(h:l.length=3):∃a b c,l=[a,b,c]:=by
 cases l with
 |nil=>cases h
 |cons a l=>
  let⟨b,c,rfl⟩:=Bu (Mz h);exists a,b,c,Z
def Bs{α:Type}{l:List α}(h:l.length=4):∃a b c d,l=[a,b,c,d]:=by
 cases l with
 |nil=>cases h
 |cons a l=>
  let⟨b,c,d,rfl⟩:=Bt (Mz h);exists a,b,c,d,Z
end My
namespace My
open PySem L2
def Zx{l:Ac}{f:Int->Bool}{y:Int}(h:l[i]?=some y):(l.take (i+1)).filter f=(l.take i).filter f++(if f y=true then [y] else []):=by
 rw[YY,h,Rx];congr 1;cases e:f y=true
 .rw[if_pos e];change List.filter _ [y]=_;rw[YW,if_pos e];rfl
 .rw[if_neg e];change List.filter _ [y]=_;rw[YW,if_neg e];rfl
end My
namespace L2
open PySem PySem.Spec PyProof.Rows
section
variable{X:Cx}
def nu:(R2):=λx y H Q=>∃a b xs ys,x=.ref a/\y=.ref b/\H a=some (.tup xs)/\H b=some (.tup ys)/\xs.length+ys.length<=sizeLine/\∀r H',Same H H'->H' r=some (.tup<|xs++ys)->Q ↑r H'
def nt(K:Ad)(hk:X.K=K:=by rfl):Wy X (binaryOp .Add) nu:=by
 intro pins s σ H x y v u Q I rx ry h;let⟨a,b,xs,ys,e1,e2,ha,hb,hz,q⟩:=h;show HI K hk pins s σ H x y v u Q I rx ry ⟨a,b,xs,ys,e1,e2,SqT.of ha,SqT.of hb,hz,λhx=>?_,λ_ hy=>?_,λ_ _ p hp=>q p _ (My.XZ hp) XR⟩
 .subst hx;show q b H (Same.refl H) hb
 .subst hy;show q a H (Same.refl H) (by rwa[Yu])
end
end L2
namespace My
open PySem L2
def Conn.lift(h:∀e∈es,Conn fs e.1 e.2)(c:Conn es i j):Conn fs i j:=by
 induction c with
 |refl i=>show .refl i
 |edge e=>show h _ e
 |symm _ ih=>show ih.symm
 |trans _ _ Oj Sh=>show Oj.trans Sh
def nr(g:Zy n ps)(hT:Ze n ps T)(hW:Ze n ps W)(hz:z∈T)(hzW:z∉W):∃y,exg n ps T z y/\exg n ps W y z:=by
 let⟨z0,z1⟩:=hT.1.all z hz;show Yz λPY=>?_;show(Va g hT z0 z1).mp ((OG g hT hz hz).mpr Z) ((Bx g hW z0 z1).lift λe he=>?_);unfold XU at he;let⟨y,hy,rfl⟩:=YR.mp he;let⟨nq,hyc⟩:=Vp.mp hy;let⟨y0,y1⟩:=hW.1.all y nq;let bE:y≠z:=λe=>hzW (e▸nq)
 have:=(Va (o:=z) g hT y0 y1)
 show Yz λh=>PY ⟨y,⟨hz,bE,this.mpr h⟩,⟨nq,Xa bE,hyc⟩⟩
def Zd6(g:Zy n ps)(hT:Ze n ps T)(UZ:ms.Perm (wo T o++[z]))(hM:Ze n ps ms)(ho:o∈T)(hz:z∉T)(z0:0<=z)(z1:z<ps⁻¹):exg n ps T o z:=
 (Ff g hT).mpr ⟨ho,hz,z0,z1,λi j hi hj=>(LQ λy=>UZ.mem_iff).mp (hM.2.2 i j hi hj)⟩
def nj(l:Ac):∃m:Ac,m.Perm l/\m.Pairwise (·<=·):=by
 induction l with
 |nil=>exists [],.refl _,.nil
 |cons x l ih=>
  let⟨m,h1,h2⟩:=ih;let key:∀m:Ac,m.Pairwise (·<=·)->∃k:Ac,k.Perm (x::m)/\k.Pairwise (·<=·):=by
   intro m
   induction m with
   |nil=>intro _;exists [x],.refl _,KI _ _
   |cons y m Sh=>
    intro hp;let⟨hy,hm⟩:=YZ.mp hp;cases Lv:x<=y
    .exists x::y::m,.refl _,YZ.mpr ⟨λz hz=>?_,hp⟩;rcases Yi.mp hz with e|e
     .rw[e];show Lv
     .show FC Lv (hy z e)
    .let⟨k,k1,k2⟩:=Sh hm;exists y::k,(k1.cons y).trans (List.Perm.swap x y m),YZ.mpr ⟨λz hz=>?_,k2⟩;rcases Yi.mp (k1.mem_iff.mp hz) with e|e
     .rw[e];lia
     .show hy z e
  let⟨k,k1,k2⟩:=key m h2;exists k,k1.trans<|h1.cons x,k2
def ni(s:SameP M N):cnt M=cnt N:=by
 unfold cnt Vb;rw[<-s.1];show YV List.length (Nr λp hp=>?_);let hp:=YS.mp hp
 rw[Qh,Xz,Xz];constructor
 .intro h i hi e;show h i hi ((s.2 i p J hp).mpr e)
 .intro h i hi e;show h i hi ((s.2 i p J hp).mp e)
def Br(g:Zy n ps)(hU:Ze n ps U):∀V:Ac,V.Nodup->(∀z∈V,z∈U)->WH n.toNat ps V=V:=by
 show LS (λ_ _=>rfl) λV z ih hn hs=>?_;let Ph:=Wo.mp hn
 let hV:∀y∈V,y∈U:=λy hy=>hs y (Yg _ hy);let hz:z∈U:=hs z (Yj _<|XG.mpr Z)
 let hzV:z∉V:=λh=>Ph.2.2 z h z (XG.mpr Z) rfl;let⟨z0,z1⟩:=hU.1.all z hz;let he:=Tv (z:=z) g z0 z1
 rw[LL,ih Ph.1 hV];unfold RO;rw[if_neg];intro e;let c:=(Wa (ZR g λy hy=>hU.1.all y<|hV y hy) he.1 he.2).mp e
 show(Va g hU z0 z1).mp ((OG g hU hz hz).mpr Z) (c.mono<|ZW λy hy=>Xi.mpr ⟨hV y hy,λe'=>hzV<|by rwa[<-e']⟩)
def nh{as bs:Ac}(g:Zy n ps)(h:∀y∈as,0<=y/\y<ps⁻¹)(z0:0<=z)(z1:z<ps⁻¹)(hz:z∉WH n.toNat ps (as++z::bs)):Conn (XU ps (WH n.toNat ps as)) (Zq ps z).1 (Zq ps z).2:=by
 let⟨us,e,_⟩:=wy n.toNat ps (as++[z]) bs;rw[Yy]at e;let e:WH n.toNat ps (as++z::bs)=WH n.toNat ps (as++[z])++us:=e
 rw[e,LL]at hz;let he:=Tv (z:=z) g z0 z1
 show(Wa (Fe g h) he.1 he.2).mp (Yz λXN=>hz ?_);unfold RO;rw[if_neg XN];show Yg _ (Yj _<|XG.mpr Z)
def ng{as bs:Ac}{y:Int}(h:y∈WH n ps as):y∈WH n ps (as++bs):=by let⟨us,e,_⟩:=wy n ps as bs;rw[e];show Yg _ h
def Bq{α:Type}(p:α->Bool)(l:List α):(l.filter p).length+(l.filter λx=>!p x).length=l.length:=by
 induction l with
 |nil=>rfl
 |cons x l ih=>
  rw[YW,YW];cases p x with
  |true=>simp only[US,Bool.not_true,Rw,Ss,YI];lia
  |false=>simp only[Bool.not_false,US,Rw,Ss,YI];lia
def Fr(n:Nat)(ps:Aa)(l:Ac):(Bool):=decide (WH n ps l=l)
def Fr.nil(n:Nat)(ps:Aa):Fr n ps []=true:=Yv rfl
def Rk:Fr n ps (l++[z])=true↔Fr n ps l=true/\mk (Xb n (XU ps l)) (Zq ps z).1≠mk (Xb n (XU ps l)) (Zq ps z).2:=by
 unfold Fr;rw[YL,YL,LL];constructor
 .intro h;unfold RO at h;split at h
  .have:=(OF n ps l).length_le
   rw[h,Xt]at this;let h1:[z].length=1:=rfl
   lia
  .rename_i XN;let e:=(List.append_inj' h Z).1
   rw[e]at XN;exists e,XN
 .rintro⟨e,XN⟩;rw[e];unfold RO;rw[if_neg XN]
def TJ(n:Nat)(ps:Aa)(k:Nat):(Ab):=(HF ps⁻¹ k).filter (Fr n ps)
def bD(g:Zy n ps):l∈TJ n.toNat ps (n-1).toNat↔Ze n ps l:=by
 unfold TJ;rw[Ya,UU];let g1:=g.1
 constructor
 .rintro⟨⟨h1,h2⟩,h3⟩;let e:WH n.toNat ps l=l:=Yt h3
  let c:=wx g l h2.all;rw[e]at c;exists h2,J,(JV sS<|ZR g h2.all).mp sS
 .intro h;exists ⟨by have:=h.2.1;lia,h.1⟩,Yv<|Br g h l h.1.nodup λz hz=>hz
def wc(hT:Ze n ps T):T.Pairwise (·<·):=(XS.mp hT.1).2
def UD{a:Ac}(h:a.Pairwise (·<=·))(hn:a.Nodup):a.Pairwise (·<·):=(h.and hn).imp λh=>by have:=h.1;have:=h.2;lia
def ZT8(g:Zy n ps):∀zs:Ac,(∀z∈zs,0<=z/\z<ps⁻¹)->(WH n.toNat ps zs).Nodup:=by
 show LS (λ_=>List.Pairwise.nil) λzs z ih hb=>?_;let OU:∀y∈zs,0<=y/\y<ps⁻¹:=λy hy=>hb y (Yg _ hy)
 let⟨z0,z1⟩:=hb z (Yj _<|XG.mpr Z);let he:=Tv (z:=z) g z0 z1
 rw[LL];unfold RO;split
 .show ih OU
 .next XN=>
  show Wo.mpr ⟨ih OU,B,λa ha b nc e=>?_⟩;rw[XG.mp nc]at e;subst e;show XN ((Wa (Fe g OU) he.1 he.2).mpr (.edge ?_));show YR.mpr ⟨a,ha,Z⟩
def Zb6(g:Zy n ps)(hb:∀z∈zs,0<=z/\z<ps⁻¹)(hl:¬((WH n.toNat ps zs).length:Int)<n-1)(UZ:ms.Perm (WH n.toNat ps zs))(QH:ms.Pairwise (·<=·)):Ze n ps ms:=by
 let g1:=g.1;let h2:=wx g zs hb
 let h3:=oJ (M:=Xb n.toNat<|XU ps<|WH n.toNat ps zs) (by rw[ZE];grind);let Oi:=(JV sS<|Fe g hb).mp sS
 show⟨XS.mpr ⟨λz hz=>hb z<|(OF _ _ _).subset (UZ.mem_iff.mp hz),UD QH<|UZ.nodup_iff.mpr<|ZT8 g zs hb⟩,by rw[UZ.length_eq];grind,λi j hi hj=>?_⟩;show(LQ λy=>UZ.mem_iff).mpr (Oi i j hi hj)
def m9{I os U:Ac}(g:Zy n ps)(hU:Ze n ps U)(hI:I.Nodup)(m8:∀z∈I,z∈U)(m7:∀z∈U,z∈I++os)(hb:∀z∈I++os,0<=z/\z<ps⁻¹):(WH n.toNat ps (I++os)).take I.length=I/\¬((WH n.toNat ps (I++os)).length:Int)<n-1:=by
 let g1:=g.1;let⟨us,e,_⟩:=wy n.toNat ps I os;rw[Br g hU I hI m8]at e;show⟨by rw[e,List.take_left],?_⟩;let Oi:∀i j,i<n.toNat->j<n.toNat->Conn (XU ps<|WH n.toNat ps<|I++os) i j:=λi j hi hj=>om g _ hb ((hU.2.2 i j hi hj).mono (ZW m7))
 let h1:=(JV J<|Fe g hb).mpr Oi;let h2:=wx g (I++os) hb
 grind
def wb{p r:Ac}{x:Int}(h:(p++x::r).Pairwise (·<·)):(∀z∈p,z<x)/\∀z∈x::r,x<=z:=by
 let a:=YJ.mp h;exists λz hz=>a.2.2 z hz x Yd,λz hz=>?_;rcases Yi.mp hz with h|h
 .rw[h];show IS _
 .show Mw ((YZ.mp a.2.1).1 z h)
def Zs7{I os U F:Ac}(g:Zy n ps)(hU:Ze n ps U)(m8:∀z∈I,z∈U)(m7:∀z∈U,z∈I++os)(hb:∀z∈I++os,0<=z/\z<ps⁻¹)(ho:os.Pairwise (·<·))(hF:Ze n ps F)(hf:F.Perm (WH n.toNat ps (I++os)))(hIF:∀z∈I,z∈F):HT.lexLt U F=false:=by
 cases QC:HT.lexLt U F with
 |false=>rfl
 |true=>
  exfalso;let⟨p,x,y,r,s,eU,ef,Lv⟩:=cC (by have:=hF.2.1;have:=hU.2.1;lia) QC
  let Hl:x∈U:=by rw[eU];show Yj _ Yd
  let⟨x0,x1⟩:=hU.1.all x Hl;let aU:=wb (eU▸wc hU)
  let aF:=wb (ef▸wc hF);let m6:x∉F:=λh=>by
   rw[ef]at h;rcases XA.mp h with h|h
   .have:=aU.1 x h
    lia
   .have:=aF.2 x h
    lia
  let hxI:x∉I:=λh=>m6 (hIF x h);let hxo:x∈os:=(XA.mp<|m7 x Hl).resolve_left hxI
  let⟨as,bs,eo⟩:=List.append_of_mem hxo;let ao:=wb (eo▸ho)
  let OU:∀z∈I++as,0<=z/\z<ps⁻¹:=λz hz=>hb z ((XA.mp hz).elim (λh=>Yg _ h) λh=>Yj _<|by rw[eo];show Yg _ h);let hxG:x∉WH n.toNat ps ((I++as)++x::bs):=by rw[Yy,<-eo];show λh=>m6 (hf.mem_iff.mpr h)
  let c:=nh g OU x0 x1 hxG;show(Va g hU x0 x1).mp ((OG g hU Hl Hl).mpr Z) (c.mono<|ZW λz hz=>?_);let EU:z∈F:=hf.mem_iff.mpr (by
   have:=ng (bs:=x::bs) hz
   rwa[Yy,<-eo]at this)
  let hzx:z≠x:=λe=>m6 (e▸EU);show Xi.mpr ⟨?_,hzx⟩;rcases XA.mp ((OF _ _ _).subset hz) with h|h
  .show m8 z h
  .let h1:=ao.1 z h;rw[ef]at EU;rcases XA.mp EU with h|h
   .rw[eU];show Yg _ h
   .have:=aF.2 z h
    lia
def With(n:Int)(ps:Aa)(I O U:Ac):(Prop):=Ze n ps U/\(∀z∈I,z∈U)/\∀z∈O,z∉U
def With.sub{I O U os:Ac}(h:With n ps I O U)(ho:∀z,z∈os↔(0<=z/\z<ps⁻¹)/\z∉O):∀z∈U,z∈I++os:=λz hz=>Yj _ ((ho z).mpr ⟨h.1.1.all z hz,λh2=>h.2.2 z h2 hz⟩)
def TC(n:Int)(ps:Aa)(c:Nat):(Prop):=∃L:Ab,L.Nodup/\(∀l,l∈L↔Ze n ps l)/\L.length=c
def TC.uniq(h1:TC n ps c)(h2:TC n ps d):c=d:=by let⟨L,a1,a2,rfl⟩:=h1;let⟨M,b1,b2,rfl⟩:=h2;show((Us a1 b1).mpr λl=>by rw[a2,b2]).length_eq
def Oh:IsSet (m+1) (T++[(m:Int)])↔IsSet m T:=by
 constructor
 .intro h;let a:=XS.mp h
  let b:=YJ.mp a.2;show XS.mpr ⟨λz hz=>?_,b.1⟩;let c:=a.1 z (Yg _ hz)
  let d:=b.2.2 z hz m (XG.mpr Z);omega
 .show λh=>h.snoc
def mZ(h:IsSet (m+1) T):IsSet m T\/∃T',T=T'++[(m:Int)]/\IsSet m T':=by
 let a:=XS.mp h;cases hm:(m:Int)∈T
 .let⟨p,r,e⟩:=List.append_of_mem hm;let b:=wb (e▸a.2)
  cases r with
  |nil=>show .inr ⟨p,e,Oh.mp<|e▸h⟩
  |cons y r=>
   let h1:=a.1 y (by rw[e];simp);let h2:=(YZ.mp (YJ.mp<|e▸a.2).2.1).1 y Yd
   omega
 .show .inl (XS.mpr ⟨λz hz=>?_,a.2⟩);let h1:=a.1 z hz
  let h2:z≠(m:Int):=λe=>hm (e▸hz);lia
def bC{es:List (Nat×Nat)}{a b i j:Nat}(c:Conn (es++[(a,b)]) i j):Conn (es++[(b,a)]) i j:=c.lift λe he=>by
 rcases XA.mp he with q|q
 .show .edge (Yg _ q)
 .rw[XG.mp q];show .symm (.edge B)
def UC(n:Nat)(ps:Aa):(Nat->Ab)
 |0=>[[]]
 |i+1=>UC n ps i++((UC n ps i).map (·++[(i:Int)])).filter (Fr n ps)
def Wk:∀{i:Nat},l∈UC n ps i↔IsSet i l/\Fr n ps l=true
 |0=>by
  change l∈[[]]↔_;rw[XG];constructor
  .rintro rfl;exists IsSet.nil 0,Fr.nil n ps
  .rintro⟨h,_⟩;show YX.mp (by have:=h.len;lia)
 |i+1=>by
  change l∈UC n ps i++_↔_;rw[XA,Wk,Ya,YR];constructor
  .rintro(⟨h1,h2⟩|⟨⟨s,hs,rfl⟩,h2⟩)
   .exists h1.up,h2
   .exists (Wk.mp hs).1.snoc,h2
  .rintro⟨h1,h2⟩;rcases mZ h1 with e|⟨s,rfl,e2⟩
   .show .inl ⟨e,h2⟩
   .show .inr ⟨⟨s,Wk.mpr ⟨e2,(Rk.mp h2).1⟩,Z⟩,h2⟩
def mY(n:Nat)(ps:Aa):∀i:Nat,(UC n ps i).Nodup
 |0=>KI ..
 |i+1=>by
  show Wo.mpr ⟨mY n ps i,Mt IK<|List.Pairwise.map _ (λa b h e=>h<|eD e)<|mY n ps i,λx hx y hy e=>?_⟩;let⟨s,_,e2⟩:=YR.mp (Ya.mp hy).1;let h1:=(Wk.mp hx).1.all (i:Int) (by rw[e,<-e2];simp)
  lia
def bB(n:Nat)(ps:Aa):∀i:Nat,(UC n ps i).length<=2^i
 |0=>XM 1
 |i+1=>by
  change(UC n ps i++_).length<=_;rw[Xt,Nat.pow_succ];let h1:=bB n ps i
  let h2:(((UC n ps i).map (·++[(i:Int)])).filter (Fr n ps)).length<=(UC n ps i).length:=Yn (Yr ..) (by rw[Yc];show XM _);grind
def Bp(n:Nat)(ps:Aa)(h:i<=10):(UC n ps i).length<=1024:=Yn (bB n ps i) (ud sT h)
def mX(g:Zy n ps):(l∈UC n.toNat ps ps.length/\l⁻¹=n-1)↔Ze n ps l:=by
 rw[<-bD g,Wk];unfold TJ;let g1:=g.1
 rw[Ya,UU];constructor
 .rintro⟨⟨a,b⟩,c⟩;exists ⟨J,a⟩,b
 .rintro⟨⟨a,b⟩,c⟩;exists ⟨b,c⟩,D
def PhL(n:Nat)(ps:Aa)(H:Hp)(x:V)(l:Ac):(Prop):=∃t p h,x=.ref t/\H t=some (.tup [.ref p,.ref h])/\H p=some (.tup<|IL l)/\H h=some (.lst<|IL<|Xb n<|XU ps l)
def PhM(n:Nat)(ps:Aa)(d:Addr)(H:Hp)(x:V)(l:Ac):(Prop):=∃t p h,x=.ref t/\H t=some (.tup [.ref p,.ref h])/\H p=some (.tup<|IL l)/\H h=some (.lst<|IL<|Xb n<|XU ps l)/\h≠d
def PhL.same(s:Same H H')(h:PhL n ps H x l):PhL n ps H' x l:=by let⟨t,p,q,e,h1,h2,h3⟩:=h;exists t,p,q,e,s _ _ h1,s _ _ h2,s _ _ h3
def PhM.same(s:Same H H')(h:PhM n ps d H x l):PhM n ps d H' x l:=by let⟨t,p,q,e,h1,h2,h3,h4⟩:=h;exists t,p,q,e,s _ _ h1,s _ _ h2,s _ _ h3,h4
def PhM.low(h:PhM n ps d H x l):PhL n ps H x l:=by let⟨t,p,q,e,h1,h2,h3,h4⟩:=h;exists t,p,q,e,h1,h2,h3
def PhM.mut{ys zs:List V}(h:PhM n ps d H x l)(hd:H d=some (.lst ys)):PhM n ps d (upd H d (.lst zs)) x l:=by let⟨t,p,q,e,h1,h2,h3,h4⟩:=h;exists t,p,q,e,by rw[XJ (Vt h1 hd (λz=>nomatch z))];show h1,by rw[XJ (Vt h2 hd (λz=>nomatch z))];show h2,by rw[XJ h4];show h3,h4
def Bears.app{α:Type}[DecidableEq α]{R:V->α->Prop}{xs ys:List V}{l m:List α}(h:Bears R xs l)(h2:Bears R ys m):Bears R (xs++ys) (l++m):=by
 show⟨by rw[Xt,Xt,h.1,h2.1],λi a e=>?_⟩;let hl:=h.1
 cases c:i<l.length
 .rw[Yp c]at e;let⟨x,e1,r⟩:=h.2 i a e;exists x,by rw[Yp J];show e1,r
 .rw[Ym J]at e;let⟨x,e1,r⟩:=h2.2 _ a e;exists x,by rw[Ym J,hl];show e1,r
def mW{a b M N:Int}(a0:0<=a)(aM:a<M)(b0:0<=b)(bN:b<N):0<=a*b/\a*b<M*N:=⟨Int.mul_nonneg a0 b0,Int.lt_of_le_of_lt (Int.mul_le_mul_of_nonneg_left (Mw bN) a0)<|Int.mul_lt_mul_of_pos_right aM J⟩
def PairsV.set(h:PairsV H xs ps)(i:Nat)(q:PairV H v p):PairsV H (xs.set i v) (ps.set i p):=by
 show⟨by rw[MC,MC];show h.1,λj x e=>?_⟩;let hl:=h.1
 cases c:i=j
 .subst c;rw[MF]at e;rw[if_pos Z]at e;cases Xk:i<ps.length
  .rw[if_pos Xk]at e;let rfl:=Ye e;exists v,by rw[MF,if_pos Z,if_pos J],q
  .rw[if_neg Xk]at e;cases e
 .rw[MF,if_neg c]at e;let⟨w,e1,r⟩:=h.2 j x e;exists w,by rw[MF,if_neg c];show e1,r
end My
namespace L2
open PySem PySem.Spec PyProof.Rows
def ET(K:Ad)(a b:Addr):(It):=
 ⟨λi H=>∃xs ys x y,SqL K H a xs/\SqL K H b ys/\xs[i]?=some x/\ys[i]?=some y,λi H v H'=>∃T x y,H T=none/\v=.ref T/\H'=upd H T (.tup [x,y])/\(∀xs,SqL K H a xs->xs[i]?=some x)/\∀ys,SqL K H b ys->ys[i]?=some y,
  λi H=>∃xs ys,SqL K H a xs/\SqL K H b ys/\(xs.length<=i\/ys.length<=i)⟩
def mV{P:Program}{w:World}{K:Ad}{elts:List Expr}{x1:Nat}{pos:Pos}(a b z TI TO i1 i2:Addr)(sP:ZipApart z TI TO i1 i2 a b):
  Turn P w K (.Tuple elts x1 pos) (ET K a b) [z,TI,TO,i1,i2] z (λi h=>IsZip h z TI TO .none/\IsPair h TI ↑i1 ↑i2/\(∃c d,IsPair h TO c d)/\h.IsListIter i1 a i/\h.IsListIter i2 b i) where
 mem:=B
 obj:=λi h st c hc=>by
  let⟨hz,Og,⟨u,v,MT⟩,⟨o1,e1,_,d1⟩,⟨o2,e2,_,d2⟩⟩:=st;let WQ:c=z\/c=TI\/c=TO\/c=i1\/c=i2:=by simpa using hc
  rcases WQ with rfl|rfl|rfl|rfl|rfl
  .exists _,hz,λv q=>by let q':Data.fields _=Data.cell v:=q;cases q'
  .exists _,Og,λv q=>by let q':Data.seq _ _=Data.cell v:=q;cases q'
  .exists _,MT,λv q=>by let q':Data.seq _ _=Data.cell v:=q;cases q'
  .exists o1,e1,λv q=>by rw[d1]at q;cases q
  .exists o2,e2,λv q=>by rw[d2]at q;cases q
 keep:=λi h h' st k=>by let⟨hz,Og,⟨u,v,MT⟩,h1,h2⟩:=st;exists k z B _ hz,k TI B _ Og,⟨u,v,k TO B _ MT⟩,h1.at λo e=>k i1 B o e,h2.at λo e=>k i2 B o e
 item:=by
  intro X hP hw hK hc i pins s σ H E I hf st hg;subst hP hw hK;let⟨xs,ys,x,y,hq,Sj,hx,hy⟩:=hg;let⟨hz,Og,⟨u0,v0,MT⟩,h1,h2⟩:=st;let⟨XX,rv,p,_⟩:=I.list hq;let⟨u,hu,ru⟩:=rv.get hx;let⟨Vs,wa,p2,_⟩:=I.list Sj;let⟨v,hv,mU⟩:=wa.get hy;let fz:=hf z B
  let QB:=hf TO B;let QA:=hf i1 B
  let Qz:=hf i2 B;let pR:H (~~~s)=none:=I.hok.fresh (XM _)
  show wpAny_pyNext_zip_item sP hz Og MT h1 h2 p.isList p2.isList (x:=u) (y:=v) (by simpa using hu) (by simpa using hv) λh' a1 a2 a3 a4 a5 hsz hk=>?_;let Nd:∀b ob,s.heap.get? b=some ob->b≠(~~~s):=λb ob z=>YD (Yq z)
  let OS:∀b ob,H b=some ob->b≠(~~~s):=λb ob z=>YD (I.hok.lt z);let Nc:∀c ob,H c=some ob->c≠z/\c≠TO/\c≠i1/\c≠i2:=λc ob q=>⟨λe=>(by rw[e,fz.1]at q;cases q),λe=>(by rw[e,QB.1]at q;cases q),λe=>(by rw[e,QA.1]at q;cases q),λe=>(by rw[e,Qz.1]at q;cases q)⟩
  let JG:∀c o,c∉[z,TO,i1,i2]->s.heap.get? c=some o->h'.get? c=some o:=λc o VQ q=>hk c o (λe=>VQ<|by simp[e]) (λe=>VQ<|by simp[e]) (λe=>VQ<|by simp[e]) (λe=>VQ<|by simp[e]) q;let I1:Inv X pins σ (upd H (~~~s)<|.tup [x,y]) {s with heap:=h'}:=by
   show I.step (g':=s.gens) (d':=s.drawn) (t':=s.toks) (ch:=[z,TO,i1,i2]) (λc hb=>?_) (λc o _ _ VQ q _=>JG c o VQ q) (λc o _ _ VQ q _=>⟨o.slots,JG c o VQ q⟩)
    (λc o _ q n=>by rwa[XJ (Nd c o q)]) (λc o VQ q=>⟨o,JG c o VQ q⟩) (λc ys q=>by rwa[XJ (OS c _ q)]) (λc o v q=>by rwa[XJ (OS c _ q)])
    (λc ps q=>⟨#[],by rw[XJ (OS c _ q),q];simp⟩) (λm hm=>?_) (λc v' q=>?_) I.bare
   .let WQ:c=z\/c=TO\/c=i1\/c=i2:=by simpa using hb
    rcases WQ with rfl|rfl|rfl|rfl
    .exists fz.2.2.2.1,fz.2.1,fz.2.2.2.2.1,fz.2.2.2.2.2
    .exists QB.2.2.2.1,QB.2.1,QB.2.2.2.2.1,QB.2.2.2.2.2
    .exists QA.2.2.2.1,QA.2.1,QA.2.2.2.2.1,QA.2.2.2.2.2
    .exists Qz.2.2.2.1,Qz.2.1,Qz.2.2.2.2.1,Qz.2.2.2.2.2
   .let⟨o,es,ep,UW,r⟩:=hm;exists o,es,ep,hk _ o (Xa fz.2.1) (Xa QB.2.1) (Xa QA.2.1) (Xa Qz.2.1) UW,r
   .cases hb:c=(~~~s)
    .subst hb;rw[XR]at q;cases q;exists by change 2<=sizeLine;decide,[u,v],.cons ru<|.cons mU .nil,⟨_,a5,Z,_,Z⟩
    .rw[XJ hb]at q;show(I.hok c v' q).stay (λe w' WQ q'=>?_) (λe q=>by rwa[XJ (OS e _ q)]) λe ys q=>by rwa[XJ (OS e _ q)]
     rcases WQ with rfl|WQ
     .have:=Nc e _ q
      show hk e w' this.1 this.2.1 this.2.2.1 this.2.2.2 q'
     .have:=Nc e _ WQ
      show hk e w' this.1 this.2.1 this.2.2.1 this.2.2.2 q'
  exists _,Z,wpAny_letOwnedTupleGo_zip a1 λh2 nO SO=>?_;let fT:z≠(~~~s):=Nd z _ hz
  let I2:Inv X pins σ (upd H (~~~s)<|.tup [x,y]) {s with heap:=h2}:=Inv.turned (s:={s with heap:=h'}) (h':=h2) (t':=s.toks) (it:=z) I1 (λb o hb q=>SO.extBut b o hb q) (by rw[XJ fT];show fz.1) fz.2.1 fz.2.2.2.1 fz.2.2.2.2.1 fz.2.2.2.2.2;show⟨.ref (~~~s),_,I2,Z,⟨_,x,y,pR,Z,Z,λys Ia=>by rw[I.list_inj Ia hq];show hx,λys Ia=>by rwa[I.list_inj Ia Sj]⟩,
   ⟨nO,SO.extBut _ _ sP.TIz (JG _ _ (by have:=sP.TIz;have:=sP.TITO;have:=sP.TIi1;have:=sP.TIi2;simp;exists sP.TIz,sP.TITO,sP.TIi1,sP.TIi2) Og),⟨u,v,SO.extBut _ _ sP.TOz a2⟩,a3.at λo q=>SO.extBut i1 o sP.i1z q,a4.at λo q=>SO.extBut i2 o sP.i2z q⟩,λc hc=>?_⟩
  let WQ:c=z\/c=TI\/c=TO\/c=i1\/c=i2:=by simpa using hc
  let hn:=(hf c hc).1;rcases WQ with rfl|rfl|rfl|rfl|rfl
  .rw[XJ fT];show hn
  .rw[XJ (Nd _ _ Og)];show hn
  .rw[XJ (Nd _ _ MT)];show hn
  .let⟨o,eo,_⟩:=h1;rwa[XJ (Nd _ o eo)]
  .let⟨o,eo,_⟩:=h2;rwa[XJ (Nd _ o eo)]
 done:=by
  intro X hP hw hK hc i pins s σ H E I hf st hg;subst hP hw hK;let⟨xs,ys,hq,Sj,mT⟩:=hg;let⟨hz,Og,⟨u0,v0,MT⟩,h1,h2⟩:=st;let⟨XX,rv,p,_⟩:=I.list hq;let⟨Vs,wa,p2,_⟩:=I.list Sj;let l1:=rv.length
  let l2:=wa.length;let fz:=hf z B
  let QB:=hf TO B;let QA:=hf i1 B
  let Qz:=hf i2 B;show wpAny_pyNext_zip_end (I.ok.hd hc) sP hz Og MT h1 h2 p.isList p2.isList (by
   rcases mT with e|e
   .show .inl (by simp;lia)
   .show .inr<|by simp;lia) λh' hk=>⟨Z,?_⟩
  let JG:∀c o,c∉[z,TO,i1,i2]->s.heap.get? c=some o->h'.get? c=some o:=λc o VQ q=>hk c o (λe=>VQ<|by simp[e]) (λe=>VQ<|by simp[e]) (λe=>VQ<|by simp[e]) (λe=>VQ<|by simp[e]) q;let Nc:∀c ob,H c=some ob->c≠z/\c≠TO/\c≠i1/\c≠i2:=λc ob q=>⟨λe=>(by rw[e,fz.1]at q;cases q),λe=>(by rw[e,QB.1]at q;cases q),λe=>(by rw[e,QA.1]at q;cases q),λe=>(by rw[e,Qz.1]at q;cases q)⟩
  show I.step (g':=s.gens) (d':=s.drawn) (t':=s.toks) (ch:=[z,TO,i1,i2]) (λc hb=>?_) (λc o _ _ VQ q _=>JG c o VQ q) (λc o _ _ VQ q _=>⟨o.slots,JG c o VQ q⟩)
   (λc o _ q n=>n) (λc o VQ q=>⟨o,JG c o VQ q⟩) (λc ys q=>q) (λc o v q=>q)
   (λc ps q=>⟨#[],by rw[q];simp⟩) (λm hm=>?_) (λc v' q=>?_) I.bare
  .let WQ:c=z\/c=TO\/c=i1\/c=i2:=by simpa using hb
   rcases WQ with rfl|rfl|rfl|rfl
   .exists fz.2.2.2.1,fz.2.1,fz.2.2.2.2.1,fz.2.2.2.2.2
   .exists QB.2.2.2.1,QB.2.1,QB.2.2.2.2.1,QB.2.2.2.2.2
   .exists QA.2.2.2.1,QA.2.1,QA.2.2.2.2.1,QA.2.2.2.2.2
   .exists Qz.2.2.2.1,Qz.2.1,Qz.2.2.2.2.1,Qz.2.2.2.2.2
  .let⟨o,es,ep,UW,r⟩:=hm;exists o,es,ep,hk _ o (Xa fz.2.1) (Xa QB.2.1) (Xa QA.2.1) (Xa Qz.2.1) UW,r
  .show(I.hok c v' q).stay (λe w' WQ q'=>?_) (λe q=>q) λe ys q=>q;rcases WQ with rfl|WQ
   .have:=Nc e _ q
    show hk e w' this.1 this.2.1 this.2.2.1 this.2.2.2 q'
   .have:=Nc e _ WQ
    show hk e w' this.1 this.2.1 this.2.2.1 this.2.2.2 q'
 self:=λ_ _ _ _ _ st h=>wpAny_pyIter_zip st.1 h
def mS(K:Ad)(ta:TA):(TI):=λσ H R=>ta σ H λvs H1=>∃a b,vs=[.ref a,.ref b]/\(∃xs ys,SqL K H1 a xs/\SqL K H1 b ys)/\R (ET K a b) H1
section
variable{X:Cx}
def Bo(K:Ad){elts:List Expr}{x1:Nat}{RY:Pos}{e f:Expr}{ta:TA}{p pos:Pos}(hg:Gl X "zip")(hm:X.mg "zip"=none)(ha:PA X [e,f] ta)(hs:starEach [e,f] X.env=(false,eval e X.env)::starEach [f] X.env:=by rfl)(UQ:(backTo pos<|starEach [f] X.env).any (·.1)=false:=by rfl)(hk:X.K=K:=by rfl):
  PI X (.Tuple elts x1 RY) (.Call (.Name "zip" p) [e,f] [] pos) (mS K ta):=by
 subst hk;intro pins s σ H R I h;show Call_ (Qd I hg hm Boot.«zip»<|Jd (thn (ha pos pins s σ H _ I h) λus s1 Xs=>?_) hs UQ);let⟨vs,H1,I1,r1,q1⟩:=Xs;let⟨a,b,ev,⟨xs,ys,hq,Sj⟩,q⟩:=q1;subst ev;let⟨u,u',rfl,ru,ru'⟩:=Pa r1;let rfl:u=Value.ref a:=ru;let rfl:u'=Value.ref b:=ru';let⟨XX,rv,pl,_⟩:=I1.list hq;let⟨Vs,wa,bx,_⟩:=I1.list Sj;let lt1:a<(~~~s1):=by let⟨_,_,e,_⟩:=pl;show Yq e
 let lt2:b<(~~~s1):=by let⟨_,_,e,_⟩:=bx;show Yq e
 let sP:ZipApart ((~~~s1)+4) ((~~~s1)+2) ((~~~s1)+3) (~~~s1) ((~~~s1)+1) a b:=by
  let key:∀n x y:Nat,x<n->y<n->ZipApart (n+4) (n+2) (n+3) n (n+1) x y:=λn x y h1 h2=>by constructor<;>(intro q;let q':(_:Nat)=_:=q;lia)
  show key _ _ _ lt1 lt2
 show call_zip_2 pl.isList bx.isList λh' hz Og MT mR Vf hsz hk=>?_;show wpAny_pyIter_zip (s:={s1 with heap:=h'}) hz ?_;exists (~~~s1)+4,[(~~~s1)+4,(~~~s1)+2,(~~~s1)+3,(~~~s1),(~~~s1)+1],_,_,H1,Z,I1.kept (t':=s1.toks) hk,mV a b _ _ _ _ _ sP,⟨hz,Og,⟨_,_,MT⟩,mR,Vf⟩,λc hc=>?_,q;let hle:(~~~s1)<=c:=by
  let WQ:c=(~~~s1)+4\/c=(~~~s1)+2\/c=(~~~s1)+3\/c=(~~~s1)\/c=(~~~s1)+1:=by simpa using hc
  rcases WQ with e|e|e|e|e<;>rw[e]<;>first|show XM _|show Nat.le_add_right _ _
 show I1.fpOk hle (I1.hok.fresh hle)
end
end L2
namespace My
open PySem L2
section
variable{K:Ad}{a b:Addr}{xs ys:List V}{g:TG}{tt:TT}{te:TE}{o:Nat}{fr:List Nat}{σ:St}{H:Hp}{Q:VK}
def mQ(Pv:Nat->List V->Hp->Prop)(h0:Pv 0 [] H)(Lv:xs.length=ys.length)(hz:xs.length<sizeLine)(hl:∀i zs H,i<=xs.length->Pv i zs H->SqL K H a xs/\SqL K H b ys/\zs.length<=i)
  (hs:∀(i:Nat) x y zs H (p:Addr),H p=none->xs[i]?=some x->ys[i]?=some y->Pv i zs H->Fp Pv g tt te o fr σ i ↑p zs (upd H p<|.tup [x,y]))(hd:∀zs H,Pv xs.length zs H->∀p,H p=none->Q ↑p (upd H p<|.lst zs)):Kg (ET K a b) g tt te o fr σ H Q:=by
 exists λi m zs H=>m=xs.length-i/\i<=xs.length/\Pv i zs H,⟨xs.length,B,Yk _,h0⟩,?_;rintro i m zs H ⟨rfl,hi,p⟩;let⟨q,q2,hy⟩:=hl i zs H hi p;cases Xk:i<xs.length
 .show .inr ⟨⟨xs,ys,xs[i],ys[i]'(by lia),q,q2,by simp[Xk],Xq D⟩,J,λx H' ⟨T,u,v,hT,ex,eH,hu,hv⟩=>?_⟩;subst ex eH;show hs i u v zs H T hT (hu xs q) (hv ys q2) p (λj zs H=>∃m',m'<xs.length-i/\m'=xs.length-j/\j<=xs.length/\Pv j zs H) λzs H p'=>⟨xs.length-(i+1),sS,Z,Xk,p'⟩
 .let e:i=xs.length:=J;subst e;show .inl ⟨⟨xs,ys,q,q2,.inl<|XM _⟩,J,hd zs H p⟩
end
end My
namespace My
abbrev Mx:=Nat->Nat->Int
def sm:(Nat->(Nat->Int)->Int)
 |0,_=>0
 |n+1,f=>sm n f+f n
def ZH{f g:Nat->Int}:∀{n:Nat},(∀i,i<n->f i=g i)->sm n f=sm n g
 |0,_=>rfl
 |n+1,h=>by change sm n f+f n=sm n g+g n;rw[ZH λi hi=>h i J,h n J]
def Hk{f g:Nat->Int}:∀{n:Nat},sm n (λi=>f i+g i)=sm n f+sm n g
 |0=>rfl
 |n+1=>by change sm n (λi=>f i+g i)+(f n+g n)=sm n f+f n+(sm n g+g n);rw[Hk];lia
def Qy{c:Int}{f:Nat->Int}:∀{n:Nat},sm n (λi=>c*f i)=c*sm n f
 |0=>(VE c).symm
 |n+1=>by change sm n (λi=>c*f i)+c*f n=c*(sm n f+f n);rw[Qy,IT]
def Tt:∀{n:Nat},sm n (λ_=>0)=0
 |0=>rfl
 |n+1=>by change sm n (λ_=>0)+0=0;rw[Tt];rfl
def Hj{f:Nat->Int}(h:∀i,i<n->f i=0):sm n f=0:=by rw[ZH h];show Tt
def Bn{f:Nat->Int}:∀{n:Nat},sm (n+1) f=f 0+sm n (λi=>f (i+1))
 |0=>by change 0+f 0=f 0+0;lia
 |n+1=>by change sm (n+1) f+f (n+1)=f 0+(sm n (λi=>f<|i+1)+f (n+1));rw[Bn];lia
def mP{f:Nat->Nat->Int}:∀{n:Nat},sm n (λi=>sm m (f i))=sm m (λj=>sm n λi=>f i j)
 |0=>Tt.symm
 |n+1=>by change sm n (λi=>sm m<|f i)+sm m (f n)=sm m λj=>sm n (λi=>f i j)+f n j;rw[mP,Hk]
def sk(j k:Nat):(Nat):=if k<j then k else k+1
def mn(A:Mx)(j:Nat):(Mx):=λi k=>A (i+1) (sk j k)
def sg(j:Nat):(Int):=if j%2=0 then 1 else -1
def vZ(j:Nat):sg (j+1)=- sg j:=by
 unfold sg;cases h:j%2=0
 .rw[if_pos h,if_neg D]
 .rw[if_neg h,if_pos J];rfl
def det:(Nat->Mx->Int)
 |0,_=>1
 |n+1,A=>sm (n+1) λj=>sg j*A 0 j*det n (mn A j)
def Of{j k n:Nat}(h:k<n):sk j k<n+1:=by unfold sk;split<;>lia
def Zj:∀{n:Nat}{A sO:Mx},(∀i j,i<n->j<n->A i j=sO i j)->det n A=det n sO
 |0,_,_,_=>rfl
 |n+1,A,sO,h=>ZH λj hj=>by rw[h 0 j J hj,Zj (A:=mn A j) (sO:=mn sO j) λi k hi hk=>h (i+1) (sk j k) J (Of hk)]
def Hi:∀{n:Nat}{A sO C:Mx}{c:Int}{i:Nat},i<n->(∀r j,r<n->j<n->r≠i->A r j=sO r j/\A r j=C r j)->(∀j,j<n->A i j=c*sO i j+C i j)->det n A=c*det n sO+det n C
 |0,_,_,_,_,_,hi,_,_=>absurd hi (Sv _)
 |n+1,A,sO,C,c,i,hi,h1,h2=>by
  change sm (n+1) (λj=>sg j*A 0 j*det n (mn A j))=c*sm (n+1) (λj=>sg j*sO 0 j*det n (mn sO j))+sm (n+1) λj=>sg j*C 0 j*det n (mn C j);rw[<-Qy,<-Hk];show ZH λj hj=>?_;cases i with
  |zero=>
   let e1:det n (mn sO j)=det n (mn A j):=Zj λr k hr hk=>(h1 (r+1) (sk j k) D (Of hk) J).1.symm;let e2:det n (mn C j)=det n (mn A j):=Zj λr k hr hk=>(h1 (r+1) (sk j k) J (Of hk) J).2.symm
   rw[e1,e2,h2 j hj];generalize det n (mn A j)=d;generalize sg j=s;rw[IT,xt,<-Ru s c,Pw s c,Ru c s,Ru c]
  |succ i=>
   let e:=Hi (n:=n) (A:=mn A j) (sO:=mn sO j) (C:=mn C j) (c:=c) (i:=i) J (λr k hr hk XN=>h1 (r+1) (sk j k) J (Of hk) J) λk hk=>h2 (sk j k) (Of hk);let e0:=h1 0 j J hj J
   rw[e,<-e0.1,<-e0.2];generalize det n (mn sO j)=d;generalize det n (mn C j)=d';generalize sg j*A 0 j=s;rw[IT,<-Ru,<-Ru,Pw s c]
def mO(h:j<=k):mn (mn A j) k i l=mn (mn A (k+1)) j i l:=by
 change A (i+1+1) (sk j<|sk k l)=A (i+1+1) (sk (k+1)<|sk j l);show YV _ ?_;unfold sk;cases h1:l<j
 .rw[if_pos (show l<k by lia),if_pos h1,if_pos (show l<k+1 by lia)]
 .rw[if_neg h1];cases h2:l<k
  .rw[if_pos h2,if_neg h1,if_pos (show l+1<k+1 by lia)]
  .rw[if_neg h2,if_neg (show ¬l+1<j by lia),if_neg (show ¬l+1<k+1 by lia)]
def mN:∀{n:Nat}{A:Mx}{i:Nat},i+1<n->(∀j,j<n->A i j=A (i+1) j)->det n A=0
 |0,_,_,hi,_=>absurd hi (Sv _)
 |n+1,A,i+1,hi,h=>Hj λj hj=>by rw[mN (A:=mn A j) (i:=i) J λk hk=>h (sk j k)<|Of hk,VE]
 |1,_,0,hi,_=>absurd hi D
 |n+2,A,0,_,h=>by
  obtain⟨t,ht⟩:∃t:Nat->Nat->Int,t=λj k=>sg j*A 0 j*(sg k*A 1 (sk j k)*det n (mn (mn A j) k)):=⟨_,Z⟩;let e1:det (n+2) A=sm (n+2) λj=>sm (n+1) (t j):=ZH λj hj=>by rw[ht,Qy];rfl
  let e2:∀j k,j<=k->k<n+1->t (k+1) j=- t j k:=λj k hjk hk=>by
   rw[ht];change sg (k+1)*A 0 (k+1)*(sg j*A 1 (sk (k+1) j)*det n (mn (mn A<|k+1) j))=- (sg j*A 0 j*(sg k*A 1 (sk j k)*det n (mn (mn A j) k)))
   let f1:sk (k+1) j=j:=by unfold sk;rw[if_pos J]
   let f2:sk j k=k+1:=by unfold sk;rw[if_neg J]
   let f3:det n (mn (mn A<|k+1) j)=det n (mn (mn A j) k):=Zj λi l _ _=>(mO hjk).symm;rw[f1,f2,f3,vZ,<-h j J,<-h (k+1) J];generalize det n (mn (mn A j) k)=d;generalize A 0 j=x;generalize A 0 (k+1)=y;generalize sg j=s;generalize sg k=u;simp only[xu,Int.neg_inj];simp only[Pw,xR,Ru]
  let e3:sm (n+2) (λj=>sm (n+1)<|t j)=sm (n+2) (λj=>sm (n+1) λk=>if k<j then t j k else 0)+sm (n+2) (λj=>sm (n+1) λk=>if k<j then 0 else t j k):=by rw[<-Hk];show ZH λj _=>?_;rw[<-Hk];show ZH λk _=>?_;split<;>lia
  let e4:sm (n+2) (λj=>sm (n+1) λk=>if k<j then t j k else 0)=sm (n+1) (λk=>sm (n+1) λj=>if k<=j then t (j+1) k else 0):=by
   rw[mP];show ZH λk _=>?_;rw[Bn,if_neg J,FE];show ZH λj _=>?_;cases c:k<=j
   .rw[if_pos c,if_pos D]
   .rw[if_neg c,if_neg J]
  let e5:sm (n+2) (λj=>sm (n+1) λk=>if k<j then 0 else t j k)=sm (n+1) (λj=>sm (n+1) λk=>if j<=k then t j k else 0):=by
   change sm (n+1) (λj=>sm (n+1) λk=>if k<j then 0 else t j k)+sm (n+1) (λk=>if k<n+1 then 0 else t (n+1) k)=_;rw[Hj (f:=λk=>if k<n+1 then 0 else t (n+1) k) λk hk=>if_pos hk,Vu];show ZH λj _=>ZH λk _=>?_;cases c:j<=k
   .rw[if_pos c,if_neg J]
   .rw[if_neg c,if_pos J]
  rw[e1,e3,e4,e5,<-Hk];show Hj λj hj=>?_;rw[<-Hk];show Hj λk hk=>?_;cases c:j<=k
  .rw[if_pos c,if_pos c,e2 j k c hk];lia
  .rw[if_neg c,if_neg c];rfl
def put2(A:Mx)(i:Nat)(x y:Nat->Int):(Mx):=λr=>if r=i then x else if r=i+1 then y else A r
def mM{x x' y:Nat->Int}(hi:i+1<n):det n (put2 A i (λj=>x j+x' j) y)=det n (put2 A i x y)+det n (put2 A i x' y):=by
 have:=Hi (n:=n) (A:=put2 A i (λj=>x j+x' j) y) (sO:=put2 A i x y) (C:=put2 A i x' y) (c:=1) (i:=i) J (λr j _ _ XN=>by unfold put2;rw[if_neg XN,if_neg XN,if_neg XN];exists Z,Z) (λj _=>by unfold put2;rw[if_pos Z,if_pos Z,if_pos Z,VM])
 rw[this,VM]
def bw{x y y':Nat->Int}(hi:i+1<n):det n (put2 A i x λj=>y j+y' j)=det n (put2 A i x y)+det n (put2 A i x y'):=by
 let ne:¬i+1=i:=J
 have:=Hi (n:=n) (A:=put2 A i x λj=>y j+y' j) (sO:=put2 A i x y) (C:=put2 A i x y') (c:=1) (i:=i+1) J (λr j _ _ XN=>by unfold put2;rw[if_neg XN,if_neg XN,if_neg XN];exists Z,Z) (λj _=>by unfold put2;rw[if_neg ne,if_neg ne,if_neg ne,if_pos Z,if_pos Z,if_pos Z,VM])
 rw[this,VM]
def mL{x:Nat->Int}(hi:i+1<n):det n (put2 A i x x)=0:=mN hi λj _=>by unfold put2;rw[if_pos Z,if_neg J,if_pos Z]
def mK{x y:Nat->Int}(hi:i+1<n):det n (put2 A i y x)=- det n (put2 A i x y):=by let h:=mL (A:=A) (x:=λj=>x j+y j) hi;rw[mM hi,bw hi,bw hi,mL hi,mL hi]at h;lia
def mJ:put2 A i (A i) (A (i+1))=A:=by
 funext r
 unfold put2;cases h:r=i
 .rw[if_pos h,h]
 .rw[if_neg h];cases h2:r=i+1
  .rw[if_pos h2,h2]
  .rw[if_neg h2]
def bu(hi:i+1<n):det n (put2 A i (A (i+1)) (A i))=- det n A:=by
 have:=mK (A:=A) (x:=A i) (y:=A<|i+1) hi
 rwa[mJ]at this
def vY:∀{d:Nat}{A:Mx},a+d+1<n->(∀j,j<n->A a j=A (a+d+1) j)->det n A=0
 |0,A,hn,h=>mN hn h
 |d+1,A,hn,h=>by
  let e:=bu (n:=n) (A:=A) (i:=a+d+1) J;let z:det n (put2 A (a+d+1) (A<|a+d+1+1)<|A<|a+d+1)=0:=by show vY (a:=a) (d:=d) J λj hj=>?_;unfold put2;rw[if_neg J,if_neg J,if_pos Z];show h j hj
  lia
def rotN(k t i:Nat):(Nat):=if i<k then i else if i=k then k+t else if i<=k+t then i-1 else i
def Zl8(k i:Nat):rotN k 0 i=i:=by
 unfold rotN;cases h:i<k
 .rw[if_pos h]
 .rw[if_neg h];cases h2:i=k
  .rw[if_pos h2,h2];rfl
  .rw[if_neg h2,if_neg J]
def mI:∀{t:Nat}{A:Mx},k+t<n->det n (λi=>A (rotN k t i))=sg t*det n A
 |0,A,_=>by rw[show sg 0=1 from Z,VM];show Zj λi j _ _=>by rw[Zl8]
 |t+1,A,h=>by
  let e:=mI (n:=n) (k:=k) (t:=t) (A:=put2 A (k+t) (A<|k+t+1)<|A<|k+t) J;rw[bu J]at e;let f:det n (λi=>A<|rotN k (t+1) i)=det n (λi=>put2 A (k+t) (A<|k+t+1) (A<|k+t)<|rotN k t i):=Zj λi j _ _=>by
   show congrFun ?_ j;let r1:rotN k (t+1) i=if i<k then i else if i=k then k+(t+1) else if i<=k+(t+1) then i-1 else i:=rfl
   let r2:rotN k t i=if i<k then i else if i=k then k+t else if i<=k+t then i-1 else i:=rfl
   unfold put2;cases h1:i<k
   .rw[if_pos h1]at r1 r2;rw[r1,r2,if_neg J,if_neg J]
   .rw[if_neg h1]at r1 r2;cases h2:i=k
    .rw[if_pos h2]at r1 r2;rw[r1,r2,if_pos Z];rfl
    .rw[if_neg h2]at r1 r2;cases h3:i<=k+t
     .rw[if_pos J]at r1;rw[if_pos h3]at r2;rw[r1,r2,if_neg J,if_neg J]
     .rw[if_neg h3]at r2;cases h4:i=k+t+1
      .rw[if_pos J]at r1;rw[r1,r2,if_neg sS,if_pos h4];show YV A J
      .rw[if_neg J]at r1;rw[r1,r2,if_neg J,if_neg h4]
  rw[f,e,vZ,Int.mul_neg,xu]
def mH:∀{n:Nat}{A:Mx},(∀i,i<n+1->A i 0=0)->det (n+1) A=0
 |0,A,h=>by change 0+sg 0*A 0 0*1=0;rw[h 0 D,VE];rfl
 |n+1,A,h=>Hj λj hj=>by
  cases j with
  |zero=>rw[h 0 J,VE,DX]
  |succ j=>
   rw[mH (A:=mn A<|j+1) λi hi=>?_,VE];change A (i+1) (sk (j+1) 0)=0
   rw[show sk (j+1) 0=0 from Z];show h (i+1) J
def mG(h:∀i,i<n->A (i+1) 0=0):det (n+1) A=A 0 0*det n (λi j=>A (i+1) (j+1)):=by
 change sm (n+1) (λj=>sg j*A 0 j*det n (mn A j))=_;rw[Bn,Hj λj hj=>?_]
 .rw[Vu,show sg 0=1 from Z,VM];show YV (A 0 0 * ·) (Zj λi j _ _=>?_);rfl
 .cases n with
  |zero=>show absurd hj (Sv _)
  |succ n=>
   rw[mH (A:=mn A<|j+1) λi hi=>?_,VE];show h i hi
def br{i:Nat}(hi:i<n)(h:∀j,j<n->A i j=0):det n A=0:=by
 have:=Hi (A:=A) (sO:=A) (C:=A) (c:=1) hi (λr j _ _ _=>⟨Z,Z⟩) (λj hj=>by rw[h j hj];rfl)
 grind
def bq{c:Int}:∀{n:Nat}{A:Mx},det n (λi j=>c*A i j)=c^n*det n A
 |0,_=>by change(1:Int)=c^0*1;rw[IU];rfl
 |n+1,A=>by
  change sm (n+1) (λj=>sg j*(c*A 0 j)*det n (mn (λi j=>c*A i j) j))=c^(n+1)*sm (n+1) λj=>sg j*A 0 j*det n (mn A j);rw[<-Qy];show ZH λj _=>?_;let e:det n (mn (λi j=>c*A i j) j)=c^n*det n (mn A j):=bq (A:=mn A j)
  rw[e,Pp];generalize det n (mn A j)=d;generalize c^n=p;generalize sg j=s;generalize A 0 j=x;simp only[Pw,xR,Ru]
def offN(R:Mx):(Mx):=λi j=>R 0 0*R (i+1) (j+1)-R (i+1) 0*R 0 (j+1)
def WD(R:Mx)(k:Nat):(Mx):=λr j=>if r=0 then R 0 j else if r<=k then R 0 0*R r j-R r 0*R 0 j else R r j
def bp{m:Nat}:∀{k:Nat},k<m+1->det (m+1) (WD R k)=R 0 0^k*det (m+1) R
 |0,_=>by
  rw[IU,VM];show Zj λi j _ _=>?_;unfold WD;cases h:i=0
  .rw[if_pos h,h]
  .rw[if_neg h,if_neg J]
 |k+1,hk=>by
  let ih:=bp (m:=m) (R:=R) (k:=k) J;obtain⟨C,hC⟩:∃C:Mx,C=λr j=>if r=k+1 then-R (k+1) 0*R 0 j else WD R k r j:=⟨_,Z⟩
  obtain⟨sO,hB⟩:∃sO:Mx,sO=λr j=>if r=k+1 then R 0 j else WD R k r j:=⟨_,Z⟩
  obtain⟨sG,hZ⟩:∃sG:Mx,sG=λr j=>if r=k+1 then 0 else WD R k r j:=⟨_,Z⟩
  let hBz:det (m+1) sO=0:=vY (n:=m+1) (a:=0) (d:=k) J λj hj=>by
   rw[hB];change(if 0=k+1 then _ else WD R k 0 j)=if 0+k+1=k+1 then _ else _
   rw[if_neg J,if_pos J];rfl
  let hZz:det (m+1) sG=0:=br (i:=k+1) hk λj hj=>by rw[hZ];show if_pos rfl
  let hCz:det (m+1) C=0:=by
   have:=Hi (A:=C) (sO:=sO) (C:=sG) (c:=- R (k+1) 0) hk (λr j _ _ XN=>by
    rw[hC,hB,hZ];change(if r=k+1 then _ else WD R k r j)=(if r=k+1 then _ else WD R k r j)/\(if r=k+1 then _ else WD R k r j)=(if r=k+1 then _ else WD R k r j)
    rw[if_neg XN,if_neg XN,if_neg XN];exists Z,Z) (λj _=>by
    rw[hC,hB,hZ];change(if k+1=k+1 then _ else _)=_*(if k+1=k+1 then _ else _)+(if k+1=k+1 then _ else _)
    rw[if_pos Z,if_pos Z,if_pos Z,Vu])
   rw[this,hBz,hZz,VE];rfl
  have:=Hi (A:=WD R<|k+1) (sO:=WD R k) (C:=C) (c:=R 0 0) hk (λr j _ _ XN=>by
   let e1:WD R (k+1) r j=WD R k r j:=by
    unfold WD;cases h0:r=0
    .rw[if_pos h0,if_pos h0]
    .rw[if_neg h0,if_neg h0];cases h1:r<=k
     .rw[if_pos h1,if_pos J]
     .rw[if_neg h1,if_neg J]
   exists e1,?_;rw[hC,e1];change _=if r=k+1 then _ else _
   rw[if_neg XN]) (λj _=>by
   let e1:WD R (k+1) (k+1) j=R 0 0*R (k+1) j-R (k+1) 0*R 0 j:=by unfold WD;rw[if_neg J,if_pos J]
   let e2:WD R k (k+1) j=R (k+1) j:=by unfold WD;rw[if_neg D,if_neg J]
   rw[e1,e2,hC];change _=_+(if k+1=k+1 then-R (k+1) 0*R 0 j else _)
   rw[if_pos Z,xu]
   rfl)
  rw[this,hCz,ih,Vu,Pp];rw[<-Ru,Pw (R 0 0)]
def mF:R 0 0*det m (offN R)=R 0 0^m*det (m+1) R:=by
 rw[<-bp (k:=m) J,mG λi hi=>?_]
 .let e0:WD R m 0 0=R 0 0:=if_pos rfl;rw[e0];show YV (R 0 0 * ·) (Zj λi j hi hj=>?_);unfold WD offN;rw[if_neg J,if_pos J]
 .unfold WD;rw[if_neg J,if_pos J,Pw];lia
def ex(k:Nat)(r:Nat->Nat)(i:Nat):(Nat):=if i<k then i else k+r (i-k)
def Rj(A:Mx)(k M:Nat)(R:Mx)(last:Int):(Prop):=last≠0/\∀m r c,(∀i,i<m+1->r i<M/\c i<M)->
 det (m+1) (λi j=>R (r i)<|c j)=det (k+m+1) (λi j=>A (ex k r i)<|ex k c j)*last^m
def Za9(A:Mx)(n:Nat):Rj A 0 n A 1:=⟨sT,λm r c _=>by rw[Int.one_pow,Ky,Tj];show Zj λi j _ _=>?_;unfold ex;rw[if_neg (Sv _),if_neg<|Sv _,Tj,Tj,xB,xB]⟩
def Hh{p:Int}(h:p≠0):∀n:Nat,p^n≠0
 |0=>by rw[IU];decide
 |n+1=>by rw[Pp];show Int.mul_ne_zero (Hh h n) h
def Oe(r:Nat->Nat):(Nat->Nat)
 |0=>0
 |i+1=>r i+1
def Bm(k:Nat)(r:Nat->Nat)(i:Nat):ex k (Oe r) i=ex (k+1) r i:=by
 unfold ex;cases h:i<k
 .rw[if_pos h,if_pos J]
 .rw[if_neg h];cases h2:i=k
  .rw[if_pos J,h2,Nl];rfl
  .rw[if_neg J];obtain⟨d,rfl⟩:∃d,i=k+d+1:=⟨i-k-1,sS⟩;rw[show k+d+1-k=d+1 by lia,show k+d+1-(k+1)=d by lia];change k+(r d+1)=k+1+r d
   lia
def JF{k M:Nat}(h:Rj A k (M+1) R last)(hp:R 0 0≠0){m:Nat}{r c:Nat->Nat}(hb:∀i,i<m+1->r i<M/\c i<M):
  det (m+1) (λi j=>offN R (r i)<|c j)=R 0 0^m*(last^(m+1)*det (k+1+m+1) λi j=>A (ex (k+1) r i)<|ex (k+1) c j):=by
 let e1:=mF (m:=m+1) (R:=λi j=>R (Oe r i)<|Oe c j);let e2:=h.2 (m+1) (Oe r) (Oe c) λi hi=>by
  cases i with
  |zero=>exists Nat.succ_pos _,Nat.succ_pos _
  |succ i=>have:=hb i J;exists Nat.succ_lt_succ this.1,Nat.succ_lt_succ this.2
 let e3:det (m+1) (offN λi j=>R (Oe r i)<|Oe c j)=det (m+1) (λi j=>offN R (r i)<|c j):=rfl;let e4:det (k+(m+1)+1) (λi j=>A (ex k (Oe r) i)<|ex k (Oe c) j)=det (k+1+m+1) (λi j=>A (ex (k+1) r i)<|ex (k+1) c j):=by rw[show k+(m+1)+1=k+1+m+1 by lia];show Zj λi j _ _=>by rw[Bm,Bm]
 rw[e3]at e1;rw[e4]at e2;let e5:R (Oe r 0) (Oe c 0)=R 0 0:=rfl
 rw[e5,e2]at e1;generalize det (m+1) (λi j=>offN R (r i)<|c j)=x at *;generalize det (k+1+m+1) (λi j=>A (ex (k+1) r i)<|ex (k+1) c j)=y at *;rw[Pp]at e1;show eK hp ?_;rw[e1,Pw y,Pw<|R 0 0^m,Ru]
def mE(A:Mx):det 1 A=A 0 0:=by change 0+sg 0*A 0 0*1=A 0 0;rw[show sg 0=1 from Z];lia
def mD{k M:Nat}(h:Rj A k (M+1) R last)(hp:R 0 0≠0)(hi:i<M)(hj:j<M):
  offN R i j=last*det (k+2) (λa b=>A (ex (k+1) (λ_=>i) a)<|ex (k+1) (λ_=>j) b):=by
 have:=JF h hp (m:=0) (r:=λ_=>i) (c:=λ_=>j) λ_ _=>⟨hi,hj⟩
 rwa[mE,IU,VM,Pp,IU,VM]at this
def mC(h:Rj A k (M+1) R last)(hp:R 0 0≠0)(hR:∀i j,i<M->j<M->R' i j=(offN R i j).fdiv last):Rj A (k+1) M R' (R 0 0):=by
 exists hp,λm r c hb=>?_;let mB:∀i j,i<M->j<M->offN R i j=last*R' i j:=λi j hi hj=>by rw[hR i j hi hj,mD h hp hi hj,Int.mul_fdiv_cancel_left _ h.1]
 let e1:=JF h hp hb;let e2:det (m+1) (λi j=>offN R (r i)<|c j)=last^(m+1)*det (m+1) (λi j=>R' (r i)<|c j):=by rw[<-bq];show Zj λi j hi hj=>mB _ _ (hb i hi).1 (hb j hj).2
 rw[e2]at e1;show eK (Hh h.1<|m+1) ?_;rw[e1];generalize det (k+1+m+1) (λi j=>A (ex (k+1) r i)<|ex (k+1) c j)=y;rw[xR,Pw y]
def mz(h:Rj A k M R last)(ht:t<M):Rj (λi=>A (rotN k t i)) k M (λi=>R (rotN 0 t i)) last:=by
 exists h.1,λm r c hb=>?_;let e:=h.2 m (λi=>rotN 0 t<|r i) c λi hi=>⟨by
  have:=(hb i hi).1
  unfold rotN;rw[if_neg J];split
  .lia
  .split<;>lia,(hb i hi).2⟩
 rw[e];show YV (· * last^m) (Zj λi j _ _=>?_);show YV (λa=>A a<|ex k c j) ?_;unfold ex;cases hi:i<k
 .rw[if_pos hi,if_pos hi];unfold rotN;rw[if_pos hi]
 .rw[if_neg hi,if_neg hi];change k+rotN 0 t (r<|i-k)=rotN k t (k+r (i-k))
  generalize r (i-k)=a;let r1:rotN 0 t a=if a<0 then a else if a=0 then 0+t else if a<=0+t then a-1 else a:=rfl
  let r2:rotN k t (k+a)=if k+a<k then k+a else if k+a=k then k+t else if k+a<=k+t then k+a-1 else k+a:=rfl
  rw[if_neg J]at r1 r2;cases h1:a=0
  .rw[if_pos h1]at r1;rw[if_pos J]at r2;rw[r1,r2];lia
  .rw[if_neg h1]at r1;rw[if_neg J]at r2;cases h2:a<=t
   .rw[if_pos J]at r1;rw[if_pos J]at r2;rw[r1,r2];lia
   .rw[if_neg J]at r1;rw[if_neg J]at r2;rw[r1,r2]
def Lu(k i:Nat):ex k (λi=>i) i=i:=by
 unfold ex;cases h:i<k
 .rw[if_pos h]
 .rw[if_neg h];change k+(i-k)=i
  grind
def my{k M:Nat}(h:Rj A k (M+1) R last)(h0:∀i,i<M+1->R i 0=0):det (k+M+1) A=0:=by
 let e:=h.2 M (λi=>i) (λi=>i) λi hi=>⟨hi,hi⟩;rw[mH (A:=λi j=>R i j) h0]at e;let e2:det (k+M+1) (λi j=>A (ex k (λi=>i) i)<|ex k (λi=>i) j)=det (k+M+1) A:=Zj λi j _ _=>by rw[Lu,Lu]
 rw[e2]at e;rcases Int.mul_eq_zero.mp e.symm with z|z
 .show z
 .show absurd z (Hh h.1 M)
def mx(h:Rj A k 1 R last):R 0 0=det (k+1) A:=by
 let e:=h.2 0 (λi=>i) (λi=>i) λi hi=>⟨J,D⟩;rw[mE,IU,Ky]at e;let e2:det (k+0+1) (λi j=>A (ex k (λi=>i) i)<|ex k (λi=>i) j)=det (k+1) A:=Zj λi j _ _=>by rw[Lu,Lu]
 rwa[e2]at e
end My
namespace L2
open PySem PySem.Spec PyProof.Rows
def mw(i j:Int):(Prop):=i.natAbs<2^9000/\j.natAbs<2^9000
def mv(i j:Int):(Prop):=j≠0/\j.natAbs<2^9000
def bo(h:a.natAbs<2^9000):Builtin.Int.intBits a<=9000:=PySem.intBits_le_iff.mpr h
section
variable{X:Cx}
def Hg:Wy X (binaryOp .Mult) (rI mw λi j=>.int (i*j)):=Ir λ_ _ _ _ _ _ _ hc q=>mul_int q (.of_bits (Yn (bo hc.1) sT)<|Yn (bo hc.2) sT)
def mr:Wy X (binaryOp .FloorDiv) (rI mv λi j=>.int (i.fdiv j)):=Ir λ_ _ _ _ _ _ _ hc q=>floordiv_int hc.1 q (.inl<|PyProof.noPylong_of_log2<|(Nat.log2_lt (by have:=hc.1;lia)).mpr hc.2)
end
end L2
namespace My
def fnL(L:Ab):(Mx):=λi j=>(L.getD i []).getD j 0
def Ug{l:Ac}{x:Int}(h:L[i]?=some l)(h2:l[j]?=some x):fnL L i j=x:=by
 let e:L.getD i []=l:=by rw[WG,h];rfl
 unfold fnL;rw[e,WG,h2];rfl
def vX(sO:Nat):(Nat->Nat)
 |0=>1
 |n+1=>(n+1)*(sO*vX sO n)
def Bl{f:Nat->Int}{C:Nat}:∀{n:Nat},(∀i,i<n->(f i).natAbs<=C)->(sm n f).natAbs<=n*C
 |0,_=>by change(0:Int).natAbs<=0*C;rw[Nat.zero_mul];show XM 0
 |n+1,h=>by
  let h1:=Bl (n:=n) λi hi=>h i J;let h2:=h n J
  let h3:(sm n f+f n).natAbs<=(sm n f).natAbs+(f n).natAbs:=Int.natAbs_add_le ..;change(sm n f+f n).natAbs<=(n+1)*C
  rw[Nat.succ_mul];lia
def bj:∀{n:Nat}{A:Mx},(∀i j,i<n->j<n->(A i j).natAbs<=sO)->(det n A).natAbs<=vX sO n
 |0,_,_=>XM 1
 |n+1,A,h=>by
  show Bl λj hj=>?_;let e:(sg j).natAbs=1:=by unfold sg;split<;>rfl
  rw[IJ,IJ,e,Nat.one_mul];show QV (h 0 j J hj) (bj λi k hi hk=>h (i+1) (sk j k) J<|Of hk)
def Bk{b:Nat}:∀{n:Nat},n<=16->vX (2^b) n<=2^((b+4)*n)
 |0,_=>by change 1<=2^((b+4)*0);rw[Nat.mul_zero];show XM 1
 |n+1,h=>by
  let ih:=Bk (b:=b) (n:=n) J;let e:2^((b+4)*(n+1))=16*(2^b*2^((b+4)*n)):=by rw[Nat.mul_succ,Nat.pow_add,Nat.pow_add,Nat.mul_comm<|2^((b+4)*n),Nat.mul_comm (2^b)<|2^4,Nat.mul_assoc]
  rw[e];change(n+1)*(2^b*vX (2^b) n)<=_
  show QV h (QV (XM _) ih)
def mq(hn:n<=16)(h:∀i j,i<n->j<n->(A i j).natAbs<=2^400):(det n A).natAbs<2^9000:=by
 let h1:=bj h;let h2:=Bk (b:=400) hn
 let h3:2^((400+4)*n)<=2^(404*16):=ud sT (QV (XM _) hn);let h4:2^(404*16)<2^9000:=Nat.pow_lt_pow_right sT sT
 show xT (Yn h1<|Yn h2 h3) h4
def ml(h:Rj A k M R last){i j:Nat}(hi:i<M)(hj:j<M):R i j=det (k+1) (λa b=>A (ex k (λ_=>i) a) (ex k (λ_=>j) b)):=by
 have:=h.2 0 (λ_=>i) (λ_=>j) λ_ _=>⟨hi,hj⟩
 rwa[mE,IU,Ky]at this
def Zb9{k M n:Nat}(h:Rj A k M R last)(hn:k+M=n)(hn16:n<=16)(hA:∀i j,i<n->j<n->(A i j).natAbs<=2^400){i j:Nat}(hi:i<M)(hj:j<M):(R i j).natAbs<2^9000:=by
 rw[ml h hi hj];show mq J λa b ha hb=>hA _ _ ?_ ?_
 .let e:ex k (λ_=>i) a=if a<k then a else k+i:=rfl
  rw[e];split<;>lia
 .let e:ex k (λ_=>j) b=if b<k then b else k+j:=rfl
  rw[e];split<;>lia
def mj{L:Ab}{l:Ac}(h:L[t]?=some l)(i:Nat):(l::L.eraseIdx t)[i]?=L[rotN 0 t i]?:=by
 let ht:=(Xx.mp h).1;let r:rotN 0 t i=if i<0 then i else if i=0 then 0+t else if i<=0+t then i-1 else i:=rfl
 rw[if_neg J]at r;cases i with
 |zero=>
  rw[if_pos Z,Tj]at r;rw[r,h];rfl
 |succ i=>
  rw[if_neg J,Tj]at r;rw[r,List.getElem?_cons_succ,uf];cases c:i+1<=t
  .rw[if_pos c,if_pos J];rfl
  .rw[if_neg c,if_neg J]
def mi{l:Ac}(h:L[t]?=some l):fnL (l::L.eraseIdx t)=λi=>fnL L (rotN 0 t i):=by
 funext i j
 change((l::L.eraseIdx t).getD i []).getD j 0=(L.getD (rotN 0 t i) []).getD j 0;show YV (λr:Ac=>r.getD j 0) ?_;rw[WG,WG,mj h]
def Od(y:Int)(p:Ac)(last:Int)(l:Ac):(Ac):=List.zipWith (λown other=>(y*own-l.headD 0*other).fdiv last) l.tail p
def bh(h:l.length=p.length+1):(Od y p last l).length=p.length:=by unfold Od;rw[Ej,List.length_tail];grind
def mh{L:Ab}{M:Nat}(hp:p.length=M)(hL:L.length=M)(hl:∀l∈L,l.length=M+1){i j:Nat}(hi:i<M)(hj:j<M):
  fnL (L.map<|Od y p last) i j=(offN (fnL<|(y::p)::L) i j).fdiv last:=by
 obtain⟨l,JE⟩:∃l,L[i]?=some l:=⟨_,Xq J⟩;let Ls:=hl l (Xj JE)
 obtain⟨x,l',rfl⟩:∃x l',l=x::l':=by
  cases l with
  |nil=>cases Ls
  |cons x l'=>exists x,l',Z
 let Pj:l'.length=M:=by rw[YI]at Ls;lia
 obtain⟨u,hu⟩:∃u,l'[j]?=some u:=⟨_,Xq J⟩;obtain⟨v,hv⟩:∃v,p[j]?=some v:=⟨_,Xq J⟩;let e1:fnL (L.map<|Od y p last) i j=(y*u-x*v).fdiv last:=Ug (l:=Od y p last<|x::l') (by rw[Ys,JE];rfl) (by
  change(List.zipWith _ l' p)[j]?=_;rw[FP,hu,hv]
  rfl)
 let e2:fnL ((y::p)::L) 0 0=y:=rfl;let e3:fnL ((y::p)::L) (i+1) (j+1)=u:=Ug (l:=x::l') JE hu
 let e4:fnL ((y::p)::L) (i+1) 0=x:=Ug (l:=x::l') JE rfl;let e5:fnL ((y::p)::L) 0 (j+1)=v:=Ug (l:=y::p) Z hv
 rw[e1];unfold offN;rw[e2,e3,e4,e5]
end My
namespace My
open PySem L2
def Bj(K:Ad)(H:Hp)(v:V)(l:Ac):(Prop):=∃r k,v=.ref r/\SqK k K H r (IL l)
def LiV(d:Addr)(H:Hp)(v:V)(l:Ac):(Prop):=∃r,v=.ref r/\H r=some (.lst<|IL l)/\r≠d
def LiV.same(s:Same H H')(h:LiV d H v l):LiV d H' v l:=by let⟨r,e,h,n⟩:=h;exists r,e,s _ _ h,n
def LiV.mut(h:LiV d H v l):LiV d (upd H d o) v l:=by let⟨r,e,h,n⟩:=h;exists r,e,by rw[XJ n];show h,n
def LiV.list(h:LiV d H v l):Uj H v l:=by let⟨r,e,h,_⟩:=h;exists r,e,h
def Bears.erase{α:Type}[DecidableEq α]{R:V->α->Prop}{xs:List V}{l:List α}(h:Bears R xs l)(t:Nat):Bears R (xs.eraseIdx t) (l.eraseIdx t):=by
 let hl:=h.1;show⟨by rw[t9,t9,hl],λi a e=>?_⟩;rw[uf]at e;rw[uf];split at e
 .next c=>rw[if_pos c];show h.2 _ _ e
 .next c=>rw[if_neg c];show h.2 _ _ e
def bg(x:Int)(l:Ac):Wx (IL (x::l)) (some 1) none=IL l:=by rw[bG sT];rfl
def mf(t:Nat):sg t*sg t=1:=by unfold sg;split<;>rfl
end My
namespace My
def me{f:Nat->Nat->Int}:sm n (λi=>sm m λj=>f i j)=sm m (λj=>sm n λi=>f i j):=mP
def aZ:∀{n:Nat}{A:Mx},det (n+1) A=sm (n+1) λi=>sg i*A i 0*det n (λr c=>A (sk i r) (c+1))
 |0,A=>rfl
 |n+1,A=>by
  let e1:det (n+2) A=sg 0*A 0 0*det (n+1) (mn A 0)+sm (n+1) λj=>sg (j+1)*A 0 (j+1)*det (n+1) (mn A<|j+1):=Bn;let e2:sm (n+2) (λi=>sg i*A i 0*det (n+1) λr c=>A (sk i r)<|c+1)=sg 0*A 0 0*det (n+1) (λr c=>A (sk 0 r)<|c+1)+sm (n+1) λi=>sg (i+1)*A (i+1) 0*det (n+1) (λr c=>A (sk (i+1) r)<|c+1):=Bn
  rw[e1,e2];let e3:det (n+1) (mn A 0)=det (n+1) (λr c=>A (sk 0 r)<|c+1):=Zj λr c _ _=>rfl
  rw[e3];show YV (λz:Int=>sg 0*A 0 0*det (n+1) (λr c=>A (sk 0 r)<|c+1)+z) ?_;obtain⟨sP,hD⟩:∃sP:Nat->Nat->Int,sP=λi j=>det n (λr c=>A (sk i r+1)<|sk (j+1)<|c+1):=⟨_,Z⟩;let e4:∀j,j<n+1->det (n+1) (mn A<|j+1)=sm (n+1) λi=>sg i*A (i+1) 0*sP i j:=λj _=>by rw[aZ,hD];rfl
  let e5:∀i,i<n+1->det (n+1) (λr c=>A (sk (i+1) r)<|c+1)=sm (n+1) λj=>sg j*A 0 (j+1)*sP i j:=λi hi=>by
   change sm (n+1) (λj=>sg j*A (sk (i+1) 0) (j+1)*det n (mn (λr c=>A (sk (i+1) r)<|c+1) j))=_;show ZH λj _=>?_;rw[hD];change sg j*A (sk (i+1) 0) (j+1)*det n (mn (λr c=>A (sk (i+1) r)<|c+1) j)=sg j*A 0 (j+1)*det n (λr c=>A (sk i r+1)<|sk (j+1)<|c+1)
   rw[show sk (i+1) 0=0 from Z];show YV (sg j*A 0 (j+1) * ·) (Zj λr c _ _=>?_);change A (sk (i+1)<|r+1) (sk j c+1)=A (sk i r+1) (sk (j+1)<|c+1)
   let f1:sk (i+1) (r+1)=sk i r+1:=by
    unfold sk;cases h:r<i
    .rw[if_pos h,if_pos J]
    .rw[if_neg h,if_neg J]
   let f2:sk j c+1=sk (j+1) (c+1):=by
    unfold sk;cases h:c<j
    .rw[if_pos h,if_pos J]
    .rw[if_neg h,if_neg J]
   rw[f1,f2]
  let e6:sm (n+1) (λj=>sg (j+1)*A 0 (j+1)*det (n+1) (mn A<|j+1))=sm (n+1) λj=>sm (n+1) λi=>sg (j+1)*A 0 (j+1)*(sg i*A (i+1) 0*sP i j):=ZH λj hj=>by rw[e4 j hj,Qy]
  let e7:sm (n+1) (λi=>sg (i+1)*A (i+1) 0*det (n+1) λr c=>A (sk (i+1) r)<|c+1)=sm (n+1) λi=>sm (n+1) λj=>sg (i+1)*A (i+1) 0*(sg j*A 0 (j+1)*sP i j):=ZH λi hi=>by rw[e5 i hi,Qy]
  rw[e6,e7,me];show ZH λi _=>ZH λj _=>?_;rw[vZ,vZ];generalize sP i j=d;generalize A 0 (j+1)=x;generalize A (i+1) 0=y;generalize sg i=s;generalize sg j=u;simp only[xu,Int.neg_inj];simp only[Pw,xR,Ru]
def Oc:∀{n:Nat}{A:Mx},det n (λi j=>A j i)=det n A
 |0,_=>rfl
 |n+1,A=>by
  rw[aZ (A:=A)];show ZH λj _=>?_;change sg j*A j 0*det n (λi k=>A (sk j k)<|i+1)=sg j*A j 0*det n (λr c=>A (sk j r)<|c+1)
  rw[<-Oc (A:=λr c=>A (sk j r)<|c+1)]
def pr:(Nat->(Nat->Int)->Int)
 |0,_=>1
 |n+1,f=>pr n f*f n
def ma{n a b:Nat}(ha:a<n)(hb:b<n)(XN:a≠b)(h:∀j,j<n->A a j=A b j):det n A=0:=by
 rcases Nat.lt_or_gt_of_ne XN with c|c
 .obtain⟨d,rfl⟩:∃d,b=a+d+1:=⟨b-a-1,sS⟩;show vY hb h
 .obtain⟨d,rfl⟩:∃d,a=b+d+1:=⟨a-b-1,sS⟩;show vY ha λj hj=>(h j hj).symm
def putr(A:Mx)(i:Nat)(x:Nat->Int):(Mx):=λr=>if r=i then x else A r
def aY{c:Int}{x y:Nat->Int}(hi:i<n):det n (putr A i λj=>c*x j+y j)=c*det n (putr A i x)+det n (putr A i y):=
 Hi hi (λr j _ _ XN=>by unfold putr;rw[if_neg XN,if_neg XN,if_neg XN];exists Z,Z) (λj _=>by unfold putr;rw[if_pos Z,if_pos Z,if_pos Z])
def aX:putr A i (A i)=A:=by
 funext r
 unfold putr;cases h:r=i
 .rw[if_pos h,h]
 .rw[if_neg h]
def aW{n a b:Nat}{c:Int}(ha:a<n)(hb:b<n)(XN:a≠b):det n (putr A a λj=>A a j+c*A b j)=det n A:=by
 let e:(λj=>A a j+c*A b j)=λj=>c*A b j+A a j:=by funext j;lia
 rw[e,aY ha,aX,ma ha hb XN (A:=putr A a<|A b) λj _=>?_,VE,FE];unfold putr;rw[if_pos Z,if_neg (Xa XN)]
def l9(a i:Nat):rotN 0 a (i+1)=sk a i:=by
 let r:rotN 0 a (i+1)=if i+1<0 then i+1 else if i+1=0 then 0+a else if i+1<=0+a then i+1-1 else i+1:=rfl
 rw[if_neg J,if_neg J]at r;rw[r];unfold sk;cases h:i<a
 .rw[if_pos h,if_pos J];lia
 .rw[if_neg h,if_neg J]
def aV{f:Nat->Int}{a:Nat}:∀{n:Nat},a<n->(∀j,j<n->j≠a->f j=0)->sm n f=f a
 |0,h,_=>absurd h (Sv _)
 |n+1,h,h0=>by
  change sm n f+f n=f a;cases c:a=n
  .rw[Hj λi hi=>h0 i sS J,c,FE]
  .rw[aV (n:=n) J λj hj XN=>h0 j J XN,h0 n J J,Vu]
def l8(ha:a<n+1):det (n+1) (putr A a λj=>if j=a then 1 else 0)=det n (λi j=>A (sk a i) (sk a j)):=by
 let e:=mI (n:=n+1) (k:=0) (t:=a) (A:=putr A a λj=>if j=a then 1 else 0) J;let r0:rotN 0 a 0=a:=by change(if 0<0 then 0 else if 0=0 then 0+a else _)=a;rw[if_neg J,if_pos Z,Tj]
 let top:det (n+1) (λi=>putr A a (λj=>if j=a then 1 else 0)<|rotN 0 a i)=sg a*det n (λi j=>A (sk a i)<|sk a j):=by
  change sm (n+1) (λj=>sg j*putr A a (λj=>if j=a then 1 else 0) (rotN 0 a 0) j*det n (mn (λi=>putr A a (λj=>if j=a then 1 else 0)<|rotN 0 a i) j))=_;rw[aV ha λj _ XN=>?_]
  .rw[r0];let e1:putr A a (λj=>if j=a then 1 else 0) a a=1:=by unfold putr;rw[if_pos Z,if_pos Z]
   rw[e1,Ky];show YV (sg a * ·) (Zj λi j _ _=>?_);change putr A a (λj=>if j=a then 1 else 0) (rotN 0 a<|i+1) (sk a j)=A (sk a i) (sk a j)
   rw[l9];unfold putr;rw[if_neg (by unfold sk;split<;>lia)]
  .rw[r0];let e1:putr A a (λj=>if j=a then 1 else 0) a j=0:=by unfold putr;rw[if_pos Z,if_neg XN]
   rw[e1,VE,DX]
 rw[top]at e;let h:=YV (sg a * ·) e
 simp only[<-Ru]at h;rw[show sg a*sg a=1 by unfold sg;split<;>rfl,VM,VM]at h
 show h.symm
def aT{w:Int}(ha:a<n+1):det (n+1) (λi j=>A i j+w*((if i=a then 1 else 0)*(if j=a then 1 else 0)))=det (n+1) A+w*det n (λi j=>A (sk a i) (sk a j)):=by
 let e:det (n+1) (λi j=>A i j+w*((if i=a then 1 else 0)*(if j=a then 1 else 0)))=det (n+1) (putr A a λj=>w*(λj=>if j=a then 1 else 0) j+A a j):=Zj λi j _ _=>by
  unfold putr;cases h:i=a
  .subst h;rw[if_pos Z,if_pos Z,VM];change A i j+w*(if j=i then 1 else 0)=w*(if j=i then 1 else 0)+A i j
   show Int.add_comm ..
  .rw[if_neg h,if_neg h,DX,VE,Vu]
 rw[e,aY ha,aX,l8 ha];lia
def ind(u v i:Nat):(Int):=(if i=u then 1 else 0)-(if i=v then 1 else 0)
def PQ(A:Mx)(a b:Nat):(Mx):=λi j=>(A i j+(if i=b then A a j else 0))+(if j=b then A i a+(if i=b then A a a else 0) else 0)
def aS(ha:a<n)(hb:b<n)(XN:a≠b):det n (PQ A a b)=det n A:=by
 let e1:det n A=det n (putr A b λj=>A b j+1*A a j):=(aW hb ha<|Xa XN).symm;obtain⟨R,hR⟩:∃R:Mx,R=putr A b (λj=>A b j+1*A a j):=⟨_,Z⟩;let e2:det n R=det n (putr (λi j=>R j i) b λj=>(λi j=>R j i) b j+1*(λi j=>R j i) a j):=by rw[aW (A:=λi j=>R j i) hb ha (Xa XN)];show Oc.symm
 rw[e1,<-hR,e2,<-Oc (A:=putr (λi j=>R j i) b λj=>(λi j=>R j i) b j+1*(λi j=>R j i) a j)];show Zj λi j _ _=>?_;let rv:∀r c,R r c=A r c+(if r=b then A a c else 0):=λr c=>by
  rw[hR];unfold putr;cases h:r=b
  .rw[if_pos h,if_pos h,h];lia
  .rw[if_neg h,if_neg h];lia
 unfold PQ;change _=(putr (λi j=>R j i) b λj=>R j b+1*R j a) j i
 unfold putr;cases h:j=b
 .rw[if_pos h,if_pos h,rv,rv,h];cases h2:i=b
  .rw[if_pos h2,if_pos h2];lia
  .rw[if_neg h2,if_neg h2];lia
 .rw[if_neg h,if_neg h];change _=R i j
  rw[rv];lia
def l7{w:Int}(ha:a<n+1)(hb:b<n+1)(XN:a≠b):det (n+1) (λi j=>A i j+w*(ind a b i*ind a b j))=det (n+1) A+w*det n (λi j=>PQ A a b (sk a i) (sk a j)):=by
 let e1:=aS (A:=λi j=>A i j+w*(ind a b i*ind a b j)) ha hb XN;let e2:det (n+1) (PQ (λi j=>A i j+w*(ind a b i*ind a b j)) a b)=det (n+1) (λi j=>PQ A a b i j+w*((if i=a then 1 else 0)*(if j=a then 1 else 0))):=Zj λi j _ _=>by
  let na:¬a=b:=XN;let nb:¬b=a:=Xa XN
  unfold PQ ind;cases hi:i=b
  .subst hi;cases hj:j=i
   .subst hj;simp[na,nb];lia
   .cases SF:j=a
    .subst SF;simp[na,nb,hj];lia
    .simp[na,nb,hj,SF]
  .cases Vf:i=a
   .subst Vf;cases hj:j=b
    .subst hj;simp[na,nb];lia
    .cases SF:j=i
     .subst SF;simp[na,nb]
     .simp[na,nb,hj,SF]
   .cases hj:j=b
    .subst hj;simp[na,nb,hi,Vf]
    .cases SF:j=a
     .subst SF;simp[na,nb,hi,Vf]
     .simp[na,nb,hi,Vf,hj,SF]
 rw[<-e1,e2,aT ha,aS ha hb XN]
end My
namespace My
open PySem L2
abbrev Ed:=Nat×Nat×Int
def lapE:(List Ed->Mx)
 |[]=>λ_ _=>0
 |e::E=>λi j=>e.2.2*(ind e.1 e.2.1 i*ind e.1 e.2.1 j)+lapE E i j
def l5(E:List Ed)(e:Ed)(i j:Nat):lapE (E++[e]) i j=lapE E i j+e.2.2*(ind e.1 e.2.1 i*ind e.1 e.2.1 j):=by
 induction E with
 |nil=>show _+0=0+_;lia
 |cons f E ih=>
  change _+lapE (E++[e]) i j=_+lapE E i j+_;rw[ih];lia
def Tb(E:List Ed)(z:Int):(Nat×Nat):=((E.getD z.toNat (0,0,0)).1,(E.getD z.toNat (0,0,0)).2.1)
def Ue(E:List Ed):(Ac->Int)
 |[]=>1
 |z::T=>(E.getD z.toNat (0,0,0)).2.2*Ue E T
def Bi(E:List Ed)(S T:Ac):Ue E (S++T)=Ue E S*Ue E T:=by
 induction S with
 |nil=>show _=1*_;rw[VM];rfl
 |cons z S ih=>show _*Ue E (S++T)=_*_*_;rw[ih,Ru]
def IsT(k:Nat)(E:List Ed)(T:Ac):(Prop):=IsSet E.length T/\T.length=k/\∀i j,i<k+1->j<k+1->Conn (T.map<|Tb E) i j
def TW(k:Nat)(E:List Ed)(s:Int):(Prop):=∃L:Ab,L.Nodup/\(∀T,T∈L↔IsT k E T)/\(L.map<|Ue E).sum=s
def aR{E:List Ed}{e:Ed}{z:Int}(h0:0<=z)(h1:z<E⁻¹):(E++[e]).getD z.toNat (0,0,0)=E.getD z.toNat (0,0,0):=by rw[WG,WG,Yp J]
def aQ(E:List Ed)(e:Ed):(E++[e]).getD (E.length:Int).toNat (0,0,0)=e:=by rw[WG,QP,Ym<|XM _,Nl];rfl
def Hf{e:Ed}(h:IsSet E.length T):T.map (Tb (E++[e]))=T.map (Tb E):=VN λz hz=>by
 have:=h.all z hz
 unfold Tb;rw[aR this.1 this.2]
def He{e:Ed}(h:∀z∈T,0<=z/\z<E⁻¹):Ue (E++[e]) T=Ue E T:=by
 induction T with
 |nil=>rfl
 |cons z T ih=>
  let hz:=h z Yd;change _*Ue (E++[e]) T=_*Ue E T
  rw[aR hz.1 hz.2,ih λy hy=>h y (Yf _ hy)]
def vW{e:Ed}(h:IsSet E.length T):IsT k (E++[e]) T↔IsT k E T:=by
 let h2:IsSet (E++[e]).length T:=by rw[Xt];show h.up
 constructor
 .rintro⟨_,a,b⟩;exists h,a,by rwa[Hf h]at b
 .rintro⟨_,a,b⟩;exists h2,a,by rwa[Hf h]
def aP{e:Ed}(h:IsSet E.length T):(T++[E⁻¹]).map (Tb (E++[e]))=T.map (Tb E)++[(e.1,e.2.1)]:=by
 rw[YK,Hf h];change _++[Tb (E++[e]) E⁻¹]=_
 unfold Tb;rw[aQ]
def sh(a x:Nat):(Nat):=if x<a then x else x-1
def dl(a b x:Nat):(Nat):=if x=a then sh a b else sh a x
def Ob(a y:Nat):sh a (sk a y)=y:=by
 unfold sk;cases h:y<a
 .rw[if_pos h];unfold sh;rw[if_pos h]
 .rw[if_neg h];unfold sh;rw[if_neg J];lia
def Bh(a y:Nat):sk a y≠a:=by unfold sk;split<;>lia
def Lr(h:x≠a):sk a (sh a x)=x:=by
 unfold sh;cases c:x<a
 .rw[if_pos c];unfold sk;rw[if_pos c]
 .rw[if_neg c];unfold sk;rw[if_neg J];lia
def Lq(a b y:Nat):dl a b (sk a y)=y:=by unfold dl;rw[if_neg (Bh a y),Ob]
def Hd(hx:x≠a)(hy:y≠a)(h:sh a x=sh a y):x=y:=by
 have:=YV (sk a) h
 rwa[Lr hx,Lr hy]at this
def lZ(XN:b≠a)(h:dl a b x=dl a b y):x=y\/(x=a/\y=b)\/(x=b/\y=a):=by
 unfold dl at h;cases hx:x=a
 .rw[if_pos hx]at h;cases hy:y=a
  .show .inl (hx.trans hy.symm)
  .rw[if_neg hy]at h;show .inr (.inl ⟨hx,(Hd XN hy h).symm⟩)
 .rw[if_neg hx]at h;cases hy:y=a
  .rw[if_pos hy]at h;show .inr (.inr ⟨Hd hx XN h,hy⟩)
  .rw[if_neg hy]at h;show .inl (Hd hx hy h)
def lY(a b:Nat)(XN:b≠a):dl a b a=dl a b b:=by unfold dl;rw[if_pos Z,if_neg XN]
def lX{es:List (Nat×Nat)}{i j:Nat}(XN:b≠a)(c:Conn (es++[(a,b)]) i j):Conn (es.map λe=>(dl a b e.1,dl a b e.2)) (dl a b i) (dl a b j):=by
 induction c with
 |refl i=>show .refl _
 |edge q=>
  rcases XA.mp q with q|q
  .show .edge (YR.mpr ⟨_,q,Z⟩)
  .let e:=XG.mp q;injection e with e1 e2
   rw[e1,e2,lY a b XN];show .refl _
 |symm _ ih=>show .symm ih
 |trans _ _ a b=>show .trans a b
def lW{es:List (Nat×Nat)}{u v:Nat}(XN:b≠a)(c:Conn (es.map λe=>(dl a b e.1,dl a b e.2)) u v):∀i j,dl a b i=u->dl a b j=v->Conn (es++[(a,b)]) i j:=by
 let he:Conn (es++[(a,b)]) a b:=.edge B;let same:∀i j,dl a b i=dl a b j->Conn (es++[(a,b)]) i j:=λi j e=>by
  rcases lZ XN e with e|⟨e1,e2⟩|⟨e1,e2⟩
  .rw[e];show .refl _
  .rw[e1,e2];show he
  .rw[e1,e2];show he.symm
 induction c with
 |refl u=>show λi j e1 e2=>same i j (e1.trans e2.symm)
 |edge q=>
  intro i j e1 e2;let⟨⟨x,y⟩,Lv,e⟩:=YR.mp q;injection e with x1 x2
  show(same i x<|e1.trans x1.symm).trans (.trans (.edge<|Yg _ Lv)<|same y j<|x2.trans e2.symm)
 |symm _ ih=>show λi j e1 e2=>(ih j i e2 e1).symm
 |@trans x y z _ _ Oj Sh=>show λi j e1 e2=>(Oj i (sk a y) e1<|Lq a b y).trans (Sh (sk a y) j (Lq a b y) e2)
def Lp{a b x k:Nat}(ha:a<k+1)(hb:b<k+2)(XN:b≠a)(hx:x<k+2):dl a b x<k+1:=by
 unfold dl sh;cases h:x=a
 .rw[if_pos h];split<;>grind
 .rw[if_neg h];split<;>grind
def aO{a b k:Nat}{es:List (Nat×Nat)}(ha:a<k+1)(hb:b<k+2)(XN:b≠a):(∀i j,i<k+2->j<k+2->Conn (es++[(a,b)]) i j)↔∀i j,i<k+1->j<k+1->Conn (es.map λe=>(dl a b e.1,dl a b e.2)) i j:=by
 constructor
 .intro c i j h1 h2
  have:=lX XN (c (sk a i) (sk a j) (Of h1)<|Of h2)
  rwa[Lq,Lq]at this
 .show λc i j h1 h2=>lW XN (c _ _ (Lp ha hb XN h1)<|Lp ha hb XN h2) i j Z rfl
def Sg(a b:Nat)(E:List Ed):(List Ed):=E.map λe=>(dl a b e.1,dl a b e.2.1,e.2.2)
def aN{z:Int}(h0:0<=z)(h1:z<E⁻¹):(Sg a b E).getD z.toNat (0,0,0)=(dl a b (E.getD z.toNat (0,0,0)).1,dl a b (E.getD z.toNat (0,0,0)).2.1,(E.getD z.toNat (0,0,0)).2.2):=by unfold Sg;rw[WG,WG,Ys,Xq D];rfl
def aL(h:IsSet E.length T):T.map (Tb (Sg a b E))=(T.map (Tb E)).map λe=>(dl a b e.1,dl a b e.2):=by
 rw[Px];show VN λz hz=>?_
 have:=h.all z hz
 unfold Tb;rw[aN this.1 this.2];rfl
def lV(h:∀z∈T,0<=z/\z<E⁻¹):Ue (Sg a b E) T=Ue E T:=by
 induction T with
 |nil=>rfl
 |cons z T ih=>
  let hz:=h z Yd;change _*Ue (Sg a b E) T=_*Ue E T
  rw[aN hz.1 hz.2,ih λy hy=>h y (Yf _ hy)]
def JD{e:Ed}(ha:a<k+1)(hb:b<k+2)(XN:b≠a)(he:(e.1=a/\e.2.1=b)\/(e.1=b/\e.2.1=a))(h:IsSet E.length T):IsT (k+1) (E++[e]) (T++[E⁻¹])↔IsT k (Sg a b E) T:=by
 let hl:(Sg a b E).length=E.length:=Yc ..;let hc:(∀i j,i<k+2->j<k+2->Conn ((T++[E⁻¹]).map (Tb<|E++[e])) i j)↔∀i j,i<k+2->j<k+2->Conn (T.map (Tb E)++[(a,b)]) i j:=by
  rw[aP h];rcases he with ⟨e1,e2⟩|⟨e1,e2⟩
  .rw[e1,e2]
  .rw[e1,e2];exists λc i j x y=>bC<|c i j x y,λc i j x y=>bC<|c i j x y
 let h2:IsSet (E++[e]).length (T++[E⁻¹]):=by rw[Xt];show h.snoc
 constructor
 .rintro⟨_,x,y⟩;exists hl▸h,?_,?_
  .rw[Xt,Yx]at x;lia
  .rw[aL h];show(aO ha hb XN).mp (hc.mp y)
 .rintro⟨_,x,y⟩;rw[aL h]at y;exists h2,by rw[Xt,Yx,x],hc.mpr<|(aO ha hb XN).mpr y
def lT{E:List Ed}{e:Ed}(hE:∀f∈E,f.1<k+1/\f.2.1<k+1)(he:e.1=e.2.1)(h:IsSet E.length T):¬IsT k (E++[e]) (T++[E⁻¹]):=by
 rintro⟨_,x,y⟩;rw[aP h]at y;let Oi:∀i j,i<k+1->j<k+1->Conn (T.map<|Tb E) i j:=λi j hi hj=>(y i j hi hj).lift λf hf=>by
  rcases XA.mp hf with q|q
  .show .edge q
  .rw[XG.mp q,he];show .refl _
 let Wu:InN (k+1) (T.map<|Tb E):=λf hf=>by
  let⟨z,hz,rfl⟩:=YR.mp hf
  have:=h.all z hz
  unfold Tb;rw[WG,Xq J];show hE _ (TL _)
 let h2:=(JV J Wu).mpr Oi;let h3:=wA _ Wu
 rw[Yc]at h3;rw[Xt,Yx]at x;lia
def lS{e:Ed}(hE:∀f∈E,f.1<k+1/\f.2.1<k+1)(he:e.1=e.2.1)(h:TW k E s):TW k (E++[e]) s:=by
 let⟨L,a1,a2,a3⟩:=h;exists L,a1,λT=>?_,?_
 .rw[a2];constructor
  .show λh=>(vW h.1).mpr h
  .intro h;let hs:=h.1
   rw[Xt]at hs;rcases mZ hs with c|⟨T',c,c2⟩
   .show(vW c).mp h
   .show absurd (c▸h) (lT hE he c2)
 .rw[<-a3];show YV List.sum (VN λT hT=>He ((a2 T).mp hT).1.all)
def lR(a b:Ac):(a++b).sum=a.sum+b.sum:=by
 induction a with
 |nil=>rw[Pz,List.sum_nil,FE]
 |cons x a ih=>rw[Eh,DZ,DZ,ih];lia
def Zf8(w:Int)(l:Ab)(f:Ac->Int):(l.map λT=>f T*w).sum=w*(l.map f).sum:=by
 induction l with
 |nil=>rw[xw,xw,List.sum_nil,VE]
 |cons x l ih=>rw[Uz,Uz,DZ,DZ,ih,IT,Pw]
def lQ{e:Ed}(ha:a<k+1)(hb:b<k+2)(XN:b≠a)(he:(e.1=a/\e.2.1=b)\/(e.1=b/\e.2.1=a))(h1:TW (k+1) E s1)(h2:TW k (Sg a b E) s2):TW (k+1) (E++[e]) (s1+e.2.2*s2):=by
 let⟨L,a1,a2,a3⟩:=h1;let⟨M,b1,b2,b3⟩:=h2;let hl:(Sg a b E).length=E.length:=Yc ..
 exists L++M.map (·++[E⁻¹]),Wo.mpr ⟨a1,?_,λx hx y hy c=>?_⟩,λT=>?_,?_
 .show List.Pairwise.map _ (λx y h c=>h<|eD c) b1
 .let⟨z,hz,c2⟩:=YR.mp hy
  have:=((a2 x).mp hx).1.all E⁻¹ (by rw[c,<-c2];simp)
  lia
 .rw[XA,a2,YR];constructor
  .rintro(h|⟨T',hT,rfl⟩)
   .show(vW h.1).mpr h
   .have:=(b2 T').mp hT
    show(JD ha hb XN he<|hl▸this.1).mpr this
  .intro h;let hs:=h.1
   rw[Xt]at hs;rcases mZ hs with c|⟨T',c,c2⟩
   .show .inl ((vW c).mp h)
   .show .inr ⟨T',(b2 T').mpr ((JD ha hb XN he c2).mp (c▸h)),c.symm⟩
 .rw[YK,lR,Px];let e1:L.map (Ue<|E++[e])=L.map (Ue E):=VN λT hT=>He ((a2 T).mp hT).1.all
  let e2:M.map (Ue (E++[e])∘(·++[E⁻¹]))=M.map λT=>Ue (Sg a b E) T*e.2.2:=VN λT hT=>by
   let hs:IsSet E.length T:=hl▸((b2 T).mp hT).1;change Ue (E++[e]) (T++[E⁻¹])=_
   rw[Bi,He hs.all,lV hs.all];change _*(((E++[e]).getD (E.length:Int).toNat (0,0,0)).2.2*1)=_
   rw[aQ,Ky]
  rw[e1,e2,a3,Zf8,b3]
def Bg(XN:b≠a):ind (dl a b u) (dl a b v) i=ind u v (sk a i)+(if sk a i=b then ind u v a else 0):=by
 let key:∀x:Nat,((if i=dl a b x then 1 else 0:Int))=(if sk a i=x then 1 else 0)+(if sk a i=b then (if a=x then 1 else 0) else 0):=λx=>by
  unfold dl;cases hx:x=a
  .rw[if_pos hx,if_neg<|show ¬sk a i=x from hx▸Bh a i,FE];cases h:sk a i=b
   .rw[if_pos h,if_pos hx.symm,if_pos];rw[<-h,Ob]
   .rw[if_neg h,if_neg];intro e;show h (by rw[e,Lr XN])
  .rw[if_neg hx];let e2:(if sk a i=b then (if a=x then 1 else 0:Int) else 0)=0:=by rw[if_neg (Xa hx)];split<;>rfl
   rw[e2,Vu];cases h:sk a i=x
   .rw[if_pos h,if_pos];rw[<-h,Ob]
   .rw[if_neg h,if_neg];intro e;show h (by rw[e,Lr hx])
 unfold ind;rw[key u,key v];cases h:sk a i=b
 .rw[if_pos h,if_pos h,if_pos h];lia
 .rw[if_neg h,if_neg h,if_neg h];lia
def aK(XN:b≠a)(i j:Nat):∀E:List Ed,lapE (Sg a b E) i j=PQ (lapE E) a b (sk a i) (sk a j)
 |[]=>by
  change(0:Int)=_;unfold PQ lapE;cases h:sk a i=b
  .cases h2:sk a j=b
   .rw[if_pos h,if_pos h2];rfl
   .rw[if_pos h,if_neg h2];rfl
  .cases h2:sk a j=b
   .rw[if_neg h,if_pos h2];rfl
   .rw[if_neg h,if_neg h2];rfl
 |e::E=>by
  let ih:=aK XN i j E;change e.2.2*(ind (dl a b e.1) (dl a b e.2.1) i*ind (dl a b e.1) (dl a b e.2.1) j)+lapE (Sg a b E) i j=_
  rw[ih,Bg XN,Bg XN];unfold PQ;change _=(e.2.2*(ind e.1 e.2.1 (sk a i)*ind e.1 e.2.1 (sk a j))+lapE E (sk a i) (sk a j)+(if sk a i=b then e.2.2*(ind e.1 e.2.1 a*ind e.1 e.2.1 (sk a j))+lapE E a (sk a j) else 0))+(if sk a j=b then (e.2.2*(ind e.1 e.2.1 (sk a i)*ind e.1 e.2.1 a)+lapE E (sk a i) a)+(if sk a i=b then e.2.2*(ind e.1 e.2.1 a*ind e.1 e.2.1 a)+lapE E a a else 0) else 0)
  generalize ind e.1 e.2.1 (sk a i)=x;generalize ind e.1 e.2.1 (sk a j)=y;generalize ind e.1 e.2.1 a=z;generalize e.2.2=w;cases h:sk a i=b
  .cases h2:sk a j=b
   .simp only[if_pos h,if_pos h2,IT,xt];lia
   .simp only[if_pos h,if_neg h2,IT,xt,Vu,VE];lia
  .cases h2:sk a j=b
   .simp only[if_neg h,if_pos h2,IT,xt,Vu,DX];lia
   .simp only[if_neg h,if_neg h2,Vu]
def aJ(u v i:Nat):ind v u i=- ind u v i:=by unfold ind;lia
def lP{e:Ed}(ha:a<k+1)(hb:b<k+2)(XN:b≠a)(he:(e.1=a/\e.2.1=b)\/(e.1=b/\e.2.1=a)):det (k+1) (lapE (E++[e]))=det (k+1) (lapE E)+e.2.2*det k (lapE (Sg a b E)):=by
 let e1:det (k+1) (lapE<|E++[e])=det (k+1) (λi j=>lapE E i j+e.2.2*(ind a b i*ind a b j)):=Zj λi j _ _=>by
  rw[l5];rcases he with ⟨x,y⟩|⟨x,y⟩
  .rw[x,y]
  .rw[x,y,aJ a b i,aJ a b j,Int.neg_mul_neg]
 let e2:det k (lapE<|Sg a b E)=det k (λi j=>PQ (lapE E) a b (sk a i)<|sk a j):=Zj λi j _ _=>aK XN i j E;rw[e1,e2];cases hk:b<k+1
 .show l7 ha hk (Xa XN)
 .let e3:det (k+1) (λi j=>lapE E i j+e.2.2*(ind a b i*ind a b j))=det (k+1) (λi j=>lapE E i j+e.2.2*((if i=a then 1 else 0)*(if j=a then 1 else 0))):=Zj λi j hi hj=>by unfold ind;rw[if_neg (show ¬i=b by lia),if_neg (show ¬j=b by lia),Int.sub_zero,Int.sub_zero]
  let e4:det k (λi j=>PQ (lapE E) a b (sk a i)<|sk a j)=det k (λi j=>lapE E (sk a i)<|sk a j):=Zj λi j hi hj=>by
   let h1:=Of (j:=a) hi;let h2:=Of (j:=a) hj
   unfold PQ;rw[if_neg (show ¬sk a i=b by lia),if_neg (show ¬sk a j=b by lia),Vu,Vu]
  rw[e3,e4];show aT ha
def aI{e:Ed}(he:e.1=e.2.1):lapE (E++[e])=lapE E:=by
 funext i j
 rw[l5,he];unfold ind;rw[Int.sub_self,DX,VE,Vu]
def vV:∀m k E,E.length=m->(∀e∈E,e.1<k+1/\e.2.1<k+1)->TW k E (det k (lapE E))
 |0,k,E,hm,_=>by
  let rfl:=YX.mp hm;cases k with
  |zero=>
   exists [[]],B,λT=>?_,Z;rw[XG];constructor
   .rintro rfl;show⟨IsSet.nil _,Z,λi j hi hj=>by
     have:i=j:=J
     rw[this];show .refl j⟩
   .intro h;show YX.mp h.2.1
  |succ k=>
   exists [],.nil,λT=>⟨λh=>(by cases h),λh=>?_⟩,?_
   .let h1:=h.1.len;let h2:=h.2.1
    rw[KA]at h1;lia
   .show(br (i:=0) J λj _=>rfl).symm
 |m+1,k,E,hm,hE=>by
  obtain⟨E',e,rfl⟩:∃E' e,E=E'++[e]:=⟨E.dropLast,E.getLast (λh=>by rw[h]at hm;cases hm),(eV _).symm⟩;let Ka:E'.length=m:=by rw[Xt]at hm;simpa using hm
  let lO:∀f∈E',f.1<k+1/\f.2.1<k+1:=λf hf=>hE f (Yg _ hf);let he:=hE e B
  let ih:=vV m k E' Ka lO;cases hl:e.1=e.2.1
  .rw[aI hl];show lS lO hl ih
  .obtain⟨k',rfl⟩:∃k',k=k'+1:=⟨k-1,J⟩;obtain⟨a,b,ha,hb,XN,Vh⟩:∃a b,a<k'+1/\b<k'+2/\b≠a/\((e.1=a/\e.2.1=b)\/(e.1=b/\e.2.1=a)):=by
    cases c:e.1<k'+1
    .exists e.1,e.2.1,c,he.2,λh=>hl h.symm,.inl ⟨Z,Z⟩
    .exists e.2.1,e.1,J,he.1,hl,.inr ⟨Z,Z⟩
   let Sh:=vV m k' (Sg a b E') (by unfold Sg;rwa[Yc]) λf hf=>by
    let⟨g,hg,rfl⟩:=YR.mp hf
    have:=lO g hg
    exists Lp ha hb XN this.1,Lp ha hb XN this.2
   rw[lP ha hb XN Vh];show lQ ha hb XN Vh ih Sh
def Ve(ps:Aa)(ws:Ac):(List Ed):=List.zipWith (λp w=>(p.1.toNat,p.2.toNat,w)) ps ws
def aH(h1:1<=n)(hw:ws.length=ps.length):IsT (n-1).toNat (Ve ps ws) T↔Ze n ps T:=by
 let hl:(Ve ps ws).length=ps.length:=by unfold Ve;rw[Ej];grind
 let hm:IsSet ps.length T->T.map (Tb<|Ve ps ws)=XU ps T:=λhs=>VN λz hz=>by
  have:=hs.all z hz
  unfold Tb Ve;rw[WG,FP,Xq J,Xq (show z.toNat<ws.length by lia),WG,Xq D];rfl
 unfold IsT Ze;rw[hl];constructor
 .rintro⟨a,b,c⟩;rw[hm a]at c;exists a,J,λi j hi hj=>c i j J sS
 .rintro⟨a,b,c⟩;rw[hm a];exists a,J,λi j hi hj=>c i j J J
def Bf(h:∀e∈E,e.2.2=1):∀{T:Ac},(∀z∈T,0<=z/\z<E⁻¹)->Ue E T=1
 |[],_=>rfl
 |z::T,hb=>by
  let hz:=hb z Yd;change(E.getD z.toNat (0,0,0)).2.2*Ue E T=1
  rw[Bf h λy hy=>hb y<|Yf _ hy,Ky,WG,Xq J];show h _ (TL _)
def lN{l:Ab}{f:Ac->Int}(h:∀T∈l,f T=1):(l.map f).sum=l⁻¹:=by
 induction l with
 |nil=>rfl
 |cons x l ih=>
  rw[Uz,DZ,ih λT hT=>h T<|Yf _ hT,h x Yd,YI];lia
def Be(g:Zy n ps)(ws:Ac):∀e∈Ve ps ws,e.1<(n-1).toNat+1/\e.2.1<(n-1).toNat+1:=λe he=>by
 unfold Ve at he;let⟨i,hi⟩:=YF he;rw[FP]at hi;let g1:=g.1
 cases h1:ps[i]? with
 |none=>rw[h1]at hi;cases hi
 |some p=>
  cases h2:ws[i]? with
  |none=>rw[h1,h2]at hi;cases hi
  |some w=>
   rw[h1,h2]at hi;let rfl:=Ye hi;let⟨a,b,c,d⟩:=g.2.2.2 p (Xj h1);exists by change p.1.toNat<_;grind,by change p.2.toNat<_;lia
def lM(g:Zy n ps){L:Ab}(hL:L.Nodup)(hm:∀l,l∈L↔Ze n ps l):det (n-1).toNat (lapE (Ve ps (List.replicate ps.length 1)))=L⁻¹:=by
 let g1:=g.1;let hw:(List.replicate ps.length (1:Int)).length=ps.length:=YU
 let⟨M,a1,a2,a3⟩:=vV _ (n-1).toNat (Ve ps<|List.replicate ps.length 1) Z (Be g _);let hl:(Ve ps<|List.replicate ps.length 1).length=ps.length:=by unfold Ve;rw[Ej,hw];grind
 let w1:∀e∈Ve ps (List.replicate ps.length (1:Int)),e.2.2=1:=λe he=>by
  unfold Ve at he;let⟨i,hi⟩:=YF he;rw[FP]at hi;cases h1:ps[i]? with
  |none=>rw[h1]at hi;cases hi
  |some p=>
   cases h2:(List.replicate ps.length (1:Int))[i]? with
   |none=>rw[h1,h2]at hi;cases hi
   |some w=>
    rw[h1,h2]at hi;let rfl:=Ye hi;show yd (Xj h2)
 rw[<-a3,lN λT hT=>Bf w1 ((a2 T).mp hT).1.all];let hp:M.Perm L:=(Us a1 hL).mpr λl=>by rw[a2,hm,aH g1 hw]
 rw[hp.length_eq]
end My
namespace L2
open PySem PySem.Spec PyProof.Rows
section
variable{X:Cx}
def lK(K:Ad):(V->V->Hp->VK->Prop):=λx y H Q=>∃p xs i v,x=.ref p/\y=.int i/\SqL K H p xs/\0<=i/\xs[i.toNat]?=some v/\Q v H
def vU(K:Ad)(hk:X.K=K:=by rfl):DF X (lK K):=by
 subst hk;intro pins s σ H o i ov iv Q I ro ri h;let⟨p,xs,j,z,rfl,rfl,hq,h0,he,q⟩:=h;cases ro;let⟨t,rfl⟩:=ri;let⟨XX,r,pl,hz⟩:=I.list hq;let⟨w,ew,Ii⟩:=r.get he;let hl:=r.length
 let hn:=Dt;let Xk:=(Xx.mp he).1
 show wpAny_getItem_list pl.isList h0 J (by simpa using ew) ⟨z,H,I,Ii,q⟩
end
end L2
namespace My
open PySem L2
def lJ{g:TG}{tb:TS}{sP:Ends}(Lv:xs.length=ys.length)(Pv:Nat->St->Hp->Prop)(h0:Pv 0 σ H)(hl:∀i σ H,i<=xs.length->Pv i σ H->SqL K H a xs/\SqL K H b ys)
  (hs:∀(i:Nat) x y σ H (p:Addr),H p=none->xs[i]?=some x->ys[i]?=some y->Pv i σ H->g ↑p σ (upd H p<|.tup [x,y]) λσ2 H2=>tb {sP with nx:=Pv<|i+1,ct:=Pv<|i+1,bk:=sP.nx} σ2 H2)(hd:∀σ H,Pv xs.length σ H->sP.nx σ H):
  ∃W:Nat->Nat->St->Hp->Prop,(∃m,W 0 m σ H)/\∀i m σ H,W i m σ H->
   ((ET K a b).stop i H/\sP.nx σ H)\/((ET K a b).go i H/\∃N:St->Hp->Prop,(∀σ' H',N σ' H'->∃m',m'<m/\W (i+1) m' σ' H')/\∀x H',(ET K a b).yld i H x H'->g x σ H' λσ2 H2=>tb {sP with nx:=N,ct:=N,bk:=sP.nx} σ2 H2):=by
 exists λi m σ H=>m=xs.length-i/\i<=xs.length/\Pv i σ H,⟨xs.length,B,Yk _,h0⟩,?_;rintro i m σ H ⟨rfl,hi,p⟩;let⟨q,q2⟩:=hl i σ H hi p;cases Xk:i<xs.length
 .show .inr ⟨⟨xs,ys,xs[i],ys[i]'(by lia),q,q2,by simp[Xk],Xq D⟩,Pv<|i+1,λσ' H' p'=>⟨xs.length-(i+1),sS,Z,Xk,p'⟩,λx H' ⟨T,u,v,hT,ex,eH,hu,hv⟩=>?_⟩;subst ex eH;show hs i u v σ H T hT (hu xs q) (hv ys q2) p
 .let e:i=xs.length:=J;subst e;show .inl ⟨⟨xs,ys,q,q2,.inl<|XM _⟩,hd σ H p⟩
structure TabAt(H0:Hp)(r:Addr)(n:Nat)(H:Hp)(ys:List V)(L:Ab):Prop where
 tab:H r=some (.lst ys)
 rows:Bears (LiV r H) ys L
 len:L.length=n
 all:∀l∈L,l.length=n
 nd:ys.Nodup
 new:∀A,V.ref A∈ys->H0 A=none
def TabAt.same(s:Same H H')(h:TabAt H0 r n H ys L):TabAt H0 r n H' ys L:=⟨s _ _ h.tab,h.rows.imp λ_ _ q=>q.same s,h.len,h.all,h.nd,h.new⟩
def TabAt.at(h:TabAt H0 r n H ys L){i:Nat}(hi:i<n):∃A l,ys[i]?=some ↑A/\L[i]?=some l/\H A=some (.lst (IL l))/\l.length=n/\H0 A=none/\A≠r:=by let hl:=h.len;obtain⟨l,e⟩:∃l,L[i]?=some l:=⟨_,Xq J⟩;let⟨v,e1,A,rfl,e2,e3⟩:=h.rows.2 i l e;exists A,l,e1,e,e2,h.all l<|Xj e,h.new A<|Xj e1,e3
def TabAt.put(h:TabAt H0 r n H ys L){l l':Ac}(e1:ys[i]?=some ↑A)(e2:L[i]?=some l)(e3:A≠r)(hl:l'.length=n):TabAt H0 r n (upd H A (.lst (IL l'))) ys (L.set i l'):=by
 let hi:=(Xx.mp e2).1;let UB:=(Xx.mp e1).1
 exists by rw[XJ (Xa e3)];show h.tab,⟨by rw[MC];show h.rows.1,λj m em=>?_⟩,by rw[MC];show h.len,λm hm=>?_,h.nd,h.new
 .rw[MF]at em;cases c:i=j
  .subst c;rw[if_pos Z,if_pos hi]at em;let rfl:=Ye em;exists _,e1,A,Z,XR,e3
  .rw[if_neg c]at em;let⟨v,f1,sO,rfl,f2,f3⟩:=h.rows.2 j m em;exists _,f1,sO,Z,?_,f3;rw[XJ]
   .show f2
   .intro e;rw[e]at f1;show c (Fo h.nd e1 f1)
 .rcases eN hm with e|e
  .show h.all m e
  .rw[e];show hl
def lI{L:Ab}{l:Ac}(hi:L[i]?=some l)(hj:j<l.length)(a b:Nat):fnL (L.set i (l.set j x)) a b=if a=i/\b=j then x else fnL L a b:=by
 let UB:=(Xx.mp hi).1;unfold fnL;cases ha:a=i
 .subst ha;let e1:(L.set a<|l.set j x).getD a []=l.set j x:=by rw[WG,MF,if_pos Z,if_pos UB];rfl
  let e2:L.getD a []=l:=by rw[WG,hi];rfl
  rw[e1,e2];cases hb:b=j
  .subst hb;rw[if_pos ⟨Z,Z⟩,WG,MF,if_pos Z,if_pos hj];rfl
  .rw[if_neg λh=>hb h.2,WG,MF,if_neg<|Xa hb,<-WG]
 .let e1:(L.set i<|l.set j x).getD a []=L.getD a []:=by rw[WG,WG,MF,if_neg (Xa ha)]
  rw[e1,if_neg λh=>ha h.1]
def four{A:Mx}{u v:Nat}{w:Int}(XN:u≠v)(a b:Nat){sO C sP E:Mx}(h1:∀a b,sO a b=if a=u/\b=u then A u u+w else A a b)(h2:∀a b,C a b=if a=v/\b=v then sO v v+w else sO a b)(h3:∀a b,sP a b=if a=u/\b=v then C u v-w else C a b)(h4:∀a b,E a b=if a=v/\b=u then sP v u-w else sP a b):E a b=A a b+w*(ind u v a*ind u v b):=by
 let nv:¬v=u:=Xa XN;unfold ind;cases x1:a=u
 .subst x1;cases y1:b=a
  .subst y1;simp[h4,h3,h2,h1,XN,nv]
  .cases y2:b=v
   .subst y2;simp[h4,h3,h2,h1,XN,nv];lia
   .simp[h4,h3,h2,h1,XN,nv,y1,y2]
 .cases x2:a=v
  .subst x2;cases y1:b=u
   .subst y1;simp[h4,h3,h2,h1,XN,nv];omega
   .cases y2:b=a
    .subst y2;simp[h4,h3,h2,h1,XN,nv]
    .simp[h4,h3,h2,h1,XN,nv,y1,y2]
  .simp[h4,h3,h2,h1,XN,nv,x1,x2]
def lH{ps:Aa}{ws:Ac}{p:Int×Int}{w:Int}(hp:ps[i]?=some p)(hw:ws[i]?=some w):Ve (ps.take (i+1)) (ws.take (i+1))=Ve (ps.take i) (ws.take i)++[(p.1.toNat,p.2.toNat,w)]:=by
 let h1:=(Xx.mp hp).1;let h2:=(Xx.mp hw).1
 unfold Ve;rw[YY,YY,hp,hw];rw[List.zipWith_append (by rw[Yh,Yh];grind)];rfl
def Conn.image{f:Nat->Nat}(h:∀e∈es,Conn fs (f e.1) (f e.2))(c:Conn es i j):Conn fs (f i) (f j):=by
 induction c with
 |refl i=>show .refl _
 |edge e=>show h _ e
 |symm _ ih=>show ih.symm
 |trans _ _ Oj Sh=>show Oj.trans Sh
def lG(g:Zy n ps)(h:IsSet ps.length T)(c:∀i j,i<n.toNat->j<n.toNat->Conn (XU ps T) i j):n-1<=T⁻¹:=by
 let g1:=g.1;let Wu:=ZR (ns:=T) g h.all
 let h2:=(JV J Wu).mpr c;let h3:=wA _ Wu
 rw[show(XU ps T).length=T.length from Yc ..]at h3;lia
end My
namespace L2
open PySem
def Qx(t:SetTable):(Prop):=t.place.toList.Pairwise (·<·)
def vT{xs:Array Nat}(h:xs.toList.Pairwise (·<·)){i k a b:Nat}(lE:i<k)(ha:xs[i]?=some a)(hb:xs[k]?=some b):a<b:=by rw[<-YH]at ha hb;let⟨h1,e1⟩:=Xx.mp ha;let⟨h2,e2⟩:=Xx.mp hb;rw[<-e1,<-e2];show Nx.mp h i k h1 h2 lE
def lD(h:xs.toList.Pairwise (·<·)):∀f lo hi,hi-lo<=f->lo<=hi->hi<=xs.size->(∀i v,xs[i]?=some v->i<lo->v<j)->(∀i v,xs[i]?=some v->hi<=i->j<=v)->
  SetTable.below.go xs j f lo hi<=xs.size/\∀i v,xs[i]?=some v->(i<SetTable.below.go xs j f lo hi↔v<j)
 |0,lo,hi,hf,hl,hs,a,b=>by
  let e:lo=hi:=sS;unfold SetTable.below.go;exists J,λi v hv=>⟨a i v hv,λhvj=>Nat.lt_of_not_le λhc=>?_⟩
  have:=b i v hv J
  lia
 |f+1,lo,hi,hf,hl,hs,a,b=>by
  unfold SetTable.below.go;cases c:lo<hi
  .rw[if_pos c];dsimp only;obtain⟨m,hm⟩:∃m,xs[(lo+hi)/2]?=some m:=⟨_,YT J⟩;let em:xs.getD ((lo+hi)/2) j=m:=by rw[YA,hm];rfl
   rw[em];cases d:m<j
   .rw[if_pos d];show lD h f _ hi sS J hs (λi v hv Vf=>?_) b;cases e:i=(lo+hi)/2
    .rw[e,hm]at hv;show Ye hv▸d
    .have:=vT h (show i<(lo+hi)/2 by lia) hv hm
     lia
   .rw[if_neg d];show lD h f lo _ sS J J a λi v hv Vf=>?_;cases e:i=(lo+hi)/2
    .rw[e,hm]at hv
     have:=Ye hv
     lia
    .have:=vT h (show(lo+hi)/2<i by lia) hm hv
     lia
  .rw[if_neg c];exists sS,λi v hv=>⟨a i v hv,λhvj=>Nat.lt_of_not_le λhc=>?_⟩
   have:=b i v hv J
   lia
def vS(h:xs.toList.Pairwise (·<·))(j:Nat):SetTable.below xs j<=xs.size/\∀i v,xs[i]?=some v->(i<SetTable.below xs j↔v<j):=
 lD h xs.size 0 xs.size J (Yk _) (XM _) (λi v _ h=>absurd h<|Sv _) λi v hv hi=>by rw[xZ hi]at hv;cases hv
def lC(h:xs.toList.Pairwise (·<·)){i v:Nat}(hv:xs[i]?=some v):SetTable.below xs v=i:=by
 let⟨h1,h2⟩:=vS h v;let a:¬i<SetTable.below xs v:=λq=>by have:=(h2 i v hv).mp q;lia
 show tS J (xO λq=>?_);let Xk:=(eQ.mp hv).1
 obtain⟨u,hu⟩:∃u,xs[SetTable.below xs v]?=some u:=⟨_,YT J⟩;let b:=vT h q hu hv
 have:=(h2 _ u hu).mpr b
 lia
def lB(h:xs.toList.Pairwise (·<·)){i v:Nat}(hv:xs[i]?=some v):SetTable.below xs (v+1)=i+1:=by
 let⟨h1,h2⟩:=vS h (v+1);let a:=(h2 i v hv).mpr (Nn v)
 show tS (xO λq=>?_) a;obtain⟨u,hu⟩:∃u,xs[i+1]?=some u:=⟨_,YT J⟩;let b:=(h2 _ u hu).mp q
 have:=vT h (Nn i) hv hu
 lia
def lz(h:xs.toList.Pairwise (·<·)):SetTable.below xs 0=0:=by let⟨h1,h2⟩:=vS h 0;show Nat.le_zero.mp (xO λq=>?_);obtain⟨u,hu⟩:∃u,xs[0]?=some u:=⟨_,YT J⟩;show Sv _ ((h2 _ u hu).mp q)
def ES(t:SetTable)(j:Nat):(Prop):=t.place[SetTable.below t.place j]?≠some j
def ly(h:Qx t)(hn:ES t j):Qx (t.put j).1:=by
 let⟨h1,h2⟩:=vS h j;let up:∀i v,t.place[i]?=some v->SetTable.below t.place j<=i->j<v:=λi v hv hi=>by
  let a:¬v<j:=λq=>by have:=(h2 i v hv).mpr q;lia
  let b:v≠j:=λe=>hn (by rw[e]at hv;rwa[lC h hv]);lia
 change(SetTable.insertAt t.place (SetTable.below t.place j) j).toList.Pairwise (·<·);rw[SetTable.toList_insertAt];let dn:∀x∈t.place.toList.take (SetTable.below t.place j),x<j:=λx hx=>by
  let⟨i,hi⟩:=YF hx;rw[Qk]at hi;split at hi
  .rename_i q;rw[YH]at hi;show(h2 i x hi).mp q
  .cases hi
 let ub:∀x∈t.place.toList.drop (SetTable.below t.place j),j<x:=λx hx=>by let⟨i,hi⟩:=YF hx;rw[SU,YH]at hi;show up _ x hi (Nat.le_add_right _ _)
 show YJ.mpr ⟨Mt (MJ _ _) h,YZ.mpr ⟨ub,Mt (Pr _ _) h⟩,λa ha b hb=>?_⟩;rcases Yi.mp hb with e|e
 .rw[e];show dn a ha
 .show Nat.lt_trans (dn a ha) (ub b e)
def aG(h:t.slot j=.empty\/t.slot j=.dummy):ES t j:=λe=>by
 let e2:t.slot j=.live (SetTable.below t.place j):=by unfold SetTable.slot;dsimp only;rw[if_pos (by rw[e];simp)]
 rw[e2]at h;rcases h with h|h<;>cases h
def lx{f:Nat->Int}:∀n p j d,(∀e,p.dummy=some e->ES t e)->SetTable.probe.go t f h n p=some (.empty j d)->ES t j/\∀e,d=some e->ES t e
 |0,p,j,d,_,h=>by cases h
 |n+1,p,j,d,hp,h=>by
  let aE:∀q:SetTable.Probe,(t.advance q).dummy=q.dummy:=λq=>by unfold SetTable.advance;split<;>rfl
  unfold SetTable.probe.go at h;split at h
  .rename_i hs;cases h;exists aG<|.inl hs,hp
  .rename_i hs;show lx n _ j d (λe he=>by rw[aE]at he;cases he;show aG<|.inr hs) h
  .split at h
   .cases h
   .show lx n _ j d (λe he=>hp e<|by rwa[aE]at he) h
def ZX8{b:Bool}(e:t.freeSlot h=some (s,b)):ES t s:=by
 unfold SetTable.freeSlot at e;split at e
 .rename_i j d hp;let⟨a1,a2⟩:=lx _ _ j d (λe he=>by cases he) hp;let e1:=YV Prod.fst (Ye e)
  dsimp only at e1;rw[<-e1];cases d with
  |none=>show a1
  |some x=>show a2 x rfl
 .cases e
def vR(t:SetTable)(n:Nat):Qx (t.standIn n):=by change(Array.range n).toList.Pairwise (·<·);rw[Array.toList_range];show Eo
def lu(h:Qx t)(es:Array (Int×Value))(k:Int)(x:Value):Qx (layNew t es k x).2.1/\(layNew t es k x).2.1.led=t.led:=by
 unfold layNew;split
 .rename_i s b e;dsimp only;unfold SetTable.orStandIn;split
  .exists ly h<|ZX8 e,Z
  .exists vR _ _,Z
 .exists vR _ _,Z
def Zm8(h:Qx t)(es:Array (Int×Value))(n:Nat):Qx (relayAll t es n).2.1/\(relayAll t es n).2.1.led=t.led:=by
 unfold relayAll;split
 .rename_i t' order e;dsimp only;split
  .unfold SetTable.relaid SetTable.laid at e;cases ho:SetTable.layClean (SetTable.sizeAbove n-1) (es.map (·.1)) with
   |none=>rw[ho]at e;cases e
   |some owner=>
    rw[ho]at e;let e1:=YV Prod.fst (Ye e)
    dsimp only at e1;rw[<-e1];exists ?_,Z;change(List.map _<|List.filterMap _ _).toArray.toList.Pairwise (·<·)
    rw[List.toList_toArray,Nt,List.pairwise_filterMap];show Eo.imp λ{a b} Vh x hx y hy=>?_;let ex:x.1=a:=by
     cases q:owner.getD a none with
     |none=>rw[q]at hx;cases hx
     |some z=>rw[q]at hx;cases hx;rfl
    let ey:y.1=b:=by
     cases q:owner.getD b none with
     |none=>rw[q]at hy;cases hy
     |some z=>rw[q]at hy;cases hy;rfl
    rwa[ex,ey]
  .exists vR _ _,Z
 .exists vR _ _,Z
end L2
namespace L2
open PySem PySem.Spec PyProof.Rows
def SetR(P:Program)(w:World)(h:Heap)(a:Addr)(led:Bool)(S:Int->Bool)(n:Nat):(Prop):=
 ∃o es ep t,h.get? a=some o/\o.ExactSet/\o.data=.set es ep t/\ElemsOf (intKind P w) es.toList/\(∀z,S z=true↔∃y∈es.toList,(intKind P w).is z y.2=true)/\es.size<scanBound/\t.fits es.size=true/\es.size=n/\Qx t/\t.led=led
def SetR.at{S:Int->Bool}(q:SetR P w h a led S n)(k:∀o,h.get? a=some o->h'.get? a=some o):SetR P w h' a led S n:=
 let ⟨o,es,ep,t,ho,r⟩:=q
 ⟨o,es,ep,t,k o ho,r⟩
section
variable{prog:Program}{w:World}{A:Around}{E:Ae}{s:Shared}
def az{h:Heap}{o:Obj}{es:Array (Int×Value)}{ep:Nat}{t:SetTable}(ho:h.get? a=some o)(hx:o.ExactSet)(hd:o.data=.set es ep t)(fs:Array (Int×Value))(u:SetTable):
  (h.update a<|Obj.putSet fs u).get? a=some {o with data:=.set fs (ep+1) u}/\({o with data:=.set fs (ep+1) u}:Obj).ExactSet:=by let q:=PF (Obj.putSet fs u) ho (by rw[putSet_of fs u hd];rfl);rw[putSet_of fs u hd]at q;exists q,hx
def lr{gv:Bool->Sem Unit}(hgv:∀b s1 R,R () s1->wpAny (model prog w) A (gv b) R E s1)
 {o:Obj}{es fs:Array (Int×Value)}{ep:Nat}{t u:SetTable}(ho:s.heap.get? a=some o)(hx:o.ExactSet)(hd:o.data=.set es ep t)
  {S:Int->Bool}(he:ElemsOf (intKind prog w) fs.toList)(hm:∀z,S z=true↔∃y∈fs.toList,(intKind prog w).is z y.2=true)(hb:fs.size<scanBound)(hf:u.fits fs.size=true)(hr:Qx u){dm:Bool}{R:Option Bool->Shared->Prop}
  (k:∀h',Heap.SameBut a s.heap h'->SetR prog w h' a u.led S fs.size->R (some true) {s with heap:=h'}):
  wpAny (model prog w) A (do
   storeSet a fs u
   if (!dm&&u.tooFull)=true then do
    gv (relayAll u fs<|SetTable.grown fs.size).2.2
    storeSet a (relayAll u fs<|SetTable.grown fs.size).1 (relayAll u fs<|SetTable.grown fs.size).2.1
    pure (some true)
   else pure (some true)) R E s:=by
 let⟨h1,x1⟩:=az ho hx hd fs u;let b1:=SV s.heap a (Obj.putSet fs u)
 show XW (wpAny_storeSet_of ho hd ?_<|fits_of_scanBound hb);cases c:(!dm&&u.tooFull)=true
 .rw[if_pos c];let p:=relayAll_perm u fs (SetTable.grown fs.size)
  let f:=relayAll_fits u fs (SetTable.grown fs.size);let⟨r,l⟩:=Zm8 hr fs (SetTable.grown fs.size);generalize relayAll u fs (SetTable.grown fs.size)=sG at p f r l ⊢;let⟨gs,v,gave⟩:=sG;dsimp only at p f r l ⊢;let ez:gs.size=fs.size:=by rw[<-Yw,p.length_eq,Yw]
  let⟨h2,x2⟩:=az h1 x1 Z gs v;show XW (hgv _ _ _<|XW<|wpAny_storeSet_of h1 Z (Yl ?_)<|fits_of_scanBound<|by rwa[ez]);show k _ (b1.trans<|SV _ a _) ⟨_,gs,_,v,h2,x2,Z,he.perm p,λz=>(hm z).trans ⟨λzz=>by let⟨y,hy,q⟩:=zz;show⟨y,p.mem_iff.mpr hy,q⟩,λzz=>by let⟨y,hy,q⟩:=zz;exists y,p.mem_iff.mp hy,q⟩,by rw[ez];show hb,f,ez,r,l⟩
 .rw[if_neg c];show Yl (k _ b1 ⟨_,fs,_,u,h1,x1,Z,he,hm,hb,hf,Z,hr,Z⟩)
def lq{S:Int->Bool}{z:Int}{x:Value}{R:Bool->Shared->Prop}(hz:(intKind prog w).is z x=true)(PZ:x.scannable=true)(hS:SetR prog w s.heap a led S n)(room:n+1<scanBound)
  (k:∀h',Heap.SameBut a s.heap h'->SetR prog w h' a led (λy=>S y||decide (y=z)) (if S z then n else n+1)->R (!S z) {s with heap:=h'}):
  wpAny (model prog w) A (setAddHashed a x<|(intKind prog w).hash z) R E s:=by
 let⟨o,es,ep,t,ho,hx,hd,he,hm,hb,hf,hn,hr,hl⟩:=hS;unfold setAddHashed setAddHashedIn;show SX (XW<|FI ho hd hf ?_);dsimp only;rw[if_pos (byScan_of PZ hb he)];unfold setAddByScan;show XW (XW<|Qe<|XW<|wpAny_setScan_of hz ho hd hf he ?_);cases hw:List.findIdx? (λy=>(intKind prog w).is z y.2) es.toList with
 |some j=>
  let⟨j1,j2,_⟩:=List.findIdx?_eq_some_iff_getElem.mp hw;let yes:S z=true:=(hm z).mpr ⟨es.toList[j],TL j1,j2⟩
  let fin:=k s.heap (Heap.SameBut.refl a s.heap) ⟨o,es,ep,t,ho,hx,hd,he,λy=>by rw[tL,Jb,<-hm y];show⟨λq=>q.elim id λq=>q▸yes,.inl⟩,hb,hf,by rw[yes];show hn,hr,hl⟩
  rw[yes]at fin;dsimp only;show Yl (Yl fin)
 |none=>
  let no:S z=false:=Bool.eq_false_iff.mpr λq=>by
   let⟨y,hy,hp⟩:=(hm z).mp q
   have:=List.findIdx?_eq_none_iff.mp hw y hy
   rw[hp]at this;cases this
  dsimp only;let p:=layNew_perm t es ((intKind prog w).hash z) x
  let f:=layNew_fits t es ((intKind prog w).hash z) x;let⟨r,l⟩:=lu hr es ((intKind prog w).hash z) x;generalize layNew t es ((intKind prog w).hash z) x=sG at p f r l ⊢;let⟨fs,u,dm,gave⟩:=sG;dsimp only at p f r l ⊢;rw[Sf]at p;let ez:fs.size=n+1:=by rw[<-Yw,p.length_eq,Xt,Yw,hn];rfl
  let gw:∀(b:Bool){s1:Shared}{R':Unit->Shared->Prop},R' () s1->wpAny (model prog w) A (match b with|true=>rule "set.scan.the-table-gave-way" | false=>pure ()) R' E s1:=λb s1 R' q=>by
   cases b
   .show Yl q
   .show Qe q
  let fin:∀h',Heap.SameBut a s.heap h'->SetR prog w h' a led (λy=>S y||decide (y=z)) fs.size->R true {s with heap:=h'}:=λh' q1 q2=>by let q:=k h' q1;rw[no]at q;rw[ez]at q2;show q q2
  let Bc:=(he.push hz PZ).perm p;let TU:∀y,(S y||decide (y=z))=true↔∃v∈fs.toList,(intKind prog w).is y v.2=true:=mem_push_iff hz hm p
  let vQ:fs.size<scanBound:=J;show XW (gw _ ?_);let tail:∀v:SetTable,v.fits fs.size=true->Qx v->v.led=led->wpAny (model prog w) A (do
    storeSet a fs v
    if (!dm&&v.tooFull)=true then do
     (match (relayAll v fs<|SetTable.grown fs.size).2.2 with|true=>rule "set.scan.the-table-gave-way" | false=>pure ())
     storeSet a (relayAll v fs<|SetTable.grown fs.size).1 (relayAll v fs<|SetTable.grown fs.size).2.1
     pure (some true)
    else pure (some true)) (λy s1=>wpAny (model prog w) A (match y with|some added=>pure added|none=>setAddHashedIn a x ((intKind prog w).hash z) 99999) R E s1) E s:=λv a1 a2 a3=>
   lr (gv:=λb=>match b with|true=>rule "set.scan.the-table-gave-way" | false=>pure ()) (λb s1 R' q=>gw b q) ho hx hd Bc TU vQ a1 a2 λh' q1 q2=>Yl (fin h' q1<|a3▸q2)
  split
  .show XW ?_;rw[hashByValue_scannable 8 PZ];show Yl ?_;split
   .show tail u f r (l.trans hl)
   .show tail _ (SetTable.fits_plain_off f) r (l.trans hl)
  .show XW (Yl ?_);rw[if_pos Z];show tail u f r (l.trans hl)
end
section
variable{prog:Program}{w:World}{A:Around}{R:Result->Shared->Prop}{I:Addr}{fp wr:List Addr}{G:Array GenState->Array GenState->Prop}{n:Nat}{P:Nat->Value->Prop}{St:Nat->Shared->Prop}
def aw(W:WalksS prog w A.in1 I fp wr G n P St)(b:Addr)(JC:b∉fp)(val:Nat->Int)(hv:∀i v,P i v->∃t,v=.int (val i) t)(hn:n+1<scanBound):
  ∀k i s,n-i=k->i<=n->St i s->SetR prog w s.heap b led (λz=>(firstMet val i).any (· == z)) (firstMet val i).length->
   (∀s',Moved (b::wr) G s s'->SetR prog w s'.heap b led (λz=>(firstMet val n).any (· == z)) (firstMet val n).length->R (.ok<|.ret .none) s')->
   codeAny (model prog w) A (.builtin "set.update.loop" ⟨[.ref b,.ref I],[]⟩) R s
 |0,i,s,hk,hi,st,hS,q=>by
  let e:i=n:=sS;subst e;show Rv F.entry_set_update_loop ?_;rw[KG tZ _];change wpAny _ A.in1 (pyNext ↑I >>= _) _ _ s
  show XW (W.done s _ _ st λs1 m=>?_);change wpAny _ A.in1 (ret Value.none) _ _ s1
  show Yl (q s1 (m.mono λc hc=>.tail _ hc)<|hS.at λo ho=>m.heap b o (λhc=>JC<|W.sub _ hc) ho)
 |k+1,i,s,hk,hi,st,hS,q=>by
  let Xk:i<n:=sS;show Rv F.entry_set_update_loop ?_;rw[KG tZ _];change wpAny _ A.in1 (pyNext ↑I >>= _) _ _ s
  show XW (W.item i s _ _ Xk st λv s1 hP Sm m=>?_);let⟨t,rfl⟩:=hv i v hP;let JJ:=hS.at (h':=s1.heap) λo ho=>m.heap b o (λhc=>JC<|W.sub _ hc) ho
  change wpAny _ A.in1 (holding [Value.int (val i) t] (setAdd b<|.int (val i) t) >>= _) _ _ s1;show XW (SX ?_);unfold setAdd;show SX (XW<|(intKind prog w).pyHash (k:=val i) (intKind_is _ _ _ _) ?_);let fm:=firstMet_length_le val i
  show lq (s:={s1 with toks:=s1.toks+1}) (intKind_is _ _ _ _) Z JJ J λh2 sb Cv=>?_;let hS3:SetR prog w h2 b led (λz=>(firstMet val<|i+1).any (· == z)) (firstMet val<|i+1).length:=by
   let e1:(λz=>(firstMet val<|i+1).any (· == z))=λy=>((firstMet val i).any (· == y)||decide (y=val i)):=funext λy=>by rw[firstMet_succ,step_any]
   rwa[e1,firstMet_succ,step_length]
  let kept:∀c o,c≠b->s1.heap.get? c=some o->h2.get? c=some o:=λc o hc e=>(sb.2 c hc).trans e;show Yl ⟨MA tZ _,aw W b JC val hv hn k (i+1) _ sS Xk (W.frame _ s1 _ _ Sm (TZ _) λc hc o e=>kept c o (λe'=>JC<|e'▸hc) e) hS3 λs2 m2 hS4=>?_⟩;show q s2 (Moved.trans W.gtrans ((m.mono λc hc=>.tail _ hc).then_heap (TZ _) λc o hc e=>kept c o (λe'=>hc<|e'▸.head _) e) m2) hS4
end
section
variable{prog:Program}{w:World}{A:Around}{E:Ae}{s:Shared}
def SE(w:World):(Obj):={cls:=.type "set",dict:=none,data:=.set #[] 0 (.fresh 0 0<|!w.params.followText "set-order")}
def lj(a:Value){Q:Ae}(k:Q (.ref (~~~s)) {s with heap:=s.heap.push (SE w)}):
  codeAny (model prog w) A (.call (.builtin "set.__new__") ⟨[.type "set",a],[]⟩) (wants Q E) s:=by
 show codeAny_of_tree ?_;change wpAny _ A.in1 (checkBuiltinCall "set.__new__" ⟨[.type "set",a],[]⟩ >>= λ_=>again<|.builtin "set.__new__" ⟨[.type "set",a],[]⟩) _ _ s
 show XW (TK (F.newCall_set_1 a)<|Yl ⟨MA F.plain_set_new _,Rv F.entry_set_new ?_⟩);rw[KG F.plain_set_new _];let Bw:=sub_set_self
 unfold Builtin.«set.__new__» Builtin.Frozenset.newClass;let⟨hp,g,d,tk,os⟩:=s;dsimp only
 wp_walk
 show FG (Yl ?_);simp only[newObj];show XW (wpAny_alloc<|Yl<|Yl k)
def Zn8(e:h.get? a=some (SE w)):SetR prog w h a (!w.params.followText "set-order") (λz=>(firstMet (λ_=>0) 0).any (· == z)) 0:=by exists _,#[],0,_,e,⟨Z,Z,Z⟩,Z,λy hy=>(by cases hy),λz=>⟨λq=>(by cases q),λzz=>by let⟨y,hy,_⟩:=zz;show(by cases hy)⟩,sT,by simp[SetTable.fits,SetTable.fresh,SetTable.fill],Z,.nil,Z
def lh{h0:Heap}{Q:Ae}(hh:A.handled=none)(Lo:h0.get? b=some (SE w))(hl:h0.IsList l items)(XN:l≠b)(hi:IntsAre items.toList ns)(hn:items.size+1<scanBound)
  (k:∀h' tk,SetR prog w h' b (!w.params.followText "set-order") (λz=>(firstMet (λi=>ns.getD i 0) items.size).any (· == z)) (firstMet (λi=>ns.getD i 0) items.size).length->(∀c o,c≠b->h0.get? c=some o->h'.get? c=some o)->Q .none {s with heap:=h',toks:=tk}):
  wpAny (model prog w) A.in1 (Builtin.«set.__init__» ⟨[.ref b,.ref l],[]⟩) (λfin s'=>match fin with | .done f=>wants Q E (.ok f) s' | .again c'=>c'.quiet=true/\codeAny (model prog w) A c' (wants Q E) s') (λe s'=>wants Q E (.error e) s') {s with heap:=h0}:=by
 let hT:Shared.TypeIs {s with heap:=h0} ↑b "set":=⟨_,Lo,Z⟩;let Oa:=hl
 let⟨⟨ocls,av,au,lg⟩,Rp,NZ,nl,aq⟩:=hl;simp only at NZ aq;subst NZ aq;let q1:=F.sub_list_set
 let q2:=F.sub_list_frozenset;let q3:(Value.type "list" == Value.type "dict")=false:=sT
 unfold SE at Lo;unfold Builtin.«set.__init__» noKeywords Builtin.Frozenset.updateFrom;generalize hPI:pyIter=PI
 wp_walk
 subst hPI;show xJ Oa ?_;show XW (xE ?_);let k9:l<h0.objs.size:=Yq Rp
 let ltb:b<h0.objs.size:=Yq Lo;let bf:b∉[h0.objs.size,l]:=λq=>by
  rcases Yi.mp q with e|e
  .show YD ltb e
  .show XN (XG.mp e).symm
 show aw ((Walks.list (A:=A.in1.in1) (by simp[hh]) _ l (YD k9) items).toS) b bf (led:=!w.params.followText "set-order") (λi=>ns.getD i 0) (λi v hv=>IntsAre.int_at hi i v<|by rw[YH];show hv) hn (items.size-0) 0 _ J (Yk _)
  ⟨⟨_,Yo _ Z,Z,Z⟩,Oa.push _⟩ ?_ ?_
 .show Zn8 (Xf _ Lo)
 .rintro⟨h',g',d',tk',rf⟩ m hS;let e1:g'=s.gens:=m.gens
  let e2:d'=s.drawn:=m.drawn;let e3:rf=s.os:=m.os
  subst e1 e2 e3;change wpAny _ _ _ _ _ _
  show Yl ?_;change wpAny _ _ (ret Value.none) _ _ _
  show Yl (k h' tk' hS λc o hc e=>m.heap c o (λq=>?_)<|Xf _ e);rcases Yi.mp q with e'|e'
  .show hc e'
  .show YD (Yq e) (XG.mp e')
set_option maxRecDepth 100000 in
set_option maxHeartbeats 3000000 in
def k8{Q:Ae}(hh:A.handled=none)(hl:s.heap.IsList l items)(hi:IntsAre items.toList ns)(hn:items.size+1<scanBound)
  (k:∀h' tk,SetR prog w h' (~~~s) (!w.params.followText "set-order") (λz=>(firstMet (λi=>ns.getD i 0) items.size).any (· == z)) (firstMet (λi=>ns.getD i 0) items.size).length->(∀c o,s.heap.get? c=some o->h'.get? c=some o)->Q (.ref (~~~s)) {s with heap:=h',toks:=tk}):
  wpAny (model prog w) A (call (.type "set") [.ref l]) Q E s:=by
 let⟨c,tl,hmro⟩:=SQ.mro;let a1:=SQ.made
 let a2:=SQ.sub;let a3:=SQ.notType
 let a4:=SQ.canCreate;let a5:=F.typeCall_set_1 ↑l
 show DR (codeAny_of_tree ?_);change wpAny _ _ (callAny (.type "set") _) _ _ _
 show Yl ⟨xK _ sQ,Rv F.entry_type_call ?_⟩;rw[Around.under_plain (weight_type_call_type "set" [.ref l] []) Z]
 repeat any_goals first|assumption|wp_step
 show SR (lj ↑l (E:=E) (Q:=λob s1=>ob=.ref (~~~s)/\s1={s with heap:=s.heap.push (SE w)}) ⟨Z,Z⟩) λr s1 hr=>?_
 match r,hr with
 | .error e,hr=>show hr
 | .ok (.ret ob),hr=>
  let⟨rfl,rfl⟩:=hr;let Lo:(s.heap.push<|SE w).get? (~~~s)=some (SE w):=Yo _ rfl
  let hT:Shared.TypeIs {s with heap:=s.heap.push (SE w)} (.ref (~~~s)) "set":=⟨_,Lo,Z⟩;let a6:=SQ.init.lookup
  let a7:=SQ.init.bind (.ref (~~~s))
  repeat any_goals first|assumption|wp_step
  let k9:l<(~~~s):=by let⟨_,e,_⟩:=hl;show Yq e
  show SR (codeAny_call_builtin (R:=wants (λr s2=>r=.none/\Q (.ref (~~~s)) s2) E) SQ.init.plain F.entry_set_init<|check_set_init_1 hT<|lh (A:=_) (s:=s) ?_ Lo (hl.push _) (YD k9) hi hn λh' tk hS kp=>⟨Z,k h' tk hS λc o e=>kp c o (YD<|Yq e)<|Xf _ e⟩) λr2 s2 UT=>?_
  .simp[hh]
  .match r2,UT with
   | .error e,UT=>show UT
   | .ok (.ret v),UT=>
    let⟨rfl,q⟩:=UT
    repeat any_goals first|assumption|wp_step
end
def ak:Manifest.owners.lookup (String.ofList ['r','o','t','a','r','e','t','i','_','t','e','s'].reverse)=some Manifest.sig_set_iterator:=by kernel_rfl
def WZ:PySem.Slot "set_iterator" "__next__" "set_iterator.__next__":=
 .of (owner:="set_iterator") (n:="__next__") (by rw[QU,FN];kernel_rfl) sQ sQ sQ
  (by first|show .inl sQ|show .inr sQ) (by rw[xC];kernel_rfl)
def vP:entryFor table "set_iterator.__next__"=some Builtin.«set_iterator.__next__»:=entryFor_of_tree sV
def vN(a:Value):argsOk "set_iterator.__next__" ⟨[a],[]⟩:=by unfold argsOk;rw[signature?_of (id:="set_iterator.__next__") (n:=['_','_','t','x','e','n','_','_']) (o:=['r','o','t','a','r','e','t','i','_','t','e','s']) sV ak];kernel_rfl
def aj:PySem.Slot "set_iterator" "__iter__" "set_iterator.__iter__":=
 .of (owner:="set_iterator") (n:="__iter__") (by rw[QU,FN];kernel_rfl) sQ sQ sQ
  (by first|show .inl sQ|show .inr sQ) (by rw[xC];kernel_rfl)
def k6(a:Value):argsOk "set_iterator.__iter__" ⟨[a],[]⟩:=by unfold argsOk;rw[signature?_of (id:="set_iterator.__iter__") (n:=['_','_','r','e','t','i','_','_']) (o:=['r','o','t','a','r','e','t','i','_','t','e','s']) sV ak];kernel_rfl
def k4:entryFor table "set_iterator.__iter__"=some Builtin.«dict_keyiterator.__iter__»:=
 entryFor_alias (id':="dict_keyiterator.__iter__") sV (by first|rfl|decide +kernel|(unfold String.splitOn;simp +decide [String.splitOnAux])) sQ sV
def kZ:Manifest.owners.lookup (String.ofList ['t','e','s'].reverse)=some Manifest.sig_set:=by kernel_rfl
def ai:PySem.Slot "set" "__iter__" "set.__iter__":=
 .of (owner:="set") (n:="__iter__") (by rw[QU,FN];kernel_rfl) sQ sQ sQ
  (by first|show .inl sQ|show .inr sQ) (by rw[xC];kernel_rfl)
def kY(a:Value):argsOk "set.__iter__" ⟨[a],[]⟩:=by unfold argsOk;rw[signature?_of (id:="set.__iter__") (n:=['_','_','r','e','t','i','_','_']) (o:=['t','e','s']) sV kZ];kernel_rfl
def kX:entryFor table "set.__iter__"=some Builtin.«frozenset.__iter__»:=
 entryFor_alias (id':="frozenset.__iter__") sV (by first|rfl|decide +kernel|(unfold String.splitOn;simp +decide [String.splitOnAux])) sQ sV
def IsSi(h:Heap)(I a:Addr)(f:Value)(i n ep:Nat):(Prop):=∃o,h.get? I=some o/\o.cls=.type "set_iterator"/\o.data=.fields #[f,rawInt (i:Int),.ref a,rawInt (n:Int),rawInt (ep:Int)]
def IsSi.ty{s:Shared}(x:IsSi s.heap I a f i n ep):s.TypeIs ↑I "set_iterator":=by let⟨o,p,q,_⟩:=x;exists o,p,q
def IsSi.keep(x:IsSi h I a f i n ep)(e:∀o,h.get? I=some o->h'.get? I=some o):IsSi h' I a f i n ep:=by let⟨o,p,q⟩:=x;exists o,e _ p,q
def SetIs(h:Heap)(a:Addr)(es:Array (Int×Value))(ep:Nat)(t:SetTable):(Prop):=∃o,h.get? a=some o/\o.ExactSet/\o.data=.set es ep t
def SetIs.keep(x:SetIs h a es ep t)(e:∀o,h.get? a=some o->h'.get? a=some o):SetIs h' a es ep t:=by let⟨o,p,q⟩:=x;exists o,e _ p,q
section
variable{prog:Program}{w:World}{A:Around}{E:Ae}{s:Shared}
def kW{Q:Nat->Shared->Prop}(hn:n≠0)(k:∀i,i<n->∀d,Q i {s with drawn:=d}):wpAny M A (choose src n) Q E s:=
 λΓ p _=>⟨hn,k _ (Nat.mod_lt _<|Nat.pos_of_ne_zero hn) _⟩
def kT{α:Type}:∀{l:List α}{i:Nat}{y:α},l[i]?=some y->(y::l.eraseIdx i).Perm l
 |[],_,_,h=>by simp at h
 |x::l,0,y,h=>by let rfl:x=y:=Ye h;show .rfl
 |x::l,i+1,y,h=>(List.Perm.swap x y<|l.eraseIdx i).trans ((kT (l:=l) (i:=i) h).cons x)
def ah{α:Type}:∀(n:Nat)(xs:List α)(s:Shared)(Q:List α->Shared->Prop),n=xs.length->(∀ys d,ys.Perm xs->Q ys {s with drawn:=d})->wpAny M A (drawOrder n xs) Q E s
 |0,xs,s,Q,h,k=>by let e:xs=[]:=YX.mp h.symm;subst e;show Yl (k [] s.drawn .rfl)
 |n+1,[],s,Q,h,k=>by cases h
 |n+1,x::xs,s,Q,h,k=>by change wpAny M A (choose .order (x::xs).length >>= _) Q E s;show XW (kW B λi hi d=>?_);obtain⟨y,hy⟩:∃y,(x::xs)[i]?=some y:=⟨_,Xq hi⟩;rw[hy];dsimp only;show XW (ah n ((x::xs).eraseIdx i) _ _ (by rw[eS hi];lia) λys d' hp=>Yl<|k (y::ys) d' ?_);show(hp.cons y).trans (kT hy)
def Bb{α:Type}{f:Nat->Nat}:∀(n k:Nat)(l:List α)(out:Array α),n=l.length->(pickOrder.go f n k l out).toList.Perm (out.toList++l)
 |0,k,l,out,h=>by rw[YX.mp h.symm,Yu];show .rfl
 |n+1,k,l,out,h=>by let hi:f k%l.length<l.length:=Nat.mod_lt _ J;obtain⟨y,hy⟩:∃y,l[f k%l.length]?=some y:=⟨_,Xq hi⟩;unfold pickOrder.go;rw[hy];dsimp only;show(Bb n (k+1) _ _<|by rw[eS hi];lia).trans ?_;rw[Sf,Yy];show Nw _ ?_;show kT hy
def ag{Q:Ae}(hr:IsSi s.heap I a f i n ep)(h:Q ↑I s):wpAny (model prog w) A (pyIter ↑I) Q E s:=by
 show wpAny_pyIter_slot hr.ty aj (Uq aj hr.ty k4 ?_<|k6 _);change wpAny _ _ (ret<|.ref I) _ _ s
 show Yl ⟨_,Z,"set_iterator",_,hr.ty,WZ.lookup,h⟩
def ER(prog:Program)(w:World)(a:Addr)(es:Array (Int×Value))(ep:Nat)(t:SetTable)(ord:Ag)(sl:Nat->Nat):(Prop):=
 ∀A E s i Q,SetIs s.heap a es ep t->i<=ord.length->Q ((ord[i]?).map λx=>(x,sl<|i+1)) s->wpAny (model prog w) A (setNext a (sl i) i ep) Q E s
def kR{sl:Nat->Nat}{i:Nat}{x:Value}{Q:Option Value->Shared->Prop}(hN:ER prog w a es ep t ord sl)(hS:SetIs s.heap a es ep t)(hf:t.fits es.size=true)(hi:IsSi s.heap I a (rawInt (sl i:Nat)) i es.size ep)(hx:ord[i]?=some x)
  (k:∀h',IsSi h' I a (rawInt (sl (i+1):Nat)) (i+1) es.size ep->Heap.SameBut I s.heap h'->Q (some x) {s with heap:=h'}):wpAny (model prog w) A (pyNext<|.ref I) Q E s:=by
 let⟨o,ho,hc,hd⟩:=id hi;let⟨oa,JB,kQ,Qw⟩:=id hS;unfold pyNext;show XW (FA<|Mv (name:=Str.ofString "__next__") hi.ty WZ<|Uq WZ hi.ty vP ?_<|vN _);unfold Builtin.«set_iterator.__next__»;show XW (TK (a:=(Value.ref I,[])) Z ?_);dsimp only;show XW (xD ho hd ?_);dsimp only[rawInt];show XW (Ei JB Qw hf ?_);rw[if_neg B];rw[QP,QP,QP];show XW (hN _ _ s i _ hS (Qf (Xx.mp hx).1) ?_);rw[hx];dsimp only[Option.map_some];show XW (FF ho hd B ?_);let RV:=PF (Obj.mapFields λvs=>vs.setIfInBounds 0<|rawInt (sl (i+1):Nat)) ho (xY<|Nu hd _)
 show XW (FF RV (Nu hd _) B ?_);show Yl ⟨x,Z,Yl<|k _ ⟨_,PF _ RV<|xY<|Nu (Nu hd _) _,?_,?_⟩<|(SV ..).trans (SV ..)⟩
 .rw[tK,tK];show hc
 .rw[Nu (Nu hd _)];simp;rfl
def Ba{sl:Nat->Nat}{Q:Option Value->Shared->Prop}(hh:A.handled=none)(hN:ER prog w a es ep t ord sl)(hS:SetIs s.heap a es ep t)(hf:t.fits es.size=true)(hi:IsSi s.heap I a (rawInt (sl ord.length:Nat)) ord.length es.size ep)
  (k:∀h',Heap.ExtBut I s.heap h'->Q none {s with heap:=h'}):wpAny (model prog w) A (pyNext<|.ref I) Q E s:=by
 let⟨o,ho,hc,hd⟩:=id hi;let⟨oa,JB,kQ,Qw⟩:=id hS;unfold pyNext;show XW (FA<|Mv (name:=Str.ofString "__next__") hi.ty WZ<|Uq WZ hi.ty vP ?_<|vN _);unfold Builtin.«set_iterator.__next__»;show XW (TK (a:=(Value.ref I,[])) Z ?_);dsimp only;show XW (xD ho hd ?_);dsimp only[rawInt];show XW (Ei JB Qw hf ?_);rw[if_neg B];rw[QP,QP,QP];show XW (hN _ _ s ord.length _ hS (XM _) ?_);rw[VF (XM _)];dsimp only[Option.map_none];show XW (FF ho hd B ?_);change wpAny _ _ (newExc (.type "StopIteration") [] >>= _) _ _ _
 show XW ?_;simp only[newExc,newTuple];show XW (KD ?_<|by size_fits);show XW (m:=firstArgMember _ _) (TK (a:=Value.none) (by first|rfl|(simp only[firstArgMember];rfl)) ?_)
 show KD ?_ (by size_fits);simp only[raiseNew];show XW (wpAny_handled ?_);rw[show A.in1.handled=none from hh];show XW (Yl<|wpAny_throw ?_);show XW (Ms (T:="StopIteration") (b:=true) ⟨_,Yo _ Z,Z⟩ isSubtype_stop ?_);show Yl (k _<|(((SV ..).extBut).push _).push _)
def kP{sl:Nat->Nat}(hh:A.handled=none)(hN:ER prog w a es ep t ord sl)(hf:t.fits es.size=true)(XN:a≠I):
  Walks prog w A I [I,a] [I] ord.length (λi v=>ord[i]?=some v) (λi h=>i<=ord.length/\IsSi h I a (rawInt (sl i:Nat)) i es.size ep/\SetIs h a es ep t) where
 sub:=λb hb=>Yi.mpr (.inl<|XG.mp hb)
 frame:=λ_ _ _ x hk=>⟨x.1,x.2.1.keep λo e=>hk I B o e,x.2.2.keep λo e=>hk a B o e⟩
 item:=λi s Q E hi ⟨_,x1,x2⟩ hQ=>by let hx:ord[i]?=some (ord[i]'hi):=Xq hi;show kR hN x2 hf x1 hx λh' y hs=>hQ _ h' s.toks hx ⟨hi,y,x2.keep λo e=>(hs.2 a XN).trans e⟩ λb o hb eo=>hs.extBut b o (λe=>hb<|by simp[e]) eo
 done:=λs Q E zz hQ=>by let⟨_,x1,x2⟩:=zz;show Ba hh hN x2 hf x1 λh' he=>hQ h' s.toks λb o hb eo=>he b o (λe=>hb<|by simp[e]) eo
 self:=λ_ _ _ _ x hQ=>ag x.2.1 hQ
def kO(hf:t.fits es.size=true)(hr:Qx t)(hb:w.params.followText "set-order"=false)(hl:t.led=true)(hd:(!t.plain&&decide (es.size>1))=false):
  ER prog w a es ep t (es.toList.map (·.2)) (λi=>if i=0 then 0 else (t.place.getD (i-1) 0)+1):=by
 intro A E s i Q ⟨o,ho,hx,Qw⟩ hi q;let hps:t.place.size=es.size:=by unfold SetTable.fits at hf;simp only[Ja,QW]at hf;show hf.1
 rw[Yc,Yw]at hi;unfold setNext;show XW (FI ho Qw hf ?_);dsimp only;show XW ?_;unfold setsByText;show XW (FG<|Yl ?_);change wpAny _ _ (if (w.params.followText "set-order")=true then _ else _) _ _ _
 rw[if_neg (by rw[hb];decide)];change wpAny _ _ (if (!t.plain&&decide (es.size>1))=true then _ else _) _ _ _
 rw[if_neg (by rw[hd];decide)];show XW ?_;change wpAny _ _ (if (!t.led && !es.isEmpty)=true then _ else _) _ _ _
 rw[if_neg (by rw[hl];simp)];show Yl ?_;let eb:SetTable.below t.place (if i=0 then 0 else (t.place.getD (i-1) 0)+1)=i:=by
  cases c:i=0
  .rw[if_pos c,c];show lz hr
  .rw[if_neg c];obtain⟨v,hv⟩:∃v,t.place[i-1]?=some v:=⟨_,YT J⟩;let e:t.place.getD (i-1) 0=v:=by rw[YA,hv];rfl
   rw[e,lB hr hv];lia
 rw[eb];show Yl ?_;cases c:i<es.size
 .obtain⟨v,hv⟩:∃v,t.place[i]?=some v:=⟨_,YT J⟩;obtain⟨y,hy⟩:∃y,es[i]?=some y:=⟨_,YT c⟩;let e:t.place.getD i 0=v:=by rw[YA,hv];rfl
  rw[Ys,YH,hy]at q;rw[hv,hy];simp only[Ef,t8,e,if_neg (Nat.succ_ne_zero i)]at q;show q
 .let e1:es[i]?=none:=xZ J;rw[Ys,YH,e1]at q;rwa[e1]
def Zt8(hf:t.fits es.size=true)(hb:w.params.followText "set-order"=true):
  ER prog w a es ep t ((pickOrder (w.params.setOrder a ep) es).toList.map (·.2)) (λ_=>0):=by
 intro A E s i Q ⟨o,ho,hx,Qw⟩ hi q;unfold setNext;show XW (FI ho Qw hf ?_);dsimp only;show XW ?_;unfold setsByText;show XW (FG<|Yl ?_);change wpAny _ _ (if (w.params.followText "set-order")=true then _ else _) _ _ _
 rw[if_pos hb,if_neg B];show XW ?_;unfold setWalk;show XW (FI ho Qw hf ?_);dsimp only;show XW ?_;unfold setsByText;show XW (FG<|Yl ?_);change wpAny _ _ (if (w.params.followText "set-order")=true then _ else _) _ _ _
 rw[if_pos hb];show XW (FG<|Yl ?_);rw[Ys,YH,Option.map_map]at q;show Yl q
def IsPl(h:Heap)(b:Addr)(pl:List Nat):(Prop):=∃o n,h.get? b=some o/\o.data=.seq (pl.map λ(i:Nat)=>rawInt (i:Int)).toArray n
def IsPl.keep(x:IsPl h b pl)(e:∀o,h.get? b=some o->h'.get? b=some o):IsPl h' b pl:=by let⟨o,n,p,q⟩:=x;exists o,n,e _ p,q
def kN{i j:Nat}{x:Int×Value}{Q:Option Value->Shared->Prop}(hS:SetIs s.heap a es ep t)(hf:t.fits es.size=true)(hi:IsSi s.heap I a ↑b i es.size ep)(hb:IsPl s.heap b pl)(hj:pl[i]?=some j)(hx:es[j]?=some x)
  (k:∀h',IsSi h' I a ↑b (i+1) es.size ep->Heap.SameBut I s.heap h'->Q (some x.2) {s with heap:=h'}):wpAny (model prog w) A (pyNext<|.ref I) Q E s:=by
 let⟨o,ho,hc,hd⟩:=id hi;let⟨oa,JB,kQ,Qw⟩:=id hS;let⟨ob,nb,OT,RW⟩:=hb;unfold pyNext;show XW (FA<|Mv (name:=Str.ofString "__next__") hi.ty WZ<|Uq WZ hi.ty vP ?_<|vN _);unfold Builtin.«set_iterator.__next__»;show XW (TK (a:=(Value.ref I,[])) Z ?_);dsimp only;show XW (xD ho hd ?_);dsimp only[rawInt];show XW (Ei JB Qw hf ?_);rw[if_neg B];show XW (IW OT RW ?_);dsimp only;let e:(pl.map λ(i:Nat)=>rawInt (i:Int)).toArray[(i:Int).toNat]?=some (.int (j:Int) 0):=by rw[QP,dZ,Ys,hj];rfl
 rw[e];dsimp only;rw[QP,QP];show XW ?_;unfold setNextDrawn;show XW (FI JB Qw hf ?_);dsimp only;rw[if_neg B,hx];show Yl ?_;show XW (FF ho hd B ?_);show Yl ⟨x.2,Z,Yl<|k _ ⟨_,PF _ ho<|xY<|Nu hd _,?_,?_⟩<|SV ..⟩
 .rw[tK];show hc
 .rw[Nu hd];simp;rfl
def AZ{Q:Option Value->Shared->Prop}(hh:A.handled=none)(hS:SetIs s.heap a es ep t)(hf:t.fits es.size=true)(hi:IsSi s.heap I a ↑b pl.length es.size ep)(hb:IsPl s.heap b pl)
  (k:∀h',Heap.ExtBut I s.heap h'->Q none {s with heap:=h'}):wpAny (model prog w) A (pyNext<|.ref I) Q E s:=by
 let⟨o,ho,hc,hd⟩:=id hi;let⟨oa,JB,kQ,Qw⟩:=id hS;let⟨ob,nb,OT,RW⟩:=hb;unfold pyNext;show XW (FA<|Mv (name:=Str.ofString "__next__") hi.ty WZ<|Uq WZ hi.ty vP ?_<|vN _);unfold Builtin.«set_iterator.__next__»;show XW (TK (a:=(Value.ref I,[])) Z ?_);dsimp only;show XW (xD ho hd ?_);dsimp only[rawInt];show XW (Ei JB Qw hf ?_);rw[if_neg B];show XW (IW OT RW ?_);dsimp only;let e:(pl.map λ(i:Nat)=>rawInt (i:Int)).toArray[(pl.length:Int).toNat]?=none:=by rw[QP,dZ];show VF B
 rw[e];dsimp only;show XW (FF ho hd B ?_);let RV:=PF (Obj.mapFields λvs=>vs.setIfInBounds 0<|rawInt 0) ho (xY<|Nu hd _)
 show XW (FF RV (Nu hd _) B ?_);change wpAny _ _ (newExc (.type "StopIteration") [] >>= _) _ _ _
 show XW ?_;simp only[newExc,newTuple];show XW (KD ?_<|by size_fits);show XW (m:=firstArgMember _ _) (TK (a:=Value.none) (by first|rfl|(simp only[firstArgMember];rfl)) ?_)
 show KD ?_ (by size_fits);simp only[raiseNew];show XW (wpAny_handled ?_);rw[show A.in1.handled=none from hh];show XW (Yl<|wpAny_throw ?_);show XW (Ms (T:="StopIteration") (b:=true) ⟨_,Yo _ Z,Z⟩ isSubtype_stop ?_);show Yl (k _<|((((SV ..).trans (SV ..)).extBut).push _).push _)
def kM(hh:A.handled=none)(hp:pl.Perm (List.range es.size))(hf:t.fits es.size=true)(XN:a≠I)(LA:b≠I):
  Walks prog w A I [I,a,b] [I] pl.length (λi v=>(pl.filterMap λj=>(es[j]?).map (·.2))[i]?=some v) (λi h=>i<=pl.length/\IsSi h I a ↑b i es.size ep/\SetIs h a es ep t/\IsPl h b pl) where
 sub:=λc hc=>Yi.mpr (.inl<|XG.mp hc)
 frame:=λ_ _ _ x hk=>⟨x.1,x.2.1.keep λo e=>hk I B o e,x.2.2.1.keep λo e=>hk a B o e,x.2.2.2.keep λo e=>hk b B o e⟩
 item:=λi s Q E hi ⟨_,x1,x2,x3⟩ hQ=>by
  let hj:pl[i]?=some (pl[i]'hi):=Xq hi;let Xk:=YS.mp (hp.mem_iff.mp<|Xj hj)
  let hx:es[pl[i]'hi]?=some (es[pl[i]'hi]'Xk):=YT Xk;let fm:∀(l:List Nat),(∀j∈l,j<es.size)->l.filterMap (λj=>(es[j]?).map (·.2))=l.map λj=>(es.getD j (0,.none)).2:=λl hl=>by
   induction l with
   |nil=>rfl
   |cons y l ih=>
    let hy:=hl y Yd;rw[xU,Uz,ih λj h=>hl j<|Yf _ h,YT hy,YA,YT hy];rfl
  let hv:(pl.filterMap λj=>(es[j]?).map (·.2))[i]?=some (es[pl[i]'hi]'Xk).2:=by rw[fm pl λj hj=>YS.mp<|hp.mem_iff.mp hj,Ys,hj,Ef,YA,hx];rfl
  show kN x2 hf x1 x3 hj hx λh' y hs=>hQ _ h' s.toks hv ⟨hi,y,x2.keep λo e=>(hs.2 a XN).trans e,x3.keep λo e=>(hs.2 b LA).trans e⟩ λc o hc eo=>hs.extBut c o (λe=>hc<|by simp[e]) eo
 done:=λs Q E zz hQ=>by let⟨_,x1,x2,x3⟩:=zz;show AZ hh x2 hf x1 x3 λh' he=>hQ h' s.toks λc o hc eo=>he c o (λe=>hc<|by simp[e]) eo
 self:=λ_ _ _ _ x hQ=>ag x.2.1 hQ
end
section
variable{prog:Program}{w:World}{A sO:Around}{E:Ae}{s:Shared}
def SetIs.ty(x:SetIs s.heap a es ep t):s.TypeIs ↑a "set":=by let⟨o,p,q,_⟩:=x;exists o,p,q.1
def kJ{Q:Ae}(hh:A.handled=none)(hS:SetIs s.heap a es ep t)(hf:t.fits es.size=true)(hr:Qx t)(hl:t.led=!w.params.followText "set-order")(hz:es.size<=sizeLine)
  (k:∀(I:Addr)(h':Heap) d (ord:Ag) (fp:List Addr) (St:Nat->Heap->Prop),ord.Perm (es.toList.map (·.2))->Walks prog w A I fp [I] ord.length (λi v=>ord[i]?=some v) St->St 0 h'->(∀b∈fp,b<h'.objs.size/\(b=a\/(~~~s)<=b))->I∈fp->(~~~s)<=I->(∀c o,s.heap.get? c=some o->h'.get? c=some o)->Q ↑I {s with heap:=h',drawn:=d}):
  wpAny (model prog w) sO (pyIter<|.ref a) Q E s:=by
 let⟨o,ho,hx,hd⟩:=id hS;let JA:a<(~~~s):=Yq ho
 show wpAny_pyIter_slot hS.ty ai (Uq ai hS.ty kX ?_<|kY _);unfold Builtin.«frozenset.__iter__»;show XW (TK (a:=a) rfl ?_);show XW ?_;unfold Builtin.Frozenset.sizeOf;show XW (Ei ho hd hf<|Yl ?_);show XW ?_;unfold setDrawn;show XW (FI ho hd hf ?_);dsimp only;show XW ?_;unfold setsByText;show XW (FG<|Yl<|Yl ?_);let num:∀ord sl,sl 0=0->ER prog w a es ep t ord sl->ord.Perm (es.toList.map (·.2))->wpAny (model prog w) sO.in1 (pure (rawInt 0) >>= λfirst=>setEpoch a >>= λe=>newFields "set_iterator" [first,rawInt 0,.ref a,rawInt (es.size:Int),rawInt (e:Int)] >>= λit=>ret it)
   (λfin s'=>∃v,fin=Fin.done (Flow.ret v)/\∃T' r,s'.TypeIs v T'/\typeLookup (Value.type T') (Str.ofString "__next__")=pure (some r)/\Q v s') E s:=λord sl h0 hN hp=>by
  show XW (Yl<|XW<|wpAny_setEpoch_of ho hd hf<|XW ?_);unfold newFields;show KD ?_ (by size_fits);let hI:IsSi (s.heap.push {cls:=.type "set_iterator",data:=.fields [rawInt 0,rawInt 0,.ref a,rawInt (es.size:Int),rawInt (ep:Int)].toArray}) (~~~s) a (rawInt (sl 0:Nat)) 0 es.size ep:=⟨_,Yo _ Z,Z,by rw[h0];rfl⟩
  show Yl ⟨_,Z,"set_iterator",_,IsSi.ty (s:={s with heap:=_}) hI,WZ.lookup,?_⟩;let ne:a≠(~~~s):=YD JA
  show k _ _ s.drawn ord _ _ hp (kP hh hN hf ne) ⟨Yk _,hI,hS.keep λo e=>Xf _ e⟩ (λb hb=>?_) B (XM _) λc o e=>Xf _ e;rw[MB];rcases Yi.mp hb with e|e
  .rw[e];exists Nn _,.inr<|XM _
  .rw[XG.mp e];exists SS JA,.inl Z
 cases hb:w.params.followText "set-order"=true
 .rw [if_neg (by change ¬(!w.params.followText "set-order" && _)=true;rw[hb];simp)];show num _ (λ_=>0) Z (Zt8 hf hb) ?_
  have:=Bb (f:=w.params.setOrder a ep) es.size 0 es.toList #[] (by rw[Yw])
  show this.map _
 .let OU:w.params.followText "set-order"=false:=by simpa using hb
  rw[OU]at hl;cases c:(!t.plain&&decide (es.size>1))=true
  .rw [if_pos (by change(!w.params.followText "set-order" && (!t.plain&&decide (es.size>1)))=true;rw[OU,c];rfl)];show XW (ah es.size (List.range es.size) s _ (by rw[MG]) λpl d hp=>?_);let UQ:pl.length=es.size:=by rw[hp.length_eq,MG]
   show XW (wpAny_newTuple ?_<|by rwa[Yc,UQ]);let hoS:∀(h:Heap) o,h.get? a=some o->(h.push {cls:=.type "tuple",data:=.seq (List.map (λi=>rawInt ((i:Nat):Int)) pl).toArray}).get? a=some o:=λh o e=>Xf _ e
   show XW (wpAny_setEpoch_of (hoS s.heap o ho) hd hf<|XW ?_);unfold newFields;show KD ?_ (by size_fits);let ne:a≠(~~~s):=YD JA
   generalize kI:s.heap.push {cls:=.type "tuple",data:=.seq (List.map (λi=>rawInt ((i:Nat):Int)) pl).toArray}=h1;let s1:h1.objs.size=(~~~s)+1:=by rw[<-kI];show MB ..
   let AY:∀c o,s.heap.get? c=some o->h1.get? c=some o:=λc o e=>by rw[<-kI];show Xf _ e
   let Hc:IsPl h1 (~~~s) pl:=by rw[<-kI];exists _,0,Yo _ Z,Z
   let hI:IsSi (h1.push {cls:=.type "set_iterator",data:=.fields [Value.ref (~~~s),rawInt 0,.ref a,rawInt (es.size:Int),rawInt (ep:Int)].toArray}) h1.objs.size a (.ref (~~~s)) 0 es.size ep:=⟨_,Yo _ Z,Z,Z⟩;show Yl ⟨_,Z,"set_iterator",_,IsSi.ty (s:={s with heap:=_,drawn:=d}) hI,WZ.lookup,?_⟩;let NY:(pl.filterMap λj=>(es[j]?).map (·.2)).Perm (es.toList.map (·.2)):=by show(hp.filterMap _).trans ?_;rw[<-filterMap_getElem?_range es,List.map_filterMap]
   let Rp:(pl.filterMap λj=>(es[j]?).map (·.2)).length=pl.length:=by rw[NY.length_eq,Yc,Yw,UQ]
   let W:=kM (prog:=prog) (w:=w) (A:=A) (I:=h1.objs.size) (a:=a) (b:=(~~~s)) (es:=es) (ep:=ep) (t:=t) hh hp hf (by rw[s1];show YD<|SS JA) (by rw[s1];show YD<|Nn _);rw[<-Rp]at W;show k _ _ d _ _ _ NY W ⟨Yk _,hI,hS.keep λo e=>Xf _<|AY _ o e,Hc.keep λo e=>Xf _ e⟩ (λb hb=>?_) B (by rw[s1];show TZ _) λc o e=>Xf _ (AY c o e);rw[MB,s1];rcases Yi.mp hb with e|e
   .rw[e,s1];exists Nn _,.inr<|TZ _
   .rcases Yi.mp e with e|e
    .rw[e];exists SS<|SS JA,.inl Z
    .rw[XG.mp e];exists SS<|Nn _,.inr<|XM _
  .let c':(!t.plain&&decide (es.size>1))=false:=by simpa using c
   rw[if_neg (by change ¬(!w.params.followText "set-order" && (!t.plain&&decide (es.size>1)))=true;rw[c'];simp)];show num _ _ Z (kO hf hr OU hl c') .rfl
end
def AX:typeLookup (.type "set") "__len__"=pure (some (.builtin "set.__len__")):=by rw[QU,FN];kernel_rfl
section
variable{prog:Program}{w:World}{A:Around}{E:Ae}{s:Shared}
def kH{r:Addr}{Q:Bool->Shared->Prop}(hT:s.TypeIs ↑r "set")(h:Q false s):wpAny (model prog w) A (Builtin.List.listLengthHint ↑r) Q E s:=by
 unfold Builtin.List.listLengthHint;show XW (wpAny_specialOf hT AX ?_);generalize Cy:("set.__len__":String)=oU
 wp_delta
 rw[show splitId oU=some ("set","__len__") from by subst Cy;decide +kernel];subst Cy;show XW (Ms (T:="set") (b:=true) hT sub_set_self ?_);change wpAny _ A (typeOf (Value.ref r) >>= _) _ _ _
 show XW (Mr (T:="set") hT<|Yl h)
def Zh6{Q:List Value->Shared->Prop}(hh:A.handled=none)(hS:SetIs s.heap a es ep t)(hf:t.fits es.size=true)(hr:Qx t)(hl:t.led=!w.params.followText "set-order")(hz:es.size<=sizeLine)
  (k:∀(out:Ag) h' tk d,out.Perm (es.toList.map (·.2))->(~~~s)<=h'.objs.size->(∀c o,s.heap.get? c=some o->h'.get? c=some o)->Q out {s with heap:=h',toks:=tk,drawn:=d}):wpAny (model prog w) A (collect<|.ref a) Q E s:=by
 let HK:(s.heap.push<|seqObj "list" #[] 0).get? (~~~s)=some (seqObj "list" #[] 0):=Yo _ rfl;let JJ:SetIs (s.heap.push<|seqObj "list" #[] 0) a es ep t:=hS.keep λo e=>Xf _ e
 let JA:a<(~~~s):=by let⟨_,e,_⟩:=hS;show Yq e
 unfold collect;show XW (xE<|Rv IG ?_);change wpAny _ _ (newList [] >>= λv=>again<|.builtin "list.__iadd__" ⟨[v,.ref a],[]⟩) _ _ s
 show XW (Nm<|Yl ⟨xK _ sQ,Rv entry_list_iadd' ?_⟩);change wpAny _ _ (Builtin.List.listExtendWith (.ref (~~~s)) ↑a<|.ref (~~~s)) _ _ {s with heap:=s.heap.push (seqObj "list" #[] 0)}
 unfold Builtin.List.listExtendWith;show XW (Mr (T:="set") (SetIs.ty (s:={s with heap:=s.heap.push (seqObj "list" #[] 0)}) JJ) ?_);let e1:Builtin.List.listSameRef (.ref (~~~s)) ↑a=false:=by change((~~~s) == a)=false;show tU (Sd JA)
 rw[if_neg (by rw[e1];decide)];show XW (kJ (A:=A.in1) (by simp[hh]) JJ hf hr hl hz λI h' d ord fp St NY W Fl vM hI Tu kp=>?_);let vL:Shared.TypeIs {s with heap:=h',drawn:=d} ↑a "set":=SetIs.ty (s:={s with heap:=h',drawn:=d}) (JJ.keep λo e=>kp a o e)
 show XW (SX<|kH vL ?_);rw[if_pos sQ];let af:=kp _ _ HK
 show XW (Qe<|XW ?_);unfold Builtin.List.listTouch;show XW (Nk (xs:=#[]) (n:=0) af Z ?_ (Yk _)<|by change 1<=sizeLine+1;lia);let EO:=PF (Obj.mapSeq (·.push Value.none)) af rfl
 show Nk (xs:=#[].push Value.none) (n:=1) EO Z ?_ (by change 1<=sizeLine;decide) (by change 0<=sizeLine+1;lia);let hL4:=PF (Obj.mapSeq Array.pop) EO rfl
 let old:∀c o,c≠(~~~s)->h'.get? c=some o->((h'.update (~~~s) (Obj.mapSeq (·.push Value.none))).update (~~~s) (Obj.mapSeq Array.pop)).get? c=some o:=λc o hc e=>by rwa[VS _ _ (Xa hc),VS _ _ (Xa hc)]
 generalize (h'.update (~~~s) (Obj.mapSeq (·.push Value.none))).update (~~~s) (Obj.mapSeq Array.pop)=h4 at *;let RR:(~~~s)∉fp:=λq=>by
  rcases(vM _ q).2 with e|e
  .show Sd JA e
  .rw [show({s with heap:=s.heap.push (seqObj "list" #[] 0)}:Shared).heap.objs.size=(~~~s)+1 from MB ..] at e;show Nat.not_succ_le_self _ e
 let kG:ord.length=es.size:=by rw[NY.length_eq,Yc,Yw]
 show Yl ⟨MA eO _,codeAny_extend_loopS W.toS (by rwa[kG]) (~~~s) RR _ ord.length 0 _ #[] _ Z (Yk _) (W.frame 0 _ _ Fl λb hb o e=>old b o (λq=>RR<|q▸hb) e) hL4 (ItemsOf.nil _) λs2 acc c m vK VA=>?_⟩;let eo:acc.toList=ord:=by
  show Nq λi=>?_;rw[YH];cases hi:i<ord.length
  .let q:acc[i]?=some (acc[i]'(by rwa[VA.1])):=YT _;rw[q,VA.2 i _ q]
  .rw[VF sS,xZ (by rw[VA.1];omega)]
 change wpAny _ A (load (~~~s) >>= _) Q E s2;show XW (wpAny_load vK ?_);show Yl ?_;rw[eo,Moved.eq_with m];show k ord s2.heap s2.toks d NY (Qf<|Yq vK) λc o e=>?_;let lt:=Yq e
 show m.heap c o (λq=>?_) (old c o (YD lt)<|kp c o<|Xf _ e);rcases Yi.mp q with e'|e'
 .show YD lt e'
 .rw[XG.mp e']at lt
  have:=YC lt (Yn (TZ _)<|MB .. ▸ Tu)
  show QX _ this
end
def AW:∀{l:Ac},m.Nodup->l.length=m.length->(∀x∈m,x∈l)->l.Perm m:=by
 induction m with
 |nil=>intro l _ h _;rw[YX.mp h]
 |cons x m ih=>
  intro l hn hl hs;let hx:=hs x Yd
  let Ph:=Qi.mp hn;show(List.perm_cons_erase hx).trans ((ih Ph.2 (by rw[uo hx,hl];rfl) λy hy=>?_).cons x);let ne:y≠x:=λe=>Ph.1 (by rwa[<-e])
  show(uc ne).mpr (hs y<|Yf _ hy)
def ZO8(p:us.Perm vs):∀{ns:Ac},IntsAre vs ns->∃ms,IntsAre us ms/\ms.Perm ns:=by
 induction p with
 |nil=>intro ns h;exists ns,h,.rfl
 |cons x _ ih=>
  intro ns h;cases h with
  |cons n t h=>
   let⟨ms,h1,h2⟩:=ih h;exists n::ms,.cons n t h1,h2.cons n
 |swap x y l=>
  intro ns h;cases h with
  |cons n t h=>
   cases h with
   |cons m u h=>exists m::n::_,.cons m u<|.cons n t h,.swap n m _
 |trans _ _ Oj Sh=>
  intro ns h;let⟨ms,h1,h2⟩:=Sh h;let⟨ls,h3,h4⟩:=Oj h1;exists ls,h3,h4.trans h2
def kF(h:IntsAre vs ns):vs.length=ns.length:=by
 induction h with
 |nil=>rfl
 |cons n t _ ih=>rw[YI,YI,ih]
def Ln(val:Nat->Int):∀i,(firstMet val i).Nodup
 |0=>.nil
 |i+1=>by
  rw[firstMet_succ];unfold step_dedup;split
  .show Ln val i
  .rename_i h;show Wo.mpr ⟨Ln val i,B,λa ha b hb e=>?_⟩;rw[XG.mp hb]at e;show h (Eg.mpr ⟨a,ha,by rw[e];simp⟩)
section
variable{prog:Program}{w:World}{A:Around}{E:Ae}{s:Shared}
def ae:∀{l:List (Int×Value)},ElemsOf (intKind prog w) l->∃ms,IntsAre (l.map (·.2)) ms/\∀z,z∈ms↔∃y∈l,(intKind prog w).is z y.2=true
 |[],_=>⟨[],.nil,λz=>⟨λh=>(by cases h),λzz=>by let⟨y,h,_⟩:=zz;show(by cases h)⟩⟩
 |y::l,h=>by
  let⟨ms,h1,h2⟩:=ae h.tail;let⟨⟨z,hz,_⟩,_⟩:=h.head;let⟨hy,v⟩:=y;let⟨u,rfl⟩:=Value.isInt_shape (show Value.isInt z v=true from hz);exists z::ms,.cons z u h1,λx=>?_;rw[Yi,h2];constructor
  .rintro(e|⟨y,hy,q⟩)
   .exists _,Yd,e▸hz
   .exists y,Yf _ hy,q
  .rintro⟨y,hy,q⟩;rcases Yi.mp hy with e|e
   .rw[e]at q;show .inl ((intKind prog w).inj _ _ _ q hz)
   .show .inr ⟨y,e,q⟩
def ZI6{led:Bool}{S:Int->Bool}{Q:Ae}(hh:A.handled=none)(hS:SetR prog w s.heap a (!w.params.followText "set-order") S n)(Rn:n<64)
  (k:∀(ms:Ac)(out:Ag) r h' tk d c,IntsAre out ms->ms.Pairwise (·<=·)->ms.length=n->(∀z,z∈ms↔S z=true)->(~~~s)<=r->h'.get? r=some (seqObj "list" out.toArray c)->(∀c o,s.heap.get? c=some o->h'.get? c=some o)->Q ↑r {s with heap:=h',toks:=tk,drawn:=d}):
  wpAny (model prog w) A (call (.builtin "sorted") [.ref a]) Q E s:=by
 let⟨o,es,ep,t,ho,hx,hd,he,hm,hb,hf,hn,hr,hl⟩:=hS;let⟨ns,hI,hmem⟩:=ae he;let LO:sizeLine=16777216:=TM
 show x8 kind_sorted Pm Pk (args_sorted1 _) ?_;unfold Builtin.«sorted»;show XW (m:=checkCount "sorted" 1 1 _) (Yl ?_);show XW (Zh6 (A:=A.in1) (by simp[hh]) ⟨o,ho,hx,hd⟩ hf hr hl J λout h1 tk d hp Tu kp=>?_);let⟨ls,aa,VO⟩:=ZO8 hp hI;let lo:=kF aa
 let ll:ls.length=n:=by rw[<-lo,hp.length_eq,Yc,Yw,hn]
 show XW (Nm ?_);let hL:(h1.push<|seqObj "list" out.toArray 0).get? h1.objs.size=some (seqObj "list" out.toArray 0):=Yo _ rfl
 show XW (SX<|Uq DW ⟨_,hL,Z⟩ Pn (list_sort_tree hL aa J λres ms b1 b2 b3=>⟨_,Z,?_⟩)<|xr _);let⟨c,hc⟩:=sortedHeap_at (out:=res) hL;show Yl ⟨_,Z,k ms res.toList h1.objs.size _ tk d c b1 b3 (by rw[b2.length_eq,ll]) (λz=>by rw[b2.mem_iff,VO.mem_iff,hmem,hm]) Tu (by rwa[IP]) λb ob e=>?_⟩;let lt:=Yq (kp b ob e)
 rw[sortedHeap_old (YD lt) (by rw[Fy];show SS lt)];show Xf _ (kp b ob e)
end
section
variable{X:Cx}{p p2 pos UJ:Pos}{e:Expr}{t:TA}
def Inv.drew(I:Inv X pins σ H s)(d:Drawn):Inv X pins σ H {s with drawn:=d}:=
 I.step (g':=s.gens) (d':=d) (t':=s.toks) (h':=s.heap) (ch:=[]) (λb hb=>(by cases hb)) (λb o _ _ _ q _=>q) (λb o _ _ _ q _=>⟨o.slots,q⟩) (λb o _ _ n=>n) (λb o _ q=>⟨o,q⟩) (λb xs q=>q) (λb o u q=>q) (λb ps q=>⟨#[],by rw[q];simp⟩) (λm hm=>hm) I.hok I.bare
def ZD6(K:Ad)(t:TA):(TE):=λσ H Q=>t σ H λvs H1=>∃(a:Addr)(ns:Ac),vs=[.ref a]/\SqL K H1 a (ns.map V.int)/\ns.length<64/\∀ms:Ac,ms.Pairwise (·<·)->(∀z,z∈ms↔z∈ns)->∀l,H1 l=none->Q ↑l (upd H1 l<|.lst<|ms.map V.int)
def Zo4(K:Ad)(hc:X.calm=true)(g1:Gl X "sorted")(m1:X.mg "sorted"=none)(g2:Gl X "set")(m2:X.mg "set"=none)(ha:PA X [e] t)(hk:X.K=K:=by rfl)
  (he:starEach [e] X.env=[(false,eval e X.env)]:=by rfl)
  (OR:starEach [.Call (.Name "set" p2) [e] [] UJ] X.env=[(false,eval (.Call (.Name "set" p2) [e] [] UJ) X.env)]:=by rfl):
  PE X (.Call (.Name "sorted" p) [.Call (.Name "set" p2) [e] [] UJ] [] pos) (ZD6 K t):=by
 subst hk;intro pins s σ H Q I h;show Nv (Qd I g1 m1 Boot.«sorted» ?_);show eZ ?_ (by rw[OR];rfl) rfl;rw[OR];change wpAny _ _ (spliced<|(false,eval (.Call (.Name "set" p2) [e] [] UJ) X.env)::backTo pos []) _ _ s
 show tN ?_;show Nv (Qd I g2 m2 Boot.«set» ?_);show Jd (thn (ha UJ pins s σ H _ I h) λus s1 zz=>?_) (by rw[he];rfl) rfl;let⟨vs,H1,I1,r1,q1⟩:=zz;let⟨a,ns,rfl,hq,hn,q⟩:=q1;let⟨u,rfl,ru⟩:=Tg r1;let rfl:u=Value.ref a:=ru;let⟨XX,rv,pl,hz⟩:=I1.list hq;let hi:=ZC rv
 let el:XX.toArray.size=ns.length:=by rw[Yb,<-rv.length,Yc]
 let sb:scanBound=4096:=rfl;show k8 (I.ok.hd hc) pl.isList (ns:=ns) (by simpa using hi) J λh2 tk hS kp=>?_;show II ?_;let fl:=firstMet_length_le (λi=>ns.getD i 0) XX.toArray.size
 show ZI6 (led:=true) (s:={s1 with heap:=h2,toks:=tk}) (I.ok.hd hc) hS J λms out r h3 tk3 d c hI hs hl hmem Tu hr kp3=>?_;let em:∀z,z∈ms↔z∈ns:=λz=>by
  rw[hmem,firstMet_any,el];let e1:(List.range ns.length).map (λi=>ns.getD i 0)=ns:=by
   show Nq λi=>?_;rw[Ys];cases c:i<ns.length
   .rw[IM c,Xq c,Ef,WG,Xq c];rfl
   .rw[VF (by rw[MG];lia),VF D];rfl
  rw[e1];simp
 let Ts:ms.Nodup:=(AW (Ln _ _) hl λx hx=>(hmem x).mpr (Eg.mpr ⟨x,hx,B⟩)).nodup_iff.mpr (Ln _ _);let Xk:(~~~s1)<=h2.objs.size:=by let⟨_,_,_,_,e,_⟩:=hS;show Qf (Yq e)
 let AV:(~~~s1)<=r:=Yn Xk Tu;let MZ:ms.length<=ns.length:=by rwa[hl,<-el]
 let I2:=(I1.laid (o:=.lst<|ms.map V.int) (h':=h3) (t':=tk3) (λb o e=>kp3 b o<|kp b o e) AV ⟨by rw[Yc];have:sizeLine=16777216:=TM;lia,out,c,ZZ hI,hr⟩).drew d;exists .ref r,_,I2,Z,q ms (My.UD hs Ts) em r<|I1.hok.fresh AV
end
end L2
namespace My
open PySem L2
def ZV7{f g:Nat->Nat}{N k:Nat}(hf:∀i j,i<N->j<N->(f i=f j↔Conn A i j))(hk:∀i,i<N->f i<k)(hg:∀a,a<k->g a<N/\f (g a)=a)(hA:InN N A)(hB:InN N sO):
  (∀i j,i<N->j<N->Conn (A++sO) i j)↔∀a b,a<k->b<k->Conn (sO.map λe=>(f e.1,f e.2)) a b:=by
 let gi:∀i,i<N->Conn A (g<|f i) i:=λi hi=>by let⟨h1,h2⟩:=hg (f i) (hk i hi);show(hf _ _ h1 hi).mp h2
 constructor
 .intro c a b ha hb;let⟨a1,a2⟩:=hg a ha;let⟨b1,b2⟩:=hg b hb;let q:=(c (g a) (g b) a1 b1).image (f:=f) (fs:=sO.map λe=>(f e.1,f e.2)) λe he=>by
   rcases XA.mp he with q|q
   .let⟨e1,e2⟩:=hA e q;rw[(hf _ _ e1 e2).mpr (.edge q)];show .refl _
   .show .edge (YR.mpr ⟨e,q,Z⟩)
  rwa[a2,b2]at q
 .intro c i j hi hj;let up:∀{i j:Nat},Conn A i j->Conn (A++sO) i j:=λq=>q.mono λe he=>Yg _ he
  let q:=(c (f i) (f j) (hk i hi)<|hk j hj).image (f:=g) (fs:=A++sO) λe he=>by let⟨d,hd,rfl⟩:=YR.mp he;let⟨d1,d2⟩:=hB d hd;show(up<|gi _ d1).trans ((Conn.edge<|Yj _ hd).trans (up<|gi _ d2).symm)
  show(up<|gi i hi).symm.trans (q.trans<|up<|gi j hj)
def PC(n:Int)(ps:Aa)(I O:Ac)(c:Nat):(Prop):=∃L:Ab,L.Nodup/\(∀l,l∈L↔Ze n ps l/\(∀z∈I,z∈l)/\∀z∈O,z∉l)/\L.length=c
def PC.uniq(h1:PC n ps I O c)(h2:PC n ps I O d):c=d:=by
 let⟨L,a1,a2,a3⟩:=h1;let⟨M,b1,b2,b3⟩:=h2
 have:L.Perm M:=(Us a1 b1).mpr λl=>by rw[a2,b2]
 rw[<-a3,<-b3,this.length_eq]
def XD(m:Nat)(gone:Ac):(Ac):=(VJ m).filter λz=>decide (z∉gone)
def WM{z:Int}:z∈XD m gone↔(0<=z/\z<(m:Int))/\z∉gone:=by unfold XD;rw[Ya,YL,Xr]
def ZA7(m:Nat)(gone:Ac):(XD m gone).Pairwise (·<·):=(XS.mp<|LM m).2.filter _
def SD(f:Nat->Nat)(ps:Aa)(R:Ac):(Aa):=R.map λz=>((f (Zq ps z).1:Int),(f (Zq ps z).2:Int))
def Qu(R:Ac)(S:Ac):(Ac):=S.map λt=>R.getD t.toNat 0
def AU(hR:R.Pairwise (·<·))(hS:IsSet R.length S):(Qu R S).Pairwise (·<·):=by
 let⟨a1,a2⟩:=XS.mp hS;show Nt.mpr (a2.imp_of_mem λ{a b} ha hb Vh=>?_);let h1:=a1 a ha
 let h2:=a1 b hb;rw[WG,WG,Xq J,Xq J];show Nx.mp hR a.toNat b.toNat D D sS
def AS(hS:IsSet R.length S){z:Int}(h:z∈Qu R S):z∈R:=by
 let⟨t,ht,rfl⟩:=YR.mp h;let h1:=hS.all t ht
 rw[WG,Xq J];show TL _
def kE{f:Nat->Nat}(hS:IsSet R.length S):XU (SD f ps R) S=(XU ps (Qu R S)).map λe=>(f e.1,f e.2):=by
 unfold XU Qu;rw[Px,Px];show VN λt ht=>?_;let h1:=hS.all t ht
 let e:(SD f ps R).getD t.toNat (0,0)=((f (Zq ps<|R.getD t.toNat 0).1:Int),(f (Zq ps<|R.getD t.toNat 0).2:Int)):=by unfold SD;rw[WG,Ys,WG,Xq D];rfl
 rw[e];rfl
def Ri(m:Nat)(I R S:Ac):(Ac):=(VJ m).filter λz=>decide (z∈I\/z∈Qu R S)
def kD(m:Nat)(I R S:Ac):(Ri m I R S).Pairwise (·<·):=(XS.mp<|LM m).2.filter _
def WS{z:Int}:z∈Ri m I R S↔(0<=z/\z<(m:Int))/\(z∈I\/z∈Qu R S):=by unfold Ri;rw[Ya,YL,Xr]
section
variable{n:Int}{ps:Aa}{I O S:Ac}{f g:Nat->Nat}{k:Nat}
def Hb(hI:IsSet ps.length I)(hS:IsSet (XD ps.length (I++O)).length S):(Ri ps.length I (XD ps.length (I++O)) S).Perm (I++Qu (XD ps.length (I++O)) S):=by
 let ua:=AU (ZA7 ps.length<|I++O) hS;show(Us (OH<|kD _ _ _ _)<|Wo.mpr ⟨hI.nodup,OH ua,λa ha b hb e=>?_⟩).mpr λz=>?_
 .have:=(WM.mp<|AS hS hb).2
  show this (Yg _<|e▸ha)
 .rw[WS,XA];exists λh=>h.2,λh=>⟨?_,h⟩;rcases h with q|q
  .show hI.all z q
  .show(WM.mp<|AS hS q).1
theorem ZW7(g0:Zy n ps)(hI:IsSet ps.length I)(hf:∀i j,i<n.toNat->j<n.toNat->(f i=f j↔Conn (XU ps I) i j))(hk:∀i,i<n.toNat->f i<k)(hg:∀a,a<k->g a<n.toNat/\f (g a)=a)(hS:IsSet (XD ps.length (I++O)).length S):
  ((∀i j,i<n.toNat->j<n.toNat->Conn (XU ps<|Ri ps.length I (XD ps.length<|I++O) S) i j)↔∀a b,a<k->b<k->Conn (XU (SD f ps<|XD ps.length<|I++O) S) a b):=by
 let hp:=Hb (O:=O) hI hS;let hA:=ZR (ns:=I) g0 hI.all
 let hB:=ZR (ns:=Qu (XD ps.length<|I++O) S) g0 λz hz=>(WM.mp<|AS hS hz).1;let e:XU ps (I++Qu (XD ps.length<|I++O) S)=XU ps I++XU ps (Qu (XD ps.length<|I++O) S):=by unfold XU;show YK
 rw[kE hS,<-ZV7 hf hk hg hA hB,<-e];exists λc i j hi hj=>(LQ λz=>hp.mem_iff).mp (c i j hi hj),λc i j hi hj=>(LQ λz=>hp.mem_iff).mpr (c i j hi hj)
def Jz(hI:IsSet ps.length I)(hT:IsSet ps.length T)(h1:∀z∈I,z∈T)(h2:∀z∈O,z∉T):∃S,IsSet (XD ps.length (I++O)).length S/\T=Ri ps.length I (XD ps.length (I++O)) S:=by
 exists (VJ (XD ps.length<|I++O).length).filter λt=>decide<|(XD ps.length<|I++O).getD t.toNat 0∈T,XS.mpr ⟨λt ht=>Xr.mp (Ya.mp ht).1,(XS.mp<|LM _).2.filter _⟩,Hm (XS.mp hT).2 (kD _ _ _ _) λz=>?_;rw[WS];constructor
 .intro hz;exists hT.all z hz,?_;cases c:z∈I
  .show .inl c
  .right;let hR:z∈XD ps.length (I++O):=WM.mpr ⟨hT.all z hz,λq=>by
    rcases XA.mp q with q|q
    .show c q
    .show h2 z q hz⟩
   let⟨t,ht⟩:=YF hR;let e:(XD ps.length<|I++O).getD ((t:Int)).toNat 0=z:=by rw[QP];show ZY ht
   show YR.mpr ⟨(t:Int),Ya.mpr ⟨Xr.mpr ⟨J,by have:=(Xx.mp ht).1;omega⟩,Yv<|by rwa[e]⟩,e⟩
 .rintro⟨_,q|q⟩
  .show h1 z q
  .let⟨t,ht,rfl⟩:=YR.mp q;show Yt (Ya.mp ht).2
def Zc9{S':Ac}(hS:IsSet (XD ps.length (I++O)).length S)(Uh:IsSet (XD ps.length (I++O)).length S')(e:Ri ps.length I (XD ps.length (I++O)) S=Ri ps.length I (XD ps.length (I++O)) S'):S=S':=by
 let key:∀{A sO:Ac},IsSet (XD ps.length<|I++O).length A->IsSet (XD ps.length<|I++O).length sO->Ri ps.length I (XD ps.length<|I++O) A=Ri ps.length I (XD ps.length<|I++O) sO->∀t,t∈A->t∈sO:=λ{A sO} hA hB e t ht=>by
  let h1:=hA.all t ht;let hm:(XD ps.length<|I++O).getD t.toNat 0∈Qu (XD ps.length<|I++O) A:=YR.mpr ⟨t,ht,Z⟩
  let hR:=WM.mp (AS hA hm);let h2:(XD ps.length<|I++O).getD t.toNat 0∈Ri ps.length I (XD ps.length<|I++O) sO:=e▸WS.mpr ⟨hR.1,.inr hm⟩
  rcases(WS.mp h2).2 with q|q
  .show absurd (Yg _ q) hR.2
  .let⟨u,hu,e2⟩:=YR.mp q;let h3:=hB.all u hu
   rw[WG,WG,Xq J,Xq J]at e2
   have:=Fo (OH<|ZA7 ps.length<|I++O) (i:=u.toNat) (j:=t.toNat) (Xq D) (by rw[Xq D];show YV some e2.symm)
   let e3:u=t:=J;show e3▸hu
 show Hm (XS.mp hS).2 (XS.mp Uh).2 λt=>⟨key hS Uh e t,key Uh hS e.symm t⟩
def vJ(f:Nat->Nat)(ps:Aa)(R:Ac):(SD f ps R).length=R.length:=Yc ..
def kC(g0:Zy n ps)(hI:IsSet ps.length I)(Ud:∀z∈I,z∉O)(hf:∀i j,i<n.toNat->j<n.toNat->(f i=f j↔Conn (XU ps I) i j))(hk:∀i,i<n.toNat->f i<k)(hg:∀a,a<k->g a<n.toNat/\f (g a)=a)(hn:(k:Int)+I⁻¹=n)(h:TC k (SD f ps (XD ps.length (I++O))) c):PC n ps I O c:=by
 let⟨L,h1,h2,h3⟩:=h;let hs:∀l∈L,IsSet (XD ps.length<|I++O).length l:=λl hl=>vJ f ps _▸((h2 l).mp hl).1
 let len:∀{S:Ac},IsSet (XD ps.length<|I++O).length S->(Ri ps.length I (XD ps.length<|I++O) S).length=I.length+S.length:=λ{S} hS=>by rw[(Hb hI hS).length_eq,Xt];unfold Qu;rw[Yc]
 let iff:∀{S:Ac},IsSet (XD ps.length<|I++O).length S->(Ze n ps (Ri ps.length I (XD ps.length<|I++O) S)↔Ze k (SD f ps<|XD ps.length<|I++O) S):=λ{S} hS=>by
  let l:=len hS;let q:=ZW7 (O:=O) g0 hI hf hk hg hS
  constructor
  .rintro⟨a1,a2,a3⟩;exists by rw[vJ];show hS,J,λa b ha hb=>q.mp a3 a b J J
  .rintro⟨a1,a2,a3⟩;exists XS.mpr ⟨λz hz=>(WS.mp hz).1,kD _ _ _ _⟩,J,q.mpr λa b ha hb=>a3 a b J J
 show⟨L.map<|Ri ps.length I<|XD ps.length<|I++O,Nt.mpr<|h1.imp_of_mem λ{a b} ha hb Vh e=>Vh<|Zc9 (hs a ha) (hs b hb) e,λT=>?_,by rw[Yc,h3]⟩;rw[YR];constructor
 .rintro⟨S,hS,rfl⟩;exists (iff<|hs S hS).mpr ((h2 S).mp hS),λz hz=>WS.mpr ⟨hI.all z hz,.inl hz⟩,λz hz q=>?_;rcases(WS.mp q).2 with q|q
  .show Ud z q hz
  .show(WM.mp<|AS (hs S hS) q).2 (Yj _ hz)
 .rintro⟨hT,q1,q2⟩;let⟨S,hS,rfl⟩:=Jz hI hT.1 q1 q2;exists S,(h2 S).mpr ((iff hS).mp hT),Z
def ZX7(g0:Zy n ps)(gone:Ac)(hk:∀i,i<n.toNat->f i<k)(k1:1<=k)(kn:k<=n.toNat):Zy k (SD f ps (XD ps.length gone)):=by
 let⟨g1,g2,g3,g4⟩:=g0;exists J,J,?_,λp hp=>?_
 .rw[vJ]
  have:(XD ps.length gone).length<=(VJ ps.length).length:=Yr ..
  have:=(LM ps.length).len
  lia
 .let⟨z,hz,rfl⟩:=YR.mp hp;let hz1:=(WM.mp hz).1
  obtain⟨q,hq⟩:∃q,ps[z.toNat]?=some q:=⟨_,Xq J⟩;let⟨e1,e2,e3,e4⟩:=g4 q (Xj hq);let ee:Zq ps z=(q.1.toNat,q.2.toNat):=by unfold Zq;rw[ZY hq]
  rw[ee];let a:=hk q.1.toNat sS
  let b:=hk q.2.toNat sS;exists by change(0:Int)<=(f q.1.toNat:Int);lia,by change(f q.1.toNat:Int)<(k:Int);grind,by change(0:Int)<=(f q.2.toNat:Int);lia,by change(f q.2.toNat:Int)<(k:Int);grind
def kB(g0:Zy n ps)(hI:IsSet ps.length I)(hf:∀i j,i<n.toNat->j<n.toNat->(f i=f j↔Conn (XU ps I) i j))(hk:∀i,i<n.toNat->f i<k)(hg:∀a,a<k->g a<n.toNat/\f (g a)=a)(k1:1<=k)(kn:k<=n.toNat)(hn:n<(k:Int)+I⁻¹):PC n ps I O 0:=by
 exists [],.nil,λT=>⟨λh=>(by cases h),λzz=>?_⟩,Z;let⟨hT,q1,q2⟩:=zz;let⟨S,hS,rfl⟩:=Jz hI hT.1 q1 q2;let q:=(ZW7 (O:=O) g0 hI hf hk hg hS).mp hT.2.2
 let gg:=ZX7 (f:=f) g0 (I++O) hk k1 kn;let l:=lG gg (by rwa[vJ]) λa b ha hb=>q a b sS sS
 let l2:=hT.2.1;rw[(Hb hI hS).length_eq,Xt]at l2;unfold Qu at l2;rw[Yc]at l2;omega
end
def UA:(Ac->Int->Nat)
 |[],_=>0
 |x::l,z=>if x=z then 0 else UA l z+1
def Ha:∀{l:Ac}{z:Int},z∈l->l[UA l z]?=some z
 |x::l,z,h=>by
  unfold UA;cases c:x=z
  .rw[if_pos c,c];rfl
  .rw[if_neg c];show Ha ((Yi.mp h).resolve_left λe=>c e.symm)
def ky(h:z∈l):UA l z<l.length:=(Xx.mp<|Ha h).1
def ku(hz:z∈l)(hy:y∈l):UA l z=UA l y↔z=y:=by
 show⟨λe=>?_,λe=>by rw[e]⟩;let h1:=Ha hz
 rw[e,Ha hy]at h1;show(Ye h1).symm
def kq(hn:l.Nodup){i:Nat}{z:Int}(h:l[i]?=some z):UA l z=i:=Fo hn (Ha<|Xj h) h
def AR(h:i<M.length):mk M i∈M:=by unfold mk;rw[WG,Xq h];show TL h
section
variable{N:Nat}{es:List (Nat×Nat)}{F:Ac}
def ko(h:InN N es)(hF:F.Pairwise (·<·))(hm:∀z,z∈F↔z∈XB N es):
  ∃g:Nat->Nat,(∀i j,i<N->j<N->(UA F (mk (XB N es) i)=UA F (mk (XB N es) j)↔Conn es i j))/\(∀i,i<N->UA F (mk (XB N es) i)<F.length)/\∀a,a<F.length->g a<N/\UA F (mk (XB N es)<|g a)=a:=by
 let hl:=ZD N es;let km:∀i,i<N->mk (XB N es) i∈F:=λi hi=>(hm _).mpr (AR J)
 let ex:∀a,∃i,a<F.length->i<N/\UA F (mk (XB N es) i)=a:=λa=>by
  cases c:a<F.length
  .let q:=(hm _).mp (TL c);let⟨i,hi⟩:=YF q;let Vf:=(Xx.mp hi).1
   exists i,λ_=>⟨J,?_⟩;let e:mk (XB N es) i=F[a]:=by unfold mk;show ZY hi
   rw[e];show kq (OH hF) (Xq c)
  .exists 0,λh=>absurd h c
 exists λa=>Classical.choose<|ex a,λi j hi hj=>?_,λi hi=>ky<|km i hi,λa ha=>dY (ex a) ha;rw[ku (km i hi) (km j hj)];show Ro h hi hj
def kj:∀i,∃p,p<=i/\Wb M p=true/\mk M p=mk M i:=by
 intro i
 induction i using Nat.strongRecOn with
 |_ i ih=>
  cases c:Wb M i=true
  .exists i,XM _,c,Z
  .obtain⟨j,hj,e⟩:∃j,j<i/\mk M j=mk M i:=Yz λno=>c (Xz.mpr λj hj e=>no ⟨j,hj,e⟩);let⟨p,h1,h2,h3⟩:=ih j hj;exists p,J,h2,h3.trans e
def ZZ8(hF:F.Pairwise (·<·))(hm:∀z,z∈F↔z∈M):F.length=cnt M:=by
 let e:F.Perm ((Vb M M.length).map (mk M)):=by
  show(Us (OH hF) ?_).mpr λz=>?_
  .show Nt.mpr ?_;unfold Vb;show(Eo.filter<|Wb M).imp_of_mem λ{a b} ha hb Vh=>?_;show Xz.mp (Ya.mp hb).2 a Vh
  .rw[hm,YR];constructor
   .intro hz;let⟨i,hi⟩:=YF hz;let Vf:=(Xx.mp hi).1
    let⟨p,h1,h2,h3⟩:=kj (M:=M) i;exists p,Ya.mpr ⟨YS.mpr J,h2⟩,h3.trans ?_;unfold mk;show ZY hi
   .rintro⟨p,hp,rfl⟩;show AR (YS.mp (Ya.mp hp).1)
 rw[e.length_eq,Yc];rfl
def Zw4(h:InN N es)(hN:1<=N)(hF:F.Pairwise (·<·))(hm:∀z,z∈F↔z∈XB N es):1<=F.length/\F.length<=N/\N<=F.length+es.length:=by
 let e:=ZZ8 hF hm;let hl:=ZD N es
 let e2:=ni (wL (n:=N) (es:=es) h);let e3:=wA es h
 let e4:=oJ (M:=XB N es) J;let e5:cnt (XB N es)<=N:=by unfold cnt Vb;show Yn (Yr ..) ?_;rw[MG];lia
 grind
end
def FD(A sO:Ac)(t:Int):(Prop):=t∈A/\t∉sO/\∀s,s<t->(s∈A↔s∈sO)
def ki:∀{A sO:Ac},A.Pairwise (·<·)->sO.Pairwise (·<·)->A.length=sO.length->(HT.lexLt A sO=true↔∃t,FD A sO t)
 |[],[],_,_,_=>⟨λh=>(by cases h),λzz=>by let⟨t,h,_⟩:=zz;show(by cases h)⟩
 |x::A,y::sO,hA,hB,hl=>by
  let⟨a1,a2⟩:=YZ.mp hA;let⟨b1,b2⟩:=YZ.mp hB;let Pj:A.length=sO.length:=Mz hl
  change(if x=y then HT.lexLt A sO else decide (x<y))=true↔_;cases c:x=y
  .subst c;rw[if_pos Z,ki a2 b2 Pj];constructor
   .rintro⟨t,h1,h2,h3⟩;let tx:=a1 t h1
    exists t,Yf _ h1,λq=>?_,λs hs=>?_
    .rcases Yi.mp q with e|e
     .lia
     .show h2 e
    .rw[Yi,Yi,h3 s hs]
   .rintro⟨t,h1,h2,h3⟩;let tx:t≠x:=λe=>h2 (e▸Yd)
    let EN:=(Yi.mp h1).resolve_left tx;exists t,EN,λq=>h2<|Yf _ q,λs hs=>?_
    have:=h3 s hs
    rw[Yi,Yi]at this;cases e:s=x
    .rw[e];exists λq=>absurd (a1 x q)<|Int.lt_irrefl x,λq=>absurd (b1 x q)<|Int.lt_irrefl x
    .exists λq=>(this.mp<|.inr q).resolve_left e,λq=>(this.mpr<|.inr q).resolve_left e
  .rw[if_neg c,YL];constructor
   .intro h;exists x,Yd,λq=>?_,λs hs=>⟨λq=>?_,λq=>?_⟩
    .rcases Yi.mp q with e|e
     .show c e
     .have:=b1 x e;lia
    .rcases Yi.mp q with e|e
     .lia
     .have:=a1 s e;lia
    .rcases Yi.mp q with e|e
     .lia
     .have:=b1 s e;lia
   .rintro⟨t,h1,h2,h3⟩;let tx:x<=t:=by
     rcases Yi.mp h1 with e|e
     .lia
     .have:=a1 t e;lia
    show Yz λhc=>?_;let hyx:y<x:=J
    have:=(h3 y sS).mpr Yd
    rcases Yi.mp this with e|e
    .lia
    .have:=a1 y e;grind
def kh{α:Type}[DecidableEq α]:∀{l m:List α},l.Nodup->(∀x∈l,x∈m)->l.length<=m.length
 |[],_,_,_=>Yk _
 |x::l,m,hn,hs=>by
  let hx:=hs x Yd;let⟨h1,h2⟩:=Qi.mp hn
  have:=kh (m:=m.erase x) h2 λy hy=>(uc λe=>h1<|by rwa[<-e]).mpr (hs y<|Yf _ hy)
  rw[uo hx]at this
  have:=FR hx
  rw[YI];grind
def TupsV.take(h:TupsV H xs L)(a:Nat):TupsV H (xs.take a) (L.take a):=⟨by rw[Yh,Yh,h.1],λi l e=>by
 rw[Qk]at e ⊢;split at e
 .rename_i c;rw[if_pos c];show h.2 _ l e
 .cases e⟩
def Jy{s rest:TS}{sP:Ends}{σ:L2.St}{H:Hp}(P:L2.St->Hp->Prop)(h1:∀σ' H',P σ' H'->rest sP σ' H')(h2:∀K:L2.St->Hp->Prop,(∀σ' H',P σ' H'->K σ' H')->s {sP with nx:=K} σ H):Um s rest sP σ H:=h2 _ h1
def kg(g:Zy n ps):∃L:Ab,(∀l,l∈L↔Ze n ps l)/\L.Pairwise Vj:=⟨TJ n.toNat ps (n-1).toNat,λ_=>bD g,(JI _ _).filter _⟩
def ev(b:Int):(Ac->Int)
 |[]=>0
 |d::l=>d+b*ev b l
abbrev GZ(ls:Ac)(z:Int):Int:=ls.getD z.toNat 0
def lwS(ls:Ac)(x:Int):(Ac):=(VJ ls.length).filter λz=>decide (GZ ls z<x)
def mA(N:Nat)(ps:Aa)(ls:Ac)(x:Int):(Ac):=XB N (XU ps<|lwS ls x)
def lvl(ls:Ac)(x:Int)(i:Nat):(Ac):=(VJ i).filter λz=>decide (GZ ls z=x)
def AQ(ls T:Ac):(Int):=(T.map<|GZ ls).sum
section
variable{n:Int}{ps:Aa}{T:Ac}(g:Zy n ps)
include g
def kf(hT:Ze n ps T)(hW:Ze n ps W)(h:∀z∈T,z∈W):T.Perm W:=by
 have:=AW (l:=W) hT.1.nodup (by have:=hT.2.1;have:=hW.2.1;lia) h
 show this.symm
end
def j9(hT:Ze n ps T)(hW:Ze n ps W):(T.filter λy=>decide (y∉W)).length=(W.filter λy=>decide (y∉T)).length:=by
 let e1:=Bq (λy=>decide<|y∈W) T;let e2:=Bq (λy=>decide<|y∈T) W
 let p:(T.filter λy=>decide<|y∈W).Perm (W.filter λy=>decide<|y∈T):=(Us (hT.1.nodup.filter _)<|hW.1.nodup.filter _).mpr λy=>by rw[Ya,Ya,YL,YL];show And.comm
 let f1:(T.filter λy=>decide<|y∉W)=T.filter λy=>!decide (y∈W):=Nr λy _=>B;let f2:(W.filter λy=>decide<|y∉T)=W.filter λy=>!decide (y∈T):=Nr λy _=>B
 have:=p.length_eq
 let h1:=hT.2.1;let h2:=hW.2.1
 rw[f1,f2];lia
end My
namespace HT
open PySem PyProof.Rows
section
def ltP(x y:Int×Ac):(Bool):=decide (x.1<y.1)||(decide (x.1=y.1)&&lexLt x.2 y.2)
end
end HT
namespace L2
open PySem PySem.Spec PyProof.Rows
section
variable{prog:Program}{w:World}{A:Around}{E:Ae}{s:Shared}
def Zg6{P:Nat->Value->Prop}{OK:Heap->Prop}{Q:List Value->Shared->Prop}(K:PySem.W.KdlSrc prog w T r d n P OK)(hh:A.handled=none)(hok:OK s.heap)(hn:n<=sizeLine)
  (k:∀(out:Ag) h' tk,out.length=n->(∀i v,out[i]?=some v->P i v)->(~~~s)<=h'.objs.size->(∀c o,s.heap.get? c=some o->h'.get? c=some o)->Q out {s with heap:=h',toks:=tk}):wpAny (model prog w) A (collect<|.ref r) Q E s:=by
 let HK:(s.heap.push<|seqObj "list" #[] 0).get? (~~~s)=some (seqObj "list" #[] 0):=Yo _ rfl;let Xk:=K.there _ hok
 obtain⟨R,hR⟩:∃R:Result->Shared->Prop,R=λr s'=>∃h' tk acc c,r=.ok (.ret<|.ref (~~~s))/\s'={s with heap:=h',toks:=tk}/\(∀b o,b≠(~~~s)->(s.heap.push<|seqObj "list" #[] 0).get? b=some o->h'.get? b=some o)/\h'.get? (~~~s)=some {cls:=.type "list",dict:=none,data:=.seq acc c,slots:=#[]}/\ItemsOf P acc n:=⟨_,Z⟩;unfold collect;show XW (xE<|SR (R:=R) (Rv IG ?_) λr0 s0 h0=>?_)
 .change wpAny _ _ (newList [] >>= λv=>again<|.builtin "list.__iadd__" ⟨[v,.ref r],[]⟩) _ _ s;show XW (Nm<|Yl ⟨xK _ sQ,Rv entry_list_iadd' ?_⟩);rw[KG sQ _];change wpAny _ A.in1 (Builtin.List.listExtendWith (.ref (~~~s)) ↑r<|.ref (~~~s)) _ _ {s with heap:=s.heap.push (seqObj "list" #[] 0)}
  show PySem.W.kdl_extend (A:=A) (R:=R) (s:={s with heap:=s.heap.push (seqObj "list" #[] 0)}) K hh (K.keep _ _ hok λb _ o e=>Xf _ e) (~~~s) (Sd Xk.1) (Sd Xk.2) _ 0 HK (λh' tk acc c hk hS VA=>?_) hn;rw[hR];exists h',tk,acc,c,Z,Z,hk,hS,VA
 .rw[hR]at h0;let⟨h',tk,acc,c,rfl,rfl,hk,hS,VA⟩:=h0;change wpAny _ A (load (~~~s) >>= _) Q E _
  show XW (wpAny_load hS<|Yl ?_);show k acc.toList h' tk (by rw[Yw];show VA.1) (λi v e=>VA.2 i v<|by rwa[<-YH]) (Qf<|Yq hS) λc o e=>hk c o (YD<|Yq e) (Xf _ e)
def ZH6{P:Nat->Value->Prop}{OK:Heap->Prop}{Q:Ae}(K:PySem.W.KdlSrc prog w T r d n P OK)(hh:A.handled=none)(hok:OK s.heap)(Rn:n<64)
  (hP:∀out:Ag,out.length=n->(∀i v,out[i]?=some v->P i v)->IntsAre out ns)
  (k:∀(ms:Ac)(out:Ag) a h' tk c,IntsAre out ms->ms.Pairwise (·<=·)->ms.Perm ns->(~~~s)<=a->h'.get? a=some (seqObj "list" out.toArray c)->(∀c o,s.heap.get? c=some o->h'.get? c=some o)->Q ↑a {s with heap:=h',toks:=tk}):
  wpAny (model prog w) A (call (.builtin "sorted") [.ref r]) Q E s:=by
 let LO:sizeLine=16777216:=TM;show x8 kind_sorted Pm Pk (args_sorted1 _) ?_;unfold Builtin.«sorted»;show XW (m:=checkCount "sorted" 1 1 _) (Yl ?_);show XW (Zg6 (A:=A.in1) K (by simp[hh]) hok J λout h1 tk lo hp Tu kp=>?_);let hI:=hP out lo hp
 show XW (Nm ?_);let hL:(h1.push<|seqObj "list" out.toArray 0).get? h1.objs.size=some (seqObj "list" out.toArray 0):=Yo _ rfl
 show XW (SX<|Uq DW ⟨_,hL,Z⟩ Pn (list_sort_tree hL hI J λres ms b1 b2 b3=>⟨_,Z,?_⟩)<|xr _);let⟨c,hc⟩:=sortedHeap_at (out:=res) hL;show Yl ⟨_,Z,k ms res.toList h1.objs.size _ tk c b1 b3 b2 Tu (by rwa[IP]) λb ob e=>?_⟩;let lt:=Yq (kp b ob e)
 rw[sortedHeap_old (YD lt) (by rw[Fy];show SS lt)];show Xf _ (kp b ob e)
end
section
variable{X:Cx}
def RG(p d:Addr):(HO):=.ext λh=>PySem.W.KdlKeysView h p d
def j8:(V->List V->Hp->VK->Prop):=λx vs H Q=>∃d kvs,x=.ref d/\vs=[]/\H d=some (.dK kvs)/\∀p,H p=none->Q ↑p (upd H p<|RG p d)
def j7:Kk X "dict.keys" j8:=by
 intro pins s σ H x vs v us Q I rx rv h;let⟨d,kvs,rfl,rfl,hH,q⟩:=h;cases rx;cases rv;let⟨z,hd,ws,rel,dd⟩:=QM I.hok hH;show call_meetsIn eh dd.typeIs PySem.F.entry_dict_keys (PySem.F.args_dict_keys_1 _) (PySem.W.kdl_meets_keys (ZO X.prog X.w) d hd) ⟨⟨ws,dd⟩,?_⟩;exists .ref (~~~s),_,I.laid (o:=RG (~~~s) d) (λb u e=>Xf _ e) (XM _) ?_,Z,q _<|I.hok.fresh<|XM _;let e:=Yo s.heap (o:={cls:=.type "dict_keys",data:=.fields #[.ref d]}) rfl
 exists ⟨_,e,Z,Z⟩,⟨_,e⟩,λh1 h2 zz k=>by let⟨o,ho,r⟩:=zz;exists o,k o ho,r
def Zg5:∀{kvs:List (Key×V)}{ws:List (Key×Value)}{ks:Ac},KV kvs ws->kvs.map (·.1)=ks.map Sum.inl->∀out:Ag,out.length=ws.length->(∀(i:Nat)(v:Value),out[i]?=some v->∃k x,ws[i]?=some (k,x)/\(ZO P w).is k v=true)->IntsAre out ks
 |[],_,ks,.nil,hk,out,hl,_=>by
  let e1:ks=[]:=by simpa using hk.symm
  let e2:out=[]:=YX.mp hl;subst e1 e2;show .nil
 |_::_,_,[],.cons r t,hk,out,hl,hv=>by simp at hk
 |_::_,_,k::ks,.cons r t,hk,[],hl,hv=>by simp at hl
 |_::_,_,k::ks,.cons r t,hk,v::out,hl,hv=>by
  let⟨k',x,e,hi⟩:=hv 0 v rfl;let e:_=(k',x):=Ye e
  let hk1:=(List.cons.inj hk).1;let hr:=r.1
  rw[e]at hr;let ek:k'=Sum.inl k:=hr.symm.trans hk1
  subst ek;obtain⟨i,tt,e1,e2⟩|⟨y,tt,e1,_⟩:=ZG (show UR (Sum.inl k) v=true from hi)
  .cases e1;subst e2;show .cons _ tt (Zg5 (P:=P) (w:=w) t (List.cons.inj hk).2 out (by simpa using hl) λj u e=>?_);show hv (j+1) u e
  .cases e1
def j6(hc:X.calm=true):WB X (.builtin "sorted") (λxs H Q=>∃p d kvs ks,xs=[.ref p]/\H p=some (RG p d)/\H d=some (.dK kvs)/\kvs.map (·.1)=ks.map Sum.inl/\ks.length<64/\∀ms:Ac,ms.Perm ks->ms.Pairwise (·<=·)->∀l,H l=none->Q ↑l (upd H l (.lst (My.IL ms)))):=by
 intro pins s σ H xs us Q I r h;let⟨p,d,kvs,ks,rfl,hp,hd,Si,Rn,q⟩:=h;let⟨u,rfl,ru⟩:=Tg r;let rfl:u=Value.ref p:=ru;let⟨hv,_,_⟩:=(show ObjOk X.prog X.w H s.heap p (RG p d) from I.hok p _ hp);let⟨z,hds,ws,rel,dd⟩:=QM I.hok hd;let⟨ep,da⟩:=c7 dd;let hl:ws.length=kvs.length:=rel.length.symm
 let VB:kvs.length=ks.length:=by have:=YV List.length Si;simpa using this
 show ZH6 (PySem.W.kdl_keys (knd:=ZO X.prog X.w) (kvs:=ws) (ep:=ep) (r:=p) (d:=d)) (I.ok.hd hc) ⟨hv,da⟩ J (λout lo hP=>Zg5 (P:=X.prog) (w:=X.w) rel Si out lo hP) λms out a h' tk c b1 b2 b3 Tu ha kp=>?_;let MZ:=b3.length_eq
 let LO:sizeLine=16777216:=TM;exists .ref a,_,I.laid (o:=.lst<|ms.map V.int) (h':=h') (t':=tk) kp Tu ⟨by rw[Yc];lia,out,c,ZZ b1,ha⟩,Z,q ms b3 b2 a<|I.hok.fresh Tu
end
end L2
namespace My
open PySem L2
section
variable{one d0 d1:Int}{other:Option Int}
def dB(one:Int)(other:Option Int)(d0 d1 y:Int):(Int):=if y=one then d0 else if some y=other then d1 else y
end
def Lm(cs:List Nat):(List Nat):=if cs.head?=some 45 then cs.tail else cs
def j5(cs:List Nat):(Bool):=decide (1<=(Lm cs).length/\(Lm cs).length<=60/\(∀c∈Lm cs,48<=c/\c<=57)/\(cs=[48]\/(Lm cs).head?≠some 48))
abbrev Tr:=Int×Aa×Ac
end My
namespace My
open PySem PySem.W PyProof.Rows
def TQ{α:Type}(c:Nat->Nat->Bool):(KasT α->α)
 | .ret a=>a
 | .ask i j k=>TQ c (k<|c i j)
def EM{α β:Type}{c:Nat->Nat->Bool}{f:α->KasT β}:∀t:KasT α,TQ c (t.bind f)=TQ c (f (TQ c t))
 | .ret _=>rfl
 | .ask i j k=>EM (k<|c i j)
section
variable{n:Nat}{key:Nat->Int}
def Ahd(key:Nat->Int)(i j:Nat):(Prop):=key i<key j\/(key i=key j/\i<j)
def Ahd.trans{i j k:Nat}(h1:Ahd key i j)(h2:Ahd key j k):Ahd key i k:=by unfold Ahd at *;grind
structure Ord(n m:Nat)(p:Array Nat):Prop where
 perm:p.Perm (List.range n).toArray
 suf:∀i,m<=i->i<n->p.getD i 0=i
def Ord.size(h:Ord n m p):p.size=n:=by rw[h.perm.size_eq];simp
def Ll{p:Array Nat}(h:i<p.size):p[i]?=some (p.getD i 0):=by rw[YA,YT h];rfl
def Ord.inj(h:Ord n m p)(hi:i<n)(hj:j<n)(e:p.getD i 0=p.getD j 0):i=j:=by
 let hn:p.toList.Nodup:=(Ur.mp h.perm).nodup_iff.mpr List.nodup_range;let hs:=h.size
 let e1:=Ll (p:=p) (i:=i) J;let e2:=Ll (p:=p) (i:=j) J
 rw[<-YH]at e1 e2;show(List.getElem?_inj (i:=i) (j:=j) (by rw[Yw];omega) hn).mp (by rw[e1,e2,e])
def Ord.lt(h:Ord n m p)(hm:m<=n)(hi:i<m):p.getD i 0<m:=by
 cases hc:p.getD i 0<m
 .show hc
 .let hs:=h.size;let hb:p.getD i 0<n:=by let e1:=Ll (p:=p) (i:=i) sS;rw[<-YH]at e1;show YS.mp ((Ur.mp h.perm).mem_iff.mp (Xj e1))
  let e:=h.inj J hb (h.suf _ D hb).symm;grind
def Ord.mono(h:Ord n m p)(hk:m<=k):Ord n k p:=⟨h.perm,λi hi=>h.suf i J⟩
def Uc{i j k:Nat}(hj:j<=p.size):(kas_rev p i j).getD k 0=if i<=k/\k<j then p.getD (i+j-1-k) 0 else p.getD k 0:=by unfold kas_rev;rw[YA,tq hj,apply_ite λo:Option Nat=>o.getD 0,<-YA,<-YA]
def Ord.rev(h:Ord n m p)(hj:j<=m)(hm:m<=n):Ord n m (kas_rev p i j):=by let hs:=h.size;exists (mirror_perm _ _ _ _).trans h.perm,λk hk hn=>?_;rw[Uc J,if_neg J];show h.suf k hk hn
def Asc(key:Nat->Int)(m:Nat)(p:Array Nat):(Prop):=∀i j,i<j->j<m->Ahd key (p.getD i 0) (p.getD j 0)
def Asc.more(hm:1<=m)(h:Asc key m p)(h2:Ahd key (p.getD (m-1) 0) (p.getD m 0)):Asc key (m+1) p:=λi j WJ hj=>by
 cases e:j=m
 .subst e;cases e2:i=j-1
  .rw[e2];show h2
  .show(h i (j-1) J D).trans h2
 .show h i j WJ J
def GY:∀f m p,m+f=n->1<=m->Ord n m p->Asc key m p->∃k,TQ (λi j=>decide (key i<key j)) (kas_asc p f m)=k/\m<=k/\k<=n/\Asc key k p/\(k<n->key (p.getD k 0)<key (p.getD (k-1) 0))
 |0,m,p,hf,h1,ho,ha=>⟨m,Z,XM _,J,ha,λh=>J⟩
 |f+1,m,p,hf,h1,ho,ha=>by
  change ∃k,TQ _ (if decide (key (p.getD m 0)<key (p.getD (m-1) 0))=true then KasT.ret m else kas_asc p f (m+1))=k/\_;cases hc:key (p.getD m 0)<key (p.getD (m-1) 0)
  .rw[if_pos (Yv hc)];exists m,Z,XM _,J,ha,λ_=>hc
  .rw[if_neg λz=>hc (Yt z)];let e:=ho.suf m (XM _) J
   let l:=ho.lt J (i:=m-1) J;let⟨k,e1,e2,e3,e4,e5⟩:=GY f (m+1) p J J (ho.mono J) (ha.more h1<|by unfold Ahd;rw[e]at hc ⊢;lia);exists k,e1,J,e3,e4,e5
structure Dsc(key:Nat->Int)(m g:Nat)(p:Array Nat):Prop where
 le:g+1<=m
 old:∀i j,i<j->j<m-(g+1)->Ahd key (p.getD j 0) (p.getD i 0)
 mid:∀i j,i<m-(g+1)->m-(g+1)<=j->j<m->key (p.getD j 0)<key (p.getD i 0)
 own:∀i j,m-(g+1)<=i->i<j->j<m->key (p.getD i 0)=key (p.getD j 0)/\p.getD i 0<p.getD j 0
def Fall(key:Nat->Int)(m:Nat)(p:Array Nat):(Prop):=∀i j,i<j->j<m->Ahd key (p.getD j 0) (p.getD i 0)
def Dsc.turn(h:Dsc key m g p)(hs:m<=p.size):Fall key m (kas_rev p (m-(g+1)) m):=λi j WJ hj=>by
 let hl:=h.le;rw[Uc hs,Uc hs];cases c1:m-(g+1)<=j
 .rw[if_pos ⟨c1,hj⟩];cases c2:m-(g+1)<=i
  .rw[if_pos ⟨c2,J⟩];show .inr (h.own (m-(g+1)+m-1-j) (m-(g+1)+m-1-i) D D J)
  .rw[if_neg J];show .inl (h.mid i _ J J J)
 .rw[if_neg J,if_neg J];show h.old i j WJ J
def Dsc.last(h:Dsc key m g p)(hs:m<=p.size):key ((kas_rev p (m-(g+1)) m).getD (m-1) 0)=key (p.getD (m-1) 0):=by
 let hl:=h.le;rw[Uc hs,if_pos sS];cases e:g=0
 .congr 2;grind
 .show(h.own (m-(g+1)+m-1-(m-1)) (m-1) D D J).1
def Dsc.fall(h:Dsc key m 0 p):Fall key m p:=λi j WJ hj=>by
 let hl:=h.le;cases e:j<m-(0+1)
 .show h.old i j WJ e
 .show .inl (h.mid i j sS J hj)
def Fall.new(hm:1<=m)(h:Fall key m p)(hk:key (p.getD m 0)<key (p.getD (m-1) 0)):Dsc key (m+1) 0 p:=by
 exists J,λi j WJ hj=>h i j WJ J,λi j hi h1 h2=>?_,λi j h1 h2 h3=>sS;let e:j=m:=J
 subst e;cases c:i=j-1
 .rw[c];show hk
 .have:=h i (j-1) J D
  unfold Ahd at this;omega
def Fall.rev(h:Fall key m p)(hs:m<=p.size):Asc key m (kas_rev p 0 m):=λi j WJ hj=>by rw[Uc hs,Uc hs,if_pos ⟨Yk _,J⟩,if_pos ⟨Yk _,hj⟩];show h _ _ D D
def Asc.rev(h:Asc key m p)(hs:m<=p.size):Fall key m (kas_rev p 0 m):=λi j WJ hj=>by rw[Uc hs,Uc hs,if_pos ⟨Yk _,hj⟩,if_pos ⟨Yk _,D⟩];show h _ _ D D
def vH:∀f m g p,m+f=n->Ord n m p->Dsc key m g p->∃p' m' g',TQ (λi j=>decide (key i<key j)) (kas_desc f p m g)=(p',m',g')/\m<=m'/\m'<=n/\Ord n m' p'/\Dsc key m' g' p'
 |0,m,g,p,hf,ho,hd=>⟨p,m,g,Z,XM _,D,ho,hd⟩
 |f+1,m,g,p,hf,ho,hd=>by
  let hl:=hd.le;let hs:=ho.size
  let em:=ho.suf m (XM _) J;let ll:=ho.lt J (i:=m-1) J
  change ∃p' m' g',TQ _ (if decide (key (p.getD m 0)<key (p.getD (m-1) 0))=true then (if g>0 then kas_desc f (kas_rev p (m-(g+1)) m) (m+1) 0 else kas_desc f p (m+1) 0) else KasT.ask (p.getD (m-1) 0) (p.getD m 0) λd=>if d=true then .ret (p,m,g) else kas_desc f p (m+1) (g+1))=_/\_;cases hc:key (p.getD m 0)<key (p.getD (m-1) 0)
  .rw[if_pos (Yv hc)];cases hg:g>0
   .rw[if_pos hg];let hr:=ho.rev (i:=m-(g+1)) (XM m) J
    let em2:=hr.suf m (XM _) J;let⟨p',m',g',e1,e2,e3,e4,e5⟩:=vH f (m+1) 0 (kas_rev p (m-(g+1)) m) J (hr.mono J) ((hd.turn J).new J (by rw[hd.last D,em2];rwa[em]at hc));exists p',m',g',e1,J,e3,e4,e5
   .rw[if_neg hg];let rfl:g=0:=J;let⟨p',m',g',e1,e2,e3,e4,e5⟩:=vH f (m+1) 0 p D (ho.mono D) (hd.fall.new J hc);exists p',m',g',e1,J,e3,e4,e5
  .rw[if_neg λz=>hc (Yt z)];change ∃p' m' g',TQ _ (if decide (key (p.getD (m-1) 0)<key (p.getD m 0))=true then KasT.ret (p,m,g) else kas_desc f p (m+1) (g+1))=_/\_
   cases Ul:key (p.getD (m-1) 0)<key (p.getD m 0)
   .rw[if_pos (Yv Ul)];exists p,m,g,Z,XM _,D,ho,hd
   .rw[if_neg λz=>Ul (Yt z)];let ek:key (p.getD (m-1) 0)=key (p.getD m 0):=J
    let⟨p',m',g',e1,e2,e3,e4,e5⟩:=vH f (m+1) (g+1) p D (ho.mono D) ⟨J,λi j h1 h2=>hd.old i j h1 J,λi j h1 h2 h3=>by
     cases c:j=m
     .rw[c,<-ek];show hd.mid i (m-1) J sS J
     .show hd.mid i j J J J,λi j h1 h2 h3=>by
     cases c:j=m
     .rw[c];cases c2:i=m-1
      .rw[c2,em];rw[em]at ek;exists ek,ll
      .have:=hd.own i (m-1) J J D
       rw[em];rw[em]at ek;exists this.1.trans ek,J
     .show hd.own i j J h2 D⟩
    exists p',m',g',e1,J,e3,e4,e5
def Zi9(hm:1<=m)(hn:m<=n)(ho:Ord n m p)(hf:Fall key m p):∃k p',TQ (λi j=>decide (key i<key j)) (kas_tail3 m n p)=(k,p')/\1<=k/\k<=n/\Ord n k p'/\Asc key k p':=by
 let hs:=ho.size;unfold kas_tail3;rw[EM];let hr:=ho.rev (i:=0) (XM m) hn
 let⟨k,e1,e2,e3,e4,_⟩:=GY (n-m) m (kas_rev p 0 m) sS hm hr (hf.rev J);rw[e1];exists k,_,Z,J,e3,hr.mono e2,e4
def Zs9(hm:1<=m)(hn:m<n)(ho:Ord n m p)(hf:Fall key m p)(hk:key (p.getD m 0)<key (p.getD (m-1) 0)):∃k p',TQ (λi j=>decide (key i<key j)) (kas_descPart m n p)=(k,p')/\1<=k/\k<=n/\Ord n k p'/\Asc key k p':=by
 unfold kas_descPart;rw[EM];let⟨p',m',g',e1,e2,e3,e4,e5⟩:=vH (n-(m+1)) (m+1) 0 p sS (ho.mono J) (hf.new hm hk);rw[e1];let hs:=e4.size
 change ∃k q,TQ _ (if g'>0 then kas_tail3 m' n (kas_rev p' (m'-(g'+1)) m') else kas_tail3 m' n p')=_/\_;cases hg:g'>0
 .rw[if_pos hg];show Zi9 J e3 (e4.rev (XM _) e3) (e5.turn J)
 .rw[if_neg hg];let rfl:g'=0:=J;show Zi9 J e3 e4 e5.fall
def j4(hn:1<=n)(ho:Ord n 1 p):∃k p',TQ (λi j=>decide (key i<key j)) (kas_count n p)=(k,p')/\1<=k/\k<=n/\Ord n k p'/\Asc key k p':=by
 unfold kas_count;rw[EM];let⟨k,e1,e2,e3,e4,e5⟩:=GY (key:=key) (n-1) 1 p J (XM _) ho λi j h1 h2=>J;rw[e1];let hs:=ho.size
 let hk:=ho.mono e2;cases c:k=n
 .rw[if_pos (by rw[c];show xP n)];exists k,p,Z,e2,e3,hk,e4
 .rw[if_neg λz=>c (QW.mp z)];let Xk:k<n:=J
  let h5:=e5 Xk;cases c1:k>1
  .rw[if_pos c1];change ∃k' p',TQ _ (if decide (key (p.getD 0 0)<key (p.getD (k-1) 0))=true then KasT.ret (k,p) else kas_descPart k n (kas_rev p 0 k))=_/\_
   cases c2:key (p.getD 0 0)<key (p.getD (k-1) 0)
   .rw[if_pos (Yv c2)];exists k,p,Z,e2,e3,hk,e4
   .rw[if_neg λz=>c2 (Yt z)];let a0:=e4 0 (k-1) J J
    let eq:key (p.getD 0 0)=key (p.getD (k-1) 0):=by unfold Ahd at a0;grind
    let hr:=hk.rev (i:=0) (XM k) J;show Zs9 e2 Xk hr (e4.rev J) ?_;rwa[Uc D,Uc D,if_neg J,if_pos J,show 0+k-1-(k-1)=0 by lia,eq]
  .rw[if_neg c1];let rfl:k=1:=J;show Zs9 (XM _) Xk hk (λi j h1 h2=>J) h5
def j0(hk:Asc key k p):∀f l r,r-l<=f->l<=r->r<=k->(∀i,i<l->¬key (p.getD k 0)<key (p.getD i 0))->(∀i,r<=i->i<k->key (p.getD k 0)<key (p.getD i 0))->∃l',TQ (λi j=>decide (key i<key j)) (kas_place p k f l r)=l'/\l'<=k/\(∀i,i<l'->¬key (p.getD k 0)<key (p.getD i 0))/\(∀i,l'<=i->i<k->key (p.getD k 0)<key (p.getD i 0))
 |0,l,r,hf,h1,h2,ha,hb=>⟨l,Z,J,ha,λi hi=>hb i sS⟩
 |f+1,l,r,hf,h1,h2,ha,hb=>by
  let mono:∀i j,i<=j->j<k->key (p.getD i 0)<=key (p.getD j 0):=λi j WJ hj=>by
   cases e:i=j
   .rw[e];show IS _
   .have:=hk i j J hj
    unfold Ahd at this;lia
  unfold kas_place;cases c:l >= r
  .rw[if_pos c];exists l,Z,J,ha,λi hi=>hb i J
  .rw[if_neg c];change ∃l',TQ _ (if decide (key (p.getD k 0)<key (p.getD ((l+r)/2) 0))=true then kas_place p k f l ((l+r)/2) else kas_place p k f ((l+r)/2+1) r)=l'/\_
   cases c2:key (p.getD k 0)<key (p.getD ((l+r)/2) 0)
   .rw[if_pos (Yv c2)];show j0 hk f l ((l+r)/2) sS J J ha λi hi lE=>by
     have:=mono ((l+r)/2) i hi lE
     omega
   .rw[if_neg λz=>c2 (Yt z)];show j0 hk f ((l+r)/2+1) r sS J J (λi hi=>by
     have:=mono i ((l+r)/2) J J
     omega) hb
def GX{k d x:Nat}(hk:k<p.size)(hd:d<=k):(bubble p k d).getD x 0=if x=k-d then p.getD k 0 else if k-d<x/\x<=k then p.getD (x-1) 0 else p.getD x 0:=by rw[YA,getElem?_bubble hk d hd,apply_ite λo:Option Nat=>o.getD 0,apply_ite λo:Option Nat=>o.getD 0,<-YA,<-YA,<-YA]
def AO:∀f k p,k+f=n->Ord n k p->Asc key k p->∃p',TQ (λi j=>decide (key i<key j)) (kas_bin f p k)=p'/\Ord n n p'/\Asc key n p'
 |0,k,p,hf,ho,ha=>by let rfl:k=n:=J;exists p,Z,ho,ha
 |f+1,k,p,hf,ho,ha=>by
  let hs:=ho.size;let ek:=ho.suf k (XM _) J
  unfold kas_bin;rw[EM];let⟨l,e1,e2,e3,e4⟩:=j0 ha k 0 k J J (XM _) (λi hi=>J) λi hi Vf=>sS;rw[e1];show AO f (k+1) (bubble p k<|k-l) J ⟨(bubble_perm _ _ _).trans ho.perm,λi hi hn=>?_⟩ λi j WJ hj=>?_
  .rw[GX J sS,if_neg J,if_neg J];show ho.suf i J hn
  .let low:∀x,x<k->p.getD x 0<k:=λx hx=>ho.lt J hx;rw[GX J sS,GX D D];let ekl:k-(k-l)=l:=sS
   rw[ekl];cases c1:i=l
   .rw[if_pos c1,if_neg J,if_pos J];show .inl (e4 (j-1) sS sS)
   .rw[if_neg c1];cases c2:j=l
    .rw[if_pos c2,if_neg J];let a:=e3 i sS
     let b:=low i J;rw[ek]at a ⊢;unfold Ahd;lia
    .rw[if_neg c2];cases c3:l<i
     .rw[if_pos ⟨c3,J⟩,if_pos ⟨J,J⟩];show ha _ _ sS sS
     .rw[if_neg J];cases c4:l<j
      .rw[if_pos ⟨c4,D⟩];show ha _ _ J sS
      .rw[if_neg J];show ha _ _ WJ J
def Lk(hn:1<=n):∃p,TQ (λi j=>decide (key i<key j)) (kas_sort n)=p/\p.toList.Perm (List.range n)/\p.toList.Pairwise (Ahd key):=by
 let fin:∀p,Ord n n p->Asc key n p->p.toList.Perm (List.range n)/\p.toList.Pairwise (Ahd key):=λp ho ha=>by
  let hs:=ho.size;exists Ur.mp ho.perm,Nx.mpr λi j hi hj WJ=>?_;rw[Yw]at hi hj
  have:=ha i j WJ J
  rwa[YA,YA,YT hi,YT hj]at this
 unfold kas_sort;rw[EM];let⟨k,p,e1,e2,e3,e4,e5⟩:=j4 (key:=key) hn (p:=(List.range n).toArray) ⟨Eb _,λi _ hi=>by simp[Array.getD,hi]⟩;rw[e1];change ∃q,TQ _ (if k<n then kas_bin (n-max k 1) p (max k 1) else .ret p)=q/\_
 cases c:k<n
 .rw[if_pos c,Nat.max_eq_left e2];let⟨q,h1,h2,h3⟩:=AO (n-k) k p sS e4 e5;exists q,h1,fin q h2 h3
 .rw[if_neg c];let rfl:k=n:=J;exists p,Z,fin p e4 e5
end
end My
namespace L2
open PySem PySem.Spec PyProof.Rows
def NX(P:Program)(w:World)(K:Ad)(mg:Af)(base:Heap)(N:List Str)(qual:Str)(scope:Scope)(f:Addr)(cd:Value)(cl:List (Str×Addr))(A:Around)(outer:List Env)(s:Shared)(H:Hp):(Cx) where
 prog:=P
 w:=w
 K:=K
 mg:=mg
 base:=base
 A:=A.deeper (PySem.W.envX qual scope (~~~s) f cd cl)
 N:=N
 s₀:=s
 H₀:=H
 env:=PySem.W.envX qual scope (~~~s) f cd cl
 outer:=outer
 stack:=PySem.W.envX qual scope (~~~s) f cd cl::outer
 ex:=[]
 calm:=true
 fn:=λ_=>false
 pn:=[]
 xe:=λ_ _=>False
structure LamScope(v x:Str)(sc:Scope):Prop where
 kind:sc.kind=.function
 co:sc.isCoroutine=false
 gen:sc.isGenerator=false
 nocell:∀y∈sc.names,y.2≠.cell
 par:sc.names.lookup v=some .local
 free:sc.names.lookup x=some .free
 only:∀y,sc.names.lookup y=some .free->y=x
 ne:v≠x
section
variable{P:Program}{w:World}{K:Ad}{mg:Af}{base:Heap}{qual name v x:Str}{scope:Scope}{f c c':Addr}{cd pm Rh u ux:Value}{A:Around}{outer:List Env}{s:Shared}{H:Hp}{vv vx:V}{params:Arguments}{body:Expr}{k:Nat}{t:TE}{Q:VK}
def vG{c2:Addr}(h:List.lookup y [(x,c)]=some c2):y=x/\c2=c:=by
 unfold List.lookup at h;split at h
 .rename_i e;exists QW.mp e,(Ye h).symm
 .cases h
def AN(S:LamScope v x scope)(hd:A.handled=none)(e0:Env0 P w K mg base A outer s H)(hc:s.heap.IsCell c (some ux))(rx:RelV vx ux)(jZ:H c=none)(rv:RelV vv u){h1:Heap}{tk:Nat}
  (Rg:h1.Ns (~~~s) λy=>[(v,u)].reverse.lookup y)(hk:∀b o,s.heap.get? b=some o->h1.get? b=some o):
  Inv (NX P w K mg base [v,x] qual scope f cd [(x,c)] A outer s H) [] [some vv,some vx] H {s with heap:=h1,toks:=tk}:=by
 let Ik:∀b:Addr,b∉(NX P w K mg base [v,x] qual scope f cd [(x,c)] A outer s H).ex:=λb z=>absurd (show b∈([]:List Addr) from z) B;let hck:h1.IsCell c (some ux):=by let⟨o,e,d⟩:=hc;exists o,hk _ _ e,d
 let lk:List.lookup x [(x,c)]=some c:=by unfold List.lookup;rw[xP]
 show⟨⟨e0.mod,S.kind,Z,Z,XM _,λy z c2 h1 h2=>?_,λy hy=>?_,λy c2 z _=>(nomatch z),λ_=>hd,Around.frames_deeper e0.frames,.inr ⟨Z,Z⟩,λb z=>absurd z<|Ik b,e0.bs,e0.bsz,λb _ _=>Ik b,λb z=>absurd z<|Ik b,e0.funs,e0.frf⟩,
  rfl,e0.bare,Un.kept hk,⟨_,Rg,λi y v' h1 h2 h3=>?_⟩,λy c2 h=>?_,e0.hok.fresh<|XM _,λy c2 h=>?_,λp hp=>absurd (show p∈([]:List (Addr×Obj)) from hp) B,e0.hok.kept hk,Z⟩
 .rw[(vG h1).1,(vG h2).1]
 .let hy:scope.names.lookup y=some .cell\/scope.names.lookup y=some .free:=hy;rcases hy with hy|hy
  .show absurd Z (S.nocell _<|Sb hy)
  .rw[S.only y hy];exists c,lk
 .match i,h1,h2 with
  |0,h1,h2=>
   let rfl:v=y:=Ye h1;let rfl:vv=v':=Ye (Ye h2);exists u,rv,.inl ⟨S.par,?_⟩;change List.lookup v [(v,u)]=some u
   unfold List.lookup;rw[xP]
  |1,h1,h2=>
   let rfl:x=y:=Ye h1;let rfl:vx=v':=Ye (Ye h2);exists ux,rx,.inr ⟨.inr S.free,c,lk,hck⟩
  |i+2,h1,h2=>cases h1
 .rw[(vG h).2];exists _,hck
 .rw[(vG h).2];show jZ
def AM(S:LamScope v x scope)(hr:Room (k+1) A)(e0:Env0 P w K mg base A outer s H)(ho:s.heap.get? f=some (PySem.W.kla_obj name qual params body scope [(x,c)] pm c' Rh))(Sr:s.heap.CodeRec ↑c' qual)
  (SA:bindArgs (PySem.W.kla_fn name qual params body scope [(x,c)] pm ↑c' Rh) ⟨[u],[]⟩=pure [(v,u)])(hc:s.heap.IsCell c (some ux))(rx:RelV vx ux)(jZ:H c=none)(rv:RelV vv u)
  (hb:PE (NX P w K mg base [v,x] qual scope f ↑c' [(x,c)] A outer s H) body t)(hq:t [some vv,some vx] H Q):
  codeAny (model P w) A (.call ↑f ⟨[u],[]⟩) (λr s'=>∃u',r=.ok (.ret u')/\CE outer P w H s Q u' s') s:=by
 let lim:s.heap.NoLimit:=e0.mod.nolimit.keeps λb o e=>(e0.bs b o e).1;show PySem.W.kla_callFunE hr.depth ho Z S.co S.gen Z Sr ?_;rw[SA];show Yl (wpAny_newFunctionEnv S.nocell (λy hy=>?_) (λh1 Rg hsb=>⟨lim.fresh _ hsb,?_⟩) S.kind)
 .rw[XG.mp hy];show S.par
 let hk:∀b o,s.heap.get? b=some o->h1.get? b=some o:=λb o e=>hsb.extBut b o (YD<|Yq e) (Xf _ e);let I:Inv (NX P w K mg base [v,x] qual scope f ↑c' [(x,c)] A outer s H) [] [some vv,some vx] H {s with heap:=h1,toks:=s.toks+[(v,u)].length}:=AN S hr.hd e0 hc rx jZ rv Rg hk
 show PySem.W.kla_codeExpr (Su (hb [] _ _ H _ I hq) (λu' s' h=>?_) λe s' h=>False.elim h);let⟨y,H',AP,r,q⟩:=h;exists u',Z,y,H',AP.os,AP.bare,AP.base,AP.hok,r,q
end
end L2
namespace My
open PySem PySem.W PyProof.Rows
def Asks{α:Type}(n:Nat)(R:α->Prop):(KasT α->Prop)
 | .ret a=>R a
 | .ask i j k=>i<n/\j<n/\∀b,Asks n R (k b)
def Asks.bind{α β:Type}{R:α->Prop}{S:β->Prop}{f:α->KasT β}:∀{t:KasT α},Asks n R t->(∀a,R a->Asks n S (f a))->Asks n S (t.bind f)
 | .ret a,h,hf=>hf a h
 | .ask _ _ _,h,hf=>⟨h.1,h.2.1,λb=>Asks.bind (h.2.2 b) hf⟩
def goT_wp'{α:Type}{R:α->Prop}{c:Nat->Nat->Bool}{cmp:Nat->Nat->(Bool->Shared->Prop)->Shared->Prop}{AP:Shared->Prop}(h:∀i j C s,i<n->j<n->AP s->(∀s',AP s'->C (c i j) s')->cmp i j C s){Q:α->Shared->Prop}:∀t s,Asks n R t->AP s->(∀s',AP s'->Q (TQ c t) s')->t.kasWp cmp Q s
 | .ret _,s,_,hs,q=>q s hs
 | .ask i j k,s,ha,hs,q=>h i j _ s ha.1 ha.2.1 hs λs' Wd=>goT_wp' h (k<|c i j) s' (ha.2.2 _) Wd q
section
variable{n:Nat}
def Bd(n:Nat)(p:Array Nat):(Prop):=p.Perm (List.range n).toArray
def Bd.lt(h:Bd n p)(hn:1<=n)(i:Nat):p.getD i 0<n:=by
 cases hi:i<p.size
 .let e1:=Ll (p:=p) hi;rw[<-YH]at e1;show YS.mp ((Ur.mp h).mem_iff.mp (Xj e1))
 .rw[YA,xZ J];show hn
def Bd.rev(h:Bd n p)(i j:Nat):Bd n (kas_rev p i j):=(mirror_perm _ _ _ _).trans h
def jY(hn:1<=n)(hp:Bd n p):∀f m:Nat,Asks n (λ_=>True) (kas_asc p f m)
 |0,m=>trivial
 |f+1,m=>⟨hp.lt hn _,hp.lt hn _,λb=>by
  cases b with
  |true=>show trivial
  |false=>show jY hn hp f<|m+1⟩
def vE(hn:1<=n):∀f p m q,Bd n p->Asks n (λr=>Bd n r.1) (kas_desc f p m q)
 |0,p,m,q,hp=>hp
 |f+1,p,m,q,hp=>⟨hp.lt hn _,hp.lt hn _,λb=>by
  cases b with
  |true=>
   change Asks n _ (if q>0 then kas_desc f (kas_rev p (m-(q+1)) m) (m+1) 0 else kas_desc f p (m+1) 0);split
   .show vE hn f _ _ _ (hp.rev _ _)
   .show vE hn f _ _ _ hp
  |false=>
   exists hp.lt hn _,hp.lt hn _,λd=>?_;cases d with
   |true=>show hp
   |false=>show vE hn f _ _ _ hp⟩
def ZX4(hn:1<=n)(hp:Bd n p)(m r:Nat):Asks n (λz=>Bd n z.2) (kas_tail3 m r p):=
 (jY hn (hp.rev _ _) _ _).bind λ_ _=>hp.rev _ _
def AL(hn:1<=n)(hp:Bd n p)(m r:Nat):Asks n (λz=>Bd n z.2) (kas_descPart m r p):=
 (vE hn _ p _ _ hp).bind λz hz=>by
  split
  .show ZX4 hn (hz.rev _ _) _ _
  .show ZX4 hn hz _ _
def ZU7(hn:1<=n)(hp:Bd n p)(r:Nat):Asks n (λz=>Bd n z.2) (kas_count r p):=
 (jY hn hp _ _).bind λz _=>by
  split
  .show hp
  .split
   .exists hp.lt hn _,hp.lt hn _,λb=>?_;cases b with
    |true=>show hp
    |false=>show AL hn (hp.rev _ _) _ _
   .show AL hn hp _ _
def jX(hn:1<=n)(hp:Bd n p)(k:Nat):∀f l r:Nat,Asks n (λ_=>True) (kas_place p k f l r)
 |0,l,r=>trivial
 |f+1,l,r=>by
  unfold kas_place;split
  .show trivial
  .exists hp.lt hn _,hp.lt hn _,λb=>?_;cases b with
   |true=>show jX hn hp k f _ _
   |false=>show jX hn hp k f _ _
def AK(hn:1<=n):∀f p k,Bd n p->Asks n (λz=>Bd n z) (kas_bin f p k)
 |0,p,k,hp=>hp
 |f+1,p,k,hp=>(jX hn hp k _ _ _).bind λl _=>AK hn f _ _ ((bubble_perm _ _ _).trans hp)
def Qt(hn:1<=n):Asks n (λz=>Bd n z) (kas_sort n):=
 (ZU7 hn (p:=(List.range n).toArray) (Eb _) n).bind λz hz=>by
  split
  .show AK hn _ _ _ hz
  .show hz
end
end My
namespace L2
open PySem PySem.Spec PyProof.Rows PySem.W
def RF(key:Int->Int)(ns ms:Ac):(Prop):=∃p:List Nat,p.Perm (List.range ns.length)/\p.Pairwise (My.Ahd λi=>key<|ns.getD i 0)/\ms=p.map λi=>ns.getD i 0
section
variable{X:Cx}{pins:List (Addr×Obj)}{σ:St}{H:Hp}{s:Shared}{b:Addr}{o:Obj}
def Inv.pin1(I:Inv X pins σ H s)(F:FpOk X pins H b)(e:s.heap.get? b=some o)(hd:∀v,o.data≠.cell v):Inv X (pins++[(b,o)]) σ H s:=I.pins_of λp hp=>by
 rcases XA.mp hp with hp|hp
 .show I.pin p (Yj _ hp)
 .rw[XG.mp hp];exists e,F.1,F.2.1,F.2.2.1,hd
def FpOk.more{pl:List (Addr×Obj)}(F:FpOk X pins H b)(hn:∀p∈pl,p.1≠b):FpOk X (pins++pl) H b:=⟨F.1,F.2.1,F.2.2.1,F.2.2.2.1,F.2.2.2.2.1,λp hp=>by
 rcases XA.mp hp with hp|hp
 .show F.2.2.2.2.2 p (Yg _ hp)
 .rcases XA.mp hp with hp|hp
  .show F.2.2.2.2.2 p (Yj _ hp)
  .show hn p hp⟩
def Inv.changed{h':Heap}{t':Nat}(I:Inv X pins σ H s)(F:FpOk X pins H b)(k:∀c o,c≠b->s.heap.get? c=some o->h'.get? c=some o):Inv X pins σ H {s with heap:=h',toks:=t'}:=
 I.turned k F.1 F.2.1 F.2.2.2.1 F.2.2.2.2.1 F.2.2.2.2.2
def Inv.adopt(I:Inv X pins σ H s)(hex:X.ex=[])(F:FpOk X pins H b)(new:ObjOk X.prog X.w (upd H b u) s.heap b u):Inv X pins σ (upd H b u) s:=by
 let f4:(~~~X.s₀)<=b:=F.2.2.2.1.resolve_left (by rw[hex];simp);let hn:=F.1
 exists I.ok,I.os,I.bare,⟨I.base.keep,I.base.slot,λc o e n hc=>?_,I.base.there,λc xs q=>?_,λc o w q=>?_,λc ps q=>?_⟩,I.loc,I.cell,?_,λx c e=>?_,λp hp=>?_,λc w e=>?_,I.len
 .rw[XJ (YD<|YC (Yq e) f4)];show I.base.free c o e n hc
 .have:=I.base.tups c xs q
  rwa[XJ (Za this hn)]
 .have:=I.base.frzs c o w q
  rwa[XJ (Za this hn)]
 .let⟨m,this⟩:=I.base.tbls c ps q;exists m,by rwa[XJ (Za this hn)]
 .rw[XJ (Xa F.2.1)];show I.free
 .rw[XJ (F.2.2.2.2.1 x c e)];show I.freeC x c e
 .have:=I.pin p hp
  exists this.1,by rw[XJ (F.2.2.2.2.2 p hp)];show this.2.1,this.2.2
 .cases hb:c=b
  .subst hb;rw[XR]at e;cases e;show new
  .rw[XJ hb]at e;show(I.hok c w e).stay (λ_ _ _ q=>q) (λd q=>by rwa[XJ (Za q hn)]) λd xs q=>by rwa[XJ (Za q hn)]
end
section
variable{X:Cx}{pins:List (Addr×Obj)}{σ:St}{H:Hp}{s:Shared}{a kS:Addr}{A:Around}{E:Ae}{P:PySem.Fin->Shared->Prop}{kA:Array Value}{e e1:Nat}{ns:Ac}{vs:Ag}
def Zo7{st:SortSt}{out:Ag}(I:Inv X (pins++[(a,seqObj "list" #[] e1),(kS,seqObj "list" kA e)]) σ H s)(Fa:FpOk X pins H a)(Fk:FpOk X pins H kS)(Ot:a≠kS)(hz:kA.size<64)(LZ:failedOf st=none)
  (GW:(arrOf st).map (·.2)=out.toArray)(hlen:out.length<64)(h:∀s' m,Inv X pins σ H s'->s'.heap.get? a=some (seqObj "list" out.toArray m)->P (.done<|.ret .none) s'):
  wpAny (model X.prog X.w) A (ksk_tail a false e1 ↑kS st) P E s:=by
 let LO:sizeLine=16777216:=TM;let pa:=(I.pin (a,seqObj "list" #[] e1) B).1
 let pk:=(I.pin (kS,seqObj "list" kA e) B).1;let I0:Inv X pins σ H s:=I.unpinned
 let jW:(s.heap.update kS<|Obj.mapSeq λ_=>(#[]:Array Value)).get? a=some (seqObj "list" #[] e1):=(VS _ _<|Xa Ot).trans pa;obtain⟨m,hm⟩:∃m,((s.heap.update kS<|Obj.mapSeq λ_=>(#[]:Array Value)).update a (Obj.mapSeq λ_=>out.toArray)).get? a=some (seqObj "list" out.toArray m):=⟨_,Po jW λ_=>out.toArray⟩;unfold ksk_tail;dsimp only;rw[GW];show XW (Nk pk Z ?_ J<|Yk _);show XW (Fz ?_);show XW (seqEpoch_at jW Z ?_);show XW (Nk jW Z ?_ (Yk _)<|by simp;lia);rw[LZ];simp only[t5,Rw,Ss];show Yl (h _ m ?_ hm);let I1:Inv X pins σ H {s with heap:=s.heap.update kS<|Obj.mapSeq λ_=>(#[]:Array Value),toks:=s.toks}:=I0.changed Fk λc o hc q=>(VS _ _<|Xa hc).trans q
 show I1.changed (t':=s.toks) Fa λc o hc q=>(VS _ _<|Xa hc).trans q
def ZG9{vs:Ag}{ns:Ac}(h0:IntsAre vs ns):∀i,i<ns.length->∃t,vs[i]?=some (.int (ns.getD i 0) t):=by
 induction h0 with
 |nil=>show λi h=>absurd h (Sv _)
 |cons n t r ih=>
  intro i h;cases i with
  |zero=>exists t,Z
  |succ i=>show ih i (by rw[YI]at h;lia)
end
def EL(c:Addr)(qual:Str):(HO):=.ext λh=>h.CodeRec ↑c qual
def TabH(H:Hp)(Pt:Addr)(pos:Pos)(qual:Str):(Prop):=∃ps:Array Value,H Pt=some (.tbl ps)/\TriplesOk ps.toList/\(codeAmong pos ps.toList=none\/∃c,codeAmong pos ps.toList=some ↑c/\H c=some (EL c qual))
def SameX(Pt:Addr)(H H':Hp):(Prop):=∀b o,b≠Pt->H b=some o->H' b=some o
def ZZ2{c:Addr}(h1 h2:Heap)(r:h1.CodeRec ↑c qual)(k:∀o,h1.get? c=some o->h2.get? c=some o):h2.CodeRec ↑c qual:=by let⟨c2,o,vs,t,e,g,r⟩:=r;cases e;exists c,o,vs,t,Z,k _ g,r
section
variable{X:Cx}{pins:List (Addr×Obj)}{σ:St}{H:Hp}{s:Shared}{c Pt cc:Addr}{x:Str}{params:Arguments}{body:Expr}{scope:Scope}{pos:Pos}{E:Ae}{Q:Ae}
def Inv.builtinsAt(I:Inv X pins σ H s)(hB:X.base.BuiltinsAt X.mg Pt):s.heap.BuiltinsAt X.mg Pt:=by let⟨bm,o,h1,h2,h3,h4,h5,h6⟩:=hB;exists bm,o,h1,h2,h3,h4,I.bk _ _ h5,h6
def AJ(I:Inv X pins σ H s)(TN:X.env.code=.ref c)(hC:codeHdIn X.K c Pt=true)(hB:X.base.BuiltinsAt X.mg Pt)(hT:TabH H Pt pos (X.env.qual++Str.ofString "<lambda>"))(NZ:closureFor scope X.env=pure [(x,cc)])(GV:defaultsOf params X.env=([],[]))(AI:mainGlobals≠Pt)
  (h:∀f c' pm Rh s' H',SameX Pt H H'->TabH H' Pt pos (X.env.qual++Str.ofString "<lambda>")->FpOk X pins H' f->Inv X pins σ H' s'->s'.heap.get? f=some (kla_obj (Str.ofString "<lambda>") (X.env.qual++Str.ofString "<lambda>") params body scope [(x,cc)] pm c' Rh)->H' c'=some (EL c'<|X.env.qual++Str.ofString "<lambda>")->Q ↑f s'):
  wpAny (model X.prog X.w) X.A (eval (.Lambda params body scope pos) X.env) Q E s:=by
 let⟨ps,hP,Jx,Vz⟩:=hT;let Uw:s.heap.get? Pt=some (tabObj ps):=I.hok Pt _ hP
 let Rg:s.heap.Ns mainGlobals X.mg:=I.mod.glob.keeps I.bk;let hHd:=codeHd_of_K I.kIn hC
 show kla_eval GV ?_;rcases Vz with hnf|⟨c',hf,WQ⟩
 .show kla_makeFunction NZ I.ok.glob Rg TN hHd Uw Jx hnf AI (I.builtinsAt hB) λc' Rh h' tk hx Tu Xk Lj htb=>?_;let hPl:Pt<(~~~s):=Yq Uw
  let vD:H c'=none:=I.hok.fresh Tu;let hcP:c'≠Pt:=Sd (YC hPl Tu)
  let keep:∀b o,b≠Pt->s.heap.get? b=some o->(h'.push<|kla_obj (Str.ofString "<lambda>") (X.env.qual++Str.ofString "<lambda>") params body scope [(x,cc)] ((X.mg "__name__").getD .none) c' Rh).get? b=some o:=λb o hb e=>Xf _ (hx b o hb e);let sx:SameX Pt H (upd (upd H Pt<|.tbl<|ps++#[rawInt pos.line,rawInt pos.col,.ref c']) c'<|EL c'<|X.env.qual++Str.ofString "<lambda>"):=λb o hb e=>by rwa[XJ (Za e vD),XJ hb]
  let tb:TabH (upd (upd H Pt<|.tbl<|ps++#[rawInt pos.line,rawInt pos.col,.ref c']) c'<|EL c'<|X.env.qual++Str.ofString "<lambda>") Pt pos (X.env.qual++Str.ofString "<lambda>"):=by let et:(ps++#[rawInt pos.line,rawInt pos.col,Value.ref c']).toList=ps.toList++[rawInt pos.line,rawInt pos.col,.ref c']:=B;exists ps++#[rawInt pos.line,rawInt pos.col,.ref c'],by rw[XJ (Xa hcP),XR],by rw[et];show TriplesOk_snoc _ _ _ _ Jx,.inr ⟨c',by rw[et];show codeAmong_snoc _ Jx hnf,XR⟩
  let GU:∀b,H b=none->b≠Pt:=λb n z=>by rw[z,hP]at n;cases n
  show h h'.objs.size c' _ Rh _ _ sx tb ?_ (I.un ⟨λb o e n _ _=>keep b o (GU b n) e,λb o e n _ _=>⟨o.slots,keep b o (GU b n) e⟩,λb o e n _=>?_,λb o e _=>?_,λb xs e=>?_,λb o u e=>?_,λb qs e=>?_⟩ λb u e=>?_) (Yo _ Z) XR
  .let jV:(~~~s)<=h'.objs.size:=J;show I.fpOk jV ?_;rw[XJ (Sd Xk),XJ (Sd<|YC hPl jV)];show I.hok.fresh jV
  .rw[XJ (YD<|YC (Yq e) Tu),XJ (GU b n)];show n
  .cases hb:b=Pt
   .rw[hb];exists _,Xf _ htb
   .exists o,keep b o hb e
  .show sx b _ (λz=>by rw[z,hP]at e;cases e) e
  .show sx b _ (λz=>by rw[z,hP]at e;cases e) e
  .cases hb:b=Pt
   .subst hb;rw[hP]at e;let rfl:ps=qs:=by cases e;rfl
    exists #[rawInt pos.line,rawInt pos.col,.ref c'],by rw[XJ (Xa hcP),XR]
   .exists #[],by rw[sx b _ hb e];simp
  .cases hb:b=c'
   .subst hb;rw[XR]at e;cases e;exists ZZ2 _ _ Lj λo g=>Xf _ g,?_,ZZ2;let⟨c2,o,_,_,e2,g,_⟩:=Lj;cases e2;exists o,Xf _ g
   .rw[XJ hb]at e;cases GS:b=Pt
    .subst GS;rw[XR]at e;cases e;show Xf _ htb
    .rw[XJ GS]at e;show(I.hok b u e).stay (λd o hd g=>keep d o (λz=>?_) g) (λd g=>sx d _ (λz=>by rw[z,hP]at g;cases g) g) λd xs g=>sx d _ (λz=>by rw[z,hP]at g;cases g) g;rcases hd with hd|hd
     .show GS (hd.symm.trans z)
     .rw[z,hP]at hd;cases hd
 .show kla_makeFunctionHit NZ I.ok.glob Rg TN hHd Uw Jx hf (I.builtinsAt hB) λRh h' tk hk hsz=>?_;show h h'.objs.size c' _ Rh _ H (λ_ _ _ e=>e) ⟨ps,hP,Jx,.inr ⟨c',hf,WQ⟩⟩ (I.fpOk hsz<|I.hok.fresh hsz) (I.kept λb o e=>Xf _<|hk b o e) (Yo _ Z) WQ
end
section
variable{Ub:Pos}{Pt:Addr}
def SqT.samex{K:Ad}{H H2:Hp}{a:Addr}{xs:List V}{qual:Str}(h:SqT K H a xs)(t:TabH H Pt Ub qual)(sx:SameX Pt H H2):SqT K H2 a xs:=by
 let⟨ps,hP,_⟩:=t;rcases h with (h|⟨o,h⟩)|h
 .show .inl (.inl<|sx _ _ (λz=>by rw[z,hP]at h;cases h) h)
 .show .inl (.inr ⟨o,sx _ _ (λz=>by rw[z,hP]at h;cases h) h⟩)
 .show .inr h
end
def GR(Pt:Addr)(H:Hp):(Prop):=H Pt=some (.tbl #[])/\∀b,b=Pt\/H b=none\/∃o xs,H b=some (.frz o<|.lst xs)
def ZF8{P:Program}{w:World}{K:Ad}{mg mb:Af}{CX:Qa}{k:Nat}{fa a Pt c:Addr}{fd:FuncData}{x:Str}{sp:Sp}{s₁:Shared}{vs:Ag}{ns:Ac}
  (KX:K.In s₁.heap)(Rg:s₁.heap.Ns mainGlobals mg)(hb:s₁.heap.Ns builtinsNs mb)(nc:∀x:Str,x≠"__name__"->mb x=bootBuiltins x)(jU:s₁.heap.NoLimit)(hg:s₁.gens=#[])
  (hT:s₁.heap.get? Pt=some (tabObj #[]))(hC:codeHdIn K c Pt=true)(jT:K.lookup Pt=none)(hbm:∃bm ob,mg (Str.ofString "__builtins__")=some ↑bm/\bm≠builtinsNs/\s₁.heap.get? bm=some ob/\ob.cls=.type "module"/\ob.dict=some builtinsNs/\ob.data=.plain)
  (ha:s₁.heap.get? a=some {cls:=.type "list",data:=.seq vs.toArray})(hi:IntsAre vs ns)(hl:ns.length<=sizeLine)(hr:Room k callerA)
  (F:∀base:Heap,K.In base->base.Ns mainGlobals mg->base.BuiltinsAt mg Pt->FnOk P w K mg base CX k fa fd [x] sp)(SA:∀s u,BindsTo s fd ⟨[u],[]⟩ [(x,u)])
  (Rr:∀H:Hp,GR Pt H->SqL K H a (ns.map V.int)->sp [.ref a] H (λv _=>v=.bl true) λ_ _ _=>False)
  (jS:∀H e s',CX [] H s₁ (λ_ _ _=>False) e s'->False):
  codeAny (model P w) callerA (.call ↑fa ⟨[.ref a],[]⟩) (λr s'=>r=.ok (.ret<|.bool true)/\OldK s₁.heap s'.heap/\s'.os=s₁.os/\AllBare s'.gens) s₁:=by
 let rv:=Za8 hi;let jR:=hi.length
 let haP:a≠Pt:=λz=>by rw[z,hT]at ha;cases ha
 let core:∀H:Hp,GR Pt H->SqL K H a (ns.map V.int)->HOk P w H s₁.heap->(∀b,H b≠none->b=a\/b=Pt)->(H a≠none->K.lookup a=none)->
   codeAny (model P w) callerA (.call ↑fa ⟨[.ref a],[]⟩) (λr s'=>r=.ok (.ret<|.bool true)/\OldK s₁.heap s'.heap/\s'.os=s₁.os/\AllBare s'.gens) s₁:=by
  intro H hO hS hok hA hK;let base_of:∀{b:Addr}{o:Obj},s₁.heap.get? b=some o->H b=none->(Up s₁.heap H).get? b=some o:=λe n=>Zah e n
  let free:∀{b:Addr}{o:Obj},s₁.heap.get? b=some o->(∀XX n,o.data≠.seq XX n)->(∀vs,o.data≠.fields vs)->H b=none:=λ{b o} e d1 d2=>by
   cases q:H b with
   |none=>rfl
   |some u=>
    rcases hA b (by rw[q];simp) with e'|e'
    .subst e';rw[ha]at e;cases e;show absurd Z (d1 _ _)
    .subst e';rw[hT]at e;cases e;show absurd Z (d2 _)
  let vC:∀{b:Addr}{m:Af},s₁.heap.Ns b m->(Up s₁.heap H).Ns b m:=λ{b m} ⟨o,es,ep,e,d,r⟩=>⟨o,es,ep,base_of e (free e (λ_ _ z=>by rw[d]at z;cases z) λ_ z=>by rw[d]at z;cases z),d,r⟩;let hKb:K.In (Up s₁.heap H):=λb o e=>base_of (KX b o e) (by
   cases q:H b with
   |none=>rfl
   |some u=>
    rcases hA b (by rw[q];simp) with e'|e'
    .subst e';rw[hK (by rw[q];simp)]at e;cases e
    .subst e';rw[jT]at e;cases e)
  let hM:Mod K mg (Up s₁.heap H):=⟨hKb,vC Rg,⟨mb,vC hb,nc⟩,by let⟨mc,h1,h2⟩:=jU;exists mc,vC h1,h2⟩;let hB:(Up s₁.heap H).BuiltinsAt mg Pt:=by
   let⟨bm,ob,b1,b2,b3,b4,b5,b6⟩:=hbm;exists bm,ob,b1,b2,λz=>?_,λz=>?_,base_of b3 (free b3 (λ_ _ z=>by rw[b6]at z;cases z) λ_ z=>by rw[b6]at z;cases z),b4,b5,b6
   .let⟨o,es,ep,e,d,_⟩:=Rg;rw[z,e]at b3;cases b3;rw[d]at b6;cases b6
   .rw[z,hT]at b3;cases b3;cases b4
  let e0:Env0 P w K mg (Up s₁.heap H) callerA [] s₁ H:=⟨Z,hM,λb o e=>Zai e,xA<|ZP8 _ _,trivial,λb hb=>absurd (show b∈([]:List Addr) from hb) B,hok,.of_eq hg⟩;show SR ((F _ hKb (vC Rg) hB).run callerA [] s₁ H ⟨[.ref a],[]⟩ [.ref a] [.ref a] _ _ hr e0 (SA s₁<|.ref a) (.cons Z .nil) (Rr H hO hS)) λr s' h=>?_;cases r with
  |error e=>show(jS H e s' h).elim
  |ok fl=>
   cases fl with
   |next=>show False.elim h
   |brk=>show False.elim h
   |cont=>show False.elim h
   |ret u=>
    let⟨v,H',os,bare,un,AH,r',q⟩:=h;let q':v=.bl true:=q
    subst q';let rfl:u=Value.bool true:=r';let⟨more,eP⟩:=un.tbls Pt #[] hO.1;let hP':s'.heap.get? Pt=some {cls:=.none,data:=.fields (#[]++more)}:=AH Pt _ eP
    let kept:∀b o,b≠Pt->s₁.heap.get? b=some o->s'.heap.get? b=some o:=λb o Vx e=>by
     cases q:H b with
     |none=>show un.keep b o e q (by intro z;show absurd (show b∈([]:List Addr) from z) B) B
     |some u=>
      rcases hO.2 b with z|z|⟨ob,xs,z⟩
      .show absurd z Vx
      .rw[q]at z;cases z
      .let z2:=un.frzs b ob _ z;let⟨e1,_⟩:=hok b _ z;let⟨e2,_⟩:=AH b _ z2;rw[e]at e1;cases e1;show e2
    exists Z,⟨λb o e=>?_,λb o e=>?_⟩,os,bare
    .cases Vx:b=Pt
     .subst Vx;rw[hT]at e;let rfl:=Ye e;let⟨oc,vsc,_,_,_,_,_,_,_,c1,c2,c3,c4,_⟩:=codeHd_of_K KX hC;show .inr (.inl ⟨⟨c,oc,vsc,c1,c2,c3,c4⟩,Z,#[],more,Z,hP'⟩)
     .show .inl (kept b o Vx e)
    .cases Vx:b=Pt
     .rw[Vx];exists _,hP'
     .exists o,kept b o Vx e
 cases hk:K.lookup a with
 |some o=>
  let e:=KX a o hk;rw[ha]at e;cases e;show core (λb=>if b=Pt then some (.tbl #[]) else none) ⟨if_pos Z,λb=>?_⟩ (.inr ⟨_,vs.toArray,_,hk,Z,Z,Z,by rw[Yb,jR];show hl,by simpa using rv⟩) (λb u z=>?_) (λb z=>?_) λz=>absurd (if_neg haP) z
  .cases Vx:b=Pt
   .show .inl Vx
   .show .inr (.inl<|if_neg Vx)
  .cases Vx:b=Pt
   .let z':=(if_pos Vx).symm.trans z;cases z';subst Vx;show hT
   .let z':=(if_neg Vx).symm.trans z;cases z'
  .cases Vx:b=Pt
   .show .inr Vx
   .show absurd (if_neg Vx) z
 |none=>
  show core (λb=>if b=Pt then some (.tbl #[]) else if b=a then some (.frz {cls:=.type "list",data:=.seq vs.toArray} (.lst<|ns.map V.int)) else none) ⟨if_pos Z,λb=>?_⟩ (.inl<|.inr ⟨{cls:=.type "list",data:=.seq vs.toArray},(if_neg haP).trans (if_pos Z)⟩) (λb u z=>?_) (λb z=>?_) λ_=>hk
  .cases Vx:b=Pt
   .show .inl Vx
   .cases hb:b=a
    .show .inr (.inr ⟨_,_,(if_neg Vx).trans (if_pos hb)⟩)
    .show .inr (.inl<|(if_neg Vx).trans (if_neg hb))
  .cases Vx:b=Pt
   .let z':=(if_pos Vx).symm.trans z;cases z';subst Vx;show hT
   .cases hb:b=a
    .let z':=((if_neg Vx).trans (if_pos hb)).symm.trans z;cases z';subst hb;exists ha,by rw[Yc];show hl,vs,_,rv,ha
    .let z':=((if_neg Vx).trans (if_neg hb)).symm.trans z;cases z'
  .cases Vx:b=Pt
   .show .inr Vx
   .cases hb:b=a
    .show .inl hb
    .show absurd ((if_neg Vx).trans (if_neg hb)) z
def NW{l:PySem.W.OpenLaw}{n k:Nat}{q:Program}{loose:List Str}{XP:Af->Heap->Prop}{YP:World->Heap->Prop}{d:DefRec}{K:Params->Ad}{CX:Qa}{sp:Ad->Sp}{x:Str}{c Pt:Addr}
  (hn:l.most=some n)(OZ:n<=sizeLine)(qt:d.params.defaults=[])(hr:Room k callerA)
  (hY:∀(w:World)(h:Heap),YP w h->(K w.params).In h/\h.get? Pt=some (tabObj #[]))(hC:∀w:World,codeHdIn (K w.params) c Pt=true)(jT:∀w:World,(K w.params).lookup Pt=none)
  (F:∀(w:World)(mg:Af)(fa:Addr)(h:Heap),(K w.params).In h->h.Ns mainGlobals mg->mg d.name=some ↑fa->
   ∃fd:FuncData,(∀(s:Shared)(u:Value),BindsTo s fd ⟨[u],[]⟩ [(x,u)])/\
    ∀base:Heap,(K w.params).In base->base.Ns mainGlobals mg->base.BuiltinsAt mg Pt->FnOk l.prog w (K w.params) mg base CX k fa fd [x] (sp<|K w.params))
  (Rr:∀(w:World)(H:Hp)(a:Addr)(ns:Ac),ns.length<=n->GR Pt H->SqL (K w.params) H a (ns.map V.int)->sp (K w.params) [.ref a] H (λv _=>v=.bl true) λ_ _ _=>False)
  (jS:∀(H:Hp)(s:Shared)(e:Value)(s':Shared),CX [] H s (λ_ _ _=>False) e s'->False):
  PySem.W.WalkO q loose XP YP l.row.toRowW d [] (λf vs=>PySem.call f vs):=by show Att.SK hn qt λw s₀ s₁ mg mb fa o pm cd doc a vs ns G Y ho hd Sr CQ Ib hints hlen hg=>?_;let⟨KX,hT⟩:=hY w _ Y;let⟨fd,hb,hF⟩:=F w mg fa _ KX G.T.g CQ;show ZF8 KX G.T.g G.T.b G.T.builtins G.T.nolimit hg hT (hC w) (jT w) G.T.bmain Ib hints (Yn hlen OZ) hr hF hb (λH hO hS=>Rr w H a ns hlen hO hS) λH e s'=>jS H s₁ e s'
def RE(K:Ad)(mg:Af)(base:Heap)(fd:FuncData)(Pt:Addr):(Prop):=∃c,fd.code=.ref c/\codeHdIn K c Pt=true/\base.BuiltinsAt mg Pt/\mainGlobals≠Pt
def LamScope.of(h1:sc.kind=.function)(h2:sc.isCoroutine=false)(h3:sc.isGenerator=false)(h4:sc.names=[(v,.local),(x,.free)]\/sc.names=[(x,.free),(v,.local)])(hn:v≠x):LamScope v x sc:=by
 let b1:(v == x)=false:=tU hn;let b2:(x == v)=false:=tU (Xa hn)
 exists h1,h2,h3,λy hy=>?_,?_,?_,λy hy=>?_,hn
 .let l1:NameKind.local≠NameKind.cell:=sT;let l2:NameKind.free≠NameKind.cell:=sT
  rcases h4 with e|e<;>rw[e]at hy<;>rcases Yi.mp hy with rfl|hy
  .show l1
  .rw[XG.mp hy];show l2
  .show l2
  .rw[XG.mp hy];show l1
 .rcases h4 with e|e<;>rw[e]<;>simp[List.lookup,b1,b2]
 .rcases h4 with e|e<;>rw[e]<;>simp[List.lookup,b1,b2]
 .rcases h4 with e|e<;>rw[e]at hy<;>simp only[List.lookup]at hy
  .split at hy
   .cases hy
   .split at hy
    .rename_i q;show QW.mp q
    .cases hy
  .split at hy
   .rename_i q;show QW.mp q
   .split at hy
    .cases hy
    .cases hy
section
variable{P:Program}{w:World}{K:Ad}{mg:Af}{base:Heap}
def Fun.okL{x qual:Str}{st:Stmt}{f c:Addr}{fd:FuncData}{N ps:List Str}{k:Nat}{sp:Sp}(F:Fun K x qual st f fd)(hc:fd.code=.ref c)(S:FnScope N ps (Xe st))(len:∀vs H Q E,sp vs H Q E->vs.length=ps.length)
  (VC:∀A outer s H vs Q E,Room k (A.deeper<|envOfC qual (Xe st) (~~~s) f<|.ref c)->sp vs H Q E->
   ∃t,PSs (TB Xd P w K mg base N qual (Xe st) f ↑c A outer s H E).nox (QL st) t/\t {nx:=λ_ H'=>Q .non H',rt:=Q} (start N vs) H):FnOk P w K mg base Xd (k+1) f fd ps sp:=by let⟨oc,od,kV,doc,pm,an,Xu,ct,Tf,rfl,lk,Sr⟩:=F.ex;let rfl:Xu=.ref c:=hc;show Kp lk Sr S len λA outer s H vs Q E hr Rr=>?_;let⟨t,h,q⟩:=VC A outer s H vs Q E hr Rr;exists t,h.nox,q
end
end L2
namespace My
open PySem L2
def pl(ls T U:Ac):(Prop):=HT.ltP (AQ ls T,T) (AQ ls U,U)=true
def OrdL(ls:Ac)(m:Nat)(os:Ac):(Prop):=os.Perm (VJ m)/\os.Pairwise λx y=>GZ ls x<GZ ls y\/(GZ ls x=GZ ls y/\x<y)
def jQ(g:Zy n ps)(hT:Ze n ps T)(hW:Ze n ps W)(h:∀z∈T,z∈W):T=W:=
 Hm (wc hT) (wc hW) λz=>(kf g hT hW h).mem_iff
structure Ent where
 T:Ac
 I:Ac
 O:Ac
deriving DecidableEq
end My
namespace L2
open PySem PySem.Spec PyProof.Rows PySem.W My
def SameX.same(s:Same H H'):SameX Pt H H':=λb o _ e=>s b o e
def SameX.trans{Pt:Addr}{H H1 H2:Hp}(a:SameX Pt H H1)(b:SameX Pt H1 H2):SameX Pt H H2:=λc o hc e=>b c o hc (a c o hc e)
def TabH.same(t:TabH H Pt pos qual)(s:Same H H'):TabH H' Pt pos qual:=by
 let⟨ps,h1,h2,h3⟩:=t;exists ps,s _ _ h1,h2,?_;rcases h3 with h|⟨c,h,h'⟩
 .show .inl h
 .show .inr ⟨c,h,s _ _ h'⟩
def TabH.ne{Pt a:Addr}{o:HO}(t:TabH H Pt pos qual)(h:H a=some o)(hn:∀ps,o≠.tbl ps):a≠Pt:=λe=>by let⟨ps,h1,_⟩:=t;rw[e,h1]at h;show hn ps (Ye h).symm
def TabH.put{Pt r:Addr}{zs:List V}{u:List V}(t:TabH H Pt pos qual)(hr:H r=some (.lst zs)):TabH (upd H r (.lst u)) Pt pos qual:=by
 let⟨ps,h1,h2,h3⟩:=t;show⟨ps,by rw[XJ (Vt h1 hr B)];show h1,h2,?_⟩;rcases h3 with h|⟨c,h,h'⟩
 .show .inl h
 .show .inr ⟨c,h,by rwa[XJ (Vt h' hr<|by unfold EL;simp)]⟩
end L2
namespace My
open PySem L2
def SqK.samex(h:SqK kd K H a xs)(t:TabH H Pt pos qual)(sx:SameX Pt H H2):SqK kd K H2 a xs:=by
 cases kd with
 |true=>show SqT.samex (show SqT K H a xs from h) t sx
 |false=>
  rcases(show SqL K H a xs from h) with (h|⟨o,h⟩)|h
  .show .inl (.inl<|sx _ _ (t.ne h B) h)
  .show .inl (.inr ⟨o,sx _ _ (t.ne h B) h⟩)
  .show .inr h
def WebAt.samex(h:WebAt C H w n ps)(t:TabH H Pt pos qual)(sx:SameX Pt H H2):WebAt C H2 w n ps:=by let⟨dx,tl,xs,h1,h2,h3⟩:=h;exists dx,tl,xs,sx _ _ (t.ne h1 B) h1,sx _ _ (t.ne h2 B) h2,h3.1,λi p hp=>?_;let⟨x,hx,q,e,hq⟩:=h3.2 i p hp;exists x,hx,q,e,sx _ _ (t.ne hq B) hq
end My
namespace My
def un1{α:Type}{P:List α->Prop}(h:∀a,P [a])(l:List α)(e:l.length=1):P l:=by let⟨a,rfl⟩:=Bv e;show h a
def qk{α:Type}{P:List α->Prop}(h:∀a b,P [a,b])(l:List α)(e:l.length=2):P l:=by let⟨a,b,rfl⟩:=Bu e;show h a b
def un3{α:Type}{P:List α->Prop}(h:∀a b c,P [a,b,c])(l:List α)(e:l.length=3):P l:=by let⟨a,b,c,rfl⟩:=Bt e;show h a b c
def un4{α:Type}{P:List α->Prop}(h:∀a b c d,P [a,b,c,d])(l:List α)(e:l.length=4):P l:=by let⟨a,b,c,d,rfl⟩:=Bs e;show h a b c d
def un5{α:Type}{P:List α->Prop}(h:∀a b c d e,P [a,b,c,d,e])(l:List α)(e:l.length=5):P l:=by
 cases l with
 |nil=>cases e
 |cons x r=>
  let⟨a,b,c,d,rfl⟩:=Bs (Mz e);show h x a b c d
end My
namespace My
open PySem L2
def ZV4(h:TC n ps c):c=0↔∀T,¬Ze n ps T:=by
 let⟨L,a1,a2,a3⟩:=h;constructor
 .intro e T hT;rw[e]at a3
  have:=(a2 T).mpr hT
  rw[YX.mp a3]at this;cases this
 .intro e;rw[<-a3,YX];show FW.mpr λT hT=>e T ((a2 T).mp hT)
end My
namespace L2
open PySem PySem.Spec PyProof.Rows PySem.W
def Ze3:∀bs:List Bool,(bs.map Value.bool).mapM firstOfTuple'=(pure ((bs.map Value.bool).map λ_=>none):Sem _)
 |[]=>B
 |b::bs=>by rw[Uz,List.mapM_cons,Ze3 bs];change(pure none >>= λb=>pure _ >>= λbs=>pure<|b::bs)=_;simp
def Yz2:∀bs:List Bool,(bs.map Value.bool).mapM typeOf=(pure ((bs.map Value.bool).map λ_=>Value.type "bool"):Sem _)
 |[]=>B
 |b::bs=>by rw[Uz,List.mapM_cons,Yz2 bs];change(pure (Value.type "bool") >>= λb=>pure _ >>= λbs=>pure<|b::bs)=_;simp
def Zn7{ns:Ac}{key:Int->Bool}(hk:kA.toList=ns.map λz=>Value.bool (key z))(h2:2<=ns.length):keyKind' kA=pure oneType':=by
 let e:kA=((ns.map key).map Value.bool).toArray:=by rw[<-IP (xs:=kA),hk,Px];rfl
 rw[e];obtain⟨b1,b2,bs,eb⟩:∃b1 b2 bs,ns.map key=b1::b2::bs:=by
  match ns,h2 with
  |x::y::l,_=>exists _,_,_,Z
 rw[eb,keyKind'_eq,List.mapM_toArray,Ze3];simp only[map_pure,pure_bind];rw[if_neg B,if_neg B];rw[oneTypeOnly'_eq,List.mapM_toArray,Yz2];simp only[map_pure,pure_bind];let UM:((List.map (λ_=>Value.type "bool")<|List.map Value.bool<|b1::b2::bs).toArray.all λx=>x == Value.type "bool")=true:=by simp only[List.all_toArray,List.all_map,QY];intro _ _;rfl
 let h0:(List.map (λ_=>Value.type "bool")<|List.map Value.bool<|b1::b2::bs).toArray[0]?=some (Value.type "bool"):=B;rw[h0];simp only[UM,US,pure_bind,Option.isSome_some]
def AG{E:Ae}{s:Shared}{Q:Bool->Shared->Prop}(h:Q (decide (b2i p<b2i q)) s):wpAny (model prog w) A (keyLt' oneType' (.bool p) (.bool q)) Q E s:=by rw[keyLt'_oneType,oneLt'_eq];simp only[US];show XW (wpAny_cRoomFor_byValue Z ?_);show XW (wpAny_callSpecialIfBound?_slot (typeIs_bool' s p) F.slot_bool_lt<|call_gives F.slot_bool_lt (typeIs_bool' s p) F.entry_int_lt (F.args_int_lt_2 _ _) (gives_int_lt_bools p q) ?_);show Np h
section
variable{X:Cx}{pins:List (Addr×Obj)}{σ:St}{H:Hp}{s:Shared}{a kS:Addr}{A:Around}{E:Ae}{P:PySem.Fin->Shared->Prop}{kA:Array Value}{e e1:Nat}{f:Value}{key:Int->Bool}{ns:Ac}{vs:Ag}
def jP(hv:IntsAre vs ns)(hk:kA.toList=ns.map λz=>Value.bool (key z))(hi:i<ns.length):∃u,kas_item (kA.zip vs.toArray) i=(.bool (key (ns.getD i 0)),.int (ns.getD i 0) u):=by
 let⟨u,hu⟩:=ZG9 hv i hi;let ht:kA.toList[i]?=some (Value.bool<|key<|ns.getD i 0):=by rw[hk,Ys,WG,Xq hi];rfl
 exists u,?_;unfold kas_item;rw[YA,<-YH,ksk_zip,(eM (z:=(Value.bool<|key<|ns.getD i 0,Value.int (ns.getD i 0) u))).mpr ⟨ht,hu⟩];rfl
def Zk5(hv:IntsAre vs ns)(hk:kA.toList=ns.map λz=>Value.bool (key z)):∀l:List Nat,(∀i∈l,i<ns.length)->IntsAre (l.map λi=>(kas_item (kA.zip vs.toArray) i).2) (l.map λi=>ns.getD i 0)
 |[],_=>.nil
 |i::l,h=>by
  let⟨u,e⟩:=jP hv hk (h i Yd);let r:=Zk5 hv hk l λj hj=>h j (Yf _ hj)
  rw[Uz,Uz,e];show .cons _ u r
def AF(I:Inv X (pins++[(a,seqObj "list" #[] e1),(kS,seqObj "list" kA e)]) σ H s)(Fa:FpOk X pins H a)(Fk:FpOk X pins H kS)(Ot:a≠kS)(hv:IntsAre vs ns)(Rn:ns.length<64)(hk:kA.toList=ns.map λz=>Value.bool (key z))
  (h:∀s' m out ms,Inv X pins σ H s'->s'.heap.get? a=some (seqObj "list" out m)->IntsAre out.toList ms->RF (λz=>b2i<|key z) ns ms->P (.done<|.ret .none) s'):
  wpAny (model X.prog X.w) A (ksk_end a false vs.toArray e1 ↑kS kA) P E s:=by
 let AE:=hv.length;let hkl:=YV List.length hk
 rw[Yw,Yc]at hkl;let EK:(kA.zip vs.toArray).size=ns.length:=by rw[Array.size_zip,show vs.toArray.size=vs.length from Yb];grind
 unfold ksk_end;dsimp only;rw[if_neg sT];cases h2:vs.toArray.size<2
 .rw[if_pos h2,if_pos h2];rw[Yb]at h2;show XW (Yl ?_);rw[StateT.run_pure];show XW (Yl ?_);dsimp only;show Zo7 (out:=vs) I Fa Fk Ot J Z ?_ sS λs' m AP e=>h s' m vs.toArray ns AP e (by simpa using hv) ?_
  .change(if false=true then (kA.zip vs.toArray).reverse else kA.zip vs.toArray).map (·.2)=vs.toArray;rw[if_neg sT,Array.map_snd_zip (by rw[Yb];lia)]
  .exists List.range ns.length,tG _,?_,?_
   .match ns.length,(show ns.length<2 by lia) with
    |0,_=>show List.Pairwise.nil
    |1,_=>show KI _ _
   .match ns,(show ns.length<2 by omega) with
    |[],_=>rfl
    |[x],_=>rfl
 .rw[if_neg h2,if_neg h2];rw[Yb]at h2;rw[Zn7 hk J];show XW (Yl ?_);rw[if_neg sT];let⟨p,Uv,VO,MS⟩:=My.Lk (n:=ns.length) (key:=λi=>b2i<|key<|ns.getD i 0) J;let runs:=kas_runs (prog:=X.prog) (w:=X.w) (A:=A) (E:=E) (κ:=oneType') (it:=kA.zip vs.toArray) (n:=ns.length) (s:=s) (Q:=λ_ st s'=>s'=s/\failedOf st=none/\arrOf st=p.map (kas_item<|kA.zip vs.toArray))
   (G:=λq s'=>s'=s/\q=p) D Rn (λq st s' _ e2 e3 e4=>⟨e4.1,e3,by rw[e2,e4.2]⟩)
   (My.goT_wp' (c:=λi j=>decide<|b2i (key<|ns.getD i 0)<b2i (key<|ns.getD j 0)) (AP:=λs'=>s'=s) (λi j C s' hi hj hs hC=>by let⟨u,e⟩:=jP hv hk hi;let⟨u',e'⟩:=jP hv hk hj;unfold kas_cmp;rw[e,e'];show AG<|hC s' hs) _ s (My.Qt D) Z λs' hs=>⟨hs,Uv⟩)
  unfold kasC kas_st at runs;rw[<-EK,kas_range]at runs;show XW (Su runs ?_ λ_ _ z=>z);rintro⟨⟨⟩,st⟩ s' ⟨rfl,hf,ha⟩;dsimp only;let hb:∀i∈p.toList,i<ns.length:=λi hi=>YS.mp (VO.mem_iff.mp hi)
  let UQ:p.toList.length=ns.length:=by rw[VO.length_eq,MG]
  show Zo7 (out:=p.toList.map λi=>(kas_item (kA.zip vs.toArray) i).2) I Fa Fk Ot J hf ?_ (by rw[Yc];lia) λSq m AP e=>h Sq m _ _ AP e (by simpa using Zk5 hv hk p.toList hb) ⟨p.toList,VO,MS,Z⟩;let ha:arrOf st=p.map (kas_item<|kA.zip vs.toArray):=ha
  rw[ha,Array.map_map];show Array.toList_inj.mp B
def ZH8(I:Inv X (pins++[(a,seqObj "list" #[] e1),(kS,seqObj "list" #[] 0)]) σ H s)(Fa:FpOk X pins H a)(Fk:FpOk X pins H kS)(Ot:a≠kS)(hv:IntsAre vs ns)(Rn:ns.length<64)
  (turn:∀pl z t s',z∈ns->Inv X (pins++pl) σ H s'->wpAny (model X.prog X.w) A (call f [.int z t]) (λv Sq=>v=.bool (key z)/\Inv X (pins++pl) σ H Sq) (λ_ _=>False) s')
  (h:∀s' m out ms,Inv X pins σ H s'->s'.heap.get? a=some (seqObj "list" out m)->IntsAre out.toList ms->RF (λz=>b2i<|key z) ns ms->P (.done<|.ret .none) s'):
  wpAny (model X.prog X.w) A (ksk_rest a f false vs.toArray e1<|.ref kS) P E s:=by
 let LO:sizeLine=16777216:=TM;let AE:=hv.length
 unfold ksk_rest;show XW (Qe ?_);rw[<-Array.forIn_toList];simp only[List.toList_toArray];show XW (ksk_fold (λi s'=>∃kA e,Inv X (pins++[(a,seqObj "list" #[] e1),(kS,seqObj "list" kA e)]) σ H s'/\kA.toList=(ns.take i).map λz=>Value.bool<|key z) vs 0 s ⟨#[],0,I,Z⟩ ?step ?done)
 case step=>
  rintro j x s' hx ⟨kA,e,AP,hk⟩;rw[Tj]at hk ⊢;let hj:j<ns.length:=by rw[<-AE];show(Xx.mp hx).1
  let⟨t,ht⟩:=ZG9 hv j hj;rw[hx]at ht;let rfl:=Ye ht;let hz:kA.size<=j:=by let h1:=YV List.length hk;rw[Yw,Yc,Yh]at h1;lia
  let eg:ns.getD j 0=ns[j]:=by rw[WG,Xq hj];rfl
  let hmem:ns.getD j 0∈ns:=by rw[eg];show TL hj
  show XW (FA<|Su (turn _ _ t s' hmem AP) (λv Sq he=>?_) λ_ _ hF=>hF.elim);let⟨rfl,J2⟩:=he;dsimp only;let pk:=(J2.pin (kS,seqObj "list" kA e) B).1
  obtain⟨c2,Ul⟩:∃c2,(Sq.heap.update kS (Obj.mapSeq (·.push (.bool<|key<|ns.getD j 0)))).get? kS=some (seqObj "list" (kA.push<|.bool<|key<|ns.getD j 0) c2):=⟨_,Po pk (·.push (.bool<|key<|ns.getD j 0))⟩;show XW (Nk pk Z ?_ J<|by rw[Array.size_push];lia);show Yl ⟨Z,kA.push<|.bool<|key<|ns.getD j 0,c2,?_,?_⟩
  .let J3:Inv X (pins++[(a,seqObj "list" #[] e1)]) σ H Sq:=J2.pins_of λp hp=>J2.pin p (Yj _ (by
    rcases XA.mp hp with hp|hp
    .show Yg _ hp
    .show Yj _<|by rw[XG.mp hp];show Yd))
   let Fk2:FpOk X (pins++[(a,seqObj "list" #[] e1)]) H kS:=Fk.more λp hp=>by rw[XG.mp hp];show Ot
   let J4:=(J3.changed (t':=Sq.toks) Fk2 λc o hc q=>(VS Sq.heap (Obj.mapSeq (·.push (.bool<|key<|ns.getD j 0)))<|Xa hc).trans q).pin1 Fk2 Ul λv z=>by cases z
   rwa[Yy]at J4
  .let ek:((ns.take<|j+1).map λz=>Value.bool<|key z)=((ns.take j).map λz=>Value.bool<|key z)++[Value.bool (key<|ns.getD j 0)]:=by rw[List.take_add_one,Xq hj,YK,eg];rfl
   rw[Sf,ek,hk]
 case done=>
  rintro s' ⟨kA,e,AP,hk⟩;rw[Tj,AE,YE]at hk;let pk:=(AP.pin (kS,seqObj "list" kA e) B).1
  show XW (Pl pk Z ?_);show AF AP Fa Fk Ot hv Rn hk h
def ZG8(I:Inv X pins σ H s)(Fa:FpOk X pins H a)(ho:s.heap.get? a=some (seqObj "list" vs.toArray n))(hv:IntsAre vs ns)(Rn:ns.length<64)
  (turn:∀pl z t s',z∈ns->Inv X (pins++pl) σ H s'->wpAny (model X.prog X.w) A (call f [.int z t]) (λv Sq=>v=.bool (key z)/\Inv X (pins++pl) σ H Sq) (λ_ _=>False) s')
  (h:∀s' m out ms,Inv X pins σ H s'->s'.heap.get? a=some (seqObj "list" out m)->IntsAre out.toList ms->RF (λz=>b2i<|key z) ns ms->P (.done<|.ret .none) s'):
  wpAny (model X.prog X.w) A (ksk_tree a f false) P E s:=by
 let LO:sizeLine=16777216:=TM;let AE:=hv.length
 obtain⟨e1,By⟩:∃e1,(s.heap.update a<|Obj.mapSeq λ_=>(#[]:Array Value)).get? a=some (seqObj "list" #[] e1):=⟨_,Po ho λ_=>#[]⟩;let I1:Inv X pins σ H {s with heap:=s.heap.update a<|Obj.mapSeq λ_=>(#[]:Array Value),toks:=s.toks}:=I.changed Fa λc o hc q=>(VS _ _<|Xa hc).trans q
 let I2:Inv X pins σ H {s with heap:=(s.heap.update a<|Obj.mapSeq λ_=>(#[]:Array Value)).push (seqObj "tuple" vs.toArray 0),toks:=s.toks}:=I1.kept λc o q=>Xf _ q;let RV:((s.heap.update a<|Obj.mapSeq λ_=>(#[]:Array Value)).push (seqObj "tuple" vs.toArray 0)).get? a=some (seqObj "list" #[] e1):=Xf _ By
 unfold ksk_tree;show XW (Pl ho Z ?_);show XW (Nk ho Z ?_ (by rw[Yb];lia)<|Yk _);show XW (seqEpoch_at By Z ?_);show XW (wpAny_newTuple ?_<|by change vs.length<=_;omega);show XW (Nm ?_<|Yk _);show SX ?_;let Fk:FpOk X pins H ((s.heap.update a<|Obj.mapSeq λ_=>(#[]:Array Value)).push (seqObj "tuple" vs.toArray 0)).objs.size:=I2.fpOk (XM _) (I2.hok.fresh<|XM _)
 let Ot:a≠((s.heap.update a<|Obj.mapSeq λ_=>(#[]:Array Value)).push (seqObj "tuple" vs.toArray 0)).objs.size:=YD (Yq RV);let I3:Inv X pins σ H {s with heap:=((s.heap.update a<|Obj.mapSeq λ_=>(#[]:Array Value)).push (seqObj "tuple" vs.toArray 0)).push (seqObj "list" #[] 0),toks:=s.toks}:=I2.kept λc o q=>Xf _ q
 let I4:=(I3.pin1 Fa (Xf _ RV) λv z=>by cases z).pin1 (Fk.more (pl:=[(a,seqObj "list" #[] e1)]) λp hp=>by rw[XG.mp hp];show Ot) (Yo _ Z) λv z=>by cases z
 rw[Yy]at I4;show ZH8 I4 Fa Fk Ot hv Rn turn h
def jO{tp q:Addr}{Q:Ae}(I:Inv X pins σ H s)(ht:s.heap.IsList tp vs.toArray)(hv:IntsAre vs ns)(Rn:ns.length<64)
  (turn:∀pl z t s',z∈ns->Inv X (pins++pl) σ H s'->wpAny (model X.prog X.w) A.in1.in1 (call ↑q [.int z t]) (λv Sq=>v=.bool (key z)/\Inv X (pins++pl) σ H Sq) (λ_ _=>False) s')
  (h:∀s' a m out ms,FpOk X pins H a->Inv X pins σ H s'->s'.heap.get? a=some (seqObj "list" out m)->IntsAre out.toList ms->RF (λz=>b2i<|key z) ns ms->Q ↑a s'):
  wpAny (model X.prog X.w) A (call (.builtin "sorted") [.ref tp] [(Str.ofString "key",.ref q)]) Q E s:=by
 let LO:sizeLine=16777216:=TM;let AE:=hv.length
 show call_function_entry_kw kind_sorted Pm Pk (ksk_s1 _ _) ?_;unfold Builtin.«sorted»;show XW (m:=checkCount "sorted" 1 1 _) (Yl ?_);show XW (collect_list ht ?_ D);show XW (Nm ?_ D);let hsz:((s.heap.push<|seqObj "list" #[] 0).update (~~~s) (Obj.mapSeq (·++vs.toArray))).objs.size=(~~~s)+1:=by rw[tu,Fy]
 let Nh:(((s.heap.push<|seqObj "list" #[] 0).update (~~~s) (Obj.mapSeq (·++vs.toArray))).push (seqObj "list" vs.toArray 0)).get? ((~~~s)+1)=some (seqObj "list" vs.toArray 0):=by rw[<-hsz];show Yo _ rfl
 let keep:∀b o,s.heap.get? b=some o->(((s.heap.push<|seqObj "list" #[] 0).update (~~~s) (Obj.mapSeq (·++vs.toArray))).push (seqObj "list" vs.toArray 0)).get? b=some o:=λb o q=>by let Xk:b<(~~~s):=Yq q;show Xf _ ((VS _ _<|Sd Xk).trans (Xf _ q))
 change wpAny _ _ _ _ _ {s with heap:=((s.heap.push<|seqObj "list" #[] 0).update (~~~s) (Obj.mapSeq (·++vs.toArray))).push (seqObj "list" vs.toArray 0)};rw[hsz];let Fa:FpOk X pins H ((~~~s)+1):=I.fpOk (TZ _) (I.hok.fresh<|TZ _)
 show XW (SX<|wpAny_call_entry_kw DW ⟨_,Nh,Z⟩ Pn ?body (ksk_l1 _ _));change wpAny (model X.prog X.w) A.in1.in1 (Builtin.«list.sort» ⟨[.ref ((~~~s)+1)],[(Str.ofString "key",.ref q)]⟩) _ _ _
 rw[ksk_t1];show ZG8 (s:={s with heap:=((s.heap.push<|seqObj "list" #[] 0).update (~~~s) (Obj.mapSeq (·++vs.toArray))).push (seqObj "list" vs.toArray 0),toks:=s.toks}) (I.kept keep) Fa Nh hv Rn turn λs' m out ms AP e hi hs=>⟨_,Z,?_⟩;show Yl ⟨_,Z,h s' _ m out ms Fa AP e hi hs⟩
end
def jN(K:Ad)(Pt:Addr)(Ub:Pos)(qual:Str)(i:Nat)(te tb:TE):(TE):=λσ H Q=>te σ H λy H1=>∃(p:Addr)(ns:Ac)(vx:V)(key:Int->Bool),y=.ref p/\SqL K H1 p (ns.map V.int)/\ns.length<64/\TabH H1 Pt Ub qual/\σ[i]?=some (some vx)/\
 (∀H2,SameX Pt H1 H2->∀z∈ns,tb [some (.int z),some vx] H2 λr H3=>r=.bl (key z)/\H3=H2)/\
 ∀(ms:Ac)(l:Addr)(H2:Hp),RF (λz=>b2i<|key z) ns ms->SameX Pt H1 H2->TabH H2 Pt Ub qual->H2 l=none->Q ↑l (upd H2 l<|.lst<|ms.map V.int)
section
variable{X:Cx}{p kp pos Ub:Pos}{e body:Expr}{params:Arguments}{scope:Scope}{te tb:TE}{v x:Str}{i k:Nat}{c Pt cc:Addr}
def SqL.samexT{K:Ad}{H H2:Hp}{a:Addr}{xs:List V}{qual:Str}(h:SqL K H a xs)(t:TabH H Pt Ub qual)(sx:SameX Pt H H2):SqL K H2 a xs:=by
 let⟨ps,hP,_⟩:=t;rcases h with (h|⟨o,h⟩)|h
 .show .inl (.inl<|sx _ _ (λz=>by rw[z,hP]at h;cases h) h)
 .show .inl (.inr ⟨o,sx _ _ (λz=>by rw[z,hP]at h;cases h) h⟩)
 .show .inr h
def jM(he:PE X e te)(hg:Gl X (Str.ofString "sorted"))(hm:X.mg (Str.ofString "sorted")=none)(hr:Room (k+3) X.A)(hex:X.ex=[])(TN:X.env.code=.ref c)(hC:codeHdIn X.K c Pt=true)(hB:X.base.BuiltinsAt X.mg Pt)(AI:mainGlobals≠Pt)
  (S:LamScope v x scope)(NZ:closureFor scope X.env=pure [(x,cc)])(GV:defaultsOf params X.env=([],[]))(SA:∀(c':Addr)(pm Rh u:Value),bindArgs (kla_fn (Str.ofString "<lambda>") (X.env.qual++Str.ofString "<lambda>") params body scope [(x,cc)] pm ↑c' Rh) ⟨[u],[]⟩=pure [(v,u)])
  (hi:X.N[i]?=some x)(hkx:X.env.kindOf x=some .cell)(VQ:X.env.cells.lookup x=some cc)
  (hb:∀(f c':Addr)(A:Around)(outer:List Env)(s:Shared)(H:Hp),Room k (A.deeper<|envX (X.env.qual++Str.ofString "<lambda>") scope (~~~s) f ↑c' [(x,cc)])->PE (NX X.prog X.w X.K X.mg X.base [v,x] (X.env.qual++Str.ofString "<lambda>") scope f ↑c' [(x,cc)] A outer s H) body tb)(hs:starEach [e] X.env=[(false,eval e X.env)]:=by rfl):
  PE X (.Call (.Name (Str.ofString "sorted") p) [e] [⟨some<|Str.ofString "key",.Lambda params body scope Ub,kp⟩] pos) (jN X.K Pt Ub (X.env.qual++Str.ofString "<lambda>") i te tb):=by
 intro pins s σ H Q I h;show Nv (Qd I hg hm Boot.«sorted» ?_ sT sT);let ha:PA X [e] (OY te Mf):=XY he XT hs
 show callWith_kw (thn (ha pos pins s σ H (λvs H1=>match vs with
  |[y]=>∃(p:Addr)(ns:Ac)(vx:V)(key:Int->Bool),y=.ref p/\SqL X.K H1 p (ns.map V.int)/\ns.length<64/\TabH H1 Pt Ub (X.env.qual++Str.ofString "<lambda>")/\σ[i]?=some (some vx)/\
   (∀H2,SameX Pt H1 H2->∀z∈ns,tb [some (.int z),some vx] H2 λr H3=>r=.bl (key z)/\H3=H2)/\
   ∀(ms:Ac)(l:Addr)(H2:Hp),RF (λz=>b2i<|key z) ns ms->SameX Pt H1 H2->TabH H2 Pt Ub (X.env.qual++Str.ofString "<lambda>")->H2 l=none->Q ↑l (upd H2 l<|.lst<|ms.map V.int)
  |_=>False) I h) λus s1 hh=>?_) (by rw[hs];rfl) (by rw[hs];rfl) Z rfl
 let⟨vs,H1,I1,r,q⟩:=hh
 match vs,r,q with
 |[],_,q=>show False.elim q
 |_::_::_,_,q=>show False.elim q
 |[y],r,q=>
  let⟨p2,ns,vx,key,rfl,hq,Rn,hT,hσ,hk,q⟩:=q;let⟨u,rfl,ru⟩:=Tg r;let rfl:u=Value.ref p2:=ru;show kws_cons (AJ I1 TN hC hB hT NZ GV AI λf c' pm Rh s2 H2 sx tab F I2 hf WQ=>kws_nil ?_);let I3:=I2.pin1 F hf λv z=>by cases z
  let Sj:=SqL.samexT hq hT sx;let⟨XX,rv,g1,hz⟩:=I2.list Sj;let hv:=ZC rv
  show jO I3 g1.isList hv Rn (key:=key) (λpl z t s3 hmem AP=>?_) λs3 a m out ms Fa AP Li GW Wn=>?_
  .-- the lambda called
   let OT:s3.heap.get? f=some (kla_obj (Str.ofString "<lambda>") (X.env.qual++Str.ofString "<lambda>") params body scope [(x,cc)] pm c' Rh):=(AP.pin (f,_)<|Yj _<|Yg _<|Yj _ Yd).1;let⟨mm,_,jL⟩:=AP.loc;let⟨ux,rx,AD⟩:=jL i x vx hi hσ (.inr<|.inl hkx);let Rt:s3.heap.IsCell cc (some ux):=by
    rcases AD with ⟨kz,_⟩|⟨_,c2,e2,Ul⟩
    .rw[hkx]at kz;cases kz
    .rw[VQ]at e2;cases e2;show Ul
   let Lj:s3.heap.CodeRec ↑c' (X.env.qual++Str.ofString "<lambda>"):=(AP.hok c' _ WQ).1;let UT:Room (k+1) X.A.in1.in1:=(hr.in1).in1
   show DR (SR (AM (u:=.int z t) (vv:=.int z) S UT AP.env0.in1.in1 OT Lj (SA c' pm Rh _) Rt rx (AP.freeC x cc VQ) ⟨t,Z⟩ (hb f c' _ _ s3 H2<|UT.deeper _)<|hk H2 sx z hmem) λrr s4 hh=>?_);let⟨u',rfl,ce⟩:=hh;let⟨v',H',J',mU,e1,e2⟩:=AP.after ce;subst e1 e2;let rfl:=mU;exists Z,J'
  .let J0:Inv X pins σ H2 s3:=AP.unpinned;let Fa0:FpOk X pins H2 a:=⟨Fa.1,Fa.2.1,Fa.2.2.1,Fa.2.2.2.1,Fa.2.2.2.2.1,λp hp=>Fa.2.2.2.2.2 p (by
    rcases XA.mp hp with hp|hp
    .show Yg _ hp
    .show Yj _<|Yg _ hp)⟩
   let MZ:ms.length=ns.length:=by let⟨pp,h1,_,rfl⟩:=Wn;rw[Yc,h1.length_eq,MG]
   exists .ref a,_,J0.adopt hex Fa0 (u:=.lst<|ms.map V.int) ⟨?_,out.toList,m,ZZ GW,by simpa using Li⟩,Z,q ms a H2 Wn sx tab Fa.1;rw[Yc,MZ]
   have:sizeLine=16777216:=TM
   lia
end
abbrev Qs:List (Str×Value):=[(Str.ofString "default",.none)]
section
variable{prog:Program}{w:World}{A:Around}{I S:Addr}{fp wr:List Addr}{n:Nat}{P:Nat->Value->Prop}{St:Nat->Heap->Prop}{R:Result->Shared->Prop}
def Zy8(W:Walks prog w A.in1 I fp wr n P St)(lt:Nat->Nat->Bool)(C:Heap->Prop)(ck:∀h h',C h->(∀b o,b≠S->b∉wr->h.get? b=some o->h'.get? b=some o)->C h')(cc:∀s i j v u E Q,C s.heap->i≠j->P i v->P j u->Q (.bool (lt i j)) s->wpAny (model prog w) A.in1 (compareOp .Lt v u) Q E s)(RR:S∉fp):∀k j s vb c,n-(j+1)=k->j+1<=n->St (j+1) s.heap->P (argBest lt j) vb->C s.heap->
  s.heap.get? S=some {cls:=.type "list",dict:=none,data:=.seq #[vb,vb] c,slots:=#[]}->
  (∀v h' tk,P (argBest lt<|n-1) v->(∀b o,b≠S->b∉wr->s.heap.get? b=some o->h'.get? b=some o)->R (.ok<|.ret v) {s with heap:=h',toks:=tk})->
  codeAny (model prog w) A (.builtin "min.loop" ⟨[.ref I,.none,.ref S],Qs⟩) R s:=by
 let vB:S∉wr:=λh=>RR (W.sub _ h);let nm:(toString "min"++toString ".loop":String)="min.loop":=sT
 intro k
 induction k with
 |zero=>
  intro j s vb c hk hj st pb ta hS hR;let ej:j+1=n:=sS
  show Rv xI ?_;rw[KG MD _];change wpAny _ A.in1 (seqItems? ↑S >>= _) _ _ s
  show XW (IW hS Z ?_);change wpAny _ A.in1 (tryCatch (pyNext<|.ref I) _ >>= _) _ _ s
  show XW (DY<|W.done s _ _ (ej▸st) λh' tk Ux=>?_);let Uh:=Ux S _ vB hS
  change wpAny _ A.in1 (updateSeq S (λ_=>#[]) >>= _) _ _ _;show XW (xH Uh Z<|XW<|Fz<|Yl ?_);show hR vb _ tk (by rwa[<-ej]) λb o b1 b2 e=>(VS _ _<|Xa b1).trans (Ux b o b2 e)
 |succ k ih=>
  intro j s vb c hk hj st pb ta hS hR;let Xk:j+1<n:=D
  show Rv xI ?_;rw[KG MD _];change wpAny _ A.in1 (seqItems? ↑S >>= _) _ _ s
  show XW (IW hS Z ?_);change wpAny _ A.in1 (tryCatch (pyNext<|.ref I) _ >>= _) _ _ s
  show XW (DY<|W.item (j+1) s _ _ Xk st λv h' tk pv XQ Ux=>?_);let Uh:=Ux S _ vB hS
  let jK:=ck _ h' ta λb o _ b2 e=>Ux b o b2 e;change wpAny _ A.in1 (tryCatch (holding [v,v]<|richCompare .Lt (v) (vb) >>= _) _ >>= _) _ _ _
  show XW (DY<|SX<|XW<|show wpAny _ _ (compareOp .Lt (v)<|vb) _ _ _ from cc {s with heap:=h',toks:=tk} (j+1) _ v vb _ _ jK (Sd<|Nat.lt_succ_of_le<|My.Rm _ _) pv pb ?_);show XW (SX<|Np ?_);show XW (Fz<|Yl ?_);cases hb:lt (j+1) (argBest lt j) with
  |true=>
   simp only[US];show XW (xH Uh Z<|XW<|Fz ?_);rw[nm];let up:∀b o,b≠S->h'.get? b=some o->(h'.update S<|Obj.mapSeq λ_=>#[v,v]).get? b=some o:=λb o b1 e=>(VS _ _<|Xa b1).trans e
   show Yl ⟨MA MD _,ih (j+1) _ (v) _ D Xk (W.frame _ h' _ XQ λb JC o e=>up b o (λh=>RR<|h▸JC) e) ?_ (ck _ _ jK λb o b1 _ e=>up b o b1 e) (PF _ Uh Z) λv' AB NV AA Az=>?_⟩
   .unfold argBest;rw[if_pos hb];show pv
   .show hR v' AB NV AA λb o b1 b2 e=>Az b o b1 b2 (up b o b1<|Ux b o b2 e)
  |false=>
   simp only[Rw,Ss];show XW (Fz ?_);rw[nm];show Yl ⟨MA MD _,ih (j+1) _ (vb) c D Xk XQ ?_ jK Uh λv' AB NV AA Az=>?_⟩
   .unfold argBest;rwa[if_neg (by rw[hb];decide)]
   .show hR v' AB NV AA λb o b1 b2 e=>Az b o b1 b2 (Ux b o b2 e)
def jJ(W:Walks prog w A.in1 I fp wr n P St)(lt:Nat->Nat->Bool)(C:Heap->Prop)(ck:∀h h',C h->(∀b o,b≠S->b∉wr->h.get? b=some o->h'.get? b=some o)->C h')(cc:∀s i j v u E Q,C s.heap->i≠j->P i v->P j u->Q (.bool (lt i j)) s->wpAny (model prog w) A.in1 (compareOp .Lt v u) Q E s)(RR:S∉fp)(hn:0<n){c:Nat}(st:St 0 s.heap)(ta:C s.heap)(hS:s.heap.get? S=some {cls:=.type "list",dict:=none,data:=.seq #[] c,slots:=#[]})
  (hR:∀v h' tk,P (argBest lt<|n-1) v->(∀b o,b≠S->b∉wr->s.heap.get? b=some o->h'.get? b=some o)->R (.ok<|.ret v) {s with heap:=h',toks:=tk}):
  codeAny (model prog w) A (.builtin "min.loop" ⟨[.ref I,.none,.ref S],Qs⟩) R s:=by
 let vB:S∉wr:=λh=>RR (W.sub _ h);let nm:(toString "min"++toString ".loop":String)="min.loop":=sT
 show Rv xI ?_;rw[KG MD _];change wpAny _ A.in1 (seqItems? ↑S >>= _) _ _ s
 show XW (IW hS Z ?_);change wpAny _ A.in1 (tryCatch (pyNext<|.ref I) _ >>= _) _ _ s
 show XW (DY<|W.item 0 s _ _ hn st λv h' tk pv XQ Ux=>?_);let Uh:=Ux S _ vB hS
 change wpAny _ A.in1 (updateSeq S (λ_=>#[v,v]) >>= _) _ _ _;show XW (xH Uh Z ?_);rw[nm];let up:∀b o,b≠S->h'.get? b=some o->(h'.update S<|Obj.mapSeq λ_=>#[v,v]).get? b=some o:=λb o b1 e=>(VS _ _<|Xa b1).trans e
 show Yl ⟨MA MD _,Zy8 W lt C ck cc RR _ 0 _ v _ Z hn (W.frame _ h' _ XQ λb JC o e=>up b o (λh=>RR<|h▸JC) e) pv (ck _ _ ta λb o b1 b2 e=>up b o b1<|Ux b o b2 e) (PF _ Uh Z) λv' AB NV AA Az=>?_⟩;show hR v' AB NV AA λb o b1 b2 e=>Az b o b1 b2 (up b o b1<|Ux b o b2 e)
def Zx8(W:Walks prog w A.in1 I fp wr n P St)(hn:n=0)(RR:S∉fp){c:Nat}(st:St 0 s.heap)(hS:s.heap.get? S=some {cls:=.type "list",dict:=none,data:=.seq #[] c,slots:=#[]})
  (hR:∀h' tk,(∀b o,b≠S->b∉wr->s.heap.get? b=some o->h'.get? b=some o)->R (.ok<|.ret .none) {s with heap:=h',toks:=tk}):
  codeAny (model prog w) A (.builtin "min.loop" ⟨[.ref I,.none,.ref S],Qs⟩) R s:=by
 subst hn;show Rv xI ?_;rw[KG MD _];change wpAny _ A.in1 (seqItems? ↑S >>= _) _ _ s
 show XW (IW hS Z ?_);change wpAny _ A.in1 (tryCatch (pyNext<|.ref I) _ >>= _) _ _ s
 show XW (DY<|W.done s _ _ st λh' tk Ux=>?_);show XW (Qe<|Yl ?_);show hR h' tk λb o _ b2 e=>Ux b o b2 e
def ZF4{E:Ae}{s:Shared}{id:String}{b:Builtin}{args:Ag}{kw:List (Str×Value)}{Q:Ae}(hk:builtinKind id=none)(hp:plainId id=true)(hb:entryFor table id=some b)(ha:argsOk id ⟨args,kw⟩)
  (hc:wpAny (model prog w) A.in1 (b ⟨args,kw⟩) (λfin s'=>match fin with
   | .done f=>(match (Except.ok f:Result) with | .ok (.ret v)=>Q v s' | .ok _=>False | .error e=>E e s')
   | .again c'=>c'.quiet=true/\codeAny (model prog w) A c' (λr s'=>match r with | .ok (.ret v)=>Q v s' | .ok _=>False | .error e=>E e s') s') E s):wpAny (model prog w) A (call (.builtin id) args kw) Q E s:=by
 show DR (codeAny_call_builtin hp hb ?_);simp only[checkBuiltinCall,hk];cases jI:Manifest.signature? id with
 |none=>show Yl hc
 |some sig=>
  let Fi:Bind.checkArgs id sig ⟨args,kw⟩=pure ():=by simpa only[argsOk,jI] using ha
  simp only[Fi];show Yl hc
def jH(a:Value):argsOk "min" ⟨[a],Qs⟩:=by unfold argsOk;kernel_rfl
def jG{E:Ae}{s:Shared}{Q:Ae}(hh:A.handled=none)(hl:s.heap.IsList l (intItems xs))
  (h0:xs.size=0->∀h' tk,(∀b o,s.heap.get? b=some o->h'.get? b=some o)->Q .none {s with heap:=h',toks:=tk})
  (h:0<xs.size->∀v h' tk,(intItems xs)[argBest (λi j=>decide<|numAt xs i<numAt xs j) (xs.size-1)]?=some v->(∀b o,s.heap.get? b=some o->h'.get? b=some o)->Q v {s with heap:=h',toks:=tk}):
  wpAny (model prog w) A (call (.builtin "min") [.ref l] Qs) Q E s:=by
 let nm:(toString "min"++toString ".loop":String)="min.loop":=sT;show ZF4 F.kind_min F.plain_min F.entry_min (jH _) ?_;change wpAny _ A.in1 (Builtin.Builtins.bindParams "min" ["key","default"] 0 ⟨[],Qs⟩ >>= _) _ _ s
 show XW (TK (a:=[none,some .none]) Z ?_);show XW (Yl ?_);show XW (iter_intList hl λs₂ e st vM hlI=>?_);subst e;show XW (KD ?_);rw[nm];let W:=Walks.list (prog:=prog) (w:=w) (A:=A.in1) hh (~~~s) l hlI (intItems xs)
 obtain⟨G,hG⟩:∃G,G=s.heap.push {cls:=.type "list_iterator",data:=.fields #[.ref l,.int 0 0]}:=⟨_,Z⟩;let hold:∀b o,s.heap.get? b=some o->b≠G.objs.size/\b∉[(~~~s)]/\(G.push {cls:=.type "list",data:=.seq #[] 0}).get? b=some o:=λb o e=>by
  let Xk:=Yq e;let jF:b<G.objs.size:=by rw[hG];show YC Xk (by rw[MB];show TZ _)
  exists YD jF,λhm=>by rw[XG.mp hm]at Xk;show QX _ Xk,Xf _<|by rw[hG];show Xf _ e
 rw[<-hG]at st vM ⊢;let RR:G.objs.size∉[(~~~s),l]:=λhm=>QX _ (vM _ hm)
 let Xg:=W.frame 0 G (G.push {cls:=.type "list",data:=.seq #[] 0}) st λb _ o e=>Xf _ e;let jE:(intItems xs).size=xs.size:=by simp[intItems]
 rcases Nat.eq_zero_or_pos xs.size with hz|hz
 .show Yl ⟨MA MD _,Zx8 W (jE.trans hz) RR Xg (Yo _ Z) λh' tk hk=>?_⟩;show h0 hz h' tk λb o e=>by let⟨a1,a2,a3⟩:=hold b o e;show hk b o a1 a2 a3
 .show Yl ⟨MA MD _,jJ W (λi j=>decide<|numAt xs i<numAt xs j) (λ_=>True) (λ_ _ _ _=>trivial) (λs i j v u E Q _ _ pv pu q=>?_) RR (by rwa[jE]) Xg trivial (Yo _ Z) λv h' tk pv hk=>?_⟩
  .let⟨t1,rfl⟩:=intItems_at pv;let⟨t2,rfl⟩:=intItems_at pu;show lt_int q
  .rw[jE]at pv;show h hz v h' tk pv λb o e=>by let⟨a1,a2,a3⟩:=hold b o e;show hk b o a1 a2 a3
end
def jD(K:Ad)(te:TE):(TE):=λσ H Q=>te σ H λy H1=>∃p ns,y=.ref p/\SqL K H1 p (ns.map V.int)/\(ns=[]->Q .non H1)/\∀m:Int,m∈ns->(∀a∈ns,m<=a)->Q (.int m) H1
def Zq9{p kp pos cp:Pos}{j:Nat}(hc:X.calm=true)(hg:Gl X (Str.ofString "min"))(hm:X.mg (Str.ofString "min")=none)(he:PE X e te)(hs:starEach [e] X.env=[(false,eval e X.env)]:=by rfl):
  PE X (.Call (.Name (Str.ofString "min") p) [e] [⟨some<|Str.ofString "default",.Constant .none j cp,kp⟩] pos) (jD X.K te):=by
 intro pins s σ H Q I h;show Nv (Qd I hg hm Boot.«min» ?_ sT sT);let ha:PA X [e] (OY te Mf):=XY he XT hs
 show callWith_kw (thn (ha pos pins s σ H (λvs H1=>match vs with
  |[y]=>∃p ns,y=.ref p/\SqL X.K H1 p (ns.map V.int)/\(ns=[]->Q .non H1)/\∀m:Int,m∈ns->(∀a∈ns,m<=a)->Q (.int m) H1
  |_=>False) I h) λus s1 hh=>?_) (by rw[hs];rfl) (by rw[hs];rfl) Z rfl
 let⟨vs,H1,I1,r,q⟩:=hh
 match vs,r,q with
 |[],_,q=>show False.elim q
 |_::_::_,_,q=>show False.elim q
 |[y],r,q=>
  let⟨p2,ns,rfl,hq,q0,q1⟩:=q;let⟨u,rfl,ru⟩:=Tg r;let rfl:u=Value.ref p2:=ru;show kws_cons (Constant_none<|kws_nil ?_);let⟨XX,rv,pl,hz⟩:=I1.list hq;let hi:=ZC rv
  let⟨xs,e'⟩:=hi.allInts.items;let Rg:ns=xs.toList.map (·.1):=by rw[<-hi.numsOf,<-nums_intItems,<-e']
  let hl:=pl.isList;rw[e']at hl;show jG (I1.ok.hd hc) hl (λhsz h' tk hk=>?_) λhsz v h' tk hv hk=>?_
  .exists .non,H1,I1.kept (t':=tk) hk,Z,q0 ?_;rw[Rg,Ek];show YX.mp (by rwa[Yw])
  .let⟨t,rfl⟩:=intItems_at hv;let⟨h1,h2⟩:=argBest_lt (numAt xs) (xs.size-1);exists .int _,H1,I1.kept (t':=tk) hk,⟨t,Z⟩,q1 _ ?_ λa ha=>?_
   .rw[Rg,numAt_eq];show getD_mem (by rw[Yc,Yw];omega)
   .rw[Rg]at ha;let⟨j,hj,rfl⟩:=mem_getD ha;rw[Yc,Yw]at hj;rw[<-numAt_eq];show h2 j sS
end L2
namespace My
open PySem L2
def Ay(K:Ad)(mg:Af)(x qual:Str)(st:Stmt)(fs:List Str)(Pt:Addr):(Prop):=∃C f fd c,mg x=some ↑C/\Fun K "__init__" qual st f fd/\Cls K C/\Mk K C f/\(∀a∈fs,NoAttr K C a)/\fd.code=.ref c/\PySem.W.codeHdIn K c Pt=true
def GQ{mg:Af}{oc:Value}{od an:Option Addr}{Tf:Array (Option Value)}{kV doc pm ct:Value}(X:K.In h)(G:h.Ns mainGlobals mg)
  (aC:PySem.W.nsIn K mainGlobals x=some (some<|.ref C))(a:PySem.W.findIn K ↑C "__init__"=some (some<|.ref f))(i:PySem.W.isFn K ↑f=true)
  (l:K.lookup f=some ⟨oc,od,.func<|PySem.W.fnOf "__init__" qual (Kh st) (QL st) (Xe st) .none kV doc pm an ↑cA ct,Tf⟩)(c:PySem.W.codeIn K ↑cA qual=true)(k:PySem.W.keepIn K ↑f=true)
  (pg:PySem.W.plainGet K C Str.empty=true)(hd:PySem.W.hasDictIn K C=true)(po:PySem.W.plainOver K C=true)(sa:PySem.W.findIn K ↑C "__setattr__"=some (some<|.builtin "object.__setattr__"))(mk:PySem.W.makesIn K C=true)(kc:PySem.W.keepIn K ↑C=true)
  (na:∀a∈fs,PySem.W.findIn K ↑C a=some none)(z:PySem.W.codeHdIn K cA Pt=true):Ay K mg x qual st fs Pt:=
 ⟨C,f,_,cA,xF X G aC,wZ l c k,⟨pg,hd,po,sa⟩,⟨mk,a,i,kc⟩,na,Z,z⟩
def MR(M:Ac)(ps:Aa)(g:Ac)(i:Nat):(Ac):=(VJ i).filter λz=>decide (z∉g/\mk M (ps.getD z.toNat (0,0)).1.toNat≠mk M (ps.getD z.toNat (0,0)).2.toNat)
def jC(M:Ac)(ps:Aa)(g:Ac)(i:Nat):MR M ps g (i+1)=MR M ps g i++if (i:Int)∉g/\mk M (ps.getD i (0,0)).1.toNat≠mk M (ps.getD i (0,0)).2.toNat then [(i:Int)] else []:=by
 unfold MR;rw[bF,Rx];congr 1;rw[YW,tQ];change(if decide ((i:Int)∉g/\mk M (ps.getD ((i:Int).toNat) (0,0)).1.toNat≠mk M (ps.getD ((i:Int).toNat) (0,0)).2.toNat)=true then [(i:Int)] else [])=_
 rw[QP];simp only[Jb]
def Lh(M:Ac)(ps:Aa)(g:Ac)(i:Nat):(MR M ps g i).length<=i:=Yn (Yr ..) (by rw[ZN];show XM _)
def WY:(Option Int->V)
 |none=>.non
 |some z=>.int z
def vA(w k s ld l i fu:V):(List (Str×V)):=[("web",w),("kept",k),("shut",s),("lead",ld),("least",l),("incoming",i),("further",fu)]
def Ws:SameX x H (upd H x o):=λb o' hb e=>by rwa[XJ hb]
def WebAt.but{C CP w x dx:Addr}(h:WebAt C H w n ps)(hx:H x=some (.ins CP dx []))(s:SameX x H H1):WebAt C H1 w n ps:=by
 let⟨d,tl,xs,h1,h2,h3⟩:=h;exists d,tl,xs,s _ _ (λe=>?_) h1,s _ _ (λe=>?_) h2,h3.1,λi p e=>?_
 .rw[e,hx]at h1
  have:=YV (λo=>match o with|some (HO.ins _ _ fs)=>fs.length|_=>0) h1
  show absurd this (by change ¬0=2;decide)
 .rw[e,hx]at h2;cases h2
 .let⟨v,a1,tt,a2,a3⟩:=h3.2 i p e;exists v,a1,tt,a2,s _ _ (λe=>by rw[e,hx]at a3;cases a3) a3
def Ax{CP a x dx:Addr}(h:SqT K H a xs)(hx:H x=some (.ins CP dx []))(s:SameX x H H1):SqT K H1 a xs:=by
 rcases h with (h|⟨o,h⟩)|h
 .show .inl (.inl<|s _ _ (λz=>by rw[z,hx]at h;cases h) h)
 .show .inl (.inr ⟨o,s _ _ (λz=>by rw[z,hx]at h;cases h) h⟩)
 .show .inr h
def jB{CP Pt x dx:Addr}(t:TabH H Pt pos qual)(hx:H x=some (.ins CP dx []))(s:SameX x H H1):TabH H1 Pt pos qual:=by
 let⟨ps,h1,h2,h3⟩:=t;exists ps,s _ _ (λe=>by rw[e,hx]at h1;cases h1) h1,h2,?_;rcases h3 with h|⟨c,h,h'⟩
 .show .inl h
 .show .inr ⟨c,h,s _ _ (λe=>by rw[e,hx]at h';cases h') h'⟩
def Aw(ha:SqT K H a (IL l))(hb:SqT K H b (IL m))(hl:l.length+m.length<=1000)(k:∀r H',Same H H'->SqT K H' r (IL (l++m))->Q ↑r H'):HJ K ↑a ↑b H Q:=by
 exists a,b,_,_,Z,Z,ha,hb,by rw[Xy,Xy];show Yn hl sT,λe=>?_,λ_ e=>?_,λ_ _ p hp=>?_
 .let el:l=[]:=Ek.mp e;rw[el,Pz]at k;show k b H (Same.refl _) hb
 .let em:m=[]:=Ek.mp e;rw[em,Yu]at k;show k a H (Same.refl _) ha
 .show k p _ (XZ hp) (SqT.of ?_);rw[XR,wV]
def VV(M:Ac)(ps:Aa)(z:Int):(Int×Int):=(min (mk M (ps.getD z.toNat (0,0)).1.toNat)<|mk M (ps.getD z.toNat (0,0)).2.toNat,max (mk M (ps.getD z.toNat (0,0)).1.toNat)<|mk M (ps.getD z.toNat (0,0)).2.toNat)
def vy{l:Ac}(hp:l.Perm [a,b])(hs:l.Pairwise (·<=·)):l=[min a b,max a b]:=by
 cases c:a<=b
 .rw[tP c,tV c];show RQ hp hs (by simpa using c)
 .rw[tW J,tO D];show RQ (hp.trans<|List.Perm.swap b a []) hs (by simp;omega)
def Zt9{z:Int}(h:z∈MR M ps g i):0<=z/\z<(i:Int):=Xr.mp (Ya.mp h).1
def Xl(n:Int)(ps:Aa)(I O F:Ac):(Ac):=MR (XB n.toNat<|XU ps I) ps (I++O++F) ps.length
def Ua(n:Int)(ps:Aa)(I O F:Ac)(ld:Option Int):(Ac):=(Xl n ps I O F).filter λz=>decide (∃y,ld=some y/\VV (XB n.toNat<|XU ps I) ps z=VV (XB n.toNat<|XU ps I) ps y)
def Wh(n:Int)(ps:Aa)(I O F:Ac)(ld:Option Int):(Ac):=(Xl n ps I O F).filter λz=>decide (z∉Ua n ps I O F ld)
def PartAt(K:Ad)(CP C:Addr)(H:Hp)(x:Addr)(n:Int)(ps:Aa)(I O F inc:Ac)(ld fu:Option Int):(Prop):=∃dx w a b l i,H x=some (.ins CP dx<|vA ↑w ↑a ↑b (WY ld) ↑l ↑i<|WY fu)/\WebAt C H w n ps/\SqT K H a (IL I)/\SqT K H b (IL O)/\H l=some (.tup<|IL F)/\H i=some (.lst<|IL inc)
def PartAt.samex(h:PartAt K CP C H x n ps I O F inc ld fu)(t:TabH H Pt pos qual)(sx:SameX Pt H H2):PartAt K CP C H2 x n ps I O F inc ld fu:=by let⟨dx,w,a,b,l,i,h1,h2,h3,h4,h5,h6⟩:=h;exists dx,w,a,b,l,i,sx _ _ (t.ne h1 B) h1,h2.samex t sx,SqK.samex (kd:=true) h3 t sx,SqK.samex (kd:=true) h4 t sx,sx _ _ (t.ne h5 B) h5,sx _ _ (t.ne h6 B) h6
structure PartOk(n:Int)(ps:Aa)(I O:Ac)(ld:Option Int)(F inc:Ac)(fu:Option Int):Prop where
 tr:With n ps I O F
 least:∀U,With n ps I O U->HT.lexLt U F=false
 inc:RF (λz=>PyProof.Rows.b2i<|decide<|ld=some z) (Ua n ps I O F ld) inc
 none:fu=none↔Wh n ps I O F ld=[]
 some:∀y,fu=some y->y∈Wh n ps I O F ld/\∀z∈Wh n ps I O F ld,y<=z
def xchT(F:Ac)(o z:Int):(Ac):=(wo F o++[z]).mergeSort λa b=>decide (a<=b)
def UX(F:Ac)(o z:Int):(xchT F o z).Perm (wo F o++[z]):=List.mergeSort_perm _ _
def MQ(F:Ac)(o z:Int):(xchT F o z).Pairwise (·<=·):=by
 show(DT (le:=λa b:Int=>decide<|a<=b) (λa b c h1 h2=>?_) (λa b=>?_) _).imp λh=>Yt h
 .simp only[Jb]at *;lia
 .simp only[tL,Jb];lia
def WX(n:Int)(ps:Aa)(I F:Ac)(z:Int):(Ac):=(Td n ps F z F).filter λt=>decide (t∉I)
section
variable{n:Int}{ps:Aa}{I O F T M:Ac}{x y z:Int}(g:Zy n ps)
include g
def EJ(hF:With n ps I O F)(he:exg n ps F x y)(hx:x∉I)(hy:y∉O)(hp:M.Perm (wo F x++[y]))(hs:M.Pairwise (·<=·)):With n ps I O M:=by
 exists Cm g hF.1 he hp hs,λv hv=>(wz g hF.1 he hp hs).mpr (.inl ⟨hF.2.1 v hv,λe=>hx<|e▸hv⟩),λv hv h=>?_;rcases(wz g hF.1 he hp hs).mp h with h|h
 .show hF.2.2 v hv h.1
 .show hy (h▸hv)
def Zc5(hF:Ze n ps F)(he:exg n ps F x y)(h:y<x)(hp:M.Perm (wo F x++[y]))(hs:M.Pairwise (·<=·)):HT.lexLt M F=true:=by
 let tM:=Cm g hF he hp hs;let yF:y∉F:=((Ff g hF).mp he).2.1
 show(ki (XS.mp tM.1).2 (XS.mp hF.1).2 (by have:=tM.2.1;have:=hF.2.1;lia)).mpr ⟨y,(wz g hF he hp hs).mpr (.inr Z),yF,λs Wd=>?_⟩;rw[wz g hF he hp hs];constructor
 .rintro(q|q)
  .show q.1
  .lia
 .show λq=>.inl ⟨q,J⟩
def GP(hF:With n ps I O F)(VY:∀U,With n ps I O U->HT.lexLt U F=false)(hT:With n ps (I++[z]) O T)(Jw:∀U,With n ps (I++[z]) O U->HT.lexLt U T=false):∀v∈T,v∈F\/v=z:=λv hv=>Yz λno=>by
 let vF:v∉F:=λh=>no (.inl h);let vz:v≠z:=λh=>no (.inr h)
 let⟨u,e1,e2⟩:=nr g hT.1 hF.1 hv vF;let uF:u∈F:=e2.1
 let uT:u∉T:=((Ff g hT.1).mp e1).2.1;let uI:u∉I:=λh=>uT (hT.2.1 u<|Yg _ h)
 let vO:v∉O:=λh=>hT.2.2 v h hv;let uO:u∉O:=λh=>hF.2.2 u h uF
 let vI:v∉I++[z]:=λh=>by
  rcases XA.mp h with h|h
  .show vF (hF.2.1 v h)
  .show vz (XG.mp h)
 let uv:u≠v:=λe=>uT (e▸hv);let⟨M1,p1,q1⟩:=nj (wo F u++[v]);let w1:=EJ g hF e2 uI vO p1 q1
 let⟨M2,p2,q2⟩:=nj (wo T v++[u]);let w2:=EJ g hT e1 vI uO p2 q2
 rcases Int.lt_or_lt_of_ne uv with h|h
 .have:=Zc5 g hT.1 e1 h p2 q2
  rw[Jw M2 w2]at this;cases this
 .have:=Zc5 g hF.1 e2 h p1 q1
  rw[VY M1 w1]at this;cases this
def Lg(hF:With n ps I O F)(VY:∀U,With n ps I O U->HT.lexLt U F=false)(hz:z∉F):With n ps I (O++[z]) F/\∀U,With n ps I (O++[z]) U->HT.lexLt U F=false:=
 ⟨⟨hF.1,hF.2.1,λv hv=>(XA.mp hv).elim (hF.2.2 v) λh=>by rwa[XG.mp h]⟩,λU hU=>VY U ⟨hU.1,hU.2.1,λv hv=>hU.2.2 v<|Yg _ hv⟩⟩
end
def Wr{z:Int}:With n ps I O T↔With n ps I (O++[z]) T\/With n ps (I++[z]) O T:=by
 constructor
 .intro h;cases c:z∈T
  .show .inr ⟨h.1,λv hv=>(XA.mp hv).elim (h.2.1 v) λe=>by rw[XG.mp e];show c,h.2.2⟩
  .show .inl ⟨h.1,h.2.1,λv hv=>(XA.mp hv).elim (h.2.2 v) λe=>by rwa[XG.mp e]⟩
 .rintro(h|h)
  .exists h.1,h.2.1,λv hv=>h.2.2 v<|Yg _ hv
  .exists h.1,λv hv=>h.2.1 v<|Yg _ hv,h.2.2
def RowAll(n:Int)(ps:Aa)(I O:Ac)(R:Ab):(Prop):=R.Nodup/\∀T,T∈R↔With n ps I O T
def RowAll.pc(h:RowAll n ps I O R):PC n ps I O R.length:=⟨R,h.1,λl=>h.2 l,Z⟩
def ZQ6{z:Int}(hA:RowAll n ps I (O++[z]) A)(hB:RowAll n ps (I++[z]) O sO):RowAll n ps I O (A++sO.reverse):=by
 exists Wo.mpr ⟨hA.1,(FK sO).nodup_iff.mpr hB.1,λa ha b hb e=>?_⟩,λT=>?_
 .subst e;show((hA.2 a).mp ha).2.2 z B (((hB.2 a).mp (Se.mp hb)).2.1 z B)
 .rw[XA,Se,hA.2,hB.2];show Wr.symm
def jA{a b c d:Int}(h1:min a b=min c d)(h2:max a b=max c d):(a=c/\b=d)\/(a=d/\b=c):=by
 rcases Int.le_total a b with p|p<;>rcases Int.le_total c d with q|q<;>simp only[tP,tW,tO,tV,p,q]at h1 h2
 .show .inl ⟨h1,h2⟩
 .show .inr ⟨h1,h2⟩
 .show .inr ⟨h2,h1⟩
 .show .inl ⟨h2,h1⟩
section
variable{n:Int}{ps:Aa}{I O F T:Ac}{o t t':Int}(g:Zy n ps)
include g
def ZB6(hT:Ze n ps T)(ho:o∈T):¬Conn (XU ps (wo T o)) (Zq ps o).1 (Zq ps o).2:=by let⟨o0,o1⟩:=hT.1.all o ho;show(Va g hT o0 o1).mp ((OG g hT ho ho).mpr Z)
def Zd8(hT:Ze n ps T)(hI:∀v∈I,v∈T)(ht:t∈T)(hn:t∉I):¬Conn (XU ps I) (Zq ps t).1 (Zq ps t).2:=λc=>
 ZB6 g hT ht (c.mono<|ZW λv hv=>Xi.mpr ⟨hI v hv,λe=>hn<|by rwa[<-e]⟩)
def ZF7(XE:∀z∈I,0<=z/\z<ps⁻¹)(t0:0<=t)(t1:t<ps⁻¹)(s0:0<=t')(s1:t'<ps⁻¹)(h:VV (XB n.toNat (XU ps I)) ps t=VV (XB n.toNat (XU ps I)) ps t'):
  (Conn (XU ps I) (Zq ps t).1 (Zq ps t').1/\Conn (XU ps I) (Zq ps t).2 (Zq ps t').2)\/(Conn (XU ps I) (Zq ps t).1 (Zq ps t').2/\Conn (XU ps I) (Zq ps t).2 (Zq ps t').1):=by
 let Wu:=ZR g XE;let a:=Tv (z:=t) g t0 t1
 let b:=Tv (z:=t') g s0 s1;let h:(min (mk (XB n.toNat<|XU ps I) (Zq ps t).1)<|mk (XB n.toNat<|XU ps I) (Zq ps t).2,max (mk (XB n.toNat<|XU ps I) (Zq ps t).1)<|mk (XB n.toNat<|XU ps I) (Zq ps t).2)=(min (mk (XB n.toNat<|XU ps I) (Zq ps t').1)<|mk (XB n.toNat<|XU ps I) (Zq ps t').2,max (mk (XB n.toNat<|XU ps I) (Zq ps t').1)<|mk (XB n.toNat<|XU ps I) (Zq ps t').2):=h
 let⟨h1,h2⟩:=Prod.mk.inj h;rw[<-Ro Wu a.1 b.1,<-Ro Wu a.2 b.2,<-Ro Wu a.1 b.2,<-Ro Wu a.2 b.1];show jA h1 h2
def Zd9(XE:∀z∈I,0<=z/\z<ps⁻¹)(hT:Ze n ps T)(hI:∀v∈I,v∈T)(ht:t∈T)(hs:t'∈T)(hn:t∉I)(Ph:t'∉I)(h:VV (XB n.toNat (XU ps I)) ps t=VV (XB n.toNat (XU ps I)) ps t'):t=t':=Yz λne=>by
 let⟨t0,t1⟩:=hT.1.all t ht;let⟨s0,s1⟩:=hT.1.all t' hs;let sub:∀v∈I++[t],v∈wo T t':=λv hv=>by
  rcases XA.mp hv with hv|hv
  .show Xi.mpr ⟨hI v hv,λe=>Ph<|by rwa[<-e]⟩
  .rw[XG.mp hv];show Xi.mpr ⟨ht,ne⟩
 let up:∀{i j},Conn (XU ps I) i j->Conn (XU ps<|I++[t]) i j:=λc=>c.mono (ZW λv hv=>Yg _ hv);let ed:Conn (XU ps<|I++[t]) (Zq ps t).1 (Zq ps t).2:=.edge (YR.mpr ⟨t,B,Z⟩)
 let c:Conn (XU ps<|I++[t]) (Zq ps t').1 (Zq ps t').2:=by
  rcases ZF7 g XE t0 t1 s0 s1 h with ⟨a,b⟩|⟨a,b⟩
  .show((up a).symm.trans ed).trans (up b)
  .show((up b).symm.trans ed.symm).trans (up a)
 show ZB6 g hT hs (c.mono<|ZW sub)
def Lf(XE:∀z∈I,0<=z/\z<ps⁻¹)(hT:With n ps I O T)(hF:∀v∈I,v∈F)(ht:t∈T)(hn:t∉F):t∈Xl n ps I O F:=by
 let⟨t0,t1⟩:=hT.1.1.all t ht;let a:=Tv (z:=t) g t0 t1
 let hI:t∉I:=λh=>hn (hF t h);show Ya.mpr ⟨Xr.mpr ⟨t0,t1⟩,Yv ⟨λh=>?_,λe=>?_⟩⟩
 .rcases XA.mp h with h|h
  .rcases XA.mp h with h|h
   .show hI h
   .show hT.2.2 t h ht
  .show hn h
 .show Zd8 g hT.1 hT.2.1 ht hI ((Ro (ZR g XE) a.1 a.2).mp e)
end
def Vw(n:Int)(ps:Aa)(I F:Ac)(asc:Bool)(z:Int):(Ab):=if asc then (WX n ps I F z).map λo=>xchT F o z else ((WX n ps I F z).map λo=>xchT F o z).reverse
def Vi(n:Int)(ps:Aa)(I F:Ac):(Ac->Bool->Ab)
 |[],_=>[]
 |z::r,asc=>Vw n ps I F asc z++Vi n ps I F r (!asc)
def vw(n:Int)(ps:Aa)(I F:Ac)(z:Int):∀l asc,Vi n ps I F (l++[z]) asc=Vi n ps I F l asc++Vw n ps I F (asc != (l.length%2 == 1)) z
 |[],asc=>by change Vw n ps I F asc z++[]=[]++Vw n ps I F (asc != false) z;rw[Yu,Pz,Bool.bne_false]
 |y::l,asc=>by change Vw n ps I F asc y++Vi n ps I F (l++[z]) (!asc)=Vw n ps I F asc y++Vi n ps I F l (!asc)++_;rw[vw n ps I F z l,Yy,YI];congr 3;rcases(by lia:l.length%2=0/\(l.length+1)%2=1\/l.length%2=1/\(l.length+1)%2=0) with ⟨a,b⟩|⟨a,b⟩<;>rw[a,b]<;>cases asc<;>rfl
def jz(n:Int)(ps:Aa)(I F:Ac)(asc:Bool)(z:Int):(Vw n ps I F asc z).length<=F.length:=by
 unfold Vw;let h:(WX n ps I F z).length<=F.length:=Yn (Yr ..) (HL n ps F z F)
 split
 .rw[Yc];show h
 .rw[YN,Yc];show h
def Zf9(n:Int)(ps:Aa)(I F:Ac):∀l asc,(Vi n ps I F l asc).length<=l.length*F.length
 |[],_=>Yk _
 |z::l,asc=>by
  change(Vw n ps I F asc z++Vi n ps I F l (!asc)).length<=_;rw[Xt,YI,Nat.succ_mul]
  have:=jz n ps I F asc z
  have:=Zf9 n ps I F l (!asc)
  lia
def Av(n:Int)(ps:Aa)(I F inc:Ac):(Ab):=F::Vi n ps I F inc (inc.length%2 == 1)
def Xh:o∈Td n ps F t F↔o∈F/\t∈UI n ps F o:=by unfold Td;rw[Ya,YL];show Iff.rfl
def XH{o t v:Int}:v∈xchT F o t↔(v∈F/\v≠o)\/v=t:=by rw[(UX F o t).mem_iff,XA,Xi,XG]
section
variable{n:Int}{ps:Aa}{I O F T:Ac}{ld:Option Int}{o t:Int}(g:Zy n ps)
include g
def Au(XE:∀z∈I,0<=z/\z<ps⁻¹)(hF:With n ps I O F)(hu:Wh n ps I O F ld=[])(hT:With n ps I O T):T=F\/∃t∈Xl n ps I O F,∃o∈WX n ps I F t,T=xchT F o t:=by
 cases c:∀v∈T,v∈F
 .show .inl (jQ g hT.1 hF.1 c)
 .obtain⟨t,ht,hn⟩:∃t,t∈T/\t∉F:=Yz λno=>c λv hv=>Yz λhn=>no ⟨v,hv,hn⟩;let hto:=Lf g XE hT hF.2.1 ht hn
  let alike:∀v∈Xl n ps I O F,∃y,ld=some y/\VV (XB n.toNat<|XU ps I) ps v=VV (XB n.toNat<|XU ps I) ps y:=λv hv=>by
   let hm:v∈Ua n ps I O F ld:=Yz λno=>by
    have:v∈Wh n ps I O F ld:=Ya.mpr ⟨hv,Yv no⟩
    rw[hu]at this;cases this
   show Yt (Ya.mp hm).2
  let only:∀v∈T,v∉F->v=t:=λv hv hvn=>by let⟨y,e1,e2⟩:=alike v (Lf g XE hT hF.2.1 hv hvn);let⟨y',e3,e4⟩:=alike t hto;rw[e1]at e3;cases e3;show Zd9 g XE hT.1 hT.2.1 hv ht (λh=>hvn<|hF.2.1 v h) (λh=>hn<|hF.2.1 t h) (e2.trans e4.symm)
  let⟨o,e1,e2⟩:=nr g hT.1 hF.1 ht hn;let oT:o∉T:=((Ff g hT.1).mp e1).2.1
  let hM:=Cm g hF.1 e2 (UX F o t) (MQ F o t);show .inr ⟨t,hto,o,Ya.mpr ⟨Xh.mpr ⟨e2.1,e2.2.2⟩,Yv λh=>oT<|hT.2.1 o h⟩,jQ g hT.1 hM λv hv=>XH.mpr ?_⟩;cases cv:v∈F
  .show .inl ⟨cv,λe=>oT<|by rwa[<-e]⟩
  .show .inr (only v hv cv)
def Zw6(hF:With n ps I O F)(ht:t∈Xl n ps I O F)(ho:o∈WX n ps I F t):With n ps I O (xchT F o t):=by
 let⟨h1,h2⟩:=Ya.mp ht;let⟨hg,_⟩:=Yt h2;let⟨h3,h4⟩:=Ya.mp ho;let⟨h5,h6⟩:=Xh.mp h3;let tF:t∉F:=λh=>hg (Yj _ h)
 show EJ g hF ⟨h5,λe=>tF (by rwa[e]),h6⟩ (Yt h4) (λh=>hg<|Yg _<|Yj _ h) (UX F o t) (MQ F o t)
end
def Rf{I F T:Ac}:T∈Vw n ps I F asc z↔∃o∈WX n ps I F z,T=xchT F o z:=by
 let h:T∈((WX n ps I F z).map λo=>xchT F o z)↔∃o∈WX n ps I F z,T=xchT F o z:=by rw[YR];exists λzz=>by let⟨o,h1,h2⟩:=zz;show⟨o,h1,h2.symm⟩,λzz=>by let⟨o,h1,h2⟩:=zz;exists o,h1,h2.symm
 unfold Vw;split
 .show h
 .rw[Se];show h
def Vv{I F T:Ac}:∀{l:Ac}{asc:Bool},T∈Vi n ps I F l asc↔∃z∈l,∃o∈WX n ps I F z,T=xchT F o z
 |[],_=>⟨λh=>(by cases h),λzz=>by let⟨_,h,_⟩:=zz;show(by cases h)⟩
 |z::l,asc=>by
  change T∈Vw n ps I F asc z++Vi n ps I F l (!asc)↔_;rw[XA,Rf,Vv];constructor
  .rintro(h|⟨z',h1,h2⟩)
   .exists z,Yd,h
   .exists z',Yf _ h1,h2
  .rintro⟨z',h1,h2⟩;rcases Yi.mp h1 with e|e
   .show .inl (e▸h2)
   .show .inr ⟨z',e,h2⟩
def As(ht:t∉F)(e:xchT F o t=xchT F o' t'):t=t':=by
 have:t∈xchT F o' t':=e▸XH.mpr (.inr Z)
 rcases XH.mp this with h|h
 .show absurd h.1 ht
 .show h
def jy(ho:o∈F)(ht:t∉F)(e:xchT F o t=xchT F o' t):o=o':=Yz λne=>by
 let h1:o∈xchT F o' t:=XH.mpr (.inl ⟨ho,ne⟩);rw[<-e]at h1;rcases XH.mp h1 with h|h
 .show h.2 rfl
 .show ht (h▸ho)
def Yz8(hF:F.Nodup)(hz:z∉F):(Vw n ps I F asc z).Nodup:=by
 let hm:∀v∈WX n ps I F z,v∈F:=λv hv=>(Xh.mp (Ya.mp hv).1).1;let h:((WX n ps I F z).map λo=>xchT F o z).Nodup:=by let hd:(WX n ps I F z).Pairwise (·≠·):=(hF.filter _).filter _;show Nt.mpr (Ep (λ{a b} ha hb Vh e=>Vh<|jy (hm a ha) hz e) hd)
 unfold Vw;split
 .show h
 .show(FK _).nodup_iff.mpr h
def ZT4(hF:F.Nodup):∀{l:Ac}{asc:Bool},l.Nodup->(∀z∈l,z∉F)->(Vi n ps I F l asc).Nodup
 |[],_,_,_=>.nil
 |z::l,asc,hn,hl=>by
  let⟨n1,n2⟩:=Qi.mp hn;show Wo.mpr ⟨Yz8 hF<|hl z Yd,ZT4 hF n2 λv hv=>hl v<|Yf _ hv,λa ha b hb e=>?_⟩;let⟨o,_,h1⟩:=Rf.mp ha;let⟨z',wg,o',_,h2⟩:=Vv.mp hb;rw[h1,h2]at e
  have:=As (hl z Yd) e
  show n1 (this▸wg)
def Ar(g:Zy n ps)(XE:∀z∈I,0<=z/\z<ps⁻¹)(hF:With n ps I O F)(hu:Wh n ps I O F ld=[])(Sz:∀z,z∈inc↔z∈Xl n ps I O F)(hn:inc.Nodup):RowAll n ps I O (Av n ps I F inc):=by
 let vt:∀z∈inc,z∉F:=λz hz h=>(Yt (Ya.mp<|(Sz z).mp hz).2).1 (Yj _ h);exists Qi.mpr ⟨λh=>?_,ZT4 hF.1.1.nodup hn vt⟩,λT=>?_
 .let⟨z,hz,o,_,e⟩:=Vv.mp h;show vt z hz (by rw[e];show XH.mpr<|.inr Z)
 .unfold Av;rw[Yi,Vv];constructor
  .rintro(h|⟨z,hz,o,ho,rfl⟩)
   .rw[h];show hF
   .show Zw6 g hF ((Sz z).mp hz) ho
  .intro h;rcases Au g XE hF hu h with e|⟨t,ht,o,ho,e⟩
   .show .inl e
   .show .inr ⟨t,(Sz t).mpr ht,o,ho,e⟩
def ZD5{u v i j:Nat}(c:Conn (es++[(u,v)]) i j):Conn es i j\/(Conn es i u/\Conn es v j)\/(Conn es i v/\Conn es u j):=by
 induction c with
 |refl i=>show .inl (.refl i)
 |edge h=>
  rcases XA.mp h with h|h
  .show .inl (.edge h)
  .cases XG.mp h;show .inr (.inl ⟨.refl _,.refl _⟩)
 |symm _ ih=>
  rcases ih with a|⟨a,b⟩|⟨a,b⟩
  .show .inl a.symm
  .show .inr (.inr ⟨b.symm,a.symm⟩)
  .show .inr (.inl ⟨b.symm,a.symm⟩)
 |trans _ _ Oj Sh=>
  rcases Oj with a|⟨a,b⟩|⟨a,b⟩<;>rcases Sh with c|⟨c,d⟩|⟨c,d⟩
  .show .inl (a.trans c)
  .show .inr (.inl ⟨a.trans c,d⟩)
  .show .inr (.inr ⟨a.trans c,d⟩)
  .show .inr (.inl ⟨a,b.trans c⟩)
  .show .inr (.inl ⟨a,d⟩)
  .show .inl (a.trans d)
  .show .inr (.inr ⟨a,b.trans c⟩)
  .show .inl (a.trans d)
  .show .inr (.inr ⟨a,d⟩)
def GO{key:Int->Int}(h:RF key ns ms):ms.Perm ns:=by
 let⟨p,h1,_,rfl⟩:=h;let e:(List.range ns.length).map (λi=>ns.getD i 0)=ns:=by
  show Nq λi=>?_;rw[Ys];cases c:i<ns.length
  .rw[IM c,Xq c];change some (ns.getD i 0)=_
   rw[WG,Xq c];rfl
  .rw[VF (by simpa using c),VF J];rfl
 have:=h1.map λi=>ns.getD i 0
 rwa[e]at this
def jx(key:Int->Int)(ns:Ac):∃ms,RF key ns ms:=by
 let hp:=List.mergeSort_perm (List.range ns.length) λi j=>decide (key (ns.getD i 0)<key (ns.getD j 0)\/(key (ns.getD i 0)=key (ns.getD j 0)/\i<=j));let hs:=DT (le:=λi j=>decide<|key (ns.getD i 0)<key (ns.getD j 0)\/(key (ns.getD i 0)=key (ns.getD j 0)/\i<=j)) (λa b c h1 h2=>by simp only[Jb]at *;grind) (λa b=>by simp only[tL,Jb];grind) (List.range ns.length)
 exists _,_,hp,?_,Z;show(hs.and<|hp.nodup_iff.mpr List.nodup_range).imp λ{a b} h=>?_;let h1:=Yt h.1
 let h2:=h.2;change key (ns.getD a 0)<key (ns.getD b 0)\/(key (ns.getD a 0)=key (ns.getD b 0)/\a<b)
 grind
def Aq(n:Int)(ps:Aa)(I O F:Ac)(ld:Option Int):(Wh n ps I O F ld).Pairwise (·<·):=((JS _).filter _).filter _
def Tq(g:Zy n ps)(ld:Option Int)(h:∃U,With n ps I O U):∃F inc fu,PartOk n ps I O ld F inc fu:=by
 let⟨L,l1,l2⟩:=kg g;let⟨U,hU⟩:=h;obtain⟨F,hF,hm⟩:∃F,With n ps I O F/\∀U,With n ps I O U->HT.lexLt U F=false:=by
  let key:∀M:Ab,M.Pairwise Vj->(∃U∈M,With n ps I O U)->∃F∈M,With n ps I O F/\∀U∈M,With n ps I O U->HT.lexLt U F=false:=by
   intro M
   induction M with
   |nil=>rintro _ ⟨U,h,_⟩;cases h
   |cons x M ih=>
    intro hp hex;let⟨p1,p2⟩:=YZ.mp hp;cases c:With n ps I O x
    .exists x,Yd,c,λV hV _=>?_;rcases Yi.mp hV with e|e
     .rw[e];show WU x
     .cases q:HT.lexLt V x with
      |false=>rfl
      |true=>
       let z:=Wv q (p1 V e);rw[WU]at z;cases z
    .let⟨V,hV,hw⟩:=hex;let⟨F,hF,a,b⟩:=ih p2 ⟨V,(Yi.mp hV).resolve_left λe=>c<|e▸hw,hw⟩;exists F,Yf _ hF,a,λV hV hw=>?_;rcases Yi.mp hV with e|e
     .show absurd (e▸hw) c
     .show b V e hw
  let⟨F,_,a,b⟩:=key L l2 ⟨U,(l1 U).mpr hU.1,hU⟩;exists F,a,λV hV=>b V ((l1 V).mpr hV.1) hV
 let⟨inc,hi⟩:=jx (λz=>PyProof.Rows.b2i<|decide<|ld=some z) (Ua n ps I O F ld);let VH:=Aq n ps I O F ld
 cases hu:Wh n ps I O F ld with
 |nil=>exists F,inc,none,hF,hm,hi,⟨λ_=>hu,λ_=>rfl⟩,λy h=>by cases h
 |cons y l=>
  rw[hu]at VH;exists F,inc,some y,hF,hm,hi,⟨λh=>(by cases h),λh=>(by rw[hu]at h;cases h)⟩,λv h=>?_;cases h;rw[hu];exists Yd,λv hv=>?_;rcases Yi.mp hv with e|e
  .rw[e];show IS _
  .show Mw ((YZ.mp VH).1 v e)
inductive RowR(n:Int)(ps:Aa):Nat->Ac->Ac->Option Int->Ab->Prop
 |und {d:Nat} {I O F inc:Ac} {ld:Option Int}:PartOk n ps I O ld F inc none->inc.length<=30->(∀z∈inc,z∉F/\0<=z/\z<ps⁻¹)->RowR n ps d I O ld (Av n ps I F inc)
 |div {d:Nat} {I O F inc:Ac} {z y:Int} {A sO:Ab}:PartOk n ps I O (some z) F inc (some y)->(I++[z]).Nodup->(∀v∈I++[z],0<=v/\v<ps⁻¹)->(∀v∈I++[z],v∉O)->(O++[z]).length<=30->(∃U,With n ps (I++[z]) O U)->(∃U,With n ps I (O++[z]) U)->0<=y->y<ps⁻¹->PC n ps I (O++[z]) A.length->RowR n ps d I (O++[z]) (some y) A->RowR n ps d (I++[z]) O (some y) sO->RowR n ps (d+1) I O (some z) (A++sO.reverse)
def Zh8{key:Int->Int}(h:RF key ns ms)(h':RF key ns ms'):ms=ms':=by
 let⟨p,h1,h2,rfl⟩:=h;let⟨p',EN,jw,rfl⟩:=h';let e:p=p':=DU (le:=Ahd λi=>key<|ns.getD i 0) (λa b _ _ x y=>by unfold Ahd at x y;omega) h2 jw (h1.trans EN.symm)
 rw[e]
def PartOk.uniq{n:Int}{ps:Aa}{I O F F' inc VG:Ac}{ld fu EI:Option Int}(h1:PartOk n ps I O ld F inc fu)(h2:PartOk n ps I O ld F' VG EI):F=F'/\inc=VG/\fu=EI:=by
 let eF:F=F':=Xv (h2.least F h1.tr) (h1.least F' h2.tr);subst eF;exists Z,Zh8 h1.inc h2.inc,?_;cases fu with
 |none=>
  cases EI with
  |none=>rfl
  |some y=>
   have:=(h2.some y Z).1
   rw[h1.none.mp Z]at this;cases this
 |some y=>
  cases EI with
  |none=>
   have:=(h1.some y Z).1
   rw[h2.none.mp Z]at this;cases this
  |some y'=>
   let⟨a1,a2⟩:=h1.some y rfl;let⟨b1,b2⟩:=h2.some y' rfl
   have:=a2 y' b1
   have:=b2 y a1
   rw[show y=y' by omega]
def RowW(n:Int)(ps:Aa)(R:Ab):(Prop):=∃ld F inc fu,PartOk n ps [] [] ld F inc fu/\(ld=none↔Xl n ps [] [] F=[])/\(∀y,ld=some y->y∈Xl n ps [] [] F/\∀z∈Xl n ps [] [] F,y<=z)/\RowR n ps 31 [] [] ld R/\TC n ps R.length
section
variable{n:Int}{ps:Aa}{I O F:Ac}{y z:Int}(g:Zy n ps)
include g
def ZM(XE:∀v∈I,0<=v/\v<ps⁻¹):z∈Xl n ps I O F↔(0<=z/\z<ps⁻¹)/\z∉I/\z∉O/\z∉F/\¬Conn (XU ps I) (Zq ps z).1 (Zq ps z).2:=by
 unfold Xl MR;rw[Ya,Xr,YL];constructor
 .rintro⟨h,h1,h2⟩;let a:=Tv (z:=z) g h.1 h.2
  exists h,λq=>h1<|Yg _<|Yg _ q,λq=>h1<|Yg _<|Yj _ q,λq=>h1<|Yj _ q,λc=>h2<|(Ro (ZR g XE) a.1 a.2).mpr c
 .rintro⟨h,h1,h2,h3,h4⟩;let a:=Tv (z:=z) g h.1 h.2
  exists h,λq=>?_,λe=>h4<|(Ro (ZR g XE) a.1 a.2).mp e;rcases XA.mp q with q|q
  .rcases XA.mp q with q|q
   .show h1 q
   .show h2 q
  .show h3 q
def EH(XE:∀v∈I,0<=v/\v<ps⁻¹)(hF:With n ps I O F)(hz:z∈Xl n ps I O F):∃U,With n ps (I++[z]) O U:=by
 let⟨⟨z0,z1⟩,zI,zO,zF,hc⟩:=(ZM g XE).mp hz;obtain⟨o,ho,hoI⟩:∃o,o∈Td n ps F z F/\o∉I:=Yz λno=>hc ((Bx g hF.1 z0 z1).mono (ZW λv hv=>Yz λh=>no ⟨v,hv,h⟩));let⟨h5,h6⟩:=Xh.mp ho;let he:exg n ps F o z:=⟨h5,λe=>zF (by rwa[e]),h6⟩
 let hw:=EJ g hF he hoI zO (UX F o z) (MQ F o z);exists xchT F o z,hw.1,λv hv=>?_,hw.2.2;rcases XA.mp hv with hv|hv
 .show hw.2.1 v hv
 .rw[XG.mp hv];show XH.mpr (.inr Z)
def Ap(XE:∀v∈I,0<=v/\v<ps⁻¹)(y0:0<=y/\y<ps⁻¹)(z0:0<=z/\z<ps⁻¹)(h:(Conn (XU ps I) (Zq ps y).1 (Zq ps z).1/\Conn (XU ps I) (Zq ps z).2 (Zq ps y).2)\/(Conn (XU ps I) (Zq ps y).1 (Zq ps z).2/\Conn (XU ps I) (Zq ps z).1 (Zq ps y).2)):VV (XB n.toNat (XU ps I)) ps y=VV (XB n.toNat (XU ps I)) ps z:=by
 let Wu:=ZR g XE;let a:=Tv (z:=y) g y0.1 y0.2
 let b:=Tv (z:=z) g z0.1 z0.2;rw[<-Ro Wu a.1 b.1,<-Ro Wu b.2 a.2,<-Ro Wu a.1 b.2,<-Ro Wu b.1 a.2]at h;change(min (mk (XB n.toNat<|XU ps I) (Zq ps y).1)<|mk (XB n.toNat<|XU ps I) (Zq ps y).2,max (mk (XB n.toNat<|XU ps I) (Zq ps y).1)<|mk (XB n.toNat<|XU ps I) (Zq ps y).2)=(min (mk (XB n.toNat<|XU ps I) (Zq ps z).1)<|mk (XB n.toNat<|XU ps I) (Zq ps z).2,max (mk (XB n.toNat<|XU ps I) (Zq ps z).1)<|mk (XB n.toNat<|XU ps I) (Zq ps z).2)
 rcases h with ⟨e1,e2⟩|⟨e1,e2⟩
 .rw[e1,<-e2]
 .rw[e1,<-e2,Int.min_comm,Int.max_comm]
end
section
variable{n:Int}{ps:Aa}(g:Zy n ps)
include g
def Jv(d:Nat)(hP:PartOk n ps I O ld F inc fu)(XE:∀v∈I,0<=v/\v<ps⁻¹)(hu:Wh n ps I O F ld=[]):∃R,RowR n ps d I O ld R/\RowAll n ps I O R:=by
 let rfl:=hP.none.mpr hu;let hp:=GO hP.inc
 let Ts:(Ua n ps I O F ld).Nodup:=((((JS _).imp λh e=>by lia:(VJ ps.length).Nodup)).filter _).filter _;let Sz:∀z,z∈inc↔z∈Xl n ps I O F:=λz=>by
  rw[hp.mem_iff];constructor
  .show λh=>(Ya.mp h).1
  .intro h;show Yz λno=>?_
   have:z∈Wh n ps I O F ld:=Ya.mpr ⟨h,Yv no⟩
   rw[hu]at this;cases this
 let hlen:inc.length<=30:=by rw[hp.length_eq];show Yn (Yr ..) (Yn (Lh _ _ _ _) g.2.2.1)
 exists _,.und hP hlen λz hz=>by let⟨h1,_,_,h2,_⟩:=(ZM g XE).mp ((Sz z).mp hz);show⟨h2,h1⟩,Ar g XE hP.tr hu Sz<|hp.nodup_iff.mpr Ts
def jv:∀d I O F inc ld fu,PartOk n ps I O ld F inc fu->I.Nodup->(∀v∈I,0<=v/\v<ps⁻¹)->(∀v∈I,v∉O)->O.Nodup->(∀v∈O,0<=v/\v<ps⁻¹)->(ld=none->Xl n ps I O F=[])->(∀z,ld=some z->z∈Xl n ps I O F)->ps.length<=d+I.length+O.length->∃R,RowR n ps d I O ld R/\RowAll n ps I O R:=by
 intro d
 induction d with
 |zero=>
  intro I O F inc ld fu hP hIn XE Ud vq vp _ _ hm;show Jv g 0 hP XE ?_;let vt:Xl n ps I O F=[]:=FW.mpr λz hz=>by
   let⟨h1,h2,h3,_⟩:=(ZM g XE).mp hz;let nd:(z::(I++O)).Nodup:=Qi.mpr ⟨λh=>(XA.mp h).elim h2 h3,Wo.mpr ⟨hIn,vq,λa ha b hb e=>Ud a ha<|e▸hb⟩⟩
   have:=Hn (m:=VJ ps.length) nd λv hv=>Xr.mpr (by
    rcases Yi.mp hv with e|e
    .rw[e];show h1
    .show(XA.mp e).elim (XE v) (vp v))
   rw[ZN,YI,Xt]at this;lia
  unfold Wh;rw[vt];rfl
 |succ d ih=>
  intro I O F inc ld fu hP hIn XE Ud vq vp Oa Ta hm;cases hu:Wh n ps I O F ld=[]
  .show Jv g _ hP XE hu
  obtain⟨y,rfl⟩:∃y,fu=some y:=by
   cases fu with
   |none=>show absurd (hP.none.mp Z) hu
   |some y=>exists y,Z
  let⟨yu,_⟩:=hP.some y rfl;let⟨yo,ya⟩:=Ya.mp yu;let ya:=Yt ya
  obtain⟨z,rfl⟩:∃z,ld=some z:=by
   cases ld with
   |none=>rw[Oa Z]at yo;cases yo
   |some z=>exists z,Z
  let zo:=Ta z rfl;let⟨Le,yI,yO,yF,yc⟩:=(ZM g XE).mp yo;let⟨Ju,zI,zO,zF,zc⟩:=(ZM g XE).mp zo;let XN:VV (XB n.toNat<|XU ps I) ps y≠VV (XB n.toNat<|XU ps I) ps z:=λe=>ya (Ya.mpr ⟨yo,Yv ⟨z,Z,e⟩⟩)
  let yz:y≠z:=λe=>XN (by rw[e]);let hIz:(I++[z]).Nodup:=Wo.mpr ⟨hIn,B,λa ha b hb e=>zI<|by rwa[<-XG.mp hb,<-e]⟩
  let hOz:(O++[z]).Nodup:=Wo.mpr ⟨vq,B,λa ha b hb e=>zO<|by rwa[<-XG.mp hb,<-e]⟩;let Tp:∀v∈I++[z],0<=v/\v<ps⁻¹:=λv hv=>(XA.mp hv).elim (XE v) λh=>by rwa[XG.mp h]
  let Ao:∀v∈O++[z],0<=v/\v<ps⁻¹:=λv hv=>(XA.mp hv).elim (vp v) λh=>by rwa[XG.mp h]
  let NU:(O++[z]).length<=30:=by
   have:=Hn (m:=VJ ps.length) hOz λv hv=>Xr.mpr (Ao v hv)
   rw[ZN]at this
   have:=g.2.2.1
   lia
  let An:∀v∈I++[z],v∉O:=λv hv=>(XA.mp hv).elim (Ud v) λh=>by rwa[XG.mp h]
  let ju:∀v∈I,v∉O++[z]:=λv hv h=>(XA.mp h).elim (Ud v hv) λh=>zI (by rwa[<-XG.mp h]);let⟨s1,s2⟩:=Lg g hP.tr hP.least zF;let⟨F1,Ld,vo,Hc⟩:=Tq g (some y) ⟨F,s1⟩;let e1:F1=F:=Xv (s2 F1 Hc.tr) (Hc.least F s1)
  subst e1;let hW:=EH g XE hP.tr zo
  let⟨F2,GN,jt,Qr⟩:=Tq g (some y) hW;let yF2:y∉F2:=λh=>(GP g hP.tr hP.least Qr.tr Qr.least y h).elim yF yz
  let⟨A,JX,Sl⟩:=ih I (O++[z]) F1 Ld (some y) vo Hc hIn XE ju hOz Ao (λh=>by cases h) (λv h=>by cases h;show(ZM g XE).mpr ⟨Le,yI,λh=>(XA.mp h).elim yO λh=>yz<|XG.mp h,yF,yc⟩) (by rw[Xt,Yx];lia)
  let⟨sO,cI,LR⟩:=ih (I++[z]) O F2 GN (some y) jt Qr hIz Tp An vq vp (λh=>by cases h) (λv h=>by
   cases h;show(ZM g Tp).mpr ⟨Le,λh=>(XA.mp h).elim yI λh=>yz<|XG.mp h,yO,yF2,λc=>?_⟩;let e:XU ps (I++[z])=XU ps I++[((Zq ps z).1,(Zq ps z).2)]:=YK
   rw[e]at c;rcases ZD5 c with h|h
   .show yc h
   .show XN<|Ap g XE Le Ju h) (by rw[Xt,Yx];lia)
  exists _,.div hP hIz Tp An NU hW ⟨F1,s1⟩ Le.1 Le.2 Sl.pc JX cI,ZQ6 Sl LR
def js(h:∃U,Ze n ps U):∃R,RowW n ps R/\R.Nodup/\∀T,T∈R↔Ze n ps T:=by
 let⟨U,hU⟩:=h;let hw:∀T,With n ps [] [] T↔Ze n ps T:=λT=>⟨λh=>h.1,λh=>⟨h,λz q=>(by cases q),λz q=>(by cases q)⟩⟩
 let⟨F,_,_,hP0⟩:=Tq g none ⟨U,(hw U).mpr hU⟩;let VH:(Xl n ps [] [] F).Pairwise (·<·):=(JS _).filter _
 obtain⟨ld,h1,h2⟩:∃ld:Option Int,(ld=none↔Xl n ps [] [] F=[])/\∀y,ld=some y->y∈Xl n ps [] [] F/\∀z∈Xl n ps [] [] F,y<=z:=by
  cases ho:Xl n ps [] [] F with
  |nil=>exists none,⟨λ_=>rfl,λ_=>rfl⟩,λy h=>by cases h
  |cons y l=>
   rw[ho]at VH;exists some y,⟨λh=>(by cases h),λh=>(by cases h)⟩,λv h=>?_;cases h;exists Yd,λv hv=>?_;rcases Yi.mp hv with e|e
   .rw[e];show IS _
   .show Mw ((YZ.mp VH).1 v e)
 let⟨F',inc,fu,hP⟩:=Tq g ld ⟨U,(hw U).mpr hU⟩;let eF:F'=F:=Xv (hP0.least F' hP.tr) (hP.least F hP0.tr)
 subst eF;let⟨R,r1,r2⟩:=jv g 31 [] [] F' inc ld fu hP .nil (λv h=>by cases h) (λv h=>by cases h) .nil (λv h=>by cases h) (λe=>h1.mp e) (λz e=>(h2 z e).1) (by have:=g.2.2.1;simp;lia);exists R,⟨ld,F',inc,fu,hP,h1,h2,r1,R,r2.1,λl=>(r2.2 l).trans (hw l),Z⟩,r2.1,λT=>(r2.2 T).trans (hw T)
end
def ZQ9{mg:Af}:FnOk P w K mg base Xd k f fd ps λ_ _ _ _=>False:=⟨λ_ _ _ _ h=>h.elim,λ_ _ _ _ _ _ _ _ _ _ _ _ _ h=>h.elim⟩
def Am(g:Zy n ps)(h:RowR n ps d I O ld R):∀T∈R,With n ps I O T:=by
 induction h with
 |und hP _ _=>
  intro T hT;rcases Yi.mp hT with e|e
  .rw[e];show hP.tr
  .let⟨z,hz,o,ho,rfl⟩:=Vv.mp e;show Zw6 g hP.tr (Ya.mp<|(GO hP.inc).mem_iff.mp hz).1 ho
 |div _ _ _ _ _ _ _ _ _ _ _ _ Al jr=>
  intro T hT;rcases XA.mp hT with h|h
  .show Wr.mpr (.inl<|Al T h)
  .show Wr.mpr (.inr<|jr T<|Se.mp h)
def jq{key:Int->Int}(h:RF key ns ms):ms.Pairwise λa b=>key a<=key b:=by
 let⟨p,h1,h2,rfl⟩:=h;show Nt.mpr (h2.imp λ{a b} h=>?_);let h:key (ns.getD a 0)<key (ns.getD b 0)\/(key (ns.getD a 0)=key (ns.getD b 0)/\a<b):=h
 lia
def Yz6{k:Int->Int}:∀{l:Ac},(∀a∈l,k a=0\/k a=1)->l.Pairwise (λa b=>k a<=k b)->∃l1 l2,l=l1++l2/\(∀a∈l1,k a=0)/\∀a∈l2,k a=1
 |[],_,_=>⟨[],[],Z,λa h=>(by cases h),λa h=>(by cases h)⟩
 |a::l,h0,h=>by
  let⟨p1,p2⟩:=YZ.mp h;rcases h0 a Yd with e|e
  .let⟨l1,l2,rfl,q1,q2⟩:=Yz6 (λb hb=>h0 b<|Yf _ hb) p2;exists a::l1,l2,Z,λb hb=>(Yi.mp hb).elim (λz=>z▸e) (q1 b),q2
  .exists [],a::l,Z,λa h=>(by cases h),λb hb=>?_;rcases Yi.mp hb with z|z
   .rw[z];show e
   .have:=p1 b z
    have:=h0 b (Yf _ z)
    lia
def VU{z a:Int}:(PyProof.Rows.b2i (decide (some z=some a))=0↔a≠z)/\(PyProof.Rows.b2i (decide (some z=some a))=1↔a=z):=by
 cases c:a=z
 .subst c;simp[PyProof.Rows.b2i]
 .simp[PyProof.Rows.b2i,c,Xa c]
def ZD8{ns ms:Ac}{z:Int}(h:RF (λa=>PyProof.Rows.b2i (decide (some z=some a))) ns ms):∃l1 l2,ms=l1++l2/\(∀a∈l1,a≠z)/\∀a∈l2,a=z:=by
 let⟨l1,l2,e,h1,h2⟩:=Yz6 (λa _=>by
  cases c:a=z
  .show .inr (VU.2.mpr c)
  .show .inl<|VU.1.mpr c) (jq h)
 exists l1,l2,e,λa ha=>VU.1.mp<|h1 a ha,λa ha=>VU.2.mp<|h2 a ha
def Lc{z:Int}(h:z∈Xl n ps I O F):z∉F:=λq=>(Yt (Ya.mp h).2).1 (Yj _ q)
def vn{y z:Int}(h:y∈Wh n ps I O F (some z)):y∉F/\y≠z:=by let⟨h1,h2⟩:=Ya.mp h;exists Lc h1,λe=>Yt h2<|Ya.mpr ⟨h1,Yv ⟨z,Z,by rw[e]⟩⟩
section
variable{n:Int}{ps:Aa}{d:Nat}{I O:Ac}{R:Ab}(g:Zy n ps)
include g
def Ak(h:RowR n ps d I O ld R):∀F,With n ps I O F->(∀U,With n ps I O U->HT.lexLt U F=false)->(∀z,ld=some z->z∉F)->R[0]?=some F:=by
 induction h with
 |und hP _ _=>
  intro F hF hm _;rw[Xv (hP.least F hF) (hm _ hP.tr)];rfl
 |div hP _ _ _ _ _ _ _ _ _ _ _ Al _=>
  intro F hF hm hz;let⟨s1,s2⟩:=Lg g hF hm (hz _ Z);let e:=Xv (hP.least F hF) (hm _ hP.tr)
  have:=Al F s1 s2 λy' e'=>by cases e';rw[e];show(vn (hP.some _ Z).1).1
  rw[Yp (Xx.mp this).1,this]
end
def NT(T U:Ac):(Prop):=(T.filter λy=>decide<|y∉U).length=1
def Aj{a:Int}(hT:T.Nodup)(ha:a∈T)(hU:a∉U)(h:∀v∈T,v∈U\/v=a):NT T U:=by
 let p:(T.filter λy=>decide<|y∉U).Perm [a]:=(Us (hT.filter _) B).mpr λv=>by
  rw[Ya,YL,XG];constructor
  .show λq=>(h v q.1).resolve_left q.2
  .rintro rfl;exists ha,hU
 show p.length_eq
def ZE6(hT:Ze n ps T)(hU:Ze n ps U)(h:NT T U):NT U T:=(j9 hU hT).trans h
def Adj{α:Type}(P:α->α->Prop)(l:List α):(Prop):=∀i a b,l[i]?=some a->l[i+1]?=some b->P a b
def Adj.nil{α:Type}{P:α->α->Prop}:Adj P []:=λi a b h=>by simp at h
def Adj.one{α:Type}{P:α->α->Prop}{x:α}:Adj P [x]:=λi a b _ h=>by simp at h
def Adj.append{α:Type}{P:α->α->Prop}{l m:List α}(h1:Adj P l)(h2:Adj P m)(h:∀a b,l[l.length-1]?=some a->m[0]?=some b->P a b):Adj P (l++m):=λi a b ha hb=>by
 cases c:i+1<l.length
 .rw[Yp J]at ha hb;show h1 i a b ha hb
 .rw[Ym J]at hb;cases c':i<l.length
  .rw[Yp c',show i=l.length-1 by lia]at ha;rw[show i+1-l.length=0 by omega]at hb;show h a b ha hb
  .rw[Ym D]at ha;rw[show i+1-l.length=i-l.length+1 by grind]at hb;show h2 _ a b ha hb
def Adj.rev{α:Type}{P:α->α->Prop}{l:List α}(h:Adj P l)(hs:∀a∈l,∀b∈l,P a b->P b a):Adj P l.reverse:=λi a b ha hb=>by
 let hi:=(Xx.mp hb).1;rw[YN]at hi;rw[KH D]at ha hb
 have:=h (l.length-1-(i+1)) b a hb (by rwa[show l.length-1-(i+1)+1=l.length-1-i by grind])
 show hs b (Xj hb) a (Xj ha) this
def Zm7{α:Type}(l:List α):l.reverse[l.reverse.length-1]?=l[0]?:=by
 cases l with
 |nil=>rfl
 |cons x l=>
  rw[YN,KH B];simp
def Zs5{α:Type}(l:List α):l.reverse[0]?=l[l.length-1]?:=by
 cases l with
 |nil=>rfl
 |cons x l=>rw[KH B];simp
def Ze9(hF:F.Nodup)(hz:z∉F):(xchT F o z).Nodup:=(UX F o z).nodup_iff.mpr (Wo.mpr ⟨hF.filter _,B,λa ha b hb e=>hz<|by rw[<-XG.mp hb,<-e];show(Ya.mp ha).1⟩)
def Zy6{n:Int}{ps:Aa}{I F L:Ac}(hF:F.Nodup)(hL:L.Nodup)(jo:∀o∈L,o∈F):∀l asc,l.Nodup->(∀z∈l,z∉F)->(∀z∈l,WX n ps I F z=L)->Adj NT (Vi n ps I F l asc)/\∀U,(Vi n ps I F l asc)[0]?=some U->∃o z,l[0]?=some z/\(if asc then L[0]? else L[L.length-1]?)=some o/\U=xchT F o z
 |[],asc,_,_,_=>⟨Adj.nil,λU h=>by simp[Vi]at h⟩
 |z::l,asc,hn,hz,hl=>by
  let⟨n1,n2⟩:=Qi.mp hn;let⟨Oj,Sh⟩:=Zy6 hF hL jo l (!asc) n2 (λv hv=>hz v<|Yf _ hv) λv hv=>hl v (Yf _ hv);let zF:=hz z Yd
  let e0:WX n ps I F z=L:=hl z Yd;let same:∀o∈L,∀o'∈L,o≠o'->NT (xchT F o z) (xchT F o' z):=λo ho o' UW ne=>Aj (a:=o') (Ze9 hF zF) (XH.mpr<|.inl ⟨jo o' UW,Xa ne⟩) (λh=>by
   rcases XH.mp h with q|q
   .show q.2 rfl
   .show zF<|q▸jo o' UW) λv hv=>by
   rcases XH.mp hv with q|q
   .cases c:v=o'
    .show .inr c
    .show .inl (XH.mpr<|.inl ⟨q.1,c⟩)
   .show .inl (XH.mpr<|.inr q)
  let am:Adj NT (L.map λo=>xchT F o z):=λi a b ha hb=>by
   rw[Ys]at ha hb;cases ea:L[i]? with
   |none=>rw[ea]at ha;cases ha
   |some o=>
    cases eb:L[i+1]? with
    |none=>rw[eb]at hb;cases hb
    |some o'=>
     rw[ea]at ha;rw[eb]at hb;cases ha;cases hb;show same o (Xj ea) o' (Xj eb) λe=>?_;subst e
     have:=(List.getElem?_inj (Xx.mp ea).1 hL).mp (ea.trans eb.symm)
     lia
  let ar:Adj NT (Vw n ps I F asc z):=by
   unfold Vw;rw[e0];cases asc with
   |true=>show am
   |false=>
    show am.rev λa ha b hb _=>?_;let⟨o,ho,rfl⟩:=YR.mp ha;let⟨o',UW,rfl⟩:=YR.mp hb;cases c:o'=o
    .rename_i h;subst c;show h
    .show same o' UW o ho c
  let hlen:(L.map λo=>xchT F o z).length=L.length:=Yc _;let last:∀U,(Vw n ps I F asc z)[(Vw n ps I F asc z).length-1]?=some U->∃o∈L,(if asc then L[L.length-1]? else L[0]?)=some o/\U=xchT F o z:=λU h=>by
   unfold Vw at h;rw[e0]at h;cases asc with
   |true=>
    rw[if_pos Z,hlen,Ys]at h;cases e:L[L.length-1]? with
    |none=>rw[e]at h;cases h
    |some o=>rw[e]at h;cases h;exists o,Xj e,Z,Z
   |false=>
    rw[if_neg sT,Zm7,Ys]at h;cases e:L[0]? with
    |none=>rw[e]at h;cases h
    |some o=>rw[e]at h;cases h;exists o,Xj e,Z,Z
  let head:∀U,(Vw n ps I F asc z)[0]?=some U->∃o,(if asc then L[0]? else L[L.length-1]?)=some o/\U=xchT F o z:=λU h=>by
   unfold Vw at h;rw[e0]at h;cases asc with
   |true=>
    rw[if_pos Z,Ys]at h;cases e:L[0]? with
    |none=>rw[e]at h;cases h
    |some o=>rw[e]at h;cases h;exists o,Z,Z
   |false=>
    rw[if_neg sT,Zs5,hlen,Ys]at h;cases e:L[L.length-1]? with
    |none=>rw[e]at h;cases h
    |some o=>rw[e]at h;cases h;exists o,Z,Z
  exists ar.append Oj λa b ha hb=>?_,λU h=>?_
  .let⟨o,ho,e1,rfl⟩:=last a ha;let⟨o',z',wg,e2,rfl⟩:=Sh b hb;let eo:o'=o:=by
    cases asc with
    |true=>show(Ye<|e1.symm.trans e2).symm
    |false=>show(Ye<|e1.symm.trans e2).symm
   subst eo;let zl:=Xj wg
   show Aj (a:=z) (Ze9 hF zF) (XH.mpr<|.inr Z) (λh=>?_) λv hv=>?_
   .rcases XH.mp h with q|q
    .show zF q.1
    .show n1 (q▸zl)
   .rcases XH.mp hv with q|q
    .show .inl (XH.mpr<|.inl q)
    .show .inr q
  .cases hh:Vw n ps I F asc z with
   |cons x r=>
    let h':(Vw n ps I F asc z)[0]?=some U:=by
     have:=h
     unfold Vi at this;rw[hh]at this ⊢;show this
    let⟨o,e1,e2⟩:=head U h';exists o,z,Z,e1,e2
   |nil=>
    exfalso;let hL0:L=[]:=by
     have:(Vw n ps I F asc z).length=L.length:=by unfold Vw;rw[e0];cases asc<;>simp
     rw[hh]at this;show YX.mp this.symm
    let⟨o,z',_,e2,_⟩:=Sh U (by have:=h;unfold Vi at this;rwa[hh]at this);rw[hL0]at e2;cases asc<;>simp at e2
section
variable{n:Int}{ps:Aa}{d:Nat}{I O F T:Ac}{R:Ab}{y z:Int}(g:Zy n ps)
include g
def ZK9(hF:With n ps I O F)(hz:z∉F)(VY:∀U,With n ps I O U->HT.lexLt U F=false)(hT:With n ps (I++[z]) O T)(Jw:∀U,With n ps (I++[z]) O U->HT.lexLt U T=false):∃o∈WX n ps I F z,T=xchT F o z/\∀o'∈WX n ps I F z,o'<=o:=by
 let half:=GP g hF VY hT Jw;let zT:z∈T:=hT.2.1 z B
 let⟨o,e1,e2⟩:=nr g hT.1 hF.1 zT hz;let oT:o∉T:=((Ff g hT.1).mp e1).2.1
 let oI:o∉I:=λh=>oT (hT.2.1 o<|Yg _ h);let zO:z∉O:=λh=>hT.2.2 z h zT
 let hM:=Cm g hF.1 e2 (UX F o z) (MQ F o z);let eT:T=xchT F o z:=jQ g hT.1 hM λv hv=>XH.mpr <| by
  rcases half v hv with q|q
  .show .inl ⟨q,λe=>oT<|by rwa[<-e]⟩
  .show .inr q
 exists o,Ya.mpr ⟨Xh.mpr ⟨e2.1,e2.2.2⟩,Yv oI⟩,eT,λo' UW=>Yz λno=>?_;let⟨h3,h4⟩:=Ya.mp UW;let⟨h5,h6⟩:=Xh.mp h3;let he:exg n ps F o' z:=⟨h5,λe=>hz (by rwa[e]),h6⟩
 let w:=EJ g hF he (Yt h4) zO (UX F o' z) (MQ F o' z);let w2:With n ps (I++[z]) O (xchT F o' z):=(Wr (z:=z).mp w).resolve_left λq=>q.2.2 z B (XH.mpr<|.inr Z)
 let lt:HT.lexLt (xchT F o' z) T=true:=by
  show(ki (XS.mp w.1.1).2 (XS.mp hT.1.1).2 (by have:=w.1.2.1;have:=hT.1.2.1;lia)).mpr ⟨o,XH.mpr<|.inl ⟨e2.1,λe=>no J⟩,oT,λs hs=>?_⟩;rw[eT,XH,XH];constructor
  .rintro(q|q)
   .show .inl ⟨q.1,J⟩
   .show .inr q
  .rintro(q|q)
   .show .inl ⟨q.1,J⟩
   .show .inr q
 rw[Jw _ w2]at lt;cases lt
def vm(XE:∀v∈I,0<=v/\v<ps⁻¹)(h:RowR n ps d I O (some z) R)(hF:With n ps I O F)(VY:∀U,With n ps I O U->HT.lexLt U F=false)(hz:z∉F)(hT:With n ps (I++[z]) O T)(Jw:∀U,With n ps (I++[z]) O U->HT.lexLt U T=false):R[R.length-1]?=some T:=by
 cases h with
 |und hP hl hi=>
  rename_i F' inc;let eF:=Xv (hP.least F hF) (VY _ hP.tr)
  subst eF;let⟨o,ho,eT,jn⟩:=ZK9 g hF hz VY hT Jw;let zo:z∈Xl n ps I O F:=Lf g XE (Wr.mpr<|.inr hT) hF.2.1 (hT.2.1 z B) hz
  let za:z∈Ua n ps I O F (some z):=Ya.mpr ⟨zo,Yv ⟨z,Z,Z⟩⟩;let hp:=GO hP.inc
  let Ts:inc.Nodup:=hp.nodup_iff.mpr (((((JS _).imp λh e=>by lia:(VJ ps.length).Nodup)).filter _).filter _);let zi:=hp.mem_iff.mpr za
  let⟨l1,l2,rfl,q1,q2⟩:=ZD8 hP.inc;let e2:l2=[z]:=by
   let⟨_,n2,_⟩:=Wo.mp Ts;let zl:z∈l2:=(XA.mp zi).resolve_left λh=>q1 z h rfl
   match l2,zl,n2,q2 with
   |[a],_,_,q=>rw[q a B]
   |a::b::r,_,nd,q=>
    let e1:=q a B;let e2:=q b B
    rw[e1,e2]at nd;simp at nd
  subst e2;let flag:(((l1++[z]).length%2 == 1) != (l1.length%2 == 1))=true:=by
   rw[Xt,Yx];rcases uC l1.length with c|c
   .rw[c,show(l1.length+1)%2=1 by lia];rfl
   .rw[c,show(l1.length+1)%2=0 by lia];rfl
  unfold Av;rw[vw,flag];unfold Vw;rw[if_pos Z];let asc:(WX n ps I F z).Pairwise (·<·):=(((XS.mp hF.1.1).2).filter _).filter _
  let pos:=FR ho;let lo:(WX n ps I F z)[(WX n ps I F z).length-1]?=some o:=by
   let⟨i,hi,e⟩:=xX ho;cases c:i=(WX n ps I F z).length-1
   .rw[<-c,Xq hi,e]
   .let lt:=Nx.mp asc i ((WX n ps I F z).length-1) hi D J;let le:=jn _ (TL<|show(WX n ps I F z).length-1<_ by omega)
    rw[e]at lt;lia
  change((F::Vi n ps I F l1 ((l1++[z]).length%2 == 1))++(WX n ps I F z).map λo=>xchT F o z)[_]?=_;rw[Ym (by simp;lia),Ys]
  have:((F::(Vi n ps I F l1 ((l1++[z]).length%2 == 1)++(WX n ps I F z).map λo=>xchT F o z)).length-1-(F::Vi n ps I F l1 ((l1++[z]).length%2 == 1)).length)=(WX n ps I F z).length-1:=by
   simp;lia
  rw[this,lo,eT];rfl
 |div hP a1 a2 a3 a4 a5 a6 a7 a8 a9 hA hB=>
  rename_i d F' inc y A sO;let eF:=Xv (hP.least F hF) (VY _ hP.tr)
  subst eF;let⟨yF,yz⟩:=vn (hP.some _ Z).1;let hf:=Ak g hB T hT Jw λv e=>by cases e;show λq=>(GP g hF VY hT Jw y q).elim yF yz
  let hb:=(Xx.mp hf).1;rw[<-Zm7]at hf;rw[Ym (by rw[Xt,YN];lia)];rw[YN]at hf;rwa[show(A++sO.reverse).length-1-A.length=sO.length-1 by rw[Xt,YN];lia]
def Zg9(XE:∀v∈I,0<=v/\v<ps⁻¹)(hF:With n ps I O F)(y0:0<=y/\y<ps⁻¹)(z0:0<=z/\z<ps⁻¹)(h:VV (XB n.toNat (XU ps I)) ps y=VV (XB n.toNat (XU ps I)) ps z):WX n ps I F y=WX n ps I F z:=by
 let key:∀a∈F,a∉I->(y∈UI n ps F a↔z∈UI n ps F a):=λa ha hn=>by
  rw[Va g hF.1 y0.1 y0.2,Va g hF.1 z0.1 z0.2];show not_congr ?_;let up:∀{i j},Conn (XU ps I) i j->Conn (XU ps<|wo F a) i j:=λc=>c.mono (ZW λv hv=>Xi.mpr ⟨hF.2.1 v hv,λe=>hn<|by rwa[<-e]⟩)
  rcases ZF7 g XE y0.1 y0.2 z0.1 z0.2 h with ⟨a,b⟩|⟨a,b⟩
  .exists λc=>((up a).symm.trans c).trans (up b),λc=>((up a).trans c).trans (up b).symm
  .exists λc=>((up b).symm.trans c.symm).trans (up a),λc=>((up a).trans c.symm).trans (up b).symm
 unfold WX Td;rw[t7,t7];show Nr λa ha=>?_;cases c:a∈I
 .simp[c]
 .have:=key a ha c
  unfold UI at this;simp[c,this]
def jm(XE:∀v∈I,0<=v/\v<ps⁻¹)(hF:With n ps I O F)(VY:∀U,With n ps I O U->HT.lexLt U F=false)(hz:z∈Xl n ps I O F)(hy:y∈Wh n ps I O F (some z)):y∈Xl n ps I (O++[z]) F/\(With n ps (I++[z]) O F2->(∀U,With n ps (I++[z]) O U->HT.lexLt U F2=false)->y∈Xl n ps (I++[z]) O F2):=by
 let⟨yF,yz⟩:=vn hy;let⟨yo,ya⟩:=Ya.mp hy;let⟨Le,yI,yO,_,yc⟩:=(ZM g XE).mp yo;let⟨Ju,zI,zO,zF,zc⟩:=(ZM g XE).mp hz;exists (ZM g XE).mpr ⟨Le,yI,λh=>(XA.mp h).elim yO λh=>yz<|XG.mp h,yF,yc⟩,λh2 h2m=>?_;let Tp:∀v∈I++[z],0<=v/\v<ps⁻¹:=λv hv=>(XA.mp hv).elim (XE v) λh=>by rwa[XG.mp h]
 show(ZM g Tp).mpr ⟨Le,λh=>(XA.mp h).elim yI λh=>yz<|XG.mp h,yO,λh=>(GP g hF VY h2 h2m y h).elim yF yz,λc=>?_⟩;let e:XU ps (I++[z])=XU ps I++[((Zq ps z).1,(Zq ps z).2)]:=YK
 rw[e]at c;rcases ZD5 c with h|h
 .show yc h
 .show Yt ya (Ya.mpr ⟨yo,Yv ⟨z,Z,Ap g XE Le Ju h⟩⟩)
end
def Zk8(g:Zy n ps)(h:RowR n ps d I O ld R):(∀v∈I,0<=v/\v<ps⁻¹)->(∀F z,With n ps I O F->(∀U,With n ps I O U->HT.lexLt U F=false)->ld=some z->z∈Xl n ps I O F)->Adj NT R:=by
 induction h with
 |@und d I O F inc ld hP hl hi=>
  intro XE Ai;let hp:=GO hP.inc
  let Ts:inc.Nodup:=hp.nodup_iff.mpr (((((JS _).imp λh e=>by omega:(VJ ps.length).Nodup)).filter _).filter _);let jl:=hP.tr.1.1.nodup
  cases ld with
  |none=>
   let e:inc=[]:=by show FW.mpr λz hz=>?_;let⟨y,h,_⟩:=Yt (Ya.mp<|hp.mem_iff.mp hz).2;cases h
   subst e;show Adj.one
  |some z=>
   let zo:=Ai F z hP.tr hP.least rfl;let⟨Ju,_⟩:=(ZM g XE).mp zo;let⟨c1,c2⟩:=Zy6 (n:=n) (ps:=ps) (I:=I) (F:=F) (L:=WX n ps I F z) jl ((jl.filter _).filter _) (λo ho=>(Xh.mp (Ya.mp ho).1).1) inc (inc.length%2 == 1) Ts (λv hv=>(hi v hv).1) (λv hv=>by let⟨y,e,h⟩:=Yt (Ya.mp<|hp.mem_iff.mp hv).2;cases e;show Zg9 g XE hP.tr (hi v hv).2 Ju h)
   change Adj NT ([F]++Vi n ps I F inc (inc.length%2 == 1));show Adj.one.append c1 λa b ha hb=>?_;cases ha;let⟨o,v,hv,ho,rfl⟩:=c2 b hb;let vF:=(hi v<|Xj hv).1
   let oL:o∈WX n ps I F z:=by
    split at ho
    .show Xj ho
    .show Xj ho
   let oF:=(Xh.mp (Ya.mp oL).1).1;show Aj (a:=o) jl oF (λh=>?_) λw hw=>?_
   .rcases XH.mp h with q|q
    .show q.2 rfl
    .show vF (q▸oF)
   .cases c:w=o
    .show .inr c
    .show .inl (XH.mpr<|.inl ⟨hw,c⟩)
 |@div d I O F inc z y A sO hP hIn Tp Ud hO hW _ _ _ _ hA hB Al jr=>
  intro XE Ai;let zo:=Ai F z hP.tr hP.least rfl
  let zF:=Lc zo;let yu:=(hP.some y Z).1
  let⟨yF,yz⟩:=vn yu;let⟨s1,s2⟩:=Lg g hP.tr hP.least zF;let⟨F2,_,_,Qr⟩:=Tq g (some y) hW;let⟨y1,y2⟩:=jm (F2:=F2) g XE hP.tr hP.least zo yu;let y2:=y2 Qr.tr Qr.least
  let aA:=Al XE λF' v h1 h2 e=>by cases e;rwa[Xv (s2 F' h1) (h2 F s1)]
  let aB:=jr Tp λF' v h1 h2 e=>by cases e;rwa[Xv (Qr.least F' h1) (h2 F2 Qr.tr)]
  show aA.append (aB.rev λa ha b hb q=>ZE6 (Am g hB a ha).1 (Am g hB b hb).1 q) λa b ha hb=>?_;rw[Zs5]at hb;let⟨G,_,_,hG⟩:=Tq g none (EH g XE hP.tr (Ya.mp yu).1);let zG:z∉G:=λh=>(GP g hP.tr hP.least hG.tr hG.least z h).elim zF (Xa yz)
  let⟨g1,g2⟩:=Lg g hG.tr hG.least zG;let ea:=vm g XE hA s1 s2 yF g1 g2
  rw[<-Ye (ea.symm.trans ha)];let⟨T2,_,_,h2⟩:=Tq g none (EH g Tp Qr.tr y2);let eb:=vm g Tp hB Qr.tr Qr.least (Lc y2) h2.tr h2.least
  rw[<-Ye (eb.symm.trans hb)];let sw:∀U,With n ps (I++[z]++[y]) O U↔With n ps (I++[y]++[z]) O U:=λU=>by
   unfold With;show and_congr_right λ_=>and_congr_left λ_=>⟨λh v hv=>h v ?_,λh v hv=>h v ?_⟩
   all_goals
    simp only[XA,XG]at hv ⊢;rcases hv with (q|q)|q
    .show .inl (.inl q)
    .show .inr q
    .show .inl (.inr q)
  let hh:=GP g hG.tr hG.least ((sw T2).mp h2.tr) λU hU=>h2.least U ((sw U).mpr hU);show ZE6 h2.tr.1 g1.1 (Aj (a:=z) h2.tr.1.1.nodup (h2.tr.2.1 z B) zG λv hv=>hh v hv)
def Ah{l:Ac}{ld EG:Option Int}(h1:ld=none↔l=[])(h2:∀y,ld=some y->y∈l/\∀z∈l,y<=z)(EN:EG=none↔l=[])(jw:∀y,EG=some y->y∈l/\∀z∈l,y<=z):ld=EG:=by
 cases ld with
 |none=>show(EN.mpr<|h1.mp Z).symm
 |some y=>
  cases EG with
  |none=>show absurd (h1.mpr<|EN.mp Z) B
  |some y'=>
   let⟨a1,a2⟩:=h2 y rfl;let⟨b1,b2⟩:=jw y' rfl
   have:=a2 y' b1
   have:=b2 y a1
   rw[show y=y' by lia]
def VT:With n ps [] [] T↔Ze n ps T:=⟨λh=>h.1,λh=>⟨h,λz q=>(by cases q),λz q=>(by cases q)⟩⟩
def ZR6{F L:Ac}(g:Zy n ps)(hR:RowW n ps R)(hF:Ze n ps F)(VY:∀U,Ze n ps U->HT.lexLt U F=false):R[0]?=some F/\Adj NT R/\(1<R.length->R[R.length-1]?=some L->NT L F):=by
 let NS:=VT.mpr hF;let RD:∀U,With n ps [] [] U->HT.lexLt U F=false:=λU hU=>VY U hU.1
 let XE:∀v∈([]:Ac),0<=v/\v<ps⁻¹:=λv h=>by cases h
 let⟨ld,F',inc,fu,hP,h1,h2,NR,_⟩:=id hR;let eF:F'=F:=Xv (VY F' hP.tr.1) (hP.least F NS)
 subst eF;exists Ak g NR F' NS RD λz e=>Lc (h2 z e).1,Zk8 g NR XE λF2 z a b e=>?_,λhl hL=>?_
 .rw[Xv (RD F2 a) (b F' NS)];show(h2 z e).1
 .cases ld with
  |none=>
   exfalso;let eo:=h1.mp rfl
   cases NR with
   |und GL _ _=>
    let⟨rfl,rfl,rfl⟩:=hP.uniq GL;let e:inc=[]:=FW.mpr λz hz=>by
     have:=(Ya.mp<|(GO hP.inc).mem_iff.mp hz).1
     rw[eo]at this;cases this
    subst e;show absurd hl (by change ¬1<1;decide)
  |some z=>
   let zo:=(h2 z Z).1;let⟨T2,_,_,NQ⟩:=Tq g none (EH g XE NS zo);rw[vm g XE NR NS RD (Lc zo) NQ.tr NQ.least]at hL;let rfl:=Ye hL;show Aj (a:=z) NQ.tr.1.1.nodup (NQ.tr.2.1 z B) (Lc zo) λv hv=>GP g NS RD NQ.tr NQ.least v hv
end My
namespace L2
open PySem PySem.Spec PyProof.Rows
def Rc{N P:List Str}{sc:Scope}(h:sc.kind=.function/\sc.isCoroutine=false/\sc.isGenerator=false/\N.Nodup/\N.take P.length=P/\(∀x∈P,sc.names.lookup x=some .local\/sc.names.lookup x=some .cell)/\∀y∈sc.names,y.2≠.free):FnScope N P sc:=⟨h.1,h.2.1,h.2.2.1,h.2.2.2.1,h.2.2.2.2.1,h.2.2.2.2.2.1,h.2.2.2.2.2.2⟩
structure DfA(K:Ad)(mg:Af)(x:Str)(st:Stmt)(f:Addr)(fd:FuncData)(ps:List Str):Prop where
 fn:Fun K x x st f fd
 bi:Binds K fd ps []
 mm:mg x=some ↑f
def Zb{X:Cx}{CX:Qa}{k m:Nat}{f:Addr}{fd:FuncData}{ps:List Str}{sp:Sp}{x:Str}{st:Stmt}{e:Expr}{es:List Expr}{t:TA}{p pos:Pos}{E:XK}(F:FnOk X.prog X.w X.K X.mg X.base CX k f fd ps sp)(hr:Room m X.A)(d:DfA X.K X.mg x st f fd ps)(hx:Fv CX X E)(ha:PA X (e::es) t)(hk:k<=m:=by decide)(hg:Gl X x:=by show Z)(RW:(x == ("__debug__":Str))=false:=by decide)(he:starEach (e::es) X.env=(false,eval e X.env)::starEach es X.env:=by rfl)(UQ:(backTo pos<|starEach es X.env).any (·.1)=false:=by rfl):PE X (.Call (.Name x p) (e::es) [] pos) (Dq sp [] E t):=
 QO F (hr.mono hk) hg d.mm d.fn.kp d.bi .nil hx ha RW he UQ
def vj(N P:List Str)(sc:Scope):(Prop):=sc.kind=.function/\sc.isCoroutine=false/\sc.isGenerator=false/\N.Nodup/\N.take P.length=P/\(∀x∈P,sc.names.lookup x=some .local\/sc.names.lookup x=some .cell)/\∀y∈sc.names,y.2≠.free
instance (N P:List Str) (sc:Scope):Decidable (vj N P sc):=by unfold vj;infer_instance
section
variable{P:Program}{w:World}{K:Ad}{mg:Af}{base:Heap}{x:Str}{st:Stmt}{f:Addr}{fd:FuncData}{ps:List Str}{k:Nat}{sp:Sp}
abbrev WR(P:Program)(w:World)(base:Heap)(CX:Qa)(_:DfA K mg x st f fd ps)(k:Nat)(sp:Sp):Prop:=FnOk P w K mg base CX k f fd ps sp
def DfA.okI(q:DfA K mg x st f fd ps)(N:List Str)(S:vj N ps (Xe st))
  (VC:∀Xu A outer s H vs Q E,Room k (A.deeper<|envOfC x (Xe st) (~~~s) f Xu)->sp vs H Q E->
   ∃t,PSs (TB Xd P w K mg base N x (Xe st) f Xu A outer s H E).nox (QL st) t/\t {nx:=λ_ H'=>Q .non H',rt:=Q} (start N vs) H) (len:∀vs H Q E,sp vs H Q E->vs.length=ps.length:=by intro _ _ _ _ h;cases h;subst_vars;rfl):WR P w base Xd q (k+1) sp:=q.fn.ok (Rc S) len VC
def DfA.ok(q:DfA K mg x st f fd ps)(N:List Str)(S:vj N ps (Xe st))(len:∀vs H Q E,sp vs H Q E->vs.length=ps.length)
  (VC:∀Xu A outer s H vs Q E,Room k (A.deeper<|envOfC x (Xe st) (~~~s) f Xu)->sp vs H Q E->
   ∃t,PSs (TB Xd P w K mg base N x (Xe st) f Xu A outer s H E).nox (QL st) t/\t {nx:=λ_ H'=>Q .non H',rt:=Q} (start N vs) H):WR P w base Xd q (k+1) sp:=q.fn.ok (Rc S) len VC
end
end L2
namespace My
open PySem L2
def FQ(K:Ad)(mg:Af)(x:Str)(st:Stmt)(ps:List Str):(Prop):=∃f fd,DfA K mg x st f fd ps
def z9{K:Ad}{h:Heap}{mg:Af}{x:Str}{st:Stmt}{ps:List Str}{f:Addr}{oc:Value}{od an:Option Addr}{Tf:Array (Option Value)}{kV doc pm Xu ct:Value}(X:K.In h)(G:h.Ns mainGlobals mg)
  (a:PySem.W.nsIn K mainGlobals x=some (some<|.ref f))(l:K.lookup f=some ⟨oc,od,.func<|PySem.W.fnOf x x (Kh st) (QL st) (Xe st) .none kV doc pm an Xu ct,Tf⟩)(c:PySem.W.codeIn K Xu x=true)(k:PySem.W.keepIn K ↑f=true)
  (b:∀kV doc pm an Xu ct us,us.length=ps.length->bindArgs (PySem.W.fnOf x x (Kh st) (QL st) (Xe st) .none kV doc pm an Xu ct) ⟨us,[]⟩=pure (ps.zip us)):FQ K mg x st ps:=
 ⟨f,_,wZ l c k,(wZ l c k).binds b,xF X G a⟩
def jk:(List Str):=["count","cheapest"]
def jj:(List Str):=["tree","row","rank"]
def ji:(List Str):=["number","place","next","share"]
def isN(w:Str):(Bool):=j5 w.cps.toList
def Jt(x0:Str)(r:List Str):(Prop):=(x0∈jk/\r.length+1=1)\/(x0∈jj/\r.length+1=2/\r.all isN=true)\/(x0∈ji/\1<r.length+1/\(r=[("-":Str)]\/r.all isN=true))
instance:Decidable (Jt x0 r):=by unfold Jt;infer_instance
def jh{F M:Ac}{o z:Int}(g:Zy n ps)(hF:Ze n ps F)(ho:o∈F)(hz:z∉F)(z0:0<=z)(z1:z<ps⁻¹)(hp:M.Perm (wo F o++[z]))(hs:M.Pairwise (·<=·)):Ze n ps M↔exg n ps F o z:=
 ⟨λh=>Zd6 g hF hp h ho hz z0 z1,λh=>Cm g hF h hp hs⟩
def Zj8{F:Ac}(g:Zy n ps)(hR:RowW n ps R)(hF:Ze n ps F)(VY:∀U,Ze n ps U->HT.lexLt U F=false)(hl:1<R.length):
  ∃z o,z∈Xl n ps [] [] F/\(∀y∈Xl n ps [] [] F,z<=y)/\exg n ps F o z/\(∀x,exg n ps F x z->x<=o)/\R[R.length-1]?=some (xchT F o z):=by
 let NS:=VT.mpr hF;let RD:∀U,With n ps [] [] U->HT.lexLt U F=false:=λU hU=>VY U hU.1
 let XE:∀v∈([]:Ac),0<=v/\v<ps⁻¹:=λv h=>by cases h
 let⟨ld,F',inc,fu,hP,h1,h2,NR,_⟩:=id hR;let eF:F'=F:=Xv (VY F' hP.tr.1) (hP.least F NS)
 subst eF;cases ld with
 |none=>
  exfalso;let eo:=h1.mp rfl
  cases NR with
  |und GL _ _=>
   let⟨rfl,rfl,rfl⟩:=hP.uniq GL;let e:inc=[]:=FW.mpr λz hz=>by
    have:=(Ya.mp<|(GO hP.inc).mem_iff.mp hz).1
    rw[eo]at this;cases this
   subst e;show absurd hl (by change ¬1<1;decide)
 |some z=>
  let zo:=(h2 z Z).1;let⟨T2,_,_,NQ⟩:=Tq g none (EH g XE NS zo);let⟨o,o1,e,o2⟩:=ZK9 g NS (Lc zo) RD NQ.tr NQ.least;let lv:∀x,x∈WX n ps [] F' z↔exg n ps F' x z:=λx=>by unfold WX;rw[Ya,Xh];exists λh=>⟨h.1.1,λe=>Lc zo<|e▸h.1.1,h.1.2⟩,λh=>⟨⟨h.1,h.2.2⟩,B⟩
  exists z,o,zo,(h2 z Z).2,(lv o).mp o1,λx hx=>o2 x<|(lv x).mpr hx,by rw[<-e];show vm g XE NR NS RD (Lc zo) NQ.tr NQ.least
def TupsV.rev{H:Hp}{xs:List V}{L:Ab}(h:TupsV H xs L):TupsV H xs.reverse L.reverse:=by
 show⟨by rw[YN,YN,h.1],λi l e=>?_⟩;let hi:i<L.length:=by have:=(Xx.mp e).1;rwa[YN]at this
 let hl:=h.1;rw[KH hi]at e;let⟨v,hv,r⟩:=h.2 _ l e;exists v,by rw[KH J,hl];show hv,r
def ZD7{L:Ab}{F:Ac}{p:Ac->Bool}(h0:L[0]?=some F)(hp:p F=true):(L.filter p)[0]?=some F:=by
 cases L with
 |nil=>cases h0
 |cons G L=>
  let rfl:G=F:=Ye h0;rw[YW,if_pos hp];rfl
def z8{W:Ac}{y:Int}(asc:W.Pairwise (·<·))(hy:y∈W)(hm:∀z∈W,y<=z):W[0]?=some y:=by
 cases W with
 |nil=>cases hy
 |cons x W=>
  rcases Yi.mp hy with e|e
  .rw[e];rfl
  .have:=(YZ.mp asc).1 y e
   have:=hm x Yd
   lia
def jg{L:Ab}{F:Ac}(h:L.Pairwise Vj)(h0:L[0]?=some F):∀U∈L,HT.lexLt U F=false:=λU hU=>by
 cases L with
 |nil=>cases h0
 |cons G L=>
  let rfl:G=F:=Ye h0;rcases Yi.mp hU with e|e
  .rw[e];show WU _
  .show Bool.eq_false_iff.mpr λq=>ZC8 q ((YZ.mp h).1 U e)
def jf{ns ms:Ac}{z:Int}(h:RF (λa=>PyProof.Rows.b2i (decide (some z=some a))) ns ms)(asc:ns.Pairwise (·<·))(hz:z∈ns):ms=(ns.filter λa=>decide (a≠z))++[z]:=by
 let hp:=GO h;let⟨p,h1,h2,e⟩:=h;let k0:∀a,a≠z->PyProof.Rows.b2i (decide<|some z=some a)=0:=λa ha=>VU.1.mpr ha
 let k1:PyProof.Rows.b2i (decide<|some z=some z)=1:=VU.2.mpr rfl;show DU (le:=λa b:Int=>PyProof.Rows.b2i (decide<|some z=some a)<PyProof.Rows.b2i (decide<|some z=some b)\/(PyProof.Rows.b2i (decide<|some z=some a)=PyProof.Rows.b2i (decide<|some z=some b)/\a<b)) (λa b _ _ x y=>J) ?_ ?_ ?_
 .rw[e,Nt];show Ep (λ{i j} hi hj hA=>?_) h2;let i1:=YS.mp (h1.mem_iff.mp hi)
  let j1:=YS.mp (h1.mem_iff.mp hj);rcases hA with q|⟨q,r⟩
  .show .inl q
  .show .inr ⟨q,?_⟩
   have:=Nx.mp asc i j i1 j1 r
   rwa[WG,WG,Xq i1,Xq j1]
 .show YJ.mpr ⟨?_,KI _ _,λa ha b hb=>?_⟩
  .show Ep (λ{a b} ha hb q=>.inr ⟨?_,q⟩) (asc.filter _);rw[k0 a (Yt (Ya.mp ha).2),k0 b (Yt (Ya.mp hb).2)]
  .rw[XG.mp hb];show .inl ?_;rw[k0 a (Yt (Ya.mp ha).2),k1];decide
 .show hp.trans ((Us (OH asc) ?_).mpr λa=>?_)
  .show Wo.mpr ⟨(OH asc).filter _,B,λa ha b hb q=>Yt (Ya.mp ha).2 (by rw[q,XG.mp hb])⟩
  .rw[XA,Ya,XG,YL];cases c:a=z
   .rw[c];exists λ_=>.inr Z,λ_=>hz
   .exists λq=>.inl ⟨q,c⟩,λq=>q.elim (λq=>q.1) λq=>absurd q c
section
variable{n:Int}{ps:Aa}{I O F:Ac}{z:Int}
def RC:(Xl n ps I O F).Pairwise (·<·):=(JS ps.length).filter _
def z7:((Xl n ps I O F).filter λt=>!decide (VV (XB n.toNat (XU ps I)) ps z=VV (XB n.toNat (XU ps I)) ps t))=Wh n ps I O F (some z):=by unfold Wh;show Nr λt ht=>?_;rw[<-decide_not];show FJ.mpr (not_congr ?_);unfold Ua;rw[Ya,YL];exists λq=>⟨ht,z,Z,q.symm⟩,λzz=>by let⟨_,y,e,q⟩:=zz;rw[Ye e];show q.symm
def Jr(h:Wh n ps I O F (some z)=[]):Ua n ps I O F (some z)=Xl n ps I O F:=by
 let all:∀t∈Xl n ps I O F,t∈Ua n ps I O F (some z):=λt ht=>Yz λno=>by
  have:t∈Wh n ps I O F (some z):=Ya.mpr ⟨ht,Yv no⟩
  rw[h]at this;cases this
 show xV.mpr λt ht=>(Ya.mp<|all t ht).2
def je{L:Ab}(g:Zy n ps)(XE:∀v∈I,0<=v/\v<ps⁻¹)(hF:With n ps I O F)(hz:z∈Xl n ps I O F)(hL:∀T,T∈L↔With n ps I O T):(F.filter λt=>decide (t∉I/\xchT F t z∈L))=WX n ps I F z:=by let⟨⟨z0,z1⟩,_,zO,zF,_⟩:=(ZM g XE).mp hz;unfold WX Td;rw[t7];show Nr λt ht=>?_;rw[<-Bool.decide_and];show FJ.mpr ⟨λ⟨q,r⟩=>⟨q,?_⟩,λzz=>by let⟨q,r⟩:=zz;exists q,(hL _).mpr (EJ g hF (show exg n ps F t z from⟨ht,λe=>zF (by rwa[e]),r⟩) q zO (UX F t z)<|MQ F t z)⟩;show((jh g hF.1 ht zF z0 z1 (UX F t z)<|MQ F t z).mp ((hL _).mp r).1).2.2
def jd{L:Ab}(hL:∀T,T∈L↔With n ps I O T)(T:Ac):(T∈L.filter λT=>decide (z∉T))↔With n ps I (O++[z]) T:=by rw[Ya,hL,YL];exists λzz=>by let⟨a,b⟩:=zz;show⟨a.1,a.2.1,λv hv=>(XA.mp hv).elim (a.2.2 v) λe=>by rwa[XG.mp e]⟩,λa=>⟨⟨a.1,a.2.1,λv hv=>a.2.2 v<|Yg _ hv⟩,a.2.2 z B⟩
def vi{L:Ab}(hL:∀T,T∈L↔With n ps I O T)(T:Ac):(T∈L.filter λT=>decide (z∈T))↔With n ps (I++[z]) O T:=by rw[Ya,hL,YL];exists λzz=>by let⟨a,b⟩:=zz;show⟨a.1,λv hv=>(XA.mp hv).elim (a.2.1 v) λe=>by rw[XG.mp e];show b,a.2.2⟩,λa=>⟨⟨a.1,λv hv=>a.2.1 v<|Yg _ hv,a.2.2⟩,a.2.1 z B⟩
end
def top(i:Nat):(Stmt):=PySem.Challenge.pw_spanrow_k37_whole_row_by_its_words.main.body.getD i (.Pass ⟨0,0,0,0⟩)
abbrev sZ8:Stmt:=de (top 18) 0
abbrev sZt:Stmt:=de (top 46) 0
abbrev sZN:Stmt:=top 66
set_option genInjectivity false in
structure Adr where
 (aZ0 aZ1 aZ2 aZ3 aZ4 aZ5 aZ6 aZ7 aZ8 aZ9 aZa aZb aZc aZd aZe aZf aZg aZh aZi aZj aZk aZl aZm aZn aZo aZp aZq aZr aZs aZt aZu aZv aZw aZx aZy aZz aZA aZB aZC aZD aZE aZF aZG aZH aZI aZJ aZK aZL aZM aZN A_Web A_Part:Addr)
 (dZ0 dZ1 dZ2 dZ3 dZ4 dZ5 dZ6 dZ7 dZ8 dZ9 dZa dZb dZc dZd dZe dZf dZg dZh dZi dZj dZk dZl dZm dZn dZo dZp dZq dZr dZs dZt dZu dZv dZw dZx dZy dZz dZA dZB dZC dZD dZE dZF dZG dZH dZI dZJ dZK dZL dZM dZN:FuncData)
structure Txt(K:Ad)(mg:Af)(t:Adr):Prop where
 qZ0:DfA K mg "refuse_not_square" (top 9) t.aZ0 t.dZ0 ["table"]
 qZ1:DfA K mg "row_taken_off" (top 10) t.aZ1 t.dZ1 ["row","pivot","last"]
 qZ2:DfA K mg "first_with_some" (top 11) t.aZ2 t.dZ2 ["rows"]
 qZ3:DfA K mg "determinant" (top 12) t.aZ3 t.dZ3 ["table"]
 qZ4:DfA K mg "row_without" (top 13) t.aZ4 t.dZ4 ["row","number"]
 qZ5:DfA K mg "table_without" (top 14) t.aZ5 t.dZ5 ["table","number"]
 qZ6:DfA K mg "is_tie" (top 20) t.aZ6 t.dZ6 ["web","number"]
 qZ7:DfA K mg "refuse_bad_web" (top 19) t.aZ7 t.dZ7 ["places","ties"]
 fZ8:Fun K "__init__" "Web.__init__" sZ8 t.aZ8 t.dZ8
 bZ8:Binds K t.dZ8 ["self","places","ties"] []
 qZ9:DfA K mg "ties_beside" (top 21) t.aZ9 t.dZ9 ["web","ties"]
 qZa:DfA K mg "ties_without" (top 22) t.aZa t.dZa ["ties","left_out"]
 qZb:DfA K mg "is_set" (top 23) t.aZb t.dZb ["web","ties"]
 qZc:DfA K mg "made_set" (top 24) t.aZc t.dZc ["web","ties"]
 qZd:DfA K mg "merged_marks" (top 25) t.aZd t.dZd ["web","marks","ties"]
 qZe:DfA K mg "piece_marks" (top 26) t.aZe t.dZe ["web","ties"]
 qZf:DfA K mg "pieces_of" (top 27) t.aZf t.dZf ["web","ties"]
 qZg:DfA K mg "is_joined" (top 28) t.aZg t.dZg ["web","ties"]
 qZh:DfA K mg "weighted_table" (top 30) t.aZh t.dZh ["web","weights"]
 qZi:DfA K mg "pull_table" (top 31) t.aZi t.dZi ["web"]
 qZj:DfA K mg "tree_count" (top 32) t.aZj t.dZj ["web"]
 qZk:DfA K mg "part_count" (top 33) t.aZk t.dZk ["web","inside","outside"]
 qZl:DfA K mg "is_tree" (top 35) t.aZl t.dZl ["web","ties"]
 qZm:DfA K mg "refuse_no_tree" (top 36) t.aZm t.dZm ["web","tree"]
 qZn:DfA K mg "grown_tree" (top 37) t.aZn t.dZn ["web","inside","order"]
 qZo:DfA K mg "tree_cut" (top 38) t.aZo t.dZo ["web","tree","tie"]
 qZp:DfA K mg "ring_of" (top 39) t.aZp t.dZp ["web","tree","tie"]
 qZq:DfA K mg "least_in" (top 41) t.aZq t.dZq ["web","inside","outside"]
 qZr:DfA K mg "end_pieces" (top 44) t.aZr t.dZr ["web","marks","tie"]
 qZs:DfA K mg "open_ties" (top 45) t.aZs t.dZs ["web","marks","gone"]
 fZt:Fun K "__init__" "Part.__init__" sZt t.aZt t.dZt
 bZt:Binds K t.dZt ["self","web","kept","shut","lead"] []
 qZu:DfA K mg "whole_part" (top 47) t.aZu t.dZu ["web"]
 qZv:DfA K mg "half_without" (top 48) t.aZv t.dZv ["part"]
 qZw:DfA K mg "half_with" (top 49) t.aZw t.dZw ["part"]
 qZx:DfA K mg "part_size" (top 50) t.aZx t.dZx ["part"]
 qZy:DfA K mg "trees_with_tie" (top 51) t.aZy t.dZy ["part","into"]
 qZz:DfA K mg "undivided_row" (top 52) t.aZz t.dZz ["part"]
 qZA:DfA K mg "trees_between" (top 53) t.aZA t.dZA ["part","size","start","stop"]
 qZB:DfA K mg "refuse_below_nought" (top 42) t.aZB t.dZB ["number"]
 qZC:DfA K mg "row_from" (top 54) t.aZC t.dZC ["web","number","most"]
 qZD:DfA K mg "_law_at" (top 56) t.aZD t.dZD ["script","k"]
 qZE:DfA K mg "_law_mixed" (top 57) t.aZE t.dZE ["cell","k"]
 qZF:DfA K mg "_law_ties" (top 58) t.aZF t.dZF ["script","count","most"]
 qZG:DfA K mg "_law_trees" (top 59) t.aZG t.dZG ["count","ties"]
 qZH:DfA K mg "_law_swapped" (top 60) t.aZH t.dZH ["tree","out","into"]
 qZI:DfA K mg "_law_marks" (top 61) t.aZI t.dZI ["count","ties","kept"]
 qZJ:DfA K mg "_law_twins" (top 62) t.aZJ t.dZJ ["count","ties","kept","lead","other"]
 qZK:DfA K mg "_law_open" (top 63) t.aZK t.dZK ["trees","kept"]
 qZL:DfA K mg "_law_row" (top 64) t.aZL t.dZL ["count","ties","trees","kept","lead"]
 qZM:DfA K mg "_law_whole_row" (top 65) t.aZM t.dZM ["count","ties"]
 qZN:DfA K mg "law" sZN t.aZN t.dZN ["script"]
 c_Web:mg "Web"=some (.ref t.A_Web)
 cl_Web:Cls K t.A_Web
 k_Web:Mk K t.A_Web t.aZ8
 n_Web_places:NoAttr K t.A_Web "places"
 n_Web_ties:NoAttr K t.A_Web "ties"
 c_Part:mg "Part"=some (.ref t.A_Part)
 cl_Part:Cls K t.A_Part
 k_Part:Mk K t.A_Part t.aZt
 n_Part_web:NoAttr K t.A_Part "web"
 n_Part_kept:NoAttr K t.A_Part "kept"
 n_Part_shut:NoAttr K t.A_Part "shut"
 n_Part_lead:NoAttr K t.A_Part "lead"
 n_Part_least:NoAttr K t.A_Part "least"
 n_Part_incoming:NoAttr K t.A_Part "incoming"
 n_Part_further:NoAttr K t.A_Part "further"
 g_MOST_PLACES:∃tk,mg "MOST_PLACES"=some (.int 14 tk)
 g_MOST_TIES:∃tk,mg "MOST_TIES"=some (.int 30 tk)
 n_all:mg "all"=none
 n_enumerate:mg "enumerate"=none
 n_int:mg "int"=none
 n_isinstance:mg "isinstance"=none
 n_len:mg "len"=none
 n_list:mg "list"=none
 n_max:mg "max"=none
 n_min:mg "min"=none
 n_range:mg "range"=none
 n_reversed:mg "reversed"=none
 n_set:mg "set"=none
 n_sorted:mg "sorted"=none
 n_tuple:mg "tuple"=none
 n_zip:mg "zip"=none
end My
namespace My
open PySem L2 PyProof.Rows
set_option maxHeartbeats 4000000
section
variable{P:Program}{w:World}{K:Ad}{mg:Af}{base:Heap}{t:Adr}
inductive spZ0(K:Ad)(vs:List V)(H:Hp)(Q:VK)(_:XK):Prop
 |mk (a kd xs L:_) (_:vs=[.ref a]) (_:SqK kd K H a xs) (_:Bears (Bj K H) xs L) (_:((∀l∈L,l.length=L.length)->Q .non H)) (_:(¬(∀l∈L,l.length=L.length)->False))
def jc(T:Txt K mg t):WR P w base Xd T.qZ0 1 (spZ0 K):=by
 show T.qZ0.okI ["table","row"] sQ λXu A outer s H vs Q E hr h=>?_
 .let⟨a,kd,xs,L,rfl,hS,hB,q,qe⟩:=h;show⟨_,(XC (TH Wz Z (Kb K<|pv 0) (Xc 1)
   (XC (VL (Zi Qb (Zh (Zp K) sU T.n_len Boot.«len»<|XY (pv 1) XT) (Zh (Zp K) sU T.n_len Boot.«len»<|XY (pv 0) XT)<|Zw _)
   (XC Kw)
   Zu)))),?_⟩
  let MU:=hB.1;exists _,Z,a,Z,wR (K:=K) (k:=kd) (a:=a) (xs:=xs) (λi σ H2=>∃v1,σ=[some ↑a,v1]/\H2=H/\∀l∈L.take i,l.length=L.length) ⟨none,Z,Z,λl h=>(by cases h)⟩ (λi σ H2 _ zz=>by let⟨_,_,e,_⟩:=zz;show e▸hS) ?_ ?_
  .rintro i v σ H2 hi ⟨v1,rfl,rfl,UM⟩;let⟨l,hl,r,k,rfl,hr⟩:=hB.at hi;show nm ?_;exists _,Z,r,_,Z,hr.or,_,Z,a,xs,Z,hS.or,Z,_,Z,?_;rw[Xy,ZA];show WL (λe=>?_) (λe=>?_)
   .exists _,Z,Z,λm hm=>?_;rw[YY,hl]at hm;rcases XA.mp hm with h|h
    .show UM m h
    .let Ka:m=l:=by simpa using h
     rw[Ka];lia
   .show qe λh=>e (by rw[h l (Xj hl),MU])
  .rintro σ H2 ⟨v1,rfl,rfl,UM⟩;rw[MU,YE]at UM;show q UM
inductive spZ1(K:Ad)(vs:List V)(H:Hp)(Q:VK)(_:XK):Prop
 |mk (r p x y last l q:_) (_:vs=[.ref r,.ref p,.int last]) (_:SqL K H r (IL<|x::l)) (_:SqL K H p (IL<|y::q)) (_:l.length=q.length) (_:l.length<=1000) (_:last≠0) (_:last.natAbs<2^9000) (_:(∀z∈x::l,z.natAbs<2^9000)) (_:(∀z∈y::q,z.natAbs<2^9000)) (_:∀c H',Same H H'->H c=none->H' c=some (.lst<|IL<|Od y q last<|x::l)->Q ↑c H')
def i9(T:Txt K mg t):WR P w base Xd T.qZ1 1 (spZ1 K):=by
 show T.qZ1.okI ["row","pivot","last"] sQ λXu A outer s H vs Q E hr h=>?_
 .let⟨r,p,x,y,last,l,q',rfl,hR,hP,hlq,hl,l0,l1,hx,hy,q⟩:=h;exists _,(XC<|Zm<|Ww Z (sc0:=Xe<|top 10) (N0:=["row","pivot","last"]) (N':=["own","other","pivot","row","last"]) (o:=2) (fr:=[1,0,2]) ⟨Z,sQ,sQ,sQ,Z,sQ⟩ (Bo K Z T.n_zip<|XY (Ko (Kd K) (pv 0) (Tz Zc) Ij)<|XY (Ko (Kd K) (pv 1) (Tz Zc) Ij) XT) (Fs<|Vd sT<|Vd sT Ft) (λ_ _ _ _=>(QJ (n:=2) K Z<|Zo (Xc 0)<|Zo (Xc 1) QQ)) (λ_ _ _ _=>RT) λ_ _ _ _=>(Zz mr (Zz Mh (Zz Hg (ZL (Zd K) (pv 2) Zc λ_ _=>rfl)<|pv 0)<|Zz Hg (ZL (Zd K) (pv 3) Zc λ_ _=>rfl)<|pv 1)<|pv 4)),?_;exists _,Z,_,Z,r,_,Z,hR,λp1 Uv=>?_;rw[bg];let s1:=XZ (o:=.lst<|IL l) Uv
  exists _,Z,_,Z,p,_,Z,s1.seq hP,λp2 VO=>?_;rw[bg];let s2:=XZ (o:=.lst<|IL q') VO
  let Wq:=s1.trans s2;let h1:=s2 _ _ (XR (H:=H) (a:=p1) (o:=.lst<|IL l))
  let h2:(upd (upd H p1<|.lst<|IL l) p2<|.lst<|IL q') p2=some (.lst<|IL q'):=XR;generalize upd (upd H p1<|.lst<|IL l) p2 (.lst<|IL q')=H2 at *;show⟨p1,p2,Z,⟨_,_,SqL.of h1,SqL.of h2⟩,mQ (K:=K) (a:=p1) (b:=p2) (xs:=IL l) (ys:=IL q') (λi zs H3=>Same H2 H3/\i<=l.length/\zs=IL ((Od y q' last<|x::l).take i)) ⟨Same.refl _,Yk _,Z⟩ (by rwa[Xy,Xy]) (Zg<|by rw[Xy];lia)
   (λi zs H3 hi zz=>by let⟨e,Vf,ez⟩:=zz;show⟨SqL.of<|e _ _ h1,SqL.of<|e _ _ h2,by rw[ez,Xy,Yh];lia⟩) ?_ ?_⟩
  .rintro i u v zs H3 pt Uu hu hv ⟨s3,UB,rfl⟩ S Xw;let⟨own,rfl,ho⟩:=ZV hu;let⟨HM,rfl,ht⟩:=ZV hv;let Xo:=(Xx.mp ho).1
   let s4:=XZ (o:=.tup [.int own,.int HM]) Uu;exists pt,_,Z,SqT.of XR,Z,_,_,Z,_,_,Z,Z,?_;let Rb:=Wq.trans (s3.trans s4)
   let a1:=hy y Yd;let a2:=hx own (Yf _<|Xj ho)
   let a3:=hx x Yd;let a4:=hy HM (Yf _<|Xj ht)
   exists _,Z,p,_,0,.int y,Z,Z,Rb.seq hP,ZJ (n:=0) Z Z,_,Z,_,_,Z,Z,⟨a1,a2⟩,_,Z,r,_,0,.int x,Z,Z,Rb.seq hR,ZJ (n:=0) Z Z,_,Z,_,_,Z,Z,⟨a3,a4⟩,_,_,Z,Z,_,Z,_,_,Z,Z,⟨l0,l1⟩,?_;show Xw _ _ ⟨s3.trans s4,Xo,?_⟩;let e:(Od y q' last<|x::l)[i]?=some ((y*own-x*HM).fdiv last):=by change(List.zipWith _ l q')[i]?=_;rw[FP,ho,ht];rfl
   rw[YY,e];show(ZU _ _).symm
  .rintro zs H3 ⟨s3,_,rfl⟩ c hc;rw[Xy,YO (by rw[bh (by rw[YI,hlq])];lia)];show q c _ (Wq.trans<|s3.trans<|XZ hc) ((Wq.trans s3).free hc) XR
inductive spZ2(K:Ad)(vs:List V)(H:Hp)(Q:VK)(_:XK):Prop
 |mk (a ys R:_) (_:vs=[.ref a]) (_:SqL K H a ys) (_:Bears (Uj H) ys R) (_:(∀l∈R,0<l.length)) (_:(∀H':Hp,Same H H'->(∀i,i<R.length->fnL R i 0=0)->Q .non H')) (_:(∀t H',Same H H'->t<R.length->fnL R t 0≠0->Q (.int t) H'))
def i8(T:Txt K mg t):WR P w base Xd T.qZ2 1 (spZ2 K):=by
 show T.qZ2.okI ["rows","at","row"] sQ λXu A outer s H vs Q E hr h=>?_
 .let⟨a,ys,R,rfl,hS,hB,hp,q0,q1⟩:=h;show⟨_,(XI (TH Wz Z (LX K Z T.n_enumerate<|XY (pv 0) XT) (QJ (n:=2) K Z<|Zo (Xc 1)<|Zo (Xc 2) QQ)
   (XC (VL (Zi Qb (ZL (Zd K) (pv 2) Zc λ_ _=>rfl) Zc<|Zw _)
   (XC<|Zm<|pv 1)
   Zu)))
   (XC<|Zm xn)),?_⟩
  let QD:=hB.1;exists _,Z,a,Z,⟨_,hS⟩,CB (K:=K) (a:=a) (xs:=ys) (λi σ H2=>∃v1 v2,σ=[some ↑a,v1,v2]/\Same H H2/\∀j,j<i->fnL R j 0=0) ⟨none,none,Z,Same.refl _,λj h=>absurd h<|Sv _⟩ (λi σ H2 _ zz=>by let⟨_,_,_,e,_⟩:=zz;show e.seq hS) ?_ ?_
  .rintro i v σ H2 pt Uu hi ⟨v1,v2,rfl,s2,hz⟩;let⟨l,hl,r,rfl,hr⟩:=hB.at hi;let Qq:=hp l (Xj hl)
   obtain⟨x,l',rfl⟩:∃x l',l=x::l':=by
    cases l with
    |nil=>show absurd Qq (QX 0)
    |cons x l'=>exists x,l',Z
   let e0:fnL R i 0=x:=Ug hl rfl;let s3:=s2.trans (XZ (o:=.tup [.int i,.ref r]) Uu)
   exists pt,_,Z,SqT.of XR,Z,_,_,Z,_,_,Z,Z,?_;generalize upd H2 pt (.tup [.int i,.ref r])=H3 at *;exists _,Z,r,_,0,.int x,Z,Z,SqL.of<|s3 _ _ hr,ZJ (n:=0) Z Z,Z,_,Z,?_;rw[ZA];show WL (λe=>?_) (λe=>?_)
   .exists _,_,Z,s3,λj hj=>?_;cases c:j=i
    .rw[c,e0,e]
    .show hz j J
   .exists _,Z,q1 i H3 s3 (by have:=(Xx.mp hl).1;show this)<|by rwa[e0]
  .rintro σ H2 ⟨v1,v2,rfl,s2,hz⟩;show q0 H2 s2 λi hi=>hz i J
inductive spZ3(K:Ad)(vs:List V)(H:Hp)(Q:VK)(_:XK):Prop
 |mk (a kd xs L:_) (_:vs=[.ref a]) (_:SqK kd K H a xs) (_:Bears (Bj K H) xs L) (_:L.length<=16) (_:(∀i j,i<L.length->j<L.length->(fnL L i j).natAbs<=2^400)) (_:((∀l∈L,l.length=L.length)->∀H':Hp,Same H H'->Q (.int<|det L.length<|fnL L) H')) (_:(¬(∀l∈L,l.length=L.length)->∀H':Hp,Same H H'->False))
def i7{s rest:TS}{sP:Ends}{σ:L2.St}{H:Hp}(P:L2.St->Hp->Prop)(h1:∀σ' H',P σ' H'->rest sP σ' H')(h2:∀K:L2.St->Hp->Prop,(∀σ' H',P σ' H'->K σ' H')->s {sP with nx:=K} σ H):Um s rest sP σ H:=h2 _ h1
def NP:FnScope ["table","rows","sign","last","at","pivot"] ["table"] (Xe (top 12)):=Rc sQ
def i6(T:Txt K mg t):WR P w base Xd T.qZ3 2 (spZ3 K):=by
 show T.qZ3.okI ["table","rows","sign","last","at","pivot"] sQ λXu A outer s H vs Q E hr h=>?_
 .let⟨a,kd,xs,L,rfl,hS,hB,zZ,EF,q,qe⟩:=h;show⟨_,(XI (QR<|Zb (jc T) hr T.qZ0 ZF<|XY (pv 0) XT)
   (XI (Vr (i:=1) Z NP.nd Z Z (sc0:=Xe<|top 12) (N0:=["table","rows","sign","last","at","pivot"]) (N':=["row"]) (o:=1) (fr:=[]) ⟨Z,sQ,sQ,sQ,Z,sQ⟩ (Kb K<|pv 0) (Zn sT) (λ_ _ _ _=>(Xc 0)) (λ_ _ _ _=>RT) λ_ _ _ _=>(Zl (Fn K) sU T.n_list Boot.«list»<|XY (pv 0) XT))
   (XI (Zf 2 Zc)
   (XI (Ti (i:=3) NP.nd Z (Or.inr Z) Zc)
   (XI (rW Wz (Zi Pb (Zh (Zp K) sU T.n_len Boot.«len»<|XY (pv 1) XT) Zc<|Zw _)
   (XI (Zf 4<|Zb (i8 T) hr T.qZ2 ZF<|XY (pv 1) XT)
   (XI (VL (Zi Dw (pv 4) xn<|Zw _)
   (XC<|Zm Zc)
   Zu)
   (XI (VL (Zi Qc (Zz Th (pv 4) Zc) Zc<|Zw _)
   (XC<|Zf 2<|DB Kt<|pv 2)
   Zu)
   (XI (Ti (i:=5) NP.nd Z (Or.inr Z)<|ON K PH PySem.F.slot_list_pop PySem.F.type_list_pop qM (pv 1)<|XY (pv 4) XT)
   (XI (Vr (i:=1) Z NP.nd Z Z (sc0:=Xe<|top 12) (N0:=["table","rows","sign","last","at","pivot"]) (N':=["row","pivot","last"]) (o:=1) (fr:=[5,3]) ⟨Z,sQ,sQ,sQ,Z,sQ⟩ (Zv K<|pv 1) (Zn sT) (λ_ _ _ _=>(Xc 0)) (λ_ _ _ _=>RT) λ_ _ _ _=>(Zb (i9 T) hr T.qZ1 ZF<|XY (pv 0)<|XY (pv 1)<|XY (pv 2) XT))
   (XC<|Ti (i:=3) NP.nd Z (Or.inr Z)<|ZL (Zd K) (pv 5) Zc λ_ _=>rfl)))))))
   (XC<|Zm<|Zz Hg (pv 2)<|pv 3)))))),?_⟩
  let MU:=hB.1;exists _,Z,a,kd,xs,L,Z,hS,hB,λOu=>?_,λh=>qe h H<|Same.refl H;let q:=q Ou
  obtain⟨n,hn⟩:∃n,n=L.length:=⟨_,Z⟩;rw[<-hn]at q Ou EF zZ;exists _,Z,a,Z,wQ (K:=K) (k:=kd) (a:=a) (xs:=xs) (λi zs H2=>Same H H2/\i<=xs.length/\Bears (Uj H2) zs (L.take i)) ⟨Same.refl _,Yk _,⟨Z,λi l e=>by simp at e⟩⟩ (Zg J) (λi zs H2 hi zz=>by let⟨e,Vf,ez⟩:=zz;show⟨hS.same e,by rw[ez.1,Yh];lia⟩) ?_ ?_
  .rintro i v zs H2 hi ⟨s2,UB,hZ⟩ S Xw;let⟨l,hl,r,k,rfl,hr⟩:=hB.at hi;let Xo:=(Xx.mp hi).1
   show nm ?_;exists _,Z,r,_,Z,(hr.same s2).or,λc hc=>Xw _ _ ⟨s2.trans<|XZ hc,Xo,?_⟩;rw[YY,hl];show(hZ.imp λ_ _ zz=>by let⟨r',e,h⟩:=zz;exists r',e,XZ hc _ _ h).snoc ⟨c,Z,XR⟩
  rintro zs H2 ⟨s2,_,hZ⟩ rA PN;rw[MU,YE]at hZ;let s3:=s2.trans (XZ (o:=.lst zs) PN)
  exists λm σ H4=>∃A k rA ys R sgn last v4 v5,σ=[some ↑a,some<|.ref rA,some<|.int sgn,some<|.int last,v4,v5]/\Same H H4/\H rA=none/\H4 rA=some (.lst ys)/\Bears (LiV rA H4) ys R/\R.length=m/\(∀l∈R,l.length=m)/\k+m=n/\Rj A k m (fnL R) last/\det n (fnL L)=sgn*det n A/\(∀i j,i<n->j<n->(A i j).natAbs<=2^400)/\(m=0->last=det n A)/\(sgn=1\/sgn=-1)/\last.natAbs<2^9000,⟨n,fnL L,0,rA,zs,L,1,1,none,none,Z,s3,s2.free PN,XR,?_,hn.symm,Ou,J,Za9 _ _,sS,EF,λe=>by rw[e];rfl,.inl Z,Nat.one_lt_two_pow sT⟩,?_
  .show hZ.imp λv l zz=>by let⟨r,e,h⟩:=zz;exists r,e,XZ PN _ _ h,Za h PN
  rintro m σ H4 ⟨A,k,rA,ys,R,sgn,last,v4,v5,rfl,s4,Ut,Jq,hR,hRm,Ra,vh,Lb,GK,hAb,i5,hsg,hlb⟩;let QD:=hR.1
  exists _,Z,rA,ys,Z,.inl<|SqL.of Jq,_,_,Z,Z,_,Z,?_;show WO (λi4=>?_) (λi4=>?_)
  .obtain⟨M,rfl⟩:∃M,m=M+1:=⟨m-1,J⟩;exists _,λσ' H' h=>⟨M,Nn M,h⟩,?_;let i3:∀l∈R,∀z∈l,z.natAbs<2^9000:=λl hl z hz=>by
    let⟨i,hi⟩:=YF hl;let⟨j,hj⟩:=YF hz;let h1:=(Xx.mp hi).1
    let h2:=(Xx.mp hj).1;let h3:=Ra l hl
    have:=Zb9 Lb vh zZ hAb (i:=i) (j:=j) J J
    rwa[Ug hi hj]at this
   exists _,Z,rA,ys,R,Z,SqL.of Jq,hR.imp λ_ _ h=>h.list,λl hl=>by rw[Ra l hl];lia,λH5 s5 h0=>?_,λt H5 s5 ht XN=>?_
   .exists _,Z,Z,_,Z,?_;show wU (c:=V.non=V.non) Z ?_;let z:det n A=0:=by
     have:=my Lb λi hi=>h0 i J
     rwa[show k+M+1=n by lia]at this
    rw[GK,z,VE]at q;show q H5 (s4.trans s5)
   exists _,Z,Z,_,Z,?_;show HY (c:=V.int (t:Int)=V.non) (λz=>nomatch z) ?_;show nm ?_;dsimp only;show i7 (λσ H6=>∃La:Int,H6=H5/\σ=[some ↑a,some<|.ref rA,some<|.int La,some<|.int last,some<|.int t,v5]/\La=sgn*sg t) ?_ ?_
   .rintro σ H6 ⟨La,rfl,rfl,zW⟩;let EE:=s5 _ _ Jq
    let hR6:=hR.imp λ_ _ h=>h.same s5;obtain⟨l,hl⟩:∃l,R[t]?=some l:=⟨_,Xq ht⟩;let Ls:=Ra l (Xj hl)
    obtain⟨y,p',rfl⟩:∃y p',l=y::p':=by
     cases l with
     |nil=>cases Ls
     |cons y p'=>exists y,p',Z
    let UQ:p'.length=M:=by rw[YI]at Ls;lia
    let⟨v,hv,pA,rfl,ED,hpn⟩:=hR6.2 t _ hl;let hy0:y≠0:=by rwa[Ug hl Z]at XN
    show⟨_,Z,.inl ⟨Z,_,SqL.of EE⟩,_,Z,rA,ys,(t:Int),t,.ref pA,Z,Z,EE,J,J,by rw[Cs J J,QP],hv,?_⟩;let zV:(upd H6 rA<|.lst<|ys.eraseIdx t) pA=some (.lst<|IL<|y::p'):=by rwa[XJ hpn]
    let s7:Same H (upd H6 rA<|.lst<|ys.eraseIdx t):=ZI Ut (s4.trans s5);let hR7:Bears (LiV rA<|upd H6 rA<|.lst<|ys.eraseIdx t) (ys.eraseIdx t) (R.eraseIdx t):=(hR6.erase t).imp λ_ _ h=>h.mut
    let zS:(upd H6 rA<|.lst<|ys.eraseIdx t) rA=some (.lst<|ys.eraseIdx t):=XR;generalize upd H6 rA (.lst<|ys.eraseIdx t)=H7 at *;let eRl:(R.eraseIdx t).length=M:=by rw[t9,if_pos ht];lia
    let GJ:∀l∈R.eraseIdx t,l.length=M+1:=λl h=>Ra l (eE h);let hy7:=hR7.1
    exists _,Z,rA,Z,⟨_,SqL.of zS⟩,Wc (K:=K) (a:=rA) (xs:=ys.eraseIdx t) (λi zs H8=>Same H7 H8/\i<=(ys.eraseIdx t).length/\Bears (Uj H8) zs (((R.eraseIdx t).take i).map (Od y p' last))) ⟨Same.refl _,Yk _,⟨Z,λi l e=>by simp at e⟩⟩ (Zg J) (λi zs H8 hi zz=>by let⟨e,Vf,ez⟩:=zz;show⟨SqL.of<|e _ _ zS,by rw[ez.1,Yc,Yh];lia⟩) ?_ ?_
    .rintro i v zs H8 hi ⟨s8,UB,vg⟩ S Xw;let⟨l,JE,r,rfl,hr,_⟩:=hR7.at hi;let Xo:=(Xx.mp hi).1
     let VB:=GJ l (Xj JE);obtain⟨x,l',rfl⟩:∃x l',l=x::l':=by
      cases l with
      |nil=>cases VB
      |cons x l'=>exists x,l',Z
     let Pj:l'.length=M:=by rw[YI]at VB;lia
     show nm ?_;exists _,Z,_,Z,_,Z,r,pA,x,y,last,l',p',Z,SqL.of<|s8 _ _ hr,SqL.of<|s8 _ _ zV,J,J,Lb.1,hlb,i3 _<|eE<|Xj JE,i3 _<|Xj hl,λc H9 s9 zR hc=>Xw _ _ ⟨s8.trans s9,Xo,?_⟩;rw[YY,JE,YK];show(vg.imp λ_ _ zz=>by let⟨r',e,h⟩:=zz;exists r',e,s9 _ _ h).snoc ⟨c,Z,hc⟩
    rintro zs H8 ⟨s8,_,vg⟩ cA iZ;rw[hy7,YE]at vg;let s9:=XZ (o:=.lst zs) iZ
    exists _,Z,pA,_,0,.int y,Z,Z,SqL.of<|s9 _ _<|s8 _ _ zV,ZJ (n:=0) Z Z,?_;let vQ:Rj (λi=>A<|rotN k t i) k (M+1) (fnL<|(y::p')::R.eraseIdx t) last:=by rw[mi hl];show mz Lb J
    let GS:Rj (λi=>A<|rotN k t i) (k+1) M (fnL<|(R.eraseIdx t).map (Od y p' last)) y:=mC vQ hy0 λi j hi hj=>mh UQ eRl GJ hi hj;let hdr:=mI (n:=n) (k:=k) (t:=t) (A:=A) J
    exists λi=>A<|rotN k t i,k+1,cA,zs,(R.eraseIdx t).map (Od y p' last),La,y,_,_,Z,s7.trans<|s8.trans s9,(s7.trans s8).free iZ,XR,?_,by rw[Yc];show eRl,λl h=>?_,J,GS,?_,λi j hi hj=>hAb _ _ ?_ hj,λe0=>?_,?_,i3 _ (Xj hl) y Yd
    .show vg.imp λv l zz=>by let⟨r,e,h⟩:=zz;exists r,e,s9 _ _ h,Za h iZ
    .let⟨l0,h0,rfl⟩:=YR.mp h;rw[bh (by rw[GJ l0 h0,UQ]),UQ]
    .rw[hdr,GK,zW,Ru,<-Ru (sg t),mf,VM]
    .unfold rotN;split
     .grind
     .split
      .lia
      .split<;>lia
    .subst e0
     have:=mx vQ
     rwa[show k+1=n by lia]at this
    .rw[zW];let Wn:sg t=1\/sg t=-1:=by
      unfold sg;split
      .show .inl rfl
      .show .inr rfl
     rcases hsg with e|e<;>rcases Wn with f|f<;>rw[e,f]
     .show .inl rfl
     .show .inr rfl
     .show .inr rfl
     .show .inl rfl
   .intro Kn hK;exists _,Z,_,_,Z,Z,(by change(0:Int)<2;decide),Z,_,Z,?_;rw[ZA];show WO (λh1=>?_) (λh1=>?_)
    .exists _,Z,_,Z,hK _ _ ⟨-sgn,Z,Z,?_⟩;let e:sg t=-1:=by unfold sg;rw[if_neg J]
     rw[e];lia
    .show hK _ _ ⟨sgn,Z,Z,?_⟩;let e:sg t=1:=by unfold sg;rw[if_pos J]
     rw[e];grind
  .let PM:m=0:=J;exists _,Z,_,Z,_,_,Z,Z,⟨?_,hlb⟩,?_
   .rcases hsg with e|e<;>rw[e]<;>show Nat.one_lt_two_pow sT
   .rw[i5 PM]at *;rw[GK]at q;show q H4 s4
inductive spZ4(K:Ad)(vs:List V)(H:Hp)(Q:VK)(_:XK):Prop
 |mk (a:Addr) (l:Ac) (i:Nat) (_:vs=[.ref a,.int i]) (_:SqL K H a (IL l)) (_:l.length<=1000) (_:∀r H',Same H H'->H r=none->H' r=some (.lst<|IL<|cutz l i)->Q ↑r H')
def iY(l:Ac)(z:Int):cutz (IL l) z=IL (cutz l z):=by
 unfold cutz;change(l.map V.int).take _++(l.map V.int).drop _=(l.take _++l.drop _).map V.int
 rw[YK,List.map_take,List.map_drop]
def iX(T:Txt K mg t):WR P w base Xd T.qZ4 1 (spZ4 K):=by
 show T.qZ4.okI ["row","number"] sQ λXu A outer s H vs Q E hr h=>?_
 .let⟨a,l,i,rfl,hA,hl,q⟩:=h;exists _,(XC<|Zm<|Zz SM (Zl (Fn K) sU T.n_list Boot.«list»<|XY (Ko (Kd K) (pv 0) Ij<|Tz<|pv 1) XT)<|Zl (Fn K) sU T.n_list Boot.«list»<|XY (Ko (Kd K) (pv 0) (Tz<|Zz VD (pv 1) Zc) Ij) XT),?_;exists _,Z,_,Z,(i:Int),Z,a,_,Z,hA,λp1 Uv=>?_;let u1:=XZ (o:=.lst<|Wx (IL l) none<|some (i:Int)) Uv
  exists p1,_,Z,.inl<|SqL.of XR,λp2 VO=>?_;let u2:=XZ (o:=.lst<|Wx (IL l) none<|some (i:Int)) VO
  exists _,Z,_,Z,_,_,Z,Z,_,Z,a,_,Z,(u1.trans u2).seq hA,λp3 MS=>?_;let u3:=XZ (o:=.lst<|Wx (IL l) (some<|(i:Int)+1) none) MS
  exists p3,_,Z,.inl<|SqL.of XR,λp4 Jp=>?_;let u4:=XZ (o:=.lst<|Wx (IL l) (some<|(i:Int)+1) none) Jp
  let c1:=xa (IL l) none (some (i:Int));let c2:=xa (IL l) (some<|(i:Int)+1) none
  rw[Xy]at c1 c2;exists p2,p4,_,_,Z,Z,(u3.trans u4) _ _ XR,XR,OO J,λp5 vf=>?_;let u14:=u1.trans (u2.trans<|u3.trans u4)
  show q p5 _ (u14.trans<|XZ vf) (u14.free vf) ?_;rw[XR,nB J,iY]
inductive spZ5(K:Ad)(vs:List V)(H:Hp)(Q:VK)(_:XK):Prop
 |mk (a:Addr) (ys:List V) (L:Ab) (i:Nat) (_:vs=[.ref a,.int i]) (_:SqL K H a ys) (_:Bears (Uj H) ys L) (_:L.length<=1000) (_:(∀l∈L,l.length<=1000)) (_:i<L.length) (_:∀r zs H',Same H H'->H' r=some (.lst zs)->Bears (Uj H') zs ((cutz L i).map λl=>cutz l (i:Int))->Q ↑r H')
def ZB5{α:Type}{l:List α}{i j:Nat}{x:α}(hx:l[j]?=some x):cutz (l.take (j+1)) (i:Int)=cutz (l.take j) (i:Int)++(if j=i then [] else [x]):=by
 let hj:=(Xx.mp hx).1;let e:l.take (j+1)=l.take j++[x]:=by rw[YY,hx];rfl
 let hl:(l.take j).length=j:=by rw[Yh];grind
 let short:∀m:List α,m.length<=i->cutz m (i:Int)=m:=λm hm=>by unfold cutz;rw[QP,YO hm,YQ J,Yu]
 rw[e];cases c:j=i
 .subst c;rw[if_pos Z,Yu,short (l.take j) J];unfold cutz;rw[QP,FV J,YQ (by rw[Xt,hl];show XM _),Yu,YO J]
 .rw[if_neg c];cases d:j<i
  .rw[short (l.take j++[x]) (by rwa[Xt,hl]),short (l.take j) J]
  .unfold cutz;rw[QP,FV sS,Py J,Yy]
def iW(T:Txt K mg t):WR P w base Xd T.qZ5 2 (spZ5 K):=by
 show T.qZ5.okI ["table","number"] sQ λXu A outer s H vs Q E hr h=>?_
 .let⟨a,ys,L,i,rfl,hA,hB,hL,GI,hi,q⟩:=h;exists _,(XC<|Zm<|Ww Z (sc0:=Xe<|top 14) (N0:=["table","number"]) (N':=["at","row","number"]) (o:=2) (fr:=[1]) ⟨Z,sQ,sQ,sQ,Z,sQ⟩ (LX K Z T.n_enumerate<|XY (pv 0) XT) (Fs<|Vd sT<|Vd sT Ft) (λ_ _ _ _=>(QJ (n:=2) K Z<|Zo (Xc 0)<|Zo (Xc 1) QQ)) (λ_ _ _ _=>(ZX<|Zi Qb (pv 0) (pv 2)<|Zw _)) λ_ _ _ _=>(Zb (iX T) hr T.qZ4 ZF<|XY (pv 1)<|XY (pv 2) XT)),?_;let QD:=hB.1
  show⟨_,Z,a,Z,⟨_,hA⟩,wC (K:=K) (a:=a) (xs:=ys) (λj zs H2=>Same H H2/\j<=ys.length/\Bears (Uj H2) zs ((cutz (L.take j) (i:Int)).map λl=>cutz l (i:Int))) ⟨Same.refl _,Yk _,by rw[show(cutz (L.take 0) (i:Int)).map (λl=>cutz l (i:Int))=[] by unfold cutz;simp];show⟨Z,λi l e=>by simp at e⟩⟩ (Zg J) (λj zs H2 hj ⟨e,SF,ez⟩=>⟨e.seq hA,by
   rw[ez.1,Yc];show Yn (nz _ _) ?_;rw[Yh]
   lia⟩) ?_ ?_⟩
  .rintro j v zs H2 pt Uu hj ⟨s2,Vg,hZ⟩ S Xw;let⟨l,hl,r,rfl,hr⟩:=hB.at hj;let VX:=(Xx.mp hj).1
   let s3:=XZ (o:=.tup [.int j,.ref r]) Uu;exists pt,_,Z,SqT.of XR,Z,_,_,Z,_,_,Z,Z,?_;let hZ3:Bears (Uj<|upd H2 pt<|.tup [.int j,.ref r]) zs ((cutz (L.take j) (i:Int)).map λl=>cutz l (i:Int)):=hZ.imp λ_ _ zz=>by let⟨r',e,h⟩:=zz;exists r',e,s3 _ _ h
   let iV:=s2.trans s3;generalize upd H2 pt (.tup [.int j,.ref r])=H3 at *;exists _,Z,_,Z,Z,_,Z,?_;rw[ZA];show WL (λe=>?_) (λe=>?_)
   .show Xw _ _ ⟨iV,VX,?_⟩;rwa[ZB5 hl,if_pos J,Yu]
   .exists _,Z,_,Z,r,l,i,Z,SqL.of<|iV _ _ hr,GI l<|Xj hl,λc H4 s4 _ hc=>Xw _ _ ⟨iV.trans s4,VX,?_⟩;rw[ZB5 hl,if_neg J,YK];show(hZ3.imp λ_ _ zz=>by let⟨r',e,h⟩:=zz;exists r',e,s4 _ _ h).snoc ⟨c,Z,hc⟩
  .rintro zs H2 ⟨s2,_,hZ⟩ p hp;rw[QD,YE]at hZ;show q p zs _ (s2.trans<|XZ hp) XR (hZ.imp λ_ _ zz=>by let⟨r',e,h⟩:=zz;exists r',e,XZ hp _ _ h)
inductive spZ6(C:Addr)(vs:List V)(H:Hp)(Q:VK)(_:XK):Prop
 |mk (w n ps k:_) (_:vs=[.ref w,.int k]) (_:WebAt C H w n ps) (_:Q (.bl<|decide<|0<=k/\k<ps⁻¹) H)
def zQ(T:Txt K mg t):WR P w base Xd T.qZ6 1 (spZ6 t.A_Web):=by
 show T.qZ6.okI ["web","number"] sQ λXu A outer s H vs Q E hr h=>?_
 .let⟨w,n,ps,k,rfl,⟨dx,tl,xs,h1,h2,h3⟩,q⟩:=h;exists _,(XC<|Zm<|rG Pc Kq Zc (pv 1)<|Zh (Zp K) sU T.n_len Boot.«len»<|XY (Zk K (pv 0) Z) XT),?_;exists _,Z,_,_,Z,Z,_,Z,?_;show CO (λhc=>?_) (λhc=>?_)
  .exists _,Z,w,_,dx,_,_,Z,h1,T.cl_Web,T.n_Web_ties,Nb _ _,tl,xs,Z,.inl<|SqL.of h2,_,_,Z,Z,?_;let hc:=Yt hc
   change Q (.bl<|decide<|k<xs⁻¹) H;rwa[h3.1,show decide (k<ps⁻¹)=decide (0<=k/\k<ps⁻¹) from by simp[hc]]
  .let hc:¬(0<=k):=λz=>hc (Yv z);change Q (.bl false) H
   rwa[show(false:Bool)=decide (0<=k/\k<ps⁻¹) from by simp;lia]
inductive spZ7(K:Ad)(vs:List V)(H:Hp)(Q:VK)(_:XK):Prop
 |mk (n a kd xs ps:_) (_:vs=[.int n,.ref a]) (_:SqK kd K H a xs) (_:PairsV H xs ps) (_:Zy n ps) (_:Q .non H)
def iU(T:Txt K mg t):WR P w base Xd T.qZ7 1 (spZ7 K):=by
 show T.qZ7.okI ["places","ties","ends","end"] sQ λXu A outer s H vs Q E hr h=>?_
 .let⟨n,a,kd,xs,ps,rfl,hS,hp,⟨g1,g2,g3,g4⟩,q⟩:=h;show⟨_,(XI (VL (Uo<|dE Pc Pc Zc (pv 0)<|dP (v:=V.int 14) Z T.g_MOST_PLACES.choose_spec ⟨_,Z⟩)
   (XC Kw)
   Zu)
   (XI (VL (Zi Pb (Zh (Zp K) sU T.n_len Boot.«len»<|XY (pv 1) XT) (dP (v:=V.int 30) Z T.g_MOST_TIES.choose_spec ⟨_,Z⟩)<|Zw _)
   (XC Kw)
   Zu)
   (XC (TH Wz Z (Kb K<|pv 1) (Xc 2)
   (XC (TH Wz Z (Kc K<|pv 2) (Xc 3)
   (XC (VL (Uo<|dE Pc Kq Zc (pv 3)<|pv 0)
   (XC Kw)
   Zu)))))))),?_⟩
  exists _,Z,_,_,Z,Z,_,Z,?_;show wU g1 ?_;exists _,_,Z,Z,_,Z,?_;show pG g2 ?_;exists _,Z,a,xs,Z,hS.or,_,_,Z,Z,_,Z,?_;show HY (by rw[hp.1];lia) ?_;exists _,Z,a,Z,wR (k:=kd) (K:=K) (xs:=xs) (λi σ H2=>∃v v2,σ=[some (.int n),some<|.ref a,v,v2]/\H2=H) ⟨none,none,Z,Z⟩ (λi σ H2 _ zz=>by let⟨_,_,_,e⟩:=zz;show e▸hS) ?_ ?_
  .rintro i x σ H2 hi ⟨v,v2,rfl,rfl⟩;let⟨p,OJ,tt,rfl,ht⟩:=hp.at hi;let⟨e1,e2,e3,e4⟩:=g4 p (Xj OJ);exists _,Z,tt,Z,⟨_,SqT.of ht⟩,rL (K:=K) (a:=tt) (xs:=[.int p.1,.int p.2]) (λj σ H3=>∃v v2,σ=[some (.int n),some<|.ref a,v,v2]/\H3=H2) ⟨_,_,Z,Z⟩ (λj σ H3 _ zz=>by let⟨_,_,_,e⟩:=zz;show e▸SqT.of ht) ?_ ?_
   .rintro j y σ H3 hj ⟨v,v2,rfl,rfl⟩;let hy:∃z:Int,y=.int z/\0<=z/\z<n:=by
     match j,hj with
     |0,hj=>exists p.1,(Ye hj).symm,e1,e2
     |1,hj=>exists p.2,(Ye hj).symm,e3,e4
    let⟨z,rfl,z1,z2⟩:=hy;exists _,Z,_,_,Z,Z,_,Z,?_;show wU z1 ?_;exists _,Z,_,_,Z,Z,_,Z,?_;show pG z2 ?_;exists _,_,Z,Z
   .rintro σ H3 ⟨v,v2,rfl,rfl⟩;exists _,_,Z,Z
  .rintro σ H2 ⟨v,v2,rfl,rfl⟩;show q
inductive sp_Web_init(K:Ad)(C:Addr)(vs:List V)(H:Hp)(Q:VK)(_:XK):Prop
 |mk (w dx n a kd xs ps:_) (_:vs=[.ref w,.int n,.ref a]) (_:H w=some (.ins C dx [])) (_:(∀o,SqK kd K (upd H w o) a xs)) (_:PairsV H xs ps) (_:Zy n ps) (_:∀H':Hp,WebAt C H' w n ps->(∀b o,H b=some o->b≠w->H' b=some o)->Q .non H')
def iT:FnScope ["self","places","ties"] ["self","places","ties"] (Xe sZ8):=Rc sQ
def zP(T:Txt K mg t):FnOk P w K mg base Xd 2 t.aZ8 t.dZ8 ["self","places","ties"] (sp_Web_init K t.A_Web):=by
 show T.fZ8.ok iT (λvs H Q E h=>?_) (λXu A outer s H vs Q E hr h=>?_)
 .let⟨w,dx,n,a,kd,xs,ps,rfl,_⟩:=h;rfl
 .let⟨w,dx,n,a,kd,xs,ps,rfl,hw,hS,hp,g,q⟩:=h;let eH:upd H w (.ins t.A_Web dx [])=H:=by
   funext b
   cases hb:b=w
   .subst hb;rw[XR,hw]
   .rw[XJ hb]
  let Fj:SqK kd K H a xs:=by let z:=hS (.ins t.A_Web dx []);rwa[eH]at z
  show⟨_,(XI (QR<|Zb (iU T) hr T.qZ7 ZF<|XY (pv 1)<|XY (pv 2) XT)
   (XI (Mg (pv 0) (pv 1) Z)
   (XC<|Mg (pv 0) (Ww Z (sc0:=Xe sZ8) (N0:=["self","places","ties"]) (N':=["ends"]) (o:=1) (fr:=[]) ⟨Z,sQ,sQ,sQ,Z,sQ⟩ (Kb K<|pv 2) (Zn sT) (λ_ _ _ _=>(Xc 0)) (λ_ _ _ _=>RT) λ_ _ _ _=>(TF<|XY (ZL (ZK K) (pv 0) Zc λ_ _=>rfl)<|XY (ZL (ZK K) (pv 0) Zc λ_ _=>rfl) XT)) Z))),?_⟩
  exists _,Z,_,Z,n,a,kd,xs,ps,Z,Fj,hp,g,?_;exists _,Z,_,Z,w,_,dx,[],Z,hw,T.cl_Web,T.n_Web_places,(by change 0<1000;decide),?_;let Uv:PairsV (upd H w<|.ins t.A_Web dx<|XO "places" (.int n) []) xs ps:=⟨hp.1,λi p e=>by let⟨v,e1,tt,e2,e3⟩:=hp.2 i p e;show⟨v,e1,tt,e2,by rwa[XJ (Vt e3 hw (λz=>nomatch z))]⟩⟩
  let sx:xs.length<sizeLine:=Zg (by rw[hp.1];have:=g.2.2.1;lia);show⟨_,Z,a,Z,wQ (k:=kd) (K:=K) (xs:=xs) (λi ys H2=>i<=xs.length/\ys.length=i/\Same (upd H w<|.ins t.A_Web dx<|XO "places" (.int n) []) H2/\PairsV H2 ys (ps.take i)) ⟨Yk _,Z,Same.refl _,PairsV.nil⟩ sx
   (λi ys H2 _ zz=>by let⟨_,hl,s2,_⟩:=zz;exists (hS _).same s2,xA hl) ?_ ?_⟩
  .rintro i x ys H2 hi ⟨h1,hl,s2,hy⟩ S Xw;let⟨p,OJ,tt,rfl,ht⟩:=Uv.at hi;let GH:=s2 _ _ ht
   show cW ?_;exists _,Z,tt,_,0,.int p.1,Z,Z,SqT.of GH,Z,_,Z,tt,_,1,.int p.2,Z,Z,SqT.of GH,Z,(by change 2<=sizeLine;decide),λq hq=>?_;let UB:i<xs.length:=(Xx.mp hi).1
   show Xw _ _ ⟨UB,by rw[Xt,hl];rfl,Zr s2 hq,?_⟩;rw[YY,OJ];show(hy.same<|XZ hq).snoc ⟨q,Z,XR⟩
  .rintro ys H2 ⟨_,hl,s2,hy⟩ tl iS;let zN:=s2 w _ XR
   let nwt:w≠tl:=Za zN iS;exists _,Z,w,_,dx,_,Z,(by rwa[XJ nwt]),T.cl_Web,T.n_Web_ties,(by change 1<1000;decide),?_;show q _ ⟨dx,tl,ys,XR,by rw[XJ (Xa nwt),XR],?_⟩ λb ob e hb=>?_
   .let e1:ps.take xs.length=ps:=YO (by rw[hp.1];show XM _);rw[e1]at hy;exists hy.1,λi p e=>?_;let⟨v,e2,tt,e3,e4⟩:=hy.2 i p e;exists v,e2,tt,e3,by rwa[XJ (Vt e4 zN (λz=>nomatch z)),XJ (Za e4 iS)]
   .let e2:=s2 b ob (by rwa[XJ hb]);rwa[XJ hb,XJ (Za e2 iS)]
inductive spZ9(K:Ad)(C:Addr)(vs:List V)(H:Hp)(Q:VK)(_:XK):Prop
 |mk (w a n ps kd T:_) (_:vs=[.ref w,.ref a]) (_:WebAt C H w n ps) (_:ps.length<=1000) (_:SqK kd K H a (IL T)) (_:∀sP,sP.Pairwise (·<·)->(∀z,z∈sP↔(0<=z/\z<ps⁻¹)/\z∉T)->∀r H',Same H H'->H' r=some (.tup<|IL sP)->Q ↑r H')
def iR(T:Txt K mg t):WR P w base Xd T.qZ9 1 (spZ9 K t.A_Web):=by
 show T.qZ9.okI ["web","ties"] sQ λXu A outer s H vs Q E hr h=>?_
 .let⟨w,a,n,ps,kd,T',rfl,hW,hl,hA,q⟩:=h;exists _,(XC<|Zm<|Zl (ZS K) sU T.n_tuple Boot.«tuple»<|XY (Ww Z (sc0:=Xe<|top 21) (N0:=["web","ties"]) (N':=["tie","ties"]) (o:=1) (fr:=[1]) ⟨Z,sQ,sQ,sQ,Z,sQ⟩ (rP Z T.n_range<|XY (Zh (Zp K) sU T.n_len Boot.«len»<|XY (Zk K (pv 0) Z) XT) XT) (Zn sT) (λ_ _ _ _=>(Xc 0)) (λ_ _ _ _=>(ZX<|Zi (Tx K) (pv 0) (pv 1) Z)) λ_ _ _ _=>(pv 0)) XT),?_;let⟨dx,tl,xs,h1,h2,h3⟩:=hW;let QC:=h3.1
  exists _,Z,w,_,dx,_,_,Z,h1,T.cl_Web,T.n_Web_ties,Nb _ _,tl,xs,Z,.inl<|SqL.of h2,_,Z,J,J,cV (lo:=0) (n:=(xs.length:Int).toNat) (λj ys H3=>H3=H/\∃sP:Ac,ys=IL sP/\sP.length<=j/\sP.Pairwise (·<·)/\∀z,z∈sP↔(0<=z/\z<(j:Int))/\z∉T') ⟨Z,[],Z,XM _,.nil,λz=>⟨λh=>(by cases h),λh=>(by lia)⟩⟩ (Zg J) (λj ys H3 _ zz=>by let⟨_,sP,e,hl,_⟩:=zz;rwa[e,Xy]) ?_ ?_
  .rintro j ys H3 hj ⟨rfl,sP,rfl,hDl,hp,hm⟩ S Xw;let lt:∀z∈sP,z<(j:Int):=λz hz=>((hm z).mp hz).1.2
   show nm ?_;exists _,Z,_,Z,a,_,Z,hA.or,Z,ZP _,_,Z,?_;rw[Vc,FE];show WL (λWu=>?_) (λWu=>?_)
   .show Xw _ _ ⟨Z,sP,Z,J,hp,λz=>?_⟩;rw[hm z];exists λh=>⟨J,h.2⟩,λh=>⟨⟨h.1.1,?_⟩,h.2⟩;cases e:z=(j:Int)
    .show absurd (e▸Wu) h.2
    .lia
   .exists _,Z,Xw _ _ ⟨Z,sP++[(j:Int)],?_,by rw[Xt];show Nat.succ_le_succ hDl,?_,λz=>?_⟩
    .rw[ZU]
    .show YJ.mpr ⟨hp,KI _ _,λa ha b hb=>by rw[XG.mp hb];show lt a ha⟩
    .rw[XA,XG,hm z];constructor
     .rintro(⟨f1,f2⟩|h)
      .exists J,f2
      .rw[h];exists J,Wu
     .rintro⟨f1,f2⟩;cases e:z=(j:Int)
      .show .inr e
      .show .inl ⟨J,f2⟩
  rintro ys H3 ⟨rfl,sP,rfl,hDl,hp,hm⟩ la NO;rw[show(((xs.length:Int).toNat:Nat):Int)=ps⁻¹ by lia]at hm;exists la,_,Z,.inl ⟨SqL.of XR,λtp PL=>?_⟩;show q sP hp hm tp _ ((XZ NO).trans (XZ PL)) XR
inductive spZa(K:Ad)(vs:List V)(H:Hp)(Q:VK)(_:XK):Prop
 |mk (a kd ns z:_) (_:vs=[.ref a,.int z]) (_:SqK kd K H a (IL ns)) (_:ns.length<=1000) (_:∀r H',Same H H'->H r=none->H' r=some (.tup<|IL<|wo ns z)->Q ↑r H')
def zM(T:Txt K mg t):WR P w base Xd T.qZa 1 (spZa K):=by
 show T.qZa.okI ["ties","left_out"] sQ λXu A outer s H vs Q E hr h=>?_
 .let⟨a,kd,ns,z,rfl,hS,hn,q⟩:=h;exists _,(XC<|Zm<|Zl (ZS K) sU T.n_tuple Boot.«tuple»<|XY (Ww Z (sc0:=Xe<|top 22) (N0:=["ties","left_out"]) (N':=["tie","left_out"]) (o:=1) (fr:=[1]) ⟨Z,sQ,sQ,sQ,Z,sQ⟩ (Kb K<|pv 0) (Zn sT) (λ_ _ _ _=>(Xc 0)) (λ_ _ _ _=>(ZX<|Zi Qb (pv 0) (pv 1)<|Zw _)) λ_ _ _ _=>(pv 0)) XT),?_;show⟨_,Z,a,Z,wQ (k:=kd) (K:=K) (xs:=IL ns) (λi ys H2=>H2=H/\i<=ns.length/\ys=IL (wo (ns.take i) z)) ⟨Z,Yk _,Z⟩ (Zg<|by rw[Xy];lia)
   (λi ys H2 hi zz=>by let⟨e,Vf,ey⟩:=zz;show⟨e▸hS,by rw[ey,Xy];show Yn (LP _ _)<|by rw[Yh];lia⟩) ?_ ?_⟩
  .rintro i x ys H2 hi ⟨rfl,UB,rfl⟩ S Xw;let⟨y,rfl,hy⟩:=ZV hi;let Xo:i<ns.length:=(Xx.mp hy).1
   show nm ?_;exists _,Z,_,Z,Z,_,Z,?_;rw[ZA];show WL (λhe=>?_) (λhe=>?_)
   .show Xw _ _ ⟨Z,Xo,?_⟩;rw[wB hy,if_neg (by simpa using he),Yu]
   .exists _,Z,Xw _ _ ⟨Z,Xo,?_⟩;rw[wB hy,if_pos he,ZU]
  .rintro ys H2 ⟨rfl,_,rfl⟩ p hp;rw[Xy,YE];exists p,_,Z,.inl ⟨SqL.of XR,λr hr=>?_⟩;show q r _ (Zr (XZ hp) hr) ((XZ hp).free hr) XR
inductive spZb(K:Ad)(C:Addr)(vs:List V)(H:Hp)(Q:VK)(_:XK):Prop
 |mk (w a n ps kd ns:_) (_:vs=[.ref w,.ref a]) (_:WebAt C H w n ps) (_:SqK kd K H a (IL ns)) (_:∀b:Bool,(b=true↔IsSet ps.length ns)->Q (.bl b) H)
def zL(T:Txt K mg t):WR P w base Xd T.qZb 2 (spZb K t.A_Web):=by
 show T.qZb.okI ["web","ties","last","tie"] sQ λXu A outer s H vs Q E hr h=>?_
 .let⟨w,a,n,ps,kd,ns,rfl,hW,hS,q⟩:=h;show⟨_,(XI (Zf 2<|DB Kt Zc)
   (XI (TH Wz Z (Kb K<|pv 1) (Xc 3)
   (XI (VL (PW.pt<|Pg (Zi Pc (pv 3) (pv 2)<|Zw _)<|DL<|Uo<|Mq<|Zb (zQ T) hr T.qZ6 ZF<|XY (pv 0)<|XY (pv 3) XT)
   (XC<|Zm QS)
   Zu)
   (XC<|Zf 2<|pv 3)))
   (XC<|Zm QS))),?_⟩
  exists _,Z,?_;show⟨_,Z,a,Z,wR (k:=kd) (K:=K) (xs:=IL ns) (λi σ H2=>∃l v,σ=[some ↑w,some<|.ref a,some<|.int l,v]/\H2=H/\(i=0->l=-1)/\(i≠0->ns[i-1]?=some l)/\∀j z,j<i->ns[j]?=some z->0<=z/\z<ps⁻¹/\∀y,j≠0->ns[j-1]?=some y->y<z)
   ⟨-1,none,Z,Z,λ_=>rfl,λz=>absurd Z z,λj z hj=>absurd hj<|Sv j⟩ (λi σ H2 _ zz=>by let⟨_,_,_,e,_⟩:=zz;show e▸hS) ?_ ?_⟩
  .rintro i x σ H2 hi ⟨l,v,rfl,rfl,Oa,Ta,hp⟩;let⟨z,rfl,hz⟩:=ZV hi;exists _,Z,_,Z,_,_,Z,Z,_,Z,?_;show WO (λhc=>?_) (λhc=>?_)
   .-- tie<=last
    show SI ?_;show q false ⟨λz=>(nomatch z),λhs=>?_⟩;let⟨b1,b2,b3⟩:=hs i z hz;cases h0:i=0
    .have:=Oa h0;lia
    .have:=b3 l h0 (Ta h0);lia
   .exists _,Z,_,Z,w,n,ps,z,Z,hW,_,Z,?_;show WL (λUl=>?_) (λUl=>?_)
    .exists _,Z,?_;show⟨z,_,Z,Z,λe=>(nomatch e),λ_=>by simpa using hz,λj y hj ey=>?_⟩;cases hji:j<i
     .show hp j y hji ey
     .let e:j=i:=J;subst e;rw[hz]at ey;cases ey;exists Ul.1,Ul.2,λy h0 ey=>?_;rw[Ta h0]at ey;cases ey;lia
    .show q false ⟨λz=>(nomatch z),λhs=>?_⟩;let⟨b1,b2,b3⟩:=hs i z hz;show absurd ⟨b1,b2⟩ Ul
  .rintro σ H2 ⟨l,v,rfl,rfl,Oa,Ta,hp⟩;show q true ⟨λ_ i z hz=>?_,λ_=>rfl⟩;let hi:i<(IL ns).length:=by rw[Xy];show(Xx.mp hz).1
   show hp i z hi hz
inductive spZc(K:Ad)(C:Addr)(vs:List V)(H:Hp)(Q:VK)(_:XK):Prop
 |mk (w a n ps kd ns:_) (_:vs=[.ref w,.ref a]) (_:WebAt C H w n ps) (_:SqK kd K H a (IL ns)) (_:IsSet ps.length ns) (_:∀r H',Same H H'->SqT K H' r (IL ns)->Q ↑r H')
def iQ(T:Txt K mg t):WR P w base Xd T.qZc 3 (spZc K t.A_Web):=by
 show T.qZc.okI ["web","ties"] sQ λXu A outer s H vs Q E hr h=>?_
 .let⟨w,a,n,ps,kd,ns,rfl,hW,hS,hI,q⟩:=h;show⟨_,(XI (VL (Uo<|Mq<|Zb (zL T) hr T.qZb ZF<|XY (pv 0)<|XY (pv 1) XT)
   (XC Kw)
   Zu)
   (XC<|Zm<|Zl (ZS K) sU T.n_tuple Boot.«tuple»<|XY (pv 1) XT)),?_⟩
  exists _,Z,_,Z,w,a,n,ps,kd,ns,Z,hW,hS,λb hb=>⟨_,Z,?_⟩;show CF (λ_=>?_) (λz=>?_)
  .exists _,Z,a,IL ns,Z,?_;cases kd with
   |false=>show .inl ⟨hS,λl hl=>q l _ (XZ hl)<|SqT.of XR⟩
   |true=>show .inr ⟨hS,q a H (Same.refl H) hS⟩
  .rw[hb.mpr hI]at z;cases z
inductive spZd(K:Ad)(C:Addr)(vs:List V)(H:Hp)(Q:VK)(_:XK):Prop
 |mk (w m a n ps M kd ns:_) (_:vs=[.ref w,.ref m,.ref a]) (_:WebAt C H w n ps) (_:Zy n ps) (_:H m=some (.lst<|IL M)) (_:M.length=n.toNat) (_:SqK kd K H a (IL ns)) (_:(∀z∈ns,0<=z/\z<ps⁻¹)) (_:∀m' H',Same H H'->(m'=m\/H m'=none)->H' m'=some (.lst<|IL<|MY M<|XU ps ns)->Q ↑m' H')
def GG:FnScope ["web","marks","ties","tie","ends","low","high"] ["web","marks","ties"] (Xe (top 25)):=Rc sQ
def zK(T:Txt K mg t):WR P w base Xd T.qZd 1 (spZd K t.A_Web):=by
 show T.qZd.okI ["web","marks","ties","tie","ends","low","high"] sQ λXu A outer s H vs Q E hr h=>?_
 .let⟨w,m0,a,n,ps,M0,kd,ns,rfl,⟨dx,tl,xs,h1,h2,h3⟩,⟨g1,g2,g3,g4⟩,hm,hlM,hS,hI,q⟩:=h;show⟨_,(XI (TH Wz Z (Kb K<|pv 2) (Xc 3)
   (XI (Zf 4<|ZL (Zd K) (Zk K (pv 0) Z) (pv 3) λ_ _=>rfl)
   (XI (Ti (i:=5) GG.nd Z (Or.inr Z)<|Zh (rF Z) sU T.n_min Boot.«min»<|XY (ZL (Zd K) (pv 1) (ZL (ZK K) (pv 4) Zc λ_ _=>rfl) λ_ _=>rfl)<|XY (ZL (Zd K) (pv 1) (ZL (ZK K) (pv 4) Zc λ_ _=>rfl) λ_ _=>rfl) XT)
   (XI (Ti (i:=6) GG.nd Z (Or.inr Z)<|Zh (dD Z) sU T.n_max Boot.«max»<|XY (ZL (Zd K) (pv 1) (ZL (ZK K) (pv 4) Zc λ_ _=>rfl) λ_ _=>rfl)<|XY (ZL (Zd K) (pv 1) (ZL (ZK K) (pv 4) Zc λ_ _=>rfl) λ_ _=>rfl) XT)
   (XC (VL (Zi Kq (pv 5) (pv 6)<|Zw _)
   (XC<|Vr (i:=1) Z GG.nd Z Z (sc0:=Xe<|top 25) (N0:=["web","marks","ties","tie","ends","low","high"]) (N':=["mark","high","low"]) (o:=1) (fr:=[6,5]) ⟨Z,sQ,sQ,sQ,Z,sQ⟩ (Zv K<|pv 1) (Zn sT) (λ_ _ _ _=>(Xc 0)) (λ_ _ _ _=>RT) λ_ _ _ _=>(dO (Zi Qc (pv 0) (pv 1)<|Zw _) (pv 2)<|pv 0))
   Zu))))))
   (XC<|Zm<|pv 1)),?_⟩
  show⟨_,Z,a,Z,wR (k:=kd) (K:=K) (a:=a) (xs:=IL ns) (λi σ H2=>∃m v3 v4 v5 v6,σ=[some ↑w,some<|.ref m,some<|.ref a,v3,v4,v5,v6]/\Same H H2/\(m=m0\/H m=none)/\H2 m=some (.lst<|IL<|MY M0<|XU ps<|ns.take i))
   ⟨m0,none,none,none,none,Z,Same.refl _,.inl Z,hm⟩ (λi σ H2 _ zz=>by let⟨_,_,_,_,_,_,s2,_⟩:=zz;show hS.same s2) ?_ ?_⟩
  .rintro i x σ H2 hi ⟨m,v3,v4,v5,v6,rfl,s2,PM,WI⟩;let⟨z,rfl,hz⟩:=ZV hi;let⟨z0,z1⟩:=hI z (Xj hz);obtain⟨p,hp⟩:∃p,ps[z.toNat]?=some p:=⟨_,Xq J⟩;let⟨v,hv,tt,rfl,VW⟩:=h3.2 z.toNat p hp;let⟨e1,e2,e3,e4⟩:=g4 p (Xj hp);let ed:ps.getD z.toNat (0,0)=p:=ZY hp
   exists _,Z,w,_,dx,_,_,Z,s2 _ _ h1,T.cl_Web,T.n_Web_ties,Nb _ _,_,Z,tl,xs,z,.ref tt,Z,Z,SqL.of<|s2 _ _ h2,ZJ (n:=z.toNat) J hv,?_;let GH:=s2 _ _ VW
   let hl:(MY M0<|XU ps<|ns.take i).length=n.toNat:=(ZY6 _ _).trans hlM;generalize hM:MY M0 (XU ps<|ns.take i)=M at *;let ha:M[p.1.toNat]?=some (mk M p.1.toNat):=VP sS
   let hb:M[p.2.toNat]?=some (mk M p.2.toNat):=VP sS;let iA:We (IL M) p.1=some (.int<|mk M p.1.toNat):=ZJ (n:=p.1.toNat) J (by rw[Ys,ha];rfl)
   let iB:We (IL M) p.2=some (.int<|mk M p.2.toNat):=ZJ (n:=p.2.toNat) J (by rw[Ys,hb];rfl);let t0:We ([.int p.1,.int p.2]:List V) 0=some (.int p.1):=rfl
   let t1:We ([.int p.1,.int p.2]:List V) 1=some (.int p.2):=rfl;exists _,rfl,_,rfl,tt,_,0,_,rfl,rfl,SqT.of GH,t0,m,_,p.1,_,rfl,rfl,SqL.of WI,iA,_,rfl,_,rfl,tt,_,1,_,rfl,rfl,SqT.of GH,t1,m,_,p.2,_,rfl,rfl,SqL.of WI,iB,_,_,rfl,?_;exists _,rfl,_,rfl,tt,_,0,_,rfl,rfl,SqT.of GH,t0,m,_,p.1,_,rfl,rfl,SqL.of WI,iA,_,rfl,_,rfl,tt,_,1,_,rfl,rfl,SqT.of GH,t1,m,_,p.2,_,rfl,rfl,SqL.of WI,iB,_,_,rfl,?_;let eL:(if mk M p.2.toNat<mk M p.1.toNat then mk M p.2.toNat else mk M p.1.toNat)=min (mk M p.1.toNat) (mk M p.2.toNat):=by rw[Int.min_def];split<;>split<;>lia
   let eH:(if mk M p.2.toNat>mk M p.1.toNat then mk M p.2.toNat else mk M p.1.toNat)=max (mk M p.1.toNat) (mk M p.2.toNat):=by rw[Int.max_def];split<;>split<;>lia
   exists _,Z,_,Z,_,_,Z,Z,_,Z,?_;rw[eL,eH];let step:MY M0 (XU ps<|ns.take<|i+1)=pm M p.1.toNat p.2.toNat:=by rw[Ze6 hz,ou,hM,ed]
   show WO (λhc=>?_) (λhc=>?_)
   .show⟨_,Z,m,Z,⟨_,SqL.of WI⟩,Wc (K:=K) (a:=m) (xs:=IL M) (λj ys H3=>H3=H2/\j<=M.length/\ys=IL ((M.take j).map λk=>if k=max (mk M p.1.toNat) (mk M p.2.toNat) then min (mk M p.1.toNat) (mk M p.2.toNat) else k)) ⟨Z,Yk _,Z⟩ (Zg<|by rw[Xy];grind)
     (λj ys H3 hj zz=>by let⟨e,Vg,ey⟩:=zz;show⟨e▸SqL.of WI,by rw[ey,Xy,Yc,Yh];lia⟩) ?_ ?_⟩
    .rintro j y ys H3 hj ⟨rfl,Vg,rfl⟩ S Xw;let⟨k,rfl,hk⟩:=ZV hj;show cW ?_;exists _,Z,_,Z,Z,_,Z,?_;let VX:j<M.length:=(Xx.mp hk).1
     let app:∀r:Int,r=(if k=max (mk M p.1.toNat) (mk M p.2.toNat) then min (mk M p.1.toNat) (mk M p.2.toNat) else k)->
       IL ((M.take j).map λk=>if k=max (mk M p.1.toNat) (mk M p.2.toNat) then min (mk M p.1.toNat) (mk M p.2.toNat) else k)++[.int r]=IL ((M.take<|j+1).map λk=>if k=max (mk M p.1.toNat) (mk M p.2.toNat) then min (mk M p.1.toNat) (mk M p.2.toNat) else k):=by intro r er;rw[YY,hk,er];simp
     show WO (λhe=>?_) (λhe=>?_)
     .exists _,Z,Xw _ _ ⟨Z,VX,app _ ?_⟩;rw[if_pos (V.int.inj he)]
     .exists _,Z,Xw _ _ ⟨Z,VX,app _ ?_⟩;rw[if_neg λz=>he (YV V.int z)]
    .rintro ys H3 ⟨rfl,_,rfl⟩ p' GF;exists p',_,_,_,_,Z,Zr s2 GF,.inr<|s2.free GF,?_;rw[XR,step,Xy,YE];unfold pm;rw[if_pos hc]
   .exists m,_,_,_,_,Z,s2,PM,?_;rw[WI,step];unfold pm;rw[if_neg hc]
  .rintro σ H2 ⟨m,v3,v4,v5,v6,rfl,s2,PM,WI⟩;rw[Xy,YE]at WI;exists _,Z,q m H2 s2 PM WI
inductive spZe(K:Ad)(C:Addr)(vs:List V)(H:Hp)(Q:VK)(_:XK):Prop
 |mk (w a n ps ns:_) (_:vs=[.ref w,.ref a]) (_:WebAt C H w n ps) (_:Zy n ps) (_:SqT K H a (IL ns)) (_:(∀z∈ns,0<=z/\z<ps⁻¹)) (_:∀m H',Same H H'->H m=none->H' m=some (.lst<|IL<|XB n.toNat<|XU ps ns)->Q ↑m H')
def Qp(T:Txt K mg t):WR P w base Xd T.qZe 2 (spZe K t.A_Web):=by
 show T.qZe.okI ["web","ties"] sQ λXu A outer s H vs Q E hr h=>?_
 .let⟨w,a,n,ps,ns,rfl,hW,hG,hS,hI,q⟩:=h;exists _,(XC<|Zm<|Zb (zK T) hr T.qZd ZF<|XY (pv 0)<|XY (Zl (pT Z) sU T.n_list Boot.«list»<|XY (Zl pW sU T.n_range Boot.«range»<|XY (Zk K (pv 0) Z) XT) XT)<|XY (pv 1) XT),?_;let⟨dx,tl,xs,h1,h2,h3⟩:=id hW;let⟨g1,g2,g3,g4⟩:=id hG;exists _,Z,_,Z,w,_,dx,_,_,Z,h1,T.cl_Web,T.n_Web_places,HV _ _,n,Z,λr Ut=>⟨r,0,n,Z,XR,⟨sT,sT,J,D⟩,J,λm hm=>?_⟩;let sm:Same H (upd (upd H r<|.rng 0 n) m<|.lst<|(Vq 0 n).map V.int):=Zr (XZ Ut) hm
  exists _,Z,w,m,a,n,ps,(List.range n.toNat).map λ(i:Nat)=>(i:Int),true,ns,Z,hW.same sm,hG,?_,B,Ke sm hS,hI,λm' H' s' hf Ka=>?_
  .rw[XR,pd]
  .show q m' H' (sm.trans s') ?_ Ka;rcases hf with rfl|hf
   .show(XZ Ut).free hm
   .show sm.free hf
inductive spZf(K:Ad)(C:Addr)(vs:List V)(H:Hp)(Q:VK)(_:XK):Prop
 |mk (w a n ps kd ns:_) (_:vs=[.ref w,.ref a]) (_:WebAt C H w n ps) (_:Zy n ps) (_:SqK kd K H a (IL ns)) (_:IsSet ps.length ns) (_:∀r as H',Same H H'->H r=none->H' r=some (.lst<|as.map V.ref)->r∉as->GrpAt H H' (HP<|XB n.toNat<|XU ps ns) as->Q ↑r H')
def iP(T:Txt K mg t):WR P w base Xd T.qZf 4 (spZf K t.A_Web):=by
 show T.qZf.okI ["web","ties","pieces","place","mark"] sQ λXu A outer s H vs Q E hr h=>?_
 .let⟨w,a,n,ps,kd,ns,rfl,hW,hG,hS,hI,q⟩:=h;show⟨_,(XI (Zf 2 CS)
   (XI (TH Wz Z (LX K Z T.n_enumerate<|XY (Zb (Qp T) hr T.qZe ZF<|XY (pv 0)<|XY (Zb (iQ T) hr T.qZc ZF<|XY (pv 0)<|XY (pv 1) XT) XT) XT) (QJ (n:=2) K Z<|Zo (Xc 3)<|Zo (Xc 4) QQ)
   (XC<|QR<|ON K PH Er Es OX (ON K um eW PySem.F.type_dict_setdefault pN (pv 2)<|XY (pv 4)<|XY (TY XT) XT)<|XY (pv 3) XT))
   (XC<|Zm<|Zl (ZJ3 Z) sU T.n_list Boot.«list»<|XY (HR K um eJ PySem.F.type_dict_values Zu8<|pv 2) XT))),?_⟩
  intro d hd;let s0:Same H (upd H d<|.dK []):=XZ hd
  exists _,Z,_,Z,_,Z,w,a,n,ps,kd,ns,Z,hW.same s0,hS.same s0,hI,λr H1 s1 To=>?_;exists w,r,n,ps,ns,Z,(hW.same s0).same s1,hG,To,hI.all,λm H2 s2 TU WI=>?_;let PK:Same H H2:=(s0.trans s1).trans s2
  let hd2:H2 d=some (.dK []):=s2 _ _ (s1 _ _ XR);let hl:(XB n.toNat<|XU ps ns).length=n.toNat:=ZD _ _
  generalize hM:XB n.toNat (XU ps ns)=M at *;let PM:H m=none:=(s0.trans s1).free TU
  let n14:M.length<=14:=by have:=hG.2.1;grind
  exists m,Z,⟨_,SqL.of WI⟩,?_;show CB (K:=K) (a:=m) (xs:=IL M) (λi σ H3=>∃as v3 v4,σ=[some ↑w,some<|.ref a,some<|.ref d,v3,v4]/\i<=M.length/\Same H H3/\H3 m=some (.lst<|IL M)/\H3 d=some (.dK<|Uk (Xp M i) as)/\d∉as/\m∉as/\GrpAt H H3 (Xp M i) as/\as.length<=i)
   ⟨[],none,none,Z,Yk _,PK,WI,hd2,B,B,⟨Z,List.nodup_nil,λi kv a e=>by simp[Xp]at e,λa ha=>by simp at ha⟩,XM _⟩ (λi σ H3 _ zz=>by let⟨_,_,_,_,_,_,h,_⟩:=zz;show SqL.of h) ?_ ?_
  .rintro i x σ H3 pt Uu hi ⟨as,v3,v4,rfl,UB,s3,zJ,SY,ve,vd,gA,hal⟩;let⟨k,rfl,hk⟩:=ZV hi;let Ux:mk M i=k:=ZY hk
   let Xo:i<M.length:=(Xx.mp hk).1;let s4:Same H3 (upd H3 pt<|.tup [.int i,.int k]):=XZ Uu
   exists pt,_,Z,SqT.of XR,Z,_,_,Z,_,_,Z,Z,?_;exists _,Z,.inr<|.inr<|.inl ⟨Z,.inl ⟨_,s4 _ _ SY⟩⟩,_,Z,(by change 0<=sizeLine;show Yk _),λl Oa=>?_;let s5:Same H3 (upd (upd H3 pt<|.tup [.int i,.int k]) l<|.lst []):=Zr s4 Oa
   let hd5:=s5 _ _ SY;let MP:H3 l=none:=s4.free Oa
   let iO:d≠l:=Za SY MP;let gl:=gA.len
   exists d,Uk (Xp M i) as,Sum.inl k,.ref l,Z,Z,hd5,?_,λv hv=>?_,λhv=>?_
   .rw[Zv7 gl];show Zg sS
   .-- the mark has XX list
    rcases o9 (g:=Xp M i) (as:=as) (k:=k) gl with ⟨h1,_⟩|⟨j,kv,b,e1,e2,e3,e4⟩
    .rw[h1]at hv;cases hv
    .rw[e4]at hv;cases hv;let zH:=s5 _ _ (gA.at_ j kv b e1 e2)
     let vh:k∈(Xp M i).map (·.1):=YR.mpr ⟨kv,Xj e1,e3⟩;let hlen:kv.2.length<=i:=ph (Xj e1)
     exists .inl ⟨Z,_,SqL.of zH⟩,_,Z,b,_,.int i,Z,Z,zH,?_,?_
     .rw[Xy];show Zg sS
     .let GD:b∈as:=Xj e2;let RW:d≠b:=λz=>ve (z▸GD)
      let hmb:m≠b:=λz=>vd (z▸GD);let Lo:=gA.new b GD
      let Jo:(Xp M<|i+1).map (·.1)=(Xp M i).map (·.1):=by change(RS (Xp M i) (i:Int)<|mk M i).map (·.1)=_;rw[LW,Ux,if_pos vh]
      exists as,_,_,Z,Xo,ZI Lo<|s3.trans s5,by rw[XJ hmb];show s5 _ _ zJ,by rw[XJ RW,hd5,cO Jo],ve,vd,⟨?_,gA.nd,?_,gA.new⟩,J
      .have:=YV List.length Jo
       rw[Yc,Yc]at this;lia
      .intro i2 vc a2 f1 f2;let f1:(RS (Xp M i) (i:Int)<|mk M i)[i2]?=some vc:=f1
       unfold RS at f1;rw[Ux,if_pos vh,Ys]at f1;cases f3:(Xp M i)[i2]? with
       |none=>rw[f3]at f1;cases f1
       |some EC=>
        rw[f3]at f1;let f1:(if EC.1=k then (EC.1,EC.2++[(i:Int)]) else EC)=vc:=Ye f1
        cases hj:i2=j
        .subst hj;rw[e1]at f3;cases f3;rw[e2]at f2;cases f2;rw[if_pos e3]at f1;subst f1;rw[XR];simp
        .let Vh:a2≠b:=λz=>by subst z;show hj (Fo gA.nd f2 e2)
         let JQ:¬EC.1=k:=λz=>hj (Fo (pj M i) (by rw[Ys,f3];show YV some z)<|by rw[Ys,e1];show YV some e3);rw[if_neg JQ]at f1;subst f1;rw[XJ Vh];show s5 _ _ (gA.at_ i2 EC a2 f3 f2)
   .-- a new list
    rcases o9 (g:=Xp M i) (as:=as) (k:=k) gl with ⟨h1,Fb⟩|⟨j,kv,b,e1,e2,e3,e4⟩
    .let zE:(upd (upd (upd H3 pt<|.tup [.int i,.int k]) l<|.lst []) d<|.dK<|Uk (Xp M i) as++[(Sum.inl k,.ref l)]) l=some (.lst []):=by rw[XJ (Xa iO),XR]
     exists .inl ⟨Z,_,SqL.of zE⟩,_,Z,l,[],.int i,Z,Z,zE,(by change 0<sizeLine;decide),?_;let zD:H l=none:=s3.free MP
     let iN:l∉as:=λz=>by let⟨_,e⟩:=gA.mem z;rw[MP]at e;cases e
     let MZ:m≠l:=Za zJ MP;let hmd:m≠d:=Vt zJ SY (λz=>nomatch z)
     let iM:Xp M (i+1)=Xp M i++[(k,[(i:Int)])]:=by change RS (Xp M i) (i:Int) (mk M i)=_;unfold RS;rw[Ux,if_neg Fb]
     let hdH:H d=none:=hd;exists as++[l],_,_,Z,Xo,ZI zD<|ZI hdH<|s3.trans s5,by rw[XJ MZ,XJ hmd];show s5 _ _ zJ,?_,?_,?_,⟨?_,?_,?_,?_⟩,?_
     .rw[XJ iO,XR,iM,cN gl]
     .rw[XA,XG];rintro(z|z)
      .show ve z
      .show iO z
     .rw[XA,XG];rintro(z|z)
      .show vd z
      .show MZ z
     .rw[iM,Xt,Xt,gl];rfl
     .show cU gA.nd iN
     .intro i2 vc a2 f1 f2;rw[iM]at f1;cases Vf:i2<(Xp M i).length
      .rw[Yp Vf]at f1;rw[Yp J]at f2;let e:=gA.at_ i2 vc a2 f1 f2
       let n1:a2≠l:=Za e MP;let n2:a2≠d:=Vt e SY (λz=>nomatch z)
       rw[XJ n1,XJ n2];show s5 _ _ e
      .let h2:i2=(Xp M i).length:=by
        have:=(Xx.mp f1).1
        rw[Xt,Yx]at this;grind
       subst h2;rw[Ym (XM _),Nl]at f1;rw[Ym J,gl,Nl]at f2;cases f1;cases f2;rw[XR];rfl
     .intro a2 ha2;rcases XA.mp ha2 with z|z
      .show gA.new a2 z
      .rw[XG.mp z];show zD
     .rw[Xt,Yx];lia
    .rw[e4]at hv;cases hv
  .rintro σ H3 ⟨as,v3,v4,rfl,UB,s3,zJ,SY,ve,vd,gA,hal⟩;rw[Xy]at SY gA;exists _,Z,.inr<|.inr<|.inl ⟨Z,.inl ⟨_,SY⟩⟩,d,_,Z,Z,SY,λp hp=>?_;let s6:Same H3 (upd H3 p<|QK p d):=XZ hp
   exists p,d,_,Z,XR,s6 _ _ SY,λr Ut=>?_;let s7:Same H3 (upd (upd H3 p<|QK p d) r (.lst ((Uk (Xp M M.length) as).map (·.2)))):=Zr s6 Ut
   show q r as _ (s3.trans s7) ((s3.trans s6).free Ut) (by rw[XR,cP gA.len]) (λz=>?_) (gA.same s7);let⟨_,e⟩:=gA.mem z;rw[s6.free Ut]at e;cases e
inductive spZg(K:Ad)(C:Addr)(vs:List V)(H:Hp)(Q:VK)(_:XK):Prop
 |mk (w a n ps kd ns:_) (_:vs=[.ref w,.ref a]) (_:WebAt C H w n ps) (_:Zy n ps) (_:SqK kd K H a (IL ns)) (_:IsSet ps.length ns) (_:∀b H',Same H H'->(b=true↔(HP<|XB n.toNat<|XU ps ns).length=1)->Q (.bl b) H')
def iL(T:Txt K mg t):WR P w base Xd T.qZg 5 (spZg K t.A_Web):=by
 show T.qZg.okI ["web","ties"] sQ λXu A outer s H vs Q E hr h=>?_
 .let⟨w,a,n,ps,kd,ns,rfl,hW,hG,hS,hI,q⟩:=h;exists _,(XC<|Zm<|Im Qc (Zh (Zp K) sU T.n_len Boot.«len»<|XY (Zb (iP T) hr T.qZf ZF<|XY (pv 0)<|XY (pv 1) XT) XT) Zc<|Zw _),?_;exists _,Z,_,Z,w,a,n,ps,kd,ns,Z,hW,hG,hS,hI,λr as H' s1 Ut To hnr gA=>?_;exists r,_,Z,.inl<|SqL.of To,Z,?_;rw[Yc,gA.len,ZA];show q _ H' s1 ?_;rw[YL];lia
inductive spZh(K:Ad)(C:Addr)(vs:List V)(H:Hp)(Q:VK)(_:XK):Prop
 |mk (w b n ps ws:_) (_:vs=[.ref w,.ref b]) (_:WebAt C H w n ps) (_:Zy n ps) (_:SqL K H b (IL ws)) (_:ws.length=ps.length) (_:∀r ys L H',Same H H'->H r=none->TabAt H r n.toNat H' ys L->(∀i j,i<n.toNat->j<n.toNat->fnL L i j=lapE (Ve ps ws) i j)->Q ↑r H')
def ZT6(x:V)(k:Nat):(List.replicate k [x]).flatten=List.replicate k x:=by
 induction k with
 |zero=>rfl
 |succ k ih=>rw[Jc,ME,ih,Jc];rfl
def iK(n i j:Nat):fnL (List.replicate n (List.replicate n 0)) i j=0:=by
 unfold fnL;cases h:(List.replicate n<|List.replicate n (0:Int))[i]? with
 |none=>
  let e:(List.replicate n<|List.replicate n (0:Int)).getD i []=[]:=by rw[WG,h];rfl
  rw[e];rfl
 |some l=>
  let e:(List.replicate n<|List.replicate n (0:Int)).getD i []=l:=by rw[WG,h];rfl
  rw[e,yd<|Xj h,WG,x9];split<;>rfl
def TabAt.get{H0 H:Hp}{r:Addr}{n:Nat}{ys:List V}{L:Ab}(h:TabAt H0 r n H ys L){i j:Nat}(hi:i<n)(hj:j<n):∃A l x,ys[i]?=some ↑A/\H A=some (.lst (IL l))/\l[j]?=some x/\l.length=n/\x=fnL L i j/\H0 A=none/\∀y:Int,∃L':Ab,TabAt H0 r n (upd H A (.lst ((IL l).set j (.int y)))) ys L'/\∀a b,fnL L' a b=if a=i/\b=j then y else fnL L a b:=by
 let⟨A,l,y1,z1,hA,hl,hn,hr⟩:=h.at hi;obtain⟨x,hx⟩:∃x,l[j]?=some x:=⟨_,Xq J⟩;exists A,l,x,y1,hA,hx,hl,(Ug z1 hx).symm,hn,λy=>⟨L.set i<|l.set j y,?_,lI z1 J⟩;let e:(IL l).set j (.int y)=IL (l.set j y):=(List.map_set ..).symm
 rw[e];show h.put y1 z1 hr (by rwa[MC])
def va{xs:List V}{i:Int}(h0:0<=i)(h1:i<xs⁻¹):Md xs.length i=some i.toNat:=by unfold Md;rw[if_pos h0,if_pos D]
def iJ:FnScope ["web","weights","table","ends","weight","one","other"] ["web","weights"] (Xe (top 30)):=Rc sQ
def iI(T:Txt K mg t):WR P w base Xd T.qZh 1 (spZh K t.A_Web):=by
 show T.qZh.okI ["web","weights","table","ends","weight","one","other"] sQ λXu A outer s H vs Q E hr h=>?_
 .let⟨w,b,n,ps,ws,rfl,hW,hG,hS,Mb,q⟩:=h;show⟨_,(XI (Vr (i:=2) Z iJ.nd Z Z (sc0:=Xe<|top 30) (N0:=["web","weights","table","ends","weight","one","other"]) (N':=["place","web"]) (o:=1) (fr:=[0]) ⟨Z,sQ,sQ,sQ,Z,sQ⟩ (rP Z T.n_range<|XY (Zk K (pv 0) Z) XT) (Zn sT) (λ_ _ _ _=>(Xc 0)) (λ_ _ _ _=>RT) λ_ _ _ _=>(Zz CW (TY<|XY Zc XT)<|Zk K (pv 1) Z))
   (XI (TH Wz Z (Bo K Z T.n_zip<|XY (Zk K (pv 0) Z)<|XY (pv 1) XT) (QJ (n:=2) K Z<|Zo (Xc 3)<|Zo (Xc 4) QQ)
   (XI (Zf 5<|ZL (ZK K) (pv 3) Zc λ_ _=>rfl)
   (XI (Zf 6<|ZL (ZK K) (pv 3) Zc λ_ _=>rfl)
   (XC (VL (Zi Qb (pv 5) (pv 6)<|Zw _)
   (XI (Mm (ZL (Zd K) (pv 2) (pv 5) λ_ _=>rfl) (pv 5) (vU K) (pv 4) Kv Dg)
   (XI (Mm (ZL (Zd K) (pv 2) (pv 6) λ_ _=>rfl) (pv 6) (vU K) (pv 4) Kv Dg)
   (XI (Mm (ZL (Zd K) (pv 2) (pv 5) λ_ _=>rfl) (pv 6) (vU K) (pv 4) Ku Dg)
   (XC<|Mm (ZL (Zd K) (pv 2) (pv 6) λ_ _=>rfl) (pv 5) (vU K) (pv 4) Ku Dg))))
   Zu)))))
   (XC<|Zm<|pv 2))),?_⟩
  let⟨dx,tl,xs,h1,h2,h3⟩:=id hW;let hl:=h3.1
  let⟨g1,g2,g3,g4⟩:=id hG;let one:1<=sizeLine:=sT
  exists _,Z,w,_,dx,_,_,Z,h1,T.cl_Web,T.n_Web_places,HV _ _,n,Z,J,J,cV (lo:=0) (n:=n.toNat) (λi zs H2=>Same H H2/\Bears (Uj H2) zs (List.replicate i<|List.replicate n.toNat 0)/\zs.Nodup/\∀A,V.ref A∈zs->H A=none/\∃o,H2 A=some o) ⟨Same.refl _,⟨Z,λi l e=>by simp at e⟩,.nil,λA h=>(by cases h)⟩ (Zg J) (λi zs H2 _ zz=>by let⟨_,e,_⟩:=zz;rw[e.1,YU];show XM _) ?_ ?_
  .rintro i zs H2 hi ⟨s2,hZ,Ts,QN⟩ S Xw;show nm ?_;exists one,λp1 Uv=>?_;let u1:=XZ (o:=.lst [.int 0]) Uv
   exists _,Z,w,_,dx,_,_,Z,u1 _ _<|s2 _ _ h1,T.cl_Web,T.n_Web_places,HV _ _,p1,n,_,Z,Z,XR,J,J,OO (by change 1*n.toNat<=_;lia),λp2 VO=>?_;let e0:(List.replicate n.toNat [V.int 0]).flatten=IL (List.replicate n.toNat 0):=by rw[ZT6];change _=(List.replicate n.toNat 0).map V.int;rw[List.map_replicate]
   rw[e0];let u2:=u1.trans (XZ (o:=.lst<|IL<|List.replicate n.toNat 0) VO)
   let zC:H2 p2=none:=(XZ Uv).free VO;show Xw _ _ ⟨s2.trans u2,?_,?_,λA hA=>?_⟩
   .rw[List.replicate_succ'];show(hZ.imp λ_ _ zz=>by let⟨r',e,h⟩:=zz;exists r',e,u2 _ _ h).snoc ⟨p2,Z,XR⟩
   .show Wo.mpr ⟨Ts,B,λx hx y hy e=>?_⟩;rw[XG.mp hy]at e;let⟨_,o,ho⟩:=QN p2 (e▸hx);rw[zC]at ho;cases ho
   .rcases XA.mp hA with e|e
    .let⟨a1,o,a2⟩:=QN A e;exists a1,o,u2 _ _ a2
    .let e':A=p2:=by simpa using e
     rw[e'];exists s2.free zC,_,XR
  rintro zs H2 ⟨s2,hZ,Ts,QN⟩ tA NN;let s3:=s2.trans (XZ (o:=.lst zs) NN)
  let GC:H tA=none:=s2.free NN;let hT:TabAt H tA n.toNat (upd H2 tA<|.lst zs) zs (List.replicate n.toNat<|List.replicate n.toNat 0):=⟨XR,hZ.imp λ_ _ zz=>by let⟨r',e,h⟩:=zz;show⟨r',e,XZ NN _ _ h,Za h NN⟩,YU,λl h=>by rw[yd h];show YU,Ts,λA h=>(QN A h).1⟩
  let hzero:∀i j,fnL (List.replicate n.toNat<|List.replicate n.toNat 0) i j=0:=λi j=>by
   have:=iK n.toNat i j
   show this
  generalize upd H2 tA (.lst zs)=H3 at *;generalize List.replicate n.toNat (List.replicate n.toNat (0:Int))=L0 at *;exists _,Z,w,_,dx,_,_,Z,s3 _ _ h1,T.cl_Web,T.n_Web_ties,Nb _ _,_,Z,tl,b,Z,⟨_,_,SqL.of<|s3 _ _ h2,s3.seq hS⟩,lJ (K:=K) (a:=tl) (b:=b) (xs:=xs) (ys:=IL ws) (by rw[Xy];lia) (λi σ H4=>∃L v3 v4 v5 v6,σ=[some ↑w,some<|.ref b,some<|.ref tA,v3,v4,v5,v6]/\Same H H4/\TabAt H tA n.toNat H4 zs L/\∀x y,x<n.toNat->y<n.toNat->fnL L x y=lapE (Ve (ps.take i)<|ws.take i) x y) ⟨L0,none,none,none,none,Z,s3,hT,λx y _ _=>hzero x y⟩ (λi σ H4 _ zz=>by let⟨_,_,_,_,_,_,e,_⟩:=zz;exists SqL.of<|e _ _ h2,e.seq hS) ?_ ?_
  .rintro i v v' σ H4 pt Uu hi Tw ⟨L,v3,v4,v5,v6,rfl,s4,iH,NM⟩;let⟨p,hp,tt,rfl,VW⟩:=h3.at hi;let⟨wt,rfl,hwt⟩:=ZV Tw;let⟨e1,e2,e3,e4⟩:=g4 p (Xj hp);let u1:=XZ (o:=.tup [.ref tt,.int wt]) Uu
   exists pt,_,Z,SqT.of XR,Z,_,_,Z,_,_,Z,Z,?_;let iG:=iH.same u1
   let s5:=s4.trans u1;generalize upd H4 pt (.tup [.ref tt,.int wt])=H5 at *;exists _,Z,tt,_,0,.int p.1,Z,Z,SqT.of<|s5 _ _ VW,Z,?_;exists _,Z,tt,_,1,.int p.2,Z,Z,SqT.of<|s5 _ _ VW,Z,?_;exists _,Z,_,Z,Z,_,Z,?_;rw[ZA];let esn:=lH hp hwt
   show WL (λheq=>?_) (λXN=>?_)
   .exists L,_,_,_,_,Z,s5,iG,λx y hx hy=>?_;rw[esn,aI (by change p.1.toNat=p.2.toNat;rw[heq])];show NM x y hx hy
   let OL:p.1.toNat≠p.2.toNat:=λe=>XN sS;let⟨A1,l1,x1,y1,JX,hx1,Ta,mB,EY,iF⟩:=iG.get (i:=p.1.toNat) (j:=p.1.toNat) sS J;exists _,Z,_,Z,tA,zs,p.1,.ref A1,Z,Z,SqL.of iG.tab,ZJ (n:=p.1.toNat) J y1,_,Z,A1,_,p.1,.int x1,Z,Z,SqL.of JX,J,UL hx1,_,Z,_,_,Z,Z,A1,_,p.1,p.1.toNat,Z,Z,JX,va J (by rw[Xy];grind),?_;let⟨L1,hT6,NL⟩:=iF (x1+wt);let s6:Same H (upd H5 A1<|.lst<|(IL l1).set p.1.toNat (.int<|x1+wt)):=ZI EY s5
   generalize upd H5 A1 (.lst<|(IL l1).set p.1.toNat (.int<|x1+wt))=H6 at *;rw[mB]at NL;let⟨A2,l2,x2,y2,Sl,hx2,VB,ex2,OZ,put2⟩:=hT6.get (i:=p.2.toNat) (j:=p.2.toNat) sS J;exists _,Z,_,Z,tA,zs,p.2,.ref A2,Z,Z,SqL.of hT6.tab,ZJ (n:=p.2.toNat) J y2,_,Z,A2,_,p.2,.int x2,Z,Z,SqL.of Sl,J,UL hx2,_,Z,_,_,Z,Z,A2,_,p.2,p.2.toNat,Z,Z,Sl,va J (by rw[Xy];grind),?_;let⟨L2,hT7,KZ⟩:=put2 (x2+wt);let s7:Same H (upd H6 A2<|.lst<|(IL l2).set p.2.toNat (.int<|x2+wt)):=ZI OZ s6
   generalize upd H6 A2 (.lst<|(IL l2).set p.2.toNat (.int<|x2+wt))=H7 at *;rw[ex2]at KZ;let⟨A3,l3,x3,y3,Fh,hx3,MP,ex3,hn3,put3⟩:=hT7.get (i:=p.1.toNat) (j:=p.2.toNat) sS sS;exists _,Z,_,Z,tA,zs,p.1,.ref A3,Z,Z,SqL.of hT7.tab,ZJ (n:=p.1.toNat) J y3,_,Z,A3,_,p.2,.int x3,Z,Z,SqL.of Fh,J,UL hx3,_,Z,_,_,Z,Z,A3,_,p.2,p.2.toNat,Z,Z,Fh,va J (by rw[Xy];grind),?_;let⟨L3,hT8,uZ⟩:=put3 (x3-wt);let s8:Same H (upd H7 A3<|.lst<|(IL l3).set p.2.toNat (.int<|x3-wt)):=ZI hn3 s7
   generalize upd H7 A3 (.lst<|(IL l3).set p.2.toNat (.int<|x3-wt))=H8 at *;rw[ex3]at uZ;let⟨A4,l4,x4,y4,Jn,uY,hl4,ex4,iE,iD⟩:=hT8.get (i:=p.2.toNat) (j:=p.1.toNat) sS sS;exists _,Z,_,Z,tA,zs,p.2,.ref A4,Z,Z,SqL.of hT8.tab,ZJ (n:=p.2.toNat) J y4,_,Z,A4,_,p.1,.int x4,Z,Z,SqL.of Jn,J,UL uY,_,Z,_,_,Z,Z,A4,_,p.1,p.1.toNat,Z,Z,Jn,va J (by rw[Xy];grind),?_;let⟨L4,hT9,uX⟩:=iD (x4-wt);let s9:Same H (upd H8 A4<|.lst<|(IL l4).set p.1.toNat (.int<|x4-wt)):=ZI iE s8
   generalize upd H8 A4 (.lst<|(IL l4).set p.1.toNat (.int<|x4-wt))=H9 at *;rw[ex4]at uX;exists L4,_,_,_,_,Z,s9,hT9,λx y hx hy=>?_;rw[esn,l5,<-NM x y hx hy];show four OL x y NL KZ uZ uX
  .rintro σ H4 ⟨L,v3,v4,v5,v6,rfl,s4,iH,NM⟩;rw[hl,YE,<-Mb,YE]at NM;exists _,Z,q tA zs L H4 s4 GC iH NM
inductive spZi(K:Ad)(C:Addr)(vs:List V)(H:Hp)(Q:VK)(_:XK):Prop
 |mk (w n ps:_) (_:vs=[.ref w]) (_:WebAt C H w n ps) (_:Zy n ps) (_:∀r ys L H',Same H H'->H r=none->TabAt H r n.toNat H' ys L->(∀i j,i<n.toNat->j<n.toNat->fnL L i j=lapE (Ve ps<|List.replicate ps.length 1) i j)->Q ↑r H')
def iC(T:Txt K mg t):WR P w base Xd T.qZi 2 (spZi K t.A_Web):=by
 show T.qZi.okI ["web"] sQ λXu A outer s H vs Q E hr h=>?_
 .let⟨w,n,ps,rfl,hW,hG,q⟩:=h;exists _,(XC<|Zm<|Zb (iI T) hr T.qZh ZF<|XY (pv 0)<|XY (Zz CW (TY<|XY Zc XT)<|Zh (Zp K) sU T.n_len Boot.«len»<|XY (Zk K (pv 0) Z) XT) XT),?_;let⟨dx,tl,xs,h1,h2,h3⟩:=id hW;let hl:=h3.1
  let g3:=hG.2.2.1;exists _,Z,(by change 1<=sizeLine;decide),λp1 Uv=>?_;let u1:=XZ (o:=.lst [.int 1]) Uv
  exists _,Z,w,_,dx,_,_,Z,u1 _ _ h1,T.cl_Web,T.n_Web_ties,Nb _ _,tl,xs,Z,.inl<|SqL.of<|u1 _ _ h2,p1,xs⁻¹,_,Z,Z,XR,J,J,OO (by change 1*_<=_;lia),λp2 VO=>?_;let e0:(List.replicate (xs.length:Int).toNat [V.int 1]).flatten=IL (List.replicate ps.length 1):=by
   rw[QP,hl,ZT6];change _=(List.replicate ps.length 1).map V.int
   rw[List.map_replicate]
  rw[e0];let u2:=u1.trans (XZ (o:=.lst<|IL<|List.replicate ps.length 1) VO)
  exists w,p2,n,ps,List.replicate ps.length 1,Z,hW.same u2,hG,SqL.of XR,YU,λr ys L H' s hr hT hf=>?_;show q r ys L H' (u2.trans s) (u2.free hr) ⟨hT.tab,hT.rows,hT.len,hT.all,hT.nd,λA h=>u2.free<|hT.new A h⟩ hf
inductive spZj(K:Ad)(C:Addr)(vs:List V)(H:Hp)(Q:VK)(_:XK):Prop
 |mk (w n ps:_) (_:vs=[.ref w]) (_:WebAt C H w n ps) (_:Zy n ps) (_:∀c H',TC n ps c->Same H H'->Q (.int c) H')
def ZH9(u v i:Nat):(ind u v i).natAbs<=1:=by unfold ind;split<;>split<;>decide
def ZC9:∀{E:List Ed},(∀e∈E,e.2.2=1)->∀i j,(lapE E i j).natAbs<=E.length
 |[],_,i,j=>XM 0
 |e::E,h,i,j=>by
  let ih:=ZC9 (λf hf=>h f<|Yf _ hf) i j;let h1:=ZH9 e.1 e.2.1 i
  let h2:=ZH9 e.1 e.2.1 j;let h3:(ind e.1 e.2.1 i*ind e.1 e.2.1 j).natAbs<=1:=by rw[IJ];show QV h1 h2
  change(e.2.2*(ind e.1 e.2.1 i*ind e.1 e.2.1 j)+lapE E i j).natAbs<=(e::E).length;rw[h e Yd,VM,YI]
  have:=Int.natAbs_add_le (ind e.1 e.2.1 i*ind e.1 e.2.1 j) (lapE E i j)
  lia
def ZQ7{α:Type}{l:List α}{i:Nat}(hi:l.length=i+1):cutz l (i:Int)=l.take i:=by unfold cutz;rw[QP,YQ J,Yu]
def zB(T:Txt K mg t):WR P w base Xd T.qZj 3 (spZj K t.A_Web):=by
 show T.qZj.okI ["web"] sQ λXu A outer s H vs Q E hr h=>?_
 .let⟨w,n,ps,rfl,hW,hG,q⟩:=h;exists _,(XC<|Zm<|Zb (i6 T) hr T.qZ3 ZF<|XY (Zb (iW T) hr T.qZ5 ZF<|XY (Zb (iC T) hr T.qZi ZF<|XY (pv 0) XT)<|XY (Zz Mh (Zk K (pv 0) Z) Zc) XT) XT),?_;let⟨g1,g2,g3,g4⟩:=id hG;exists _,Z,w,n,ps,Z,hW,hG,λr ys L H1 s1 hr hT hf=>?_;let⟨dx,tl,xs,h1,h2,h3⟩:=id hW;exists _,Z,w,_,dx,_,_,Z,s1 _ _ h1,T.cl_Web,T.n_Web_places,HV _ _,_,_,Z,Z,?_;obtain⟨k,hk⟩:∃k:Nat,n-1=(k:Int):=⟨(n-1).toNat,D⟩;let hnk:n.toNat=k+1:=sS
  let GI:=hT.len;let hTB:Bears (Uj H1) ys L:=hT.rows.imp λ_ _ h=>h.list
  exists r,ys,L,k,?_,SqL.of hT.tab,hTB,sS,λl h=>by rw[hT.all l h];grind,J,λr2 zs H2 s2 UT hZ=>?_
  .change [V.ref r,V.int (n-1)]=_;rw[hk]
  let w1:∀e∈Ve ps (List.replicate ps.length (1:Int)),e.2.2=1:=λe he=>by
   unfold Ve at he;let⟨i,hi⟩:=YF he;rw[FP]at hi;cases h1:ps[i]? with
   |none=>rw[h1]at hi;cases hi
   |some p=>
    cases h2:(List.replicate ps.length (1:Int))[i]? with
    |none=>rw[h1,h2]at hi;cases hi
    |some w=>
     rw[h1,h2]at hi;let rfl:=Ye hi;show yd (Xj h2)
  let el:(Ve ps<|List.replicate ps.length (1:Int)).length<=30:=by unfold Ve;rw[Ej,YU];lia
  let hM:(cutz L (k:Int)).map (λl=>cutz l (k:Int))=(L.take k).map λl=>l.take k:=by rw[ZQ7 J];show VN λl hl=>ZQ7 (by rw[hT.all l (VR hl)];lia)
  rw[hM]at hZ;let PJ:((L.take k).map λl=>l.take k).length=k:=by rw[Yc,Yh];grind
  let Fw:∀i j,i<k->j<k->fnL ((L.take k).map λl=>l.take k) i j=lapE (Ve ps<|List.replicate ps.length 1) i j:=λi j hi hj=>by
   rw[<-hf i j sS sS];obtain⟨l,hl⟩:∃l,L[i]?=some l:=⟨_,Xq sS⟩;let Ls:=hT.all l (Xj hl)
   obtain⟨x,hx⟩:∃x,l[j]?=some x:=⟨_,Xq sS⟩;rw[Ug hl hx];show Ug (l:=l.take k) (by rw[Ys,Qk,if_pos hi,hl];rfl) (by rwa[Qk,if_pos hj])
  exists r2,false,zs,(L.take k).map λl=>l.take k,Z,SqL.of UT,hZ.imp (λ_ _ zz=>by let⟨r',e,h⟩:=zz;exists r',false,e,SqL.of h),by rw[PJ];lia,λi j hi hj=>?_,λ_ H3 s3=>?_,λh=>absurd (λl hl=>?_) h
  .rw[PJ]at hi hj;rw[Fw i j hi hj];show Yn (ZC9 w1 i j) (Yn el<|Yn (by decide:30<=2^5)<|ud sT sT)
  .let hd:det ((L.take k).map λl=>l.take k).length (fnL<|(L.take k).map λl=>l.take k)=det (n-1).toNat (lapE<|Ve ps<|List.replicate ps.length 1):=by rw[PJ,show(n-1).toNat=k by lia];show Zj λi j hi hj=>Fw i j hi hj
   obtain⟨c,M,a1,a2,a3⟩:∃c,TC n ps c:=by let⟨M,a1,a2,_⟩:=vV _ (n-1).toNat (Ve ps<|List.replicate ps.length 1) Z (Be hG _);exists M.length,M,a1,λl=>by rw[a2,aH g1 YU],Z
   rw[hd,lM hG a1 a2,a3];show q c H3 ⟨M,a1,a2,a3⟩ (s1.trans<|s2.trans s3)
  .let⟨l0,h0,rfl⟩:=YR.mp hl;rw[PJ,Yh,hT.all l0 (VR h0)];grind
inductive spZk(K:Ad)(C:Addr)(vs:List V)(H:Hp)(Q:VK)(_:XK):Prop
 |mk (w a b n ps Is Os:_) (_:vs=[.ref w,.ref a,.ref b]) (_:WebAt C H w n ps) (_:Zy n ps) (_:SqT K H a (IL Is)) (_:SqT K H b (IL Os)) (_:Is.Nodup) (_:(∀z∈Is,0<=z/\z<ps⁻¹)) (_:Os.length<=30) (_:(∀z∈Is,z∉Os)) (_:∀c H',PC n ps Is Os c->Same H H'->Q (.int c) H')
def ix{K:Ad}{H:Hp}{a b:Addr}{l m:Ac}{Q:VK}(ha:SqT K H a (IL l))(hb:SqT K H b (IL m))(hl:l.length+m.length<=1000)(k:∀r H',Same H H'->SqT K H' r (IL (l++m))->Q ↑r H'):HJ K ↑a ↑b H Q:=by
 exists a,b,_,_,Z,Z,ha,hb,by rw[Xy,Xy];show Yn hl sT,λe=>?_,λ_ e=>?_,λ_ _ p hp=>?_
 .let el:l=[]:=Ek.mp e;rw[el,Pz]at k;show k b H (Same.refl _) hb
 .let em:m=[]:=Ek.mp e;rw[em,Yu]at k;show k a H (Same.refl _) ha
 .show k p _ (XZ hp) (SqT.of ?_);rw[XR,wV]
def Yz7{gone:Ac}(j:Nat):XD (j+1) gone=XD j gone++(if ((j:Int)∈gone) then [] else [(j:Int)]):=by
 unfold XD;rw[bF,Rx];congr 1;cases c:(j:Int)∈gone
 .rw[if_pos c,YW,if_neg (by simp[c])];rfl
 .rw[if_neg c,YW,if_pos (by simp[c])];rfl
def KY:FnScope ["web","inside","outside","marks","firsts","numbers","gone","free"] ["web","inside","outside"] (Xe (top 33)):=Rc sQ
def iw(T:Txt K mg t):WR P w base Xd T.qZk 4 (spZk K t.A_Web):=by
 show T.qZk.okI ["web","inside","outside","marks","firsts","numbers","gone","free"] sQ λXu A outer s H vs Q E hr h=>?_
 .let⟨w,a,b,n,ps,Is,Os,rfl,hW,hG,hA,hB,hIn,XE,hO,Ud,q⟩:=h;show⟨_,(XI (Zf 3<|Zb (Qp T) hr T.qZe ZF<|XY (pv 0)<|XY (pv 1) XT)
   (XI (Ti (i:=4) KY.nd Z (Or.inr Z)<|Zo4 K Z Z T.n_sorted Z T.n_set<|XY (pv 3) XT)
   (XI (VL (Zi Pb (Zz VD (Zh (Zp K) sU T.n_len Boot.«len»<|XY (pv 4) XT)<|Zh (Zp K) sU T.n_len Boot.«len»<|XY (pv 1) XT) (Zk K (pv 0) Z)<|Zw _)
   (XC<|Zm Zc)
   Zu)
   (XI (Ti (i:=5) KY.nd Z (Or.inr Z)<|Ww Z (sc0:=Xe<|top 33) (N0:=["web","inside","outside","marks","firsts","numbers","gone","free"]) (N':=["mark","firsts"]) (o:=1) (fr:=[4]) ⟨Z,sQ,sQ,sQ,Z,sQ⟩ (Zv K<|pv 3) (Zn sT) (λ_ _ _ _=>(Xc 0)) (λ_ _ _ _=>RT) λ_ _ _ _=>(ON K PH PySem.F.slot_list_index PySem.F.type_list_index (Zv8 K) (pv 1)<|XY (pv 0) XT))
   (XI (Ti (i:=6) KY.nd Z (Or.inr Z)<|Zz (HI K) (pv 1)<|pv 2)
   (XI (Vr (i:=7) Z KY.nd Z Z (sc0:=Xe<|top 33) (N0:=["web","inside","outside","marks","firsts","numbers","gone","free"]) (N':=["tie","ends","gone"]) (o:=2) (fr:=[6]) ⟨Z,sQ,sQ,sQ,Z,sQ⟩ (LX K Z T.n_enumerate<|XY (Zk K (pv 0) Z) XT) (Fs<|Vd sT<|Vd sT Ft) (λ_ _ _ _=>(QJ (n:=2) K Z<|Zo (Xc 0)<|Zo (Xc 1) QQ)) (λ_ _ _ _=>(ZX<|Zi (Tx K) (pv 0) (pv 2) Z)) λ_ _ _ _=>(pv 1))
   (XC<|Zm<|Zb (zB T) hr T.qZj ZF<|XY (Dn T.k_Web (zP T) (hr.mono sT) Z T.c_Web T.bZ8 .nil ZF<|XY (Zh (Zp K) sU T.n_len Boot.«len»<|XY (pv 4) XT)<|XY (Ww Z (sc0:=Xe<|top 33) (N0:=["web","inside","outside","marks","firsts","numbers","gone","free"]) (N':=["ends","numbers"]) (o:=1) (fr:=[5]) ⟨Z,sQ,sQ,sQ,Z,sQ⟩ (Zv K<|pv 7) (Zn sT) (λ_ _ _ _=>(Xc 0)) (λ_ _ _ _=>RT) λ_ _ _ _=>(TF<|XY (ZL (Zd K) (pv 1) (ZL (ZK K) (pv 0) Zc λ_ _=>rfl) λ_ _=>rfl)<|XY (ZL (Zd K) (pv 1) (ZL (ZK K) (pv 0) Zc λ_ _=>rfl) λ_ _=>rfl) XT)) XT) XT))))))),?_⟩
  let⟨g1,g2,g3,g4⟩:=id hG;let⟨Js,MO,hJ2⟩:=nj Is;let hJ:IsSet ps.length Js:=XS.mpr ⟨λz hz=>XE z<|MO.mem_iff.mp hz,(hJ2.and<|MO.nodup_iff.mpr hIn).imp λh=>by have:=h.1;have:=h.2;lia⟩
  let hIl:Is.length<=ps.length:=by rw[<-MO.length_eq];show hJ.len
  let vD:∀i j,Conn (XU ps Js) i j↔Conn (XU ps Is) i j:=λi j=>LQ λy=>MO.mem_iff;let hfr:XD ps.length (Js++Os)=XD ps.length (Is++Os):=Nr λz _=>by simp only[XA,MO.mem_iff]
  let back:∀c,PC n ps Js Os c->PC n ps Is Os c:=λc zz=>by let⟨L,l1,l2,l3⟩:=zz;exists L,l1,λl=>(l2 l).trans ⟨λh=>⟨h.1,λz hz=>h.2.1 z<|MO.mem_iff.mpr hz,h.2.2⟩,λh=>⟨h.1,λz hz=>h.2.1 z<|MO.mem_iff.mp hz,h.2.2⟩⟩,l3
  exists _,Z,_,Z,w,a,n,ps,Is,Z,hW,hG,hA,XE,λmA H1 s1 PM TU=>?_;let UQ:=ZD n.toNat (XU ps Is)
  let Wu:=ZR (ns:=Is) hG XE;let hel:(XU ps Is).length=Is.length:=Yc ..
  show nm ?_;exists _,Z,mA,_,Z,SqL.of TU,sS,λF hF VY fA iu=>?_;let s2:=XZ (o:=.lst<|IL F) iu
  let KZ:(upd H1 fA<|.lst<|IL F) fA=some (.lst<|IL F):=XR;let WI:=s2 _ _ TU
  let PK:=s1.trans s2;show nm ?_;dsimp only;generalize upd H1 fA (.lst<|IL F)=H2 at *;let⟨g,hfg,iq,hgg⟩:=ko Wu hF VY;let⟨k1,kn,nk⟩:=Zw4 Wu J hF VY;let Sl:=Ke PK hA
  let LR:=Ke PK hB;let⟨dx,tl,xs,h1,h2,h3⟩:=hW.same PK;let QC:=h3.1
  exists _,Z,fA,_,Z,.inl<|SqL.of KZ,_,Z,a,_,Z,.inr Sl,_,_,Z,Z,_,Z,w,_,dx,_,_,Z,h1,T.cl_Web,T.n_Web_places,HV _ _,_,_,Z,Z,_,Z,?_;rw[Xy,Xy];show WO (λhc=>?_) (λhc=>?_)
  .show q 0 H2 (back 0<|kB hG hJ (λi j hi hj=>(hfg i j hi hj).trans (vD i j).symm) iq hgg k1 kn<|by rw[MO.length_eq];lia) PK
  exists _,Z,mA,Z,⟨_,SqL.of WI⟩,Wc (K:=K) (a:=mA) (xs:=IL<|XB n.toNat<|XU ps Is) (λi zs H3=>H3=H2/\i<=n.toNat/\zs=IL (((XB n.toNat<|XU ps Is).take i).map λz=>(UA F z:Int))) ⟨Z,Yk _,Z⟩ (Zg<|by rw[Xy,UQ];grind) (λi zs H3 _ zz=>by let⟨e,hi,ez⟩:=zz;show⟨e▸SqL.of WI,by rw[ez,Xy,Yc,Yh];lia⟩) ?_ ?_
  .rintro i v zs H3 hi ⟨rfl,hin3,rfl⟩ S Xw;let⟨z,rfl,hz⟩:=ZV hi;let EU:z∈F:=(VY z).mpr (Xj hz)
   let Xk:=(Xx.mp hz).1;show nm ?_;show⟨_,Z,.inl ⟨Z,_,SqL.of KZ⟩,_,Z,fA,F,z,UA F z,Z,Z,SqL.of KZ,Ha EU,λi hi e=>by have:=Fo (OH hF) e (Ha EU);lia,Xw _ _ ⟨Z,J,?_⟩⟩;rw[YY,hz,YK];show(ZU _ _).symm
  rintro zs H3 ⟨rfl,_,rfl⟩ nA hnA;rw[Xy,YE];let s3:=XZ (o:=.lst<|IL<|(XB n.toNat<|XU ps Is).map λz=>(UA F z:Int)) hnA
  let iE:(upd H3 nA<|.lst<|IL<|(XB n.toNat<|XU ps Is).map λz=>(UA F z:Int)) nA=some (.lst<|IL<|(XB n.toNat<|XU ps Is).map λz=>(UA F z:Int)):=XR;let uX:=s3 _ _ KZ
  let Jn:=Ke s3 Sl;let ik:=Ke s3 LR
  let GB:=PK.trans s3;generalize upd H3 nA (.lst<|IL<|(XB n.toNat<|XU ps Is).map λz=>(UA F z:Int))=H4 at *;let nAt:∀x:Int,0<=x->x<n->((XB n.toNat<|XU ps Is).map λz=>(UA F z:Int))[x.toNat]?=some (UA F (mk (XB n.toNat<|XU ps Is) x.toNat):Int):=λx x0 x1=>by rw[Ys,Xq sS];unfold mk;rw[WG,Xq sS];rfl
  show nm ?_;exists _,Z,_,Z,ix Jn ik J λgA H5 s5 hg5=>?_;let GA:=GB.trans s5
  let⟨dx,tl,xs,h1,h2,h3⟩:=hW.same GA;let QC:=h3.1
  show nm ?_;exists _,Z,w,_,dx,_,_,Z,h1,T.cl_Web,T.n_Web_ties,Nb _ _,tl,Z,⟨_,SqL.of h2⟩,wC (K:=K) (a:=tl) (xs:=xs) (λj zs H6=>Same H5 H6/\j<=ps.length/\PairsV H6 zs ((XD j<|Is++Os).map λz=>ps.getD z.toNat (0,0))) ⟨Same.refl _,Yk _,PairsV.nil⟩ (Zg J) (λj zs H6 hj ⟨e,SF,ez⟩=>⟨e.seq<|SqL.of h2,by rw[ez.1,Yc];show Yn (Yr ..) ?_;rw[ZN];show XM _⟩) ?_ ?_
  .rintro j v zs H6 pt Uu hj ⟨s6,Vg,hZ⟩ S Xw;let⟨p,hp,tt,rfl,ht⟩:=h3.at hj;let VX:=(Xx.mp hp).1
   let s7:=XZ (o:=.tup [.int j,.ref tt]) Uu;exists pt,_,Z,SqT.of XR,Z,_,_,Z,_,_,Z,Z,?_;let zA:=hZ.same s7
   let Jm:=s6.trans s7;generalize upd H6 pt (.tup [.int j,.ref tt])=H7 at *;exists _,Z,_,Z,gA,_,Z,.inr<|Ke Jm hg5,Z,ZP _,_,Z,?_;rw[Vc];show WL (λGz=>?_) (λGz=>?_)
   .show Xw _ _ ⟨Jm,VX,?_⟩;rwa[Yz7,if_pos Gz,Yu]
   .exists _,Z,Xw _ _ ⟨Jm,VX,?_⟩;rw[Yz7,if_neg Gz,YK];show zA.app ?_;change PairsV H7 [V.ref tt] [ps.getD ((j:Nat):Int).toNat (0,0)]
    rw[QP,ZY hp];show PairsV.nil.snoc ⟨tt,Z,Jm _ _ ht⟩
  rintro zs H6 ⟨s6,_,hZ⟩ rA PN;rw[QC]at hZ;let s7:=XZ (o:=.lst zs) PN
  let zS:(upd H6 rA<|.lst zs) rA=some (.lst zs):=XR;let zA:=hZ.same s7
  let Jm:=s6.trans s7;generalize upd H6 rA (.lst zs)=H7 at *;let hf7:=Jm _ _ (s5 _ _ uX)
  let hn7:=Jm _ _ (s5 _ _ iE);let we:=zA.1
  let LZ:(XD ps.length<|Is++Os).length<=30:=by show Yn (Yr ..) ?_;rw[ZN];lia
  rw[Yc]at we;show nm ?_;show⟨_,Z,fA,_,Z,.inl<|SqL.of hf7,_,Z,rA,Z,⟨_,SqL.of zS⟩,Wc (K:=K) (a:=rA) (xs:=zs) (λi ws H8=>Same H7 H8/\i<=(XD ps.length<|Is++Os).length/\PairsV H8 ws (((XD ps.length<|Is++Os).take i).map λz=>((UA F (mk (XB n.toNat<|XU ps Is) (Zq ps z).1):Int),(UA F (mk (XB n.toNat<|XU ps Is) (Zq ps z).2):Int)))) ⟨Same.refl _,Yk _,PairsV.nil⟩ (Zg J)
   (λi ws H8 hi zz=>by let⟨e,Vf,ew⟩:=zz;show⟨e.seq<|SqL.of zS,by rw[ew.1,Yc,Yh];lia⟩) ?_ ?_⟩
  .rintro i v ws H8 hi ⟨s8,UB,uW⟩ S Xw;let⟨p,hp,tt,rfl,ht⟩:=zA.at hi;rw[Ys]at hp;obtain⟨z,hz,ez⟩:∃z,(XD ps.length<|Is++Os)[i]?=some z/\ps.getD z.toNat (0,0)=p:=by
    cases hq:(XD ps.length<|Is++Os)[i]? with
    |none=>rw[hq]at hp;cases hp
    |some z=>rw[hq]at hp;exists z,Z,Ye hp
   let hz1:=(WM.mp<|Xj hz).1;obtain⟨p',GF⟩:∃p,ps[z.toNat]?=some p:=⟨_,Xq J⟩;let epp:p'=p:=by rw[<-ez,ZY GF]
   rw[epp]at GF;let⟨e1,e2,e3,e4⟩:=g4 p (Xj GF);let ee:Zq ps z=(p.1.toNat,p.2.toNat):=by unfold Zq;rw[ZY GF]
   let ht8:=s8 _ _ ht;let hn8:=s8 _ _ hn7
   show nm ?_;exists _,Z,_,Z,tt,_,0,.int p.1,Z,Z,SqT.of ht8,Z,nA,_,_,_,Z,Z,SqL.of hn8,ZJ (n:=p.1.toNat) J<|UL<|nAt p.1 e1 e2,?_;exists _,Z,_,Z,tt,_,1,.int p.2,Z,Z,SqT.of ht8,Z,nA,_,_,_,Z,Z,SqL.of hn8,ZJ (n:=p.2.toNat) J<|UL<|nAt p.2 e3 e4,(by change 2<=sizeLine;decide),λpp hpp=>?_;show Xw _ _ ⟨s8.trans<|XZ hpp,by have:=(Xx.mp hz).1;lia,?_⟩;rw[YY,hz,YK];show(uW.same<|XZ hpp).snoc ⟨pp,Z,?_⟩;dsimp only;rw[ee];show XR
  rintro ws H8 ⟨s8,_,uW⟩ la NO;rw[we,YE]at uW;let s9:=XZ (o:=.lst ws) NO
  let KW:(upd H8 la<|.lst ws) la=some (.lst ws):=XR;let hP9:=uW.same s9
  let uV:=s8.trans s9;generalize upd H8 la (.lst ws)=H9 at *;let hGc:=ZX7 (f:=λi=>UA F<|mk (XB n.toNat<|XU ps Is) i) hG (Is++Os) iq k1 kn
  intro x ij nx NK KU;let t1:Same H9 (upd (upd H9 ij<|.own x) x<|.ins t.A_Web ij []):=Zr (XZ NK) (by rwa[XJ (Xa KU)])
  exists x,ij,F⁻¹,la,false,ws,_,by rw[Xy];rfl,XR,λo=>?_,hP9.same t1,hGc,λzy hV k10=>⟨Z,?_⟩
  .show SqL.of (by rwa[XJ (Za KW nx),XJ<|Za KW nx,XJ (Za KW NK)])
  let NJ:Same H9 zy:=λb o e=>k10 b o (t1 b o e) (Za e nx);exists x,_,_,Z,hV,hGc,λc MN hc KS=>q c MN (back c<|kC hG hJ (λz hz=>Ud z<|MO.mem_iff.mp hz) (λi j hi hj=>(hfg i j hi hj).trans (vD i j).symm) iq hgg (by rw[MO.length_eq];grind)<|by rwa[hfr])<|GA.trans<|Jm.trans<|uV.trans<|NJ.trans KS
inductive spZl(K:Ad)(C:Addr)(vs:List V)(H:Hp)(Q:VK)(_:XK):Prop
 |mk (w a n ps kd ns:_) (_:vs=[.ref w,.ref a]) (_:WebAt C H w n ps) (_:Zy n ps) (_:SqK kd K H a (IL ns)) (_:∀b H',Same H H'->(b=true↔Ze n ps ns)->Q (.bl b) H')
def ig(T:Txt K mg t):WR P w base Xd T.qZl 6 (spZl K t.A_Web):=by
 show T.qZl.okI ["web","ties"] sQ λXu A outer s H vs Q E hr h=>?_
 .let⟨w,a,n,ps,kd,ns,rfl,hW,hG,hS,q⟩:=h;exists _,(XC<|Zm<|DJ (Zb (zL T) hr T.qZb ZF<|XY (pv 0)<|XY (pv 1) XT)<|DJ (Im Qc (Zh (Zp K) sU T.n_len Boot.«len»<|XY (pv 1) XT) (Zz Mh (Zk K (pv 0) Z) Zc)<|Zw _)<|sq<|Zb (iL T) hr T.qZg ZF<|XY (pv 0)<|XY (pv 1) XT),?_;exists _,Z,_,Z,w,a,n,ps,kd,ns,Z,hW,hS,λb hb=>⟨b,Z,?_⟩;show itb (λe=>?_) (λe=>?_)
  .let hI:=hb.mp e;let⟨dx,tl,xs,h1,h2,h3⟩:=id hW;exists _,Z,a,_,Z,hS.or,_,Z,w,_,dx,_,_,Z,h1,T.cl_Web,T.n_Web_places,HV _ _,_,_,Z,Z,Z,_,Z,?_;rw[Xy,ZA];show WO (λhl=>?_) (λhl=>?_)
   .exists _,Z,_,Z,w,a,n,ps,kd,ns,Z,hW,hG,hS,hI,λb2 H' s GS=>q b2 H' s ?_;rw[GS,oM (by have:=hG.1;grind) (ZR hG hI.all)];exists λz=>⟨hI,hl,z⟩,λz=>z.2.2
   .show q false H (Same.refl H) ⟨λz=>(nomatch z),λz=>absurd z.2.1 hl⟩
  .show q false H (Same.refl H) ⟨λz=>(nomatch z),λz=>by rw[hb.mpr z.1]at e;cases e⟩
inductive spZm(K:Ad)(C:Addr)(vs:List V)(H:Hp)(Q:VK)(_:XK):Prop
 |mk (w a n ps kd ns:_) (_:vs=[.ref w,.ref a]) (_:WebAt C H w n ps) (_:Zy n ps) (_:SqK kd K H a (IL ns)) (_:(Ze n ps ns->∀H':Hp,Same H H'->Q .non H')) (_:(¬Ze n ps ns->∀H':Hp,Same H H'->False))
def ie(T:Txt K mg t):WR P w base Xd T.qZm 7 (spZm K t.A_Web):=by
 show T.qZm.okI ["web","tree"] sQ λXu A outer s H vs Q E hr h=>?_
 .let⟨w,a,n,ps,kd,ns,rfl,hW,hG,hS,q,qe⟩:=h;show⟨_,(XC (VL (Uo<|Mq<|Zb (ig T) hr T.qZl ZF<|XY (pv 0)<|XY (pv 1) XT)
   (XC Kw)
   Zu)),?_⟩
  exists _,Z,_,Z,w,a,n,ps,kd,ns,Z,hW,hG,hS,λb H' s hb=>⟨_,Z,?_⟩;show CF (λz=>?_) (λz=>?_)
  .show q (hb.mp z) H' s
  .show qe (λg=>by rw[hb.mpr g]at z;cases z) H' s
inductive spZn(K:Ad)(C:Addr)(vs:List V)(H:Hp)(Q:VK)(_:XK):Prop
 |mk (w a b n ps ka kb ns os:_) (_:vs=[.ref w,.ref a,.ref b]) (_:WebAt C H w n ps) (_:Zy n ps) (_:SqK ka K H a (IL ns)) (_:SqK kb K H b (IL os)) (_:ns.length<=1000) (_:os.length<=1000) (_:(∀z∈ns++os,0<=z/\z<ps⁻¹)) (_:(((WH n.toNat ps<|ns++os).take ns.length≠ns\/((WH n.toNat ps<|ns++os).length:Int)<n-1)->∀H':Hp,Same H H'->Q .non H')) (_:((WH n.toNat ps<|ns++os).take ns.length=ns->¬((WH n.toNat ps<|ns++os).length:Int)<n-1->∀r ms H',ms.Perm (WH n.toNat ps<|ns++os)->ms.Pairwise (·<=·)->Same H H'->H r=none->H' r=some (.tup<|IL ms)->Q ↑r H'))
def ic(T:Txt K mg t):WR P w base Xd T.qZn 3 (spZn K t.A_Web):=by
 show T.qZn.okI ["web","inside","order","marks","grown","tie","ends"] sQ λXu A outer s H vs Q E hr h=>?_
 .let⟨w,a,b,n,ps,ka,kb,ns,os,rfl,hW,hG,hS,Cv,hnl,Rp,hI,q0,q1⟩:=h;show⟨_,(XI (Zf 3<|Zb (Qp T) hr T.qZe ZF<|XY (pv 0)<|XY (TF XT) XT)
   (XI (Zf 4<|TY XT)
   (XI (TH Wz Z (Zv K<|Zz SM (Zl (Fn K) sU T.n_list Boot.«list»<|XY (pv 1) XT)<|Zl (Fn K) sU T.n_list Boot.«list»<|XY (pv 2) XT) (Xc 5)
   (XI (Zf 6<|ZL (Zd K) (Zk K (pv 0) Z) (pv 5) λ_ _=>rfl)
   (XC (VL (Zi Qb (ZL (Zd K) (pv 3) (ZL (ZK K) (pv 6) Zc λ_ _=>rfl) λ_ _=>rfl) (ZL (Zd K) (pv 3) (ZL (ZK K) (pv 6) Zc λ_ _=>rfl) λ_ _=>rfl)<|Zw _)
   (XI (Zf 3<|Zb (zK T) hr T.qZd ZF<|XY (pv 0)<|XY (pv 3)<|XY (TF<|XY (pv 5) XT) XT)
   (XC<|QR<|ON K PH Er Es OX (pv 4)<|XY (pv 5) XT))
   Zu))))
   (XI (VL (PW.pt<|Pg (Zi (cS K<|CG hr) (Ko (Kd K) (pv 4) Ij<|Tz<|Zh (Zp K) sU T.n_len Boot.«len»<|XY (pv 1) XT) (Zl (Fn K) sU T.n_list Boot.«list»<|XY (pv 1) XT)<|Zw _)<|DL<|Zi Kq (Zh (Zp K) sU T.n_len Boot.«len»<|XY (pv 4) XT) (Zz Mh (Zk K (pv 0) Z) Zc)<|Zw _)
   (XC<|Zm xn)
   Zu)
   (XC<|Zm<|Zl (ZS K) sU T.n_tuple Boot.«tuple»<|XY (Zh (QI K) sU T.n_sorted Boot.«sorted»<|XY (pv 4) XT) XT))))),?_⟩
  let⟨g1,g2,g3,g4⟩:=id hG;let one:1<=sizeLine:=sT
  exists _,Z,Yk _,λr0 Ut=>?_;let s0:=XZ (o:=.tup []) Ut
  exists w,r0,n,ps,[],Z,hW.same s0,hG,SqT.of XR,λ_ e=>(nomatch e),λm H1 s1 PM TU=>?_;let s01:=s0.trans s1
  let hmf:=s0.free PM;exists Yk _,λgl h8=>?_;let s2:=XZ (o:=.lst []) h8
  let PK:=s01.trans s2;let hgf:=s01.free h8
  exists _,Z,a,_,Z,(hS.same PK).or,λl1 Ta=>?_;let s3:=XZ (o:=.lst<|IL ns) Ta
  let MM:=PK.trans s3;exists _,Z,b,_,Z,(Cv.same MM).or,λl2 VB=>?_;let s4:=XZ (o:=.lst<|IL os) VB
  let GB:=MM.trans s4;exists l1,l2,_,_,Z,Z,s4 _ _ XR,XR,OO (by rw[Xy,Xy];lia),λcl NZ=>?_;let s5:=XZ (o:=.lst<|IL ns++IL os) NZ
  let GA:=GB.trans s5;let eI:IL ns++IL os=IL (ns++os):=(wV _ _).symm
  let zx:=s5 _ _ (s4 _ _<|s3 _ _<|XR (H:=H1) (a:=gl) (o:=.lst []));let uU:=s5 _ _ (s4 _ _<|s3 _ _<|s2 _ _ TU)
  let Gy:=XR (H:=upd (upd (upd H1 gl<|.lst []) l1<|.lst<|IL ns) l2<|.lst<|IL os) (a:=cl) (o:=.lst<|IL ns++IL os);let ncg:cl≠gl:=λe=>by rw[e]at NZ;show absurd ((s4 _ _<|s3 _ _<|XR (H:=H1) (a:=gl) (o:=.lst [])).symm.trans NZ) B
  let nmg:m≠gl:=λe=>by rw[e]at TU;show absurd (TU.symm.trans h8) B
  rw[eI]at s5 GA zx uU Gy ⊢;generalize upd (upd (upd (upd H1 gl<|.lst []) l1<|.lst<|IL ns) l2<|.lst<|IL os) cl (.lst<|IL<|ns++os)=H5 at *;show⟨cl,Z,⟨_,SqL.of Gy⟩,Iv (K:=K) (a:=cl) (xs:=IL<|ns++os) (λi σ H2=>∃mc v5 v6,σ=[some ↑w,some<|.ref a,some<|.ref b,some<|.ref mc,some<|.ref gl,v5,v6]/\Same H H2/\mc≠gl/\
    H2 cl=some (.lst<|IL<|ns++os)/\H2 mc=some (.lst<|IL<|XB n.toNat<|XU ps<|WH n.toNat ps<|(ns++os).take i)/\H2 gl=some (.lst<|IL<|WH n.toNat ps<|(ns++os).take i))
   ⟨m,none,none,Z,GA,nmg,Gy,uU,zx⟩ (λi σ H2 _ zz=>by let⟨_,_,_,_,_,_,e,_⟩:=zz;show SqL.of e) ?_ ?_⟩
  .rintro i x σ H2 hi ⟨mc,v5,v6,rfl,s2,XN,Ul,WI,Li⟩;let⟨z,rfl,hz⟩:=ZV hi;let⟨z0,z1⟩:=hI z (Xj hz);let hIt:∀y∈(ns++os).take i,0<=y/\y<ps⁻¹:=λy hy=>hI y (VR hy)
   let est:(ns++os).take (i+1)=(ns++os).take i++[z]:=by rw[YY,hz];rfl
   let eG:WH n.toNat ps ((ns++os).take (i+1))=RO n.toNat ps (WH n.toNat ps<|(ns++os).take i) z:=by rw[est,LL]
   let Wu:=Fe hG hIt;let zw:=cz hG hIt
   generalize WH n.toNat ps ((ns++os).take i)=G at *;let⟨dx,tl,xs,h1,h2,h3⟩:=hW.same s2;obtain⟨p,hp⟩:∃p,ps[z.toNat]?=some p:=⟨_,Xq J⟩;let⟨v,hv,tt,rfl,VW⟩:=h3.2 z.toNat p hp;let⟨e1,e2,e3,e4⟩:=g4 p (Xj hp);let ed:Zq ps z=(p.1.toNat,p.2.toNat):=by unfold Zq;rw[ZY hp]
   let hl:(XB n.toNat<|XU ps G).length=n.toNat:=ZD _ _;let iA:We (IL<|XB n.toNat<|XU ps G) p.1=some (.int<|mk (XB n.toNat<|XU ps G) p.1.toNat):=ZJ (n:=p.1.toNat) J (UL<|VP sS)
   let iB:We (IL<|XB n.toNat<|XU ps G) p.2=some (.int<|mk (XB n.toNat<|XU ps G) p.2.toNat):=ZJ (n:=p.2.toNat) J (UL<|VP sS);let t0:We ([.int p.1,.int p.2]:List V) 0=some (.int p.1):=rfl
   let t1:We ([.int p.1,.int p.2]:List V) 1=some (.int p.2):=rfl;let key:mk (XB n.toNat<|XU ps G) p.1.toNat=mk (XB n.toNat<|XU ps G) p.2.toNat↔mk (Xb n.toNat<|XU ps G) (Zq ps z).1=mk (Xb n.toNat<|XU ps G) (Zq ps z).2:=by rw[ed,Ro Wu sS sS,Wa Wu sS sS]
   exists _,Z,w,_,dx,_,_,Z,h1,T.cl_Web,T.n_Web_ties,Nb _ _,_,Z,tl,xs,z,.ref tt,Z,Z,SqL.of h2,ZJ (n:=z.toNat) J hv,?_;exists _,Z,_,Z,tt,_,0,_,Z,Z,SqT.of VW,t0,mc,_,p.1,_,Z,Z,SqL.of WI,iA,_,Z,_,Z,tt,_,1,_,Z,Z,SqT.of VW,t1,mc,_,p.2,_,Z,Z,SqL.of WI,iB,Z,_,Z,?_;rw[ZA];show WL (λhe=>?_) (λhe=>?_)
   .exists mc,_,_,Z,s2,XN,Ul,?_,?_
    .rw[eG];unfold RO;rwa[if_pos (key.mp he)]
    .rw[eG];unfold RO;rwa[if_pos (key.mp he)]
   .let eG2:WH n.toNat ps ((ns++os).take (i+1))=G++[z]:=by rw[eG];unfold RO;rw[if_neg λe=>he (key.mpr e)]
    exists _,Z,_,Z,_,Z,one,λp2 VO=>?_;let s6:=XZ (o:=.tup [.int z]) VO
    show⟨w,mc,p2,n,ps,_,true,[z],Z,(hW.same s2).same s6,hG,s6 _ _ WI,hl,SqT.of XR,λy hy=>by rw[XG.mp hy];show⟨z0,z1⟩,λm' H7 s7 hf uS=>?_⟩;let h7:=s6.trans s7
    let hg7:=h7 _ _ Li;let zv:=h7 _ _ Ul
    let nm':m'≠gl:=by
     rcases hf with rfl|hf
     .show XN
     .show λe=>absurd ((s6 _ _ Li).symm.trans (e▸hf)) B
    exists _,Z,.inl ⟨Z,_,SqL.of hg7⟩,_,Z,gl,_,_,Z,Z,hg7,Zg (by rw[Xy];lia),?_;exists m',_,_,Z,ZI hgf<|s2.trans h7,nm',?_,?_,?_
    .rw[XJ ncg];show zv
    .rw[XJ nm',uS,eG2,JU,pq];rfl
    .rw[XR,eG2,ZU]
  .rintro σ H2 ⟨mc,v5,v6,rfl,s2,XN,Ul,WI,Li⟩;rw[Xy,YE]at Li;let zw:=cz hG hI
   generalize WH n.toNat ps (ns++os)=G at *;exists _,Z,_,Z,a,_,Z,(hS.same s2).or,_,Z,gl,_,Z,SqL.of Li,λr1 To=>?_;let ec:Wx (IL G) none (some ((IL ns).length:Int))=IL (G.take ns.length):=by rw[oq J,QP,Xy,c6]
   rw[ec];let s3:=XZ (o:=.lst<|IL<|G.take ns.length) To
   exists _,Z,a,_,Z,(hS.same<|s2.trans s3).or,λr2 UT=>?_;let s4:=XZ (o:=.lst<|IL ns) UT
   exists 1,_,r1,r2,Z,Z,sT,oY (SqL.of<|s4 _ _ XR)<|SqL.of XR,_,Z,?_;let Jl:=s2.trans (s3.trans s4)
   show WL (λhe=>?_) (λhe=>?_)
   .let⟨dx,tl,xs,h1,h2,h3⟩:=hW.same Jl;let hg4:=s4 _ _ (s3 _ _ Li)
    exists _,Z,gl,_,Z,.inl<|SqL.of hg4,_,Z,w,_,dx,_,_,Z,h1,T.cl_Web,T.n_Web_places,HV _ _,_,_,Z,Z,_,_,Z,Z,_,Z,?_;rw[Xy];show WO (λhc=>?_) (λhc=>?_)
    .show q0 (.inr hc) _ Jl
    .exists _,Z,gl,G,Z,SqL.of hg4,J,λms Uv VO l hl=>?_;let s5:=XZ (o:=.lst<|IL ms) hl
     exists l,_,Z,.inl ⟨SqL.of XR,λr hr=>?_⟩;show q1 he hc r ms _ Uv VO ((Jl.trans s5).trans (XZ hr)) ((Jl.trans s5).free hr) XR
   .show SI ?_;show q0 (.inl he) _ Jl
inductive spZo(K:Ad)(C:Addr)(vs:List V)(H:Hp)(Q:VK)(_:XK):Prop
 |mk (w a n ps kd ns z:_) (_:vs=[.ref w,.ref a,.int z]) (_:WebAt C H w n ps) (_:Zy n ps) (_:SqK kd K H a (IL ns)) (_:IsSet ps.length ns) (_:∀r H',Same H H'->H r=none->H' r=some (.tup<|IL<|unlike (Xb n.toNat<|XU ps<|wo ns z) ps ps.length)->Q ↑r H')
def g9:FnScope ["web","tree","tie","marks"] ["web","tree","tie"] (Xe (top 38)):=Rc sQ
def g8(T:Txt K mg t):WR P w base Xd T.qZo 3 (spZo K t.A_Web):=by
 show T.qZo.okI ["web","tree","tie","marks"] sQ λXu A outer s H vs Q E hr h=>?_
 .let⟨w,a,n,ps,kd,ns,z,rfl,hW,hG,hS,hI,q⟩:=h;show⟨_,(XI (Ti (i:=3) g9.nd Z (Or.inr Z)<|Zb (Qp T) hr T.qZe ZF<|XY (pv 0)<|XY (Zb (zM T) hr T.qZa ZF<|XY (pv 1)<|XY (pv 2) XT) XT)
   (XC<|Zm<|Zl (ZS K) sU T.n_tuple Boot.«tuple»<|XY (Ww Z (sc0:=Xe<|top 38) (N0:=["web","tree","tie","marks"]) (N':=["number","ends","marks"]) (o:=2) (fr:=[3]) ⟨Z,sQ,sQ,sQ,Z,sQ⟩ (LX K Z T.n_enumerate<|XY (Zk K (pv 0) Z) XT) (Fs<|Vd sT<|Vd sT Ft) (λ_ _ _ _=>(QJ (n:=2) K Z<|Zo (Xc 0)<|Zo (Xc 1) QQ)) (λ_ _ _ _=>(ZX<|Zi Qb (ZL (Zd K) (pv 2) (ZL (ZK K) (pv 1) Zc λ_ _=>rfl) λ_ _=>rfl) (ZL (Zd K) (pv 2) (ZL (ZK K) (pv 1) Zc λ_ _=>rfl) λ_ _=>rfl)<|Zw _)) λ_ _ _ _=>(pv 0)) XT)),?_⟩
  let⟨g1,g2,g3,g4⟩:=id hG;let hln:=hI.len
  let hb:∀y∈wo ns z,0<=y/\y<ps⁻¹:=λy hy=>hI.all y (Xi.mp hy).1;exists _,Z,_,Z,_,Z,a,kd,ns,z,Z,hS,J,λr1 H1 s1 Ut To=>?_;exists w,r1,n,ps,wo ns z,Z,hW.same s1,hG,SqT.of To,hb,λm H2 s2 PM WI=>?_;let Wu:=ZR hG hb
  let e0:=ZZ5 (M:=XB n.toNat<|XU ps<|wo ns z) hG (ZD _ _) (wL Wu);let hl:(XB n.toNat<|XU ps<|wo ns z).length=n.toNat:=ZD _ _
  rw[<-e0]at q;generalize XB n.toNat (XU ps<|wo ns z)=M at *;let Wq:=s1.trans s2
  let⟨dx,tl,xs,h1,h2,h3⟩:=hW.same Wq;let QC:=h3.1
  show⟨_,Z,w,_,dx,_,_,Z,h1,T.cl_Web,T.n_Web_ties,Nb _ _,tl,Z,⟨_,SqL.of h2⟩,wC (K:=K) (a:=tl) (xs:=xs) (λi ys H3=>Same H2 H3/\i<=xs.length/\ys=IL (unlike M ps i)) ⟨Same.refl _,Yk _,Z⟩ (Zg J)
   (λi ys H3 _ zz=>by let⟨e,_,ey⟩:=zz;show⟨SqL.of<|e _ _ h2,by rw[ey,Xy];show Zu6 _ _ _⟩) ?_ ?_⟩
  .rintro i x ys H3 pt Uu hi ⟨s3,UB,rfl⟩ S Xw;let⟨p,OJ,tt,rfl,VW⟩:=h3.at hi;let⟨e1,e2,e3,e4⟩:=g4 p (Xj OJ);let Xo:i<xs.length:=(Xx.mp hi).1
   let s4:Same H3 (upd H3 pt<|.tup [.int i,.ref tt]):=XZ Uu;let Rb:=s3.trans s4
   let NI:=Rb _ _ VW;let zu:=Rb _ _ WI
   let ed:ps.getD i (0,0)=p:=ZY OJ;let t0:We ([.int p.1,.int p.2]:List V) 0=some (.int p.1):=rfl
   let t1:We ([.int p.1,.int p.2]:List V) 1=some (.int p.2):=rfl;let iA:We (IL M) p.1=some (.int<|mk M p.1.toNat):=ZJ (n:=p.1.toNat) J (UL<|VP sS)
   let iB:We (IL M) p.2=some (.int<|mk M p.2.toNat):=ZJ (n:=p.2.toNat) J (UL<|VP sS);exists pt,_,Z,SqT.of XR,Z,_,_,Z,_,_,Z,Z,?_;exists _,Z,_,Z,tt,_,0,_,Z,Z,SqT.of NI,t0,m,_,p.1,_,Z,Z,SqL.of zu,iA,_,Z,_,Z,tt,_,1,_,Z,Z,SqT.of NI,t1,m,_,p.2,_,Z,Z,SqL.of zu,iB,Z,_,Z,?_;rw[ZA];show WL (λhe=>?_) (λhe=>?_)
   .show Xw _ _ ⟨Rb,Xo,?_⟩;rw[Cq,ed,if_neg (by simpa using he),Yu]
   .exists _,Z,Xw _ _ ⟨Rb,Xo,?_⟩;rw[Cq,ed,if_pos he,ZU]
  .rintro ys H3 ⟨s3,_,rfl⟩ p hp;rw[QC];exists p,_,Z,.inl ⟨SqL.of XR,λr hr=>?_⟩;show q r _ (Wq.trans<|s3.trans<|Zr (XZ hp) hr) ((Wq.trans<|s3.trans<|XZ hp).free hr) XR
inductive spZp(K:Ad)(C:Addr)(vs:List V)(H:Hp)(Q:VK)(_:XK):Prop
 |mk (w a n ps kd ns z:_) (_:vs=[.ref w,.ref a,.int z]) (_:WebAt C H w n ps) (_:Zy n ps) (_:SqK kd K H a (IL ns)) (_:-(10^70)<z) (_:z<10^70) (_:(Ze n ps ns->z∉ns->0<=z->z<ps⁻¹->∀ms,ms.Perm (Td n ps ns z ns++[z])->ms.Pairwise (·<=·)->∀r H',Same H H'->H r=none->H' r=some (.tup<|IL ms)->Q ↑r H')) (_:(Ze n ps ns->(z∈ns\/¬(0<=z/\z<ps⁻¹))->∀H':Hp,Same H H'->False)) (_:(¬Ze n ps ns->∀H':Hp,Same H H'->False))
def g7(T:Txt K mg t):WR P w base Xd T.qZp 8 (spZp K t.A_Web):=by
 show T.qZp.okI ["web","tree","tie"] sQ λXu A outer s H vs Q E hr h=>?_
 .let⟨w,a,n,ps,kd,ns,z,rfl,hW,hG,hS,z0,z1,q,q1,q2⟩:=h;show⟨_,(XI (QR<|Zb (ie T) hr T.qZm ZF<|XY (pv 0)<|XY (pv 1) XT)
   (XI (VL (PW.pt<|Pg (Zi (HS K) (pv 2) (pv 1) Z)<|DL<|Uo<|Mq<|Zb (zQ T) hr T.qZ6 ZF<|XY (pv 0)<|XY (pv 2) XT)
   (XC Kw)
   Zu)
   (XC<|Zm<|Zl (ZS K) sU T.n_tuple Boot.«tuple»<|XY (Zh (QI K) sU T.n_sorted Boot.«sorted»<|XY (Zz SM (Ww Z (sc0:=Xe<|top 39) (N0:=["web","tree","tie"]) (N':=["out","tie","web","tree"]) (o:=1) (fr:=[2,0,1]) ⟨Z,sQ,sQ,sQ,Z,sQ⟩ (Kb K<|pv 1) (Zn sT) (λ_ _ _ _=>(Xc 0)) (λ_ _ _ _=>(ZX<|Zi (HS K) (pv 1) (Zb (g8 T) hr T.qZo ZF<|XY (pv 2)<|XY (pv 3)<|XY (pv 0) XT) Z)) λ_ _ _ _=>(pv 0))<|TY<|XY (pv 2) XT) XT) XT))),?_⟩
  exists _,Z,_,Z,w,a,n,ps,kd,ns,Z,hW,hG,hS,λhT H1 s1=>?_,q2;let one:1<=sizeLine:=sT
  let tl:ns.length<=20:=by have:=hT.2.1;have:=hG.2.1;lia
  exists _,Z,_,Z,a,_,Z,(hS.same s1).or,Z,ZP _,_,Z,?_;rw[Vc];show WO (λhc=>?_) (λhc=>?_)
  .show SI (q1 hT (.inl hc) H1 s1)
  .exists _,Z,_,Z,w,n,ps,z,Z,hW.same s1,_,Z,?_;show WL (λht=>?_) (λht=>?_)
   .show⟨_,Z,a,Z,wQ (k:=kd) (K:=K) (xs:=IL ns) (λi ys H2=>Same H1 H2/\i<=ns.length/\ys=IL (Td n ps ns z<|ns.take i)) ⟨Same.refl _,Yk _,Z⟩ (Zg<|by rw[Xy];lia)
     (λi ys H2 hi zz=>by let⟨e,Vf,ey⟩:=zz;show⟨(hS.same s1).same e,by rw[ey,Xy];show Yn (HL ..)<|by rw[Yh];lia⟩) ?_ ?_⟩
    .rintro i x ys H2 hi ⟨s2,UB,rfl⟩ S Xw;let⟨y,rfl,hy⟩:=ZV hi;let Xo:i<ns.length:=(Xx.mp hy).1
     let Wq:=s1.trans s2;show nm ?_;exists _,Z,_,Z,_,Z,_,Z,w,a,n,ps,kd,ns,y,Z,hW.same Wq,hG,hS.same Wq,hT.1,λr H3 s3 Ut Uy=>?_;exists r,_,Z,.inr<|SqT.of Uy,Z,ZP _,_,Z,?_;rw[Vc];show WO (λhe=>?_) (λhe=>?_)
     .exists _,Z,Xw _ _ ⟨s2.trans s3,Xo,?_⟩;rw[cG hy,if_pos he,ZU]
     .show Xw _ _ ⟨s2.trans s3,Xo,?_⟩;rw[cG hy,if_neg he,Yu]
    .rintro ys H2 ⟨s2,_,rfl⟩ p hp;rw[Xy,YE];let rl:=HL n ps ns z ns
     exists _,Z,one,λp2 VO=>?_;show LV (l2:=[z]) (by rw[XJ (Za XR VO)];show XR) XR (by simp only[YI,KA];lia) λp3 MS=>?_;show⟨p3,_,Z,SqL.of XR,by simp only[Xt,YI,KA];lia,λms UZ QH p4 Jp=>?_⟩;exists p4,IL ms,Z,.inl ⟨SqL.of XR,λr hr=>?_⟩;let s6:=(s1.trans s2).trans (Zr (Zr (XZ (o:=.lst<|IL<|Td n ps ns z ns) hp) (o:=.lst<|IL [z]) VO) (o:=.lst<|IL<|Td n ps ns z ns++[z]) MS)
     show q hT hc ht.1 ht.2 ms UZ QH r _ (s6.trans<|Zr (XZ Jp) hr) ((s6.trans<|XZ Jp).free hr) XR
   .show q1 hT (.inr ht) H1 s1
inductive spZq(K:Ad)(C:Addr)(vs:List V)(H:Hp)(Q:VK)(_:XK):Prop
 |mk (w a b n ps I O:_) (_:vs=[.ref w,.ref a,.ref b]) (_:WebAt C H w n ps) (_:Zy n ps) (_:SqT K H a (IL I)) (_:SqT K H b (IL O)) (_:I.Nodup) (_:(∀z∈I,0<=z/\z<ps⁻¹)) (_:(∀z∈I,z∉O)) (_:(∀H':Hp,Same H H'->(∀U,¬With n ps I O U)->Q .non H')) (_:(∀r F H',Same H H'->H' r=some (.tup<|IL F)->With n ps I O F->(∀U,With n ps I O U->HT.lexLt U F=false)->Q ↑r H'))
def zt(T:Txt K mg t):WR P w base Xd T.qZq 4 (spZq K t.A_Web):=by
 show T.qZq.okI ["web","inside","outside"] sQ λXu A outer s H vs Q E hr h=>?_
 .let⟨w,a,b,n,ps,I,O,rfl,hW,hG,hA,hB,hIn,XE,hd,q0,q1⟩:=h;exists _,(XC<|Zm<|Zb (ic T) hr T.qZn ZF<|XY (pv 0)<|XY (pv 1)<|XY (Zb (iR T) hr T.qZ9 ZF<|XY (pv 0)<|XY (pv 2) XT) XT),?_;let g3:=hG.2.2.1
  exists _,Z,_,Z,_,Z,_,Z,w,b,n,ps,true,O,Z,hW,J,hB,λsP hDa hD dA H1 s1 g6=>?_;let hDs:IsSet ps.length sP:=XS.mpr ⟨λz hz=>((hD z).mp hz).1,hDa⟩
  let hb:∀z∈I++sP,0<=z/\z<ps⁻¹:=λz hz=>(XA.mp hz).elim (XE z) λh=>((hD z).mp h).1;let il:I.length<=ps.length:=by
   have:=Hn (m:=VJ ps.length) hIn λz hz=>Xr.mpr (XE z hz)
   rwa[ZN]at this
  let dl:=hDs.len;exists w,a,dA,n,ps,true,true,I,sP,Z,hW.same s1,hG,Ke s1 hA,SqT.of g6,J,J,hb,λh H2 s2=>q0 H2 (s1.trans s2) λU hU=>?_,λht hl r ms H2 UZ QH s2 Ut hr=>?_
  .have:=m9 hG hU.1 hIn hU.2.1 (hU.sub hD) hb
   rcases h with h|h
   .show h this.1
   .show this.2 h
  .let hF:With n ps I O ms:=⟨Zb6 hG hb hl UZ QH,λz hz=>UZ.mem_iff.mpr<|VR<|ht▸hz,λz hz h=>(XA.mp<|(OF _ _ _).subset (UZ.mem_iff.mp h)).elim (λh=>hd z h hz) λh=>((hD z).mp h).2 hz⟩;show q1 r ms H2 (s1.trans s2) hr hF λU hU=>Zs7 hG hU.1 hU.2.1 (hU.sub hD) hb hDa hF.1 UZ hF.2.1
inductive spZr(K:Ad)(C:Addr)(vs:List V)(H:Hp)(Q:VK)(_:XK):Prop
 |mk (w m n ps M z:_) (_:vs=[.ref w,.ref m,.int z]) (_:WebAt C H w n ps) (_:Zy n ps) (_:H m=some (.lst<|IL M)) (_:M.length=n.toNat) (_:0<=z) (_:z<ps⁻¹) (_:∀r l H',l.Perm [mk M (ps.getD z.toNat (0,0)).1.toNat,mk M (ps.getD z.toNat (0,0)).2.toNat]->l.Pairwise (·<=·)->Same H H'->H' r=some (.lst<|IL l)->Q ↑r H')
def zr(T:Txt K mg t):WR P w base Xd T.qZr 1 (spZr K t.A_Web):=by
 show T.qZr.okI ["web","marks","tie","ends"] sQ λXu A outer s H vs Q E hr h=>?_
 .let⟨w,m,n,ps,M,z,rfl,hW,hG,hM,PJ,z0,z1,q⟩:=h;show⟨_,(XI (Zf 3<|ZL (Zd K) (Zk K (pv 0) Z) (pv 2) λ_ _=>rfl)
   (XC<|Zm<|Zh (QI K) sU T.n_sorted Boot.«sorted»<|XY (TY<|XY (ZL (Zd K) (pv 1) (ZL (ZK K) (pv 3) Zc λ_ _=>rfl) λ_ _=>rfl)<|XY (ZL (Zd K) (pv 1) (ZL (ZK K) (pv 3) Zc λ_ _=>rfl) λ_ _=>rfl) XT) XT)),?_⟩
  let⟨g1,g2,g3,g4⟩:=id hG;let⟨dx,tl,xs,h1,h2,h3⟩:=id hW;obtain⟨p,hp⟩:∃p,ps[z.toNat]?=some p:=⟨_,Xq J⟩;let ep:ps.getD z.toNat (0,0)=p:=ZY hp
  rw[ep]at q;let⟨v,hv,tt,rfl,VW⟩:=h3.2 _ p hp;let⟨e1,e2,e3,e4⟩:=g4 p (Xj hp);let t0:We ([.int p.1,.int p.2]:List V) 0=some (.int p.1):=rfl
  let t1:We ([.int p.1,.int p.2]:List V) 1=some (.int p.2):=rfl;let iA:We (IL M) p.1=some (.int<|mk M p.1.toNat):=ZJ (n:=p.1.toNat) J (UL<|VP sS)
  let iB:We (IL M) p.2=some (.int<|mk M p.2.toNat):=ZJ (n:=p.2.toNat) J (UL<|VP sS);exists _,Z,w,_,dx,_,_,Z,h1,T.cl_Web,T.n_Web_ties,Nb _ _,_,Z,tl,_,_,.ref tt,Z,Z,SqL.of h2,ZJ (n:=z.toNat) J hv,?_;show nm ?_;exists _,Z,_,Z,tt,_,0,_,Z,Z,SqT.of VW,t0,m,_,p.1,_,Z,Z,SqL.of hM,iA,_,Z,_,Z,tt,_,1,_,Z,Z,SqT.of VW,t1,m,_,p.2,_,Z,Z,SqL.of hM,iB,(by change 2<=sizeLine;decide),λa ha=>?_;let s1:=XZ (o:=.lst<|IL [mk M p.1.toNat,mk M p.2.toNat]) ha
  exists a,[mk M p.1.toNat,mk M p.2.toNat],Z,SqL.of XR,(by change 2<64;decide),λl hl hs r hr=>?_;show q r l _ hl hs (s1.trans<|XZ hr) XR
inductive spZs(K:Ad)(C:Addr)(vs:List V)(H:Hp)(Q:VK)(_:XK):Prop
 |mk (w m a n ps M g:_) (_:vs=[.ref w,.ref m,.ref a]) (_:WebAt C H w n ps) (_:Zy n ps) (_:H m=some (.lst<|IL M)) (_:M.length=n.toNat) (_:SqT K H a (IL g)) (_:∀r H',Same H H'->H r=none->H' r=some (.lst<|IL<|MR M ps g ps.length)->Q ↑r H')
def zq(T:Txt K mg t):WR P w base Xd T.qZs 1 (spZs K t.A_Web):=by
 show T.qZs.okI ["web","marks","gone"] sQ λXu A outer s H vs Q E hr h=>?_
 .let⟨w,m,a,n,ps,M,g,rfl,hW,hG,hM,PJ,hA,q⟩:=h;exists _,(XC<|Zm<|Ww Z (sc0:=Xe<|top 45) (N0:=["web","marks","gone"]) (N':=["tie","ends","gone","marks"]) (o:=2) (fr:=[2,1]) ⟨Z,sQ,sQ,sQ,Z,sQ⟩ (LX K Z T.n_enumerate<|XY (Zk K (pv 0) Z) XT) (Fs<|Vd sT<|Vd sT Ft) (λ_ _ _ _=>(QJ (n:=2) K Z<|Zo (Xc 0)<|Zo (Xc 1) QQ)) (λ_ _ _ _=>(ZX<|PW.pt<|xk (Zi (Tx K) (pv 0) (pv 2) Z)<|Mp<|Zi Qb (ZL (Zd K) (pv 3) (ZL (ZK K) (pv 1) Zc λ_ _=>rfl) λ_ _=>rfl) (ZL (Zd K) (pv 3) (ZL (ZK K) (pv 1) Zc λ_ _=>rfl) λ_ _=>rfl)<|Zw _)) λ_ _ _ _=>(pv 0)),?_;let⟨g1,g2,g3,g4⟩:=id hG;let⟨dx,tl,xs,h1,h2,h3⟩:=id hW;let QC:=h3.1
  show⟨_,Z,w,_,dx,_,_,Z,h1,T.cl_Web,T.n_Web_ties,Nb _ _,tl,Z,⟨_,SqL.of h2⟩,wC (K:=K) (a:=tl) (xs:=xs) (λi ys H3=>Same H H3/\i<=xs.length/\ys=IL (MR M ps g i)) ⟨Same.refl _,Yk _,Z⟩ (Zg J)
   (λi ys H3 _ h=>by let⟨e,_,ey⟩:=h;show⟨SqL.of<|e _ _ h2,by rw[ey,Xy];show Lh _ _ _ _⟩) ?_ ?_⟩
  .rintro i x ys H3 pt Uu hi ⟨s3,UB,rfl⟩ S Xw;let⟨p,OJ,tt,rfl,VW⟩:=h3.at hi;let⟨e1,e2,e3,e4⟩:=g4 p (Xj OJ);let Xo:i<xs.length:=(Xx.mp hi).1
   let s4:Same H3 (upd H3 pt<|.tup [.int i,.ref tt]):=XZ Uu;let Rb:=s3.trans s4
   let NI:=Rb _ _ VW;let zu:=Rb _ _ hM
   let Jn:=SqK.same (k:=true) Rb hA;let ed:ps.getD i (0,0)=p:=ZY OJ
   let t0:We ([.int p.1,.int p.2]:List V) 0=some (.int p.1):=rfl;let t1:We ([.int p.1,.int p.2]:List V) 1=some (.int p.2):=rfl
   let iA:We (IL M) p.1=some (.int<|mk M p.1.toNat):=ZJ (n:=p.1.toNat) J (UL<|VP sS);let iB:We (IL M) p.2=some (.int<|mk M p.2.toNat):=ZJ (n:=p.2.toNat) J (UL<|VP sS)
   let hs:=jC M ps g i;rw[ed]at hs;exists pt,_,Z,SqT.of XR,Z,_,_,Z,_,_,Z,Z,?_;exists _,Z,_,Z,a,_,Z,.inr Jn,Z,ZP _,_,Z,?_;rw[Vc];show WL (λhe=>?_) (λhe=>?_)
   .show Xw _ _ ⟨Rb,Xo,?_⟩;rw[hs,if_neg λh=>h.1 he,Yu]
   exists _,Z,_,Z,tt,_,0,_,Z,Z,SqT.of NI,t0,m,_,p.1,_,Z,Z,SqL.of zu,iA,_,Z,_,Z,tt,_,1,_,Z,Z,SqT.of NI,t1,m,_,p.2,_,Z,Z,SqL.of zu,iB,Z,_,Z,?_;rw[ZA];show WL (λhx=>?_) (λhx=>?_)
   .show Xw _ _ ⟨Rb,Xo,?_⟩;rw[hs,if_neg λh=>h.2 hx,Yu]
   .exists _,Z,Xw _ _ ⟨Rb,Xo,?_⟩;rw[hs,if_pos ⟨he,hx⟩,ZU]
  .rintro ys H3 ⟨s3,_,rfl⟩ p hp;rw[QC];show q p _ (s3.trans<|XZ hp) (s3.free hp) XR
def zp(st:Stmt):(Pos):=match (QL st).getD 9 (.Pass ⟨0,0,0,0⟩) with
 | .Assign _ (.Call _ _ [k] _) _=>(match k.value with
  | .Lambda _ _ _ p=>p
  |_=>⟨0,0,0,0⟩)
 |_=>⟨0,0,0,0⟩
def gZ:(Str):=Str.ofString "Part.__init__"++Str.ofString ".<locals>."++Str.ofString "<lambda>"
abbrev Wf(H:Hp)(Pt:Addr):Prop:=TabH H Pt (zp sZt) gZ
inductive sp_Part_init(K:Ad)(CP C Pt:Addr)(vs:List V)(H:Hp)(Q:VK)(_:XK):Prop
 |mk (x dx w a b n ps I O ld:_) (_:vs=[.ref x,.ref w,.ref a,.ref b,WY ld]) (_:H x=some (.ins CP dx [])) (_:WebAt C H w n ps) (_:Zy n ps) (_:Wf H Pt) (_:SqT K H a (IL I)) (_:SqT K H b (IL O)) (_:I.Nodup) (_:(∀z∈I,0<=z/\z<ps⁻¹)) (_:(∀z∈I,z∉O)) (_:O.length<=30) (_:(∃U,With n ps I O U)) (_:(∀y,ld=some y->0<=y/\y<ps⁻¹)) (_:(ld=none->∀F,With n ps I O F->(∀U,With n ps I O U->HT.lexLt U F=false)->Xl n ps I O F=[])) (_:∀F inc fu l i H',With n ps I O F->(∀U,With n ps I O U->HT.lexLt U F=false)->RF (λz=>PyProof.Rows.b2i<|decide<|ld=some z) (Ua n ps I O F ld) inc->(fu=none↔Wh n ps I O F ld=[])->(∀y,fu=some y->y∈Wh n ps I O F ld/\∀z∈Wh n ps I O F ld,y<=z)->H' x=some (.ins CP dx<|vA ↑w ↑a ↑b (WY ld) ↑l ↑i<|WY fu)->H' l=some (.tup<|IL F)->H' i=some (.lst<|IL inc)->(∀b o,b≠x->b≠Pt->H b=some o->H' b=some o)->Wf H' Pt->Q .non H')
def KR:FnScope ["self","web","kept","shut","lead","marks","opened","alike","unlike"] ["self","web","kept","shut","lead"] (Xe sZt):=Rc sQ
def Gx{Pt:Addr}(T:Txt K mg t)(hB:RE K mg base t.dZt Pt):FnOk P w K mg base Xd 8 t.aZt t.dZt ["self","web","kept","shut","lead"] (sp_Part_init K t.A_Part t.A_Web Pt):=by
 let⟨cA,TN,hC,hBa,AI⟩:=hB;show T.fZt.okL TN KR (λvs H Q E h=>?_) (λA outer s H vs Q E hr h=>?_)
 .let⟨x,dx,w,a,b,n,ps,I,O,ld,rfl,_⟩:=h;rfl
 .let⟨x,dx,w,a,b,n,ps,I,O,ld,rfl,hx,hW,hG,hT,hA,Qo,hIn,XE,Ud,NH,⟨U0,EB⟩,Ai,PY,q⟩:=h;show⟨_,(XI (Mg (pv 0) (pv 1) Z)
   (XI (Mg (pv 0) (pv 2) Z)
   (XI (Mg (pv 0) (pv 3) Z)
   (XI (Mg (pv 0) (pv 4) Z)
   (XI (Mg (pv 0) (Zb (zt T) hr T.qZq ZF<|XY (pv 1)<|XY (pv 2)<|XY (pv 3) XT) Z)
   (XI (Ti (i:=5) KR.nd Z (Or.inr Z)<|Zb (Qp T) hr T.qZe ZF<|XY (pv 1)<|XY (pv 2) XT)
   (XI (Zf 6<|Zb (zq T) hr T.qZs ZF<|XY (pv 1)<|XY (pv 5)<|XY (Zz (HI K) (Zz (HI K) (pv 2)<|pv 3)<|Zk K (pv 0) Z) XT)
   (XI (Ti (i:=7) KR.nd Z (Or.inr Z)<|Ww Z (sc0:=Xe sZt) (N0:=["self","web","kept","shut","lead","marks","opened","alike","unlike"]) (N':=["tie","web","marks","lead"]) (o:=1) (fr:=[1,5,4]) ⟨Z,sQ,sQ,sQ,Z,sQ⟩ (Zv K<|pv 6) (Zn sT) (λ_ _ _ _=>(Xc 0)) (λ_ _ _ _=>(ZX<|Zi (cT K<|CG hr) (Zb (zr T) hr T.qZr ZF<|XY (pv 1)<|XY (pv 2)<|XY (pv 0) XT) (Zb (zr T) hr T.qZr ZF<|XY (pv 1)<|XY (pv 2)<|XY (pv 3) XT)<|Zw _)) λ_ _ _ _=>(pv 0))
   (XI (Vr (i:=8) Z KR.nd Z Z (sc0:=Xe sZt) (N0:=["self","web","kept","shut","lead","marks","opened","alike","unlike"]) (N':=["tie","alike"]) (o:=1) (fr:=[7]) ⟨Z,sQ,sQ,sQ,Z,sQ⟩ (Zv K<|pv 6) (Zn sT) (λ_ _ _ _=>(Xc 0)) (λ_ _ _ _=>(ZX<|Zi (Tx K) (pv 0) (pv 1) Z)) λ_ _ _ _=>(pv 0))
   (XI (Mg (pv 0) (jM (k:=0) (i:=4) (v:="tie") (x:="lead") (pv 7) sU T.n_sorted (hr.mono sT) rfl rfl hC hBa AI (LamScope.of rfl rfl rfl (by first|show .inl rfl|show .inr rfl) sT) rfl rfl (λ_ _ _ _=>rfl) rfl rfl rfl λ_ _ _ _ _ _ hr=>(Im Qc (pv 0) (pv 1)<|Zw _)) rfl)
   (XC<|Mg (pv 0) (Zq9 Z sU T.n_min<|pv 8) Z))))))))))),?_⟩
  let⟨g1,g2,g3,g4⟩:=id hG;exists _,Z,_,Z,x,_,dx,[],Z,hx,T.cl_Part,T.n_Part_web,(by change 0<1000;decide),?_;exists _,Z,_,Z,x,_,dx,_,Z,XR,T.cl_Part,T.n_Part_kept,(by change 1<1000;decide),?_;exists _,Z,_,Z,x,_,dx,_,Z,XR,T.cl_Part,T.n_Part_shut,(by change 2<1000;decide),?_;exists _,Z,_,Z,x,_,dx,_,Z,XR,T.cl_Part,T.n_Part_lead,(by change 3<1000;decide),?_;change Um _ _ _ [some ↑x,some<|.ref w,some<|.ref a,some<|.ref b,some<|WY ld,none,none,none,none] (upd (upd (upd (upd H x<|.ins t.A_Part dx<|XO "web" ↑w []) x<|.ins t.A_Part dx<|XO "kept" ↑a<|XO "web" ↑w []) x<|.ins t.A_Part dx<|XO "shut" ↑b<|XO "kept" ↑a<|XO "web" ↑w []) x<|.ins t.A_Part dx<|XO "lead" (WY ld)<|XO "shut" ↑b<|XO "kept" ↑a<|XO "web" ↑w []);let Jk:SameX x H (upd (upd (upd (upd H x<|.ins t.A_Part dx<|XO "web" ↑w []) x<|.ins t.A_Part dx<|XO "kept" ↑a<|XO "web" ↑w []) x<|.ins t.A_Part dx<|XO "shut" ↑b<|XO "kept" ↑a<|XO "web" ↑w []) x<|.ins t.A_Part dx<|XO "lead" (WY ld)<|XO "shut" ↑b<|XO "kept" ↑a<|XO "web" ↑w []):=((Ws.trans Ws).trans Ws).trans Ws
  let uY:(upd (upd (upd (upd H x<|.ins t.A_Part dx<|XO "web" ↑w []) x<|.ins t.A_Part dx<|XO "kept" ↑a<|XO "web" ↑w []) x<|.ins t.A_Part dx<|XO "shut" ↑b<|XO "kept" ↑a<|XO "web" ↑w []) x<|.ins t.A_Part dx<|XO "lead" (WY ld)<|XO "shut" ↑b<|XO "kept" ↑a<|XO "web" ↑w []) x=some (.ins t.A_Part dx [("web",.ref w),("kept",.ref a),("shut",.ref b),("lead",WY ld)]):=XR;generalize upd (upd (upd (upd H x<|.ins t.A_Part dx<|XO "web" ↑w []) x<|.ins t.A_Part dx<|XO "kept" ↑a<|XO "web" ↑w []) x<|.ins t.A_Part dx<|XO "shut" ↑b<|XO "kept" ↑a<|XO "web" ↑w []) x (.ins t.A_Part dx<|XO "lead" (WY ld)<|XO "shut" ↑b<|XO "kept" ↑a<|XO "web" ↑w [])=H4 at *;let gY:=hW.but hx Jk
  let Jn:=Ax hA hx Jk;let ik:=Ax Qo hx Jk
  let il:I.length<=ps.length:=by
   have:=Hn (m:=VJ ps.length) hIn λz hz=>Xr.mpr (XE z hz)
   rwa[ZN]at this
  exists _,Z,_,Z,_,Z,w,a,b,n,ps,I,O,Z,gY,hG,Jn,ik,hIn,XE,Ud,λH5 s5 h=>absurd EB<|h U0,λl F H5 s5 hl hF VY=>?_;exists _,Z,x,_,dx,_,Z,s5 _ _ uY,T.cl_Part,T.n_Part_least,(by change 4<1000;decide),?_;let zm:SameX x H H5:=Jk.trans (SameX.same s5)
  let uR:SameX x H (upd H5 x<|.ins t.A_Part dx<|XO "least" ↑l [("web",.ref w),("kept",.ref a),("shut",.ref b),("lead",WY ld)]):=zm.trans Ws;let hx6:(upd H5 x<|.ins t.A_Part dx<|XO "least" ↑l [("web",.ref w),("kept",.ref a),("shut",.ref b),("lead",WY ld)]) x=some (.ins t.A_Part dx [("web",.ref w),("kept",.ref a),("shut",.ref b),("lead",WY ld),("least",.ref l)]):=XR
  let zE:(upd H5 x<|.ins t.A_Part dx<|XO "least" ↑l [("web",.ref w),("kept",.ref a),("shut",.ref b),("lead",WY ld)]) l=some (.tup<|IL F):=by rwa[XJ (λe=>by rw[e,s5 _ _ uY]at hl;cases hl)]
  change Um _ _ _ [some ↑x,some<|.ref w,some<|.ref a,some<|.ref b,some<|WY ld,none,none,none,none] (upd H5 x<|.ins t.A_Part dx<|XO "least" ↑l [("web",.ref w),("kept",.ref a),("shut",.ref b),("lead",WY ld)]);generalize upd H5 x (.ins t.A_Part dx<|XO "least" ↑l [("web",.ref w),("kept",.ref a),("shut",.ref b),("lead",WY ld)])=H6 at *;exists _,Z,_,Z,w,a,n,ps,I,Z,hW.but hx uR,hG,Ax hA hx uR,XE,λm H7 s7 PM uS=>?_;show nm ?_;dsimp only[List.set];let gX:SameX x H H7:=uR.trans (SameX.same s7)
  let hF1:F.length<=ps.length:=hF.1.1.len;let PJ:(XB n.toNat<|XU ps I).length=n.toNat:=ZD _ _
  exists _,Z,_,Z,_,Z,_,Z,?_;show Aw (l:=I) (m:=O) (Ax hA hx gX) (Ax Qo hx gX) J λr1 H8 s8 To=>?_;let sx8:SameX x H H8:=gX.trans (SameX.same s8)
  let gW:=s7.trans s8;exists _,Z,x,_,dx,_,.ref l,Z,gW _ _ hx6,T.cl_Part,T.n_Part_least,Z,?_;show Aw (l:=I++O) (m:=F) To (SqT.of<|gW _ _ zE) (by rw[Xt];lia) λr2 H9 s9 UT=>?_;let s69:=gW.trans s9
  let sx9:SameX x H H9:=sx8.trans (SameX.same s9);let uV:=s8.trans s9
  exists w,m,r2,n,ps,XB n.toNat<|XU ps I,I++O++F,Z,hW.but hx sx9,hG,uV _ _ uS,PJ,UT,λpA zy NJ hp0 RB=>?_;let RB:zy pA=some (.lst<|IL<|Xl n ps I O F):=RB
  show nm ?_;let sxA:SameX x H zy:=sx9.trans (SameX.same NJ)
  let s6A:=s69.trans NJ;let hmA:=(uV.trans NJ) _ _ uS
  let OT:∀z∈Xl n ps I O F,0<=z/\z<ps⁻¹:=λz hz=>Zt9 hz;let Rp:(Xl n ps I O F).length<=ps.length:=Lh _ _ _ _
  show⟨_,Z,pA,Z,⟨_,SqL.of RB⟩,Wc (K:=K) (a:=pA) (xs:=IL<|Xl n ps I O F) (λi ws MN=>Same zy MN/\i<=(Xl n ps I O F).length/\ws=IL (((Xl n ps I O F).take i).filter λz=>decide<|∃y,ld=some y/\VV (XB n.toNat<|XU ps I) ps z=VV (XB n.toNat<|XU ps I) ps y)) ⟨Same.refl _,Yk _,Z⟩ (Zg<|by rw[Xy];lia)
   (λi ws MN hi h=>by let⟨e,Vf,ew⟩:=h;show⟨SqL.of<|e _ _ RB,by rw[ew,Xy];show Yn (Yr ..)<|by rw[Yh];lia⟩) ?_ ?_⟩
  .rintro i v ws MN hi ⟨KS,UB,rfl⟩ S Xw;let⟨z,rfl,hz⟩:=ZV hi;let⟨z0,z1⟩:=OT z (Xj hz);let Xo:i<(Xl n ps I O F).length:=(Xx.mp hz).1
   obtain⟨y,rfl⟩:∃y,ld=some y:=by
    cases ld with
    |some y=>exists y,Z
    |none=>
     rw[PY Z F hF VY]at Xo;show absurd Xo (Sv _)
   let⟨y0,y1⟩:=Ai y rfl;show nm ?_;exists _,Z,_,Z,_,Z,w,m,n,ps,_,z,Z,hW.but hx<|sxA.trans<|SameX.same KS,hG,KS _ _ hmA,PJ,z0,z1,λe1 l1 H12 Ta hs1 Wq Bc=>?_;let Gw:=KS.trans Wq
   exists _,Z,_,Z,_,Z,w,m,n,ps,_,y,Z,hW.but hx<|sxA.trans<|SameX.same Gw,hG,Gw _ _ hmA,PJ,y0,y1,λe2 l2 H13 VB SO s13 OR=>?_;exists 1,_,e1,e2,Z,Z,sT,oY (SqL.of<|s13 _ _ Bc)<|SqL.of OR,_,Z,?_;let ed:decide (l1=l2)=decide (∃y_1,some y=some y_1/\VV (XB n.toNat<|XU ps I) ps z=VV (XB n.toNat<|XU ps I) ps y_1):=by
    rw[vy Ta hs1,vy VB SO,FJ];constructor
    .intro e;injection e with e1 e2
     injection e2 with e2 _;exists y,Z,Prod.ext e1 e2
    .rintro⟨y',e,e'⟩;cases e;let⟨e1,e2⟩:=Prod.mk.inj e';rw[e1,e2]
   let zk:=Gw.trans s13;change(if decide (l1=l2)=true then _ else _)
   rw[ed];show WO (λhc=>?_) (λhc=>?_)
   .exists _,Z,Xw _ _ ⟨zk,Xo,?_⟩;rw[Zx hz,if_pos<|Yv hc,ZU]
   .show Xw _ _ ⟨zk,Xo,?_⟩;rw[Zx hz,if_neg (by simpa using hc),Yu]
  rintro ws MN ⟨KS,_,rfl⟩ kA hkA;rw[Xy,YE];let ea:((Xl n ps I O F).filter λz=>decide<|∃y,ld=some y/\VV (XB n.toNat<|XU ps I) ps z=VV (XB n.toNat<|XU ps I) ps y)=Ua n ps I O F ld:=rfl
  rw[ea];let hal:(Ua n ps I O F ld).length<=ps.length:=Yn (Yr ..) Rp
  let v1:=XZ (o:=.lst<|IL<|Ua n ps I O F ld) hkA;let kK:(upd MN kA<|.lst<|IL<|Ua n ps I O F ld) kA=some (.lst<|IL<|Ua n ps I O F ld):=XR
  show nm ?_;dsimp only[List.set];let sAB:=KS.trans v1
  change Um _ _ _ _ (upd MN kA<|.lst<|IL<|Ua n ps I O F ld);generalize upd MN kA (.lst<|IL<|Ua n ps I O F ld)=H14 at *;let hpB:=sAB _ _ RB
  show⟨_,Z,pA,Z,⟨_,SqL.of hpB⟩,Wc (K:=K) (a:=pA) (xs:=IL<|Xl n ps I O F) (λi ws Jj=>Jj=H14/\i<=(Xl n ps I O F).length/\ws=IL (((Xl n ps I O F).take i).filter λz=>decide<|z∉Ua n ps I O F ld)) ⟨Z,Yk _,Z⟩ (Zg<|by rw[Xy];lia)
   (λi ws Jj hi h=>by let⟨e,Vf,ew⟩:=h;show⟨e▸SqL.of hpB,by rw[ew,Xy];show Yn (Yr ..)<|by rw[Yh];lia⟩) ?_ ?_⟩
  .rintro i v ws Jj hi ⟨rfl,UB,rfl⟩ S Xw;let⟨z,rfl,hz⟩:=ZV hi;let Xo:i<(Xl n ps I O F).length:=(Xx.mp hz).1
   show nm ?_;exists _,Z,_,Z,kA,_,Z,.inl<|SqL.of kK,Z,ZP _,_,Z,?_;rw[Vc];show WL (λhe=>?_) (λhe=>?_)
   .show Xw _ _ ⟨Z,Xo,?_⟩;rw[Zx hz,if_neg (by simpa using he),Yu]
   .exists _,Z,Xw _ _ ⟨Z,Xo,?_⟩;rw[Zx hz,if_pos<|Yv he,ZU]
  rintro ws Jj ⟨rfl,_,rfl⟩ uA gV;rw[Xy,YE];let eu:((Xl n ps I O F).filter λz=>decide<|z∉Ua n ps I O F ld)=Wh n ps I O F ld:=rfl
  rw[eu];let v2:=XZ (o:=.lst<|IL<|Wh n ps I O F ld) gV
  let kU:(upd Jj uA<|.lst<|IL<|Wh n ps I O F ld) uA=some (.lst<|IL<|Wh n ps I O F ld):=XR;show nm ?_;let gU:=(s6A.trans sAB).trans v2
  let kKU:=v2 _ _ kK;let sxU:SameX x H (upd Jj uA<|.lst<|IL<|Wh n ps I O F ld):=uR.trans (SameX.same gU)
  let Hl:=gU _ _ hx6;let hlU:=gU _ _ zE
  change Um _ _ _ _ (upd Jj uA<|.lst<|IL<|Wh n ps I O F ld);generalize upd Jj uA (.lst<|IL<|Wh n ps I O F ld)=H16 at *;let KQ:Wf H16 Pt:=jB hT hx sxU
  exists _,Z,kA,Ua n ps I O F ld,WY ld,λz=>decide<|ld=some z,Z,SqL.of kKU,J,KQ,Z,λzj NG z hz=>?_,λinc iA zj Wn NG zh gT=>?_
  .exists _,rfl,_,rfl,(by cases ld<;>rfl),?_,rfl
   change V.bl (decide<|V.int z=WY ld)=V.bl (decide<|ld=some z);cases ld with
   |none=>rfl
   |some y=>
    change V.bl (decide<|V.int z=V.int y)=V.bl (decide<|some y=some z);rw[ZA];congr 1;rw[FJ];exists λe=>by rw[e],λe=>(Ye e).symm
  let hxP:x≠Pt:=KQ.ne Hl B;let v3:=XZ (o:=.lst<|IL inc) gT
  let zg:=v3 _ _ (NG _ _ hxP Hl);let ze:=v3 _ _ (NG _ _ (KQ.ne hlU B) hlU)
  let zd:=v3 _ _ (NG _ _ (KQ.ne kU B) kU);let zb:(upd zj iA<|.lst<|IL inc) iA=some (.lst<|IL inc):=XR
  let y9:Wf (upd zj iA<|.lst<|IL inc) Pt:=zh.same v3;let Gv:∀b o,b≠x->b≠Pt->H b=some o->(upd zj iA<|.lst<|IL inc) b=some o:=λb o h1 h2 e=>v3 _ _ (NG _ _ h2<|sxU _ _ h1 e)
  change tVar _ _ _ _;generalize upd zj iA (.lst<|IL inc)=y8 at *;exists _,Z,x,_,dx,_,Z,zg,T.cl_Part,T.n_Part_incoming,(by change 5<1000;decide),?_;let NF:∀c o,y8 c=some o->(∀a b fs,o≠.ins a b fs)->c≠x:=λc o h ho e=>by rw[e,zg]at h;show ho _ _ _ (Ye h).symm
  let gS:(upd y8 x<|.ins t.A_Part dx<|XO "incoming" ↑iA [("web",.ref w),("kept",.ref a),("shut",.ref b),("lead",WY ld),("least",.ref l)]) uA=some (.lst<|IL<|Wh n ps I O F ld):=by rw[XJ (NF _ _ zd B)];show zd
  let fin:∀fu:Option Int,(fu=none↔Wh n ps I O F ld=[])->(∀y,fu=some y->y∈Wh n ps I O F ld/\∀z∈Wh n ps I O F ld,y<=z)->Q .non (upd (upd y8 x<|.ins t.A_Part dx<|XO "incoming" ↑iA [("web",.ref w),("kept",.ref a),("shut",.ref b),("lead",WY ld),("least",.ref l)]) x<|.ins t.A_Part dx<|vA ↑w ↑a ↑b (WY ld) ↑l ↑iA<|WY fu):=λfu h1 h2=>by
   let up:∀c o,c≠x->y8 c=some o->(upd (upd y8 x<|.ins t.A_Part dx<|XO "incoming" ↑iA [("web",.ref w),("kept",.ref a),("shut",.ref b),("lead",WY ld),("least",.ref l)]) x<|.ins t.A_Part dx<|vA ↑w ↑a ↑b (WY ld) ↑l ↑iA<|WY fu) c=some o:=λc o h e=>by rw[XJ h,XJ h];show e
   let⟨tp,t1,t2,t3⟩:=id y9;show q F inc fu l iA _ hF VY Wn h1 h2 XR (up _ _ (NF _ _ ze B) ze) (up _ _ (NF _ _ zb B) zb) (λb o b1 b2 e=>up _ _ b1<|Gv b o b1 b2 e) ⟨tp,up _ _ (NF _ _ t1 B) t1,t2,?_⟩;rcases t3 with h|⟨c,h,h'⟩
   .show .inl h
   .show .inr ⟨c,h,up _ _ (NF _ _ h'<|by unfold EL;simp) h'⟩
  exists _,Z,uA,Wh n ps I O F ld,Z,SqL.of gS,λe=>?_,λmn TU WI=>?_
  .exists _,Z,x,_,dx,_,Z,XR,T.cl_Part,T.n_Part_further,(by change 6<1000;decide),?_;show fin none ⟨λ_=>e,λ_=>rfl⟩ λy h=>by cases h
  .exists _,Z,x,_,dx,_,Z,XR,T.cl_Part,T.n_Part_further,(by change 6<1000;decide),?_;show fin (some mn) ⟨λh=>(by cases h),λh=>(by rw[h]at TU;cases TU)⟩ λy h=>(by cases h;exists TU,WI)
inductive spZu(K:Ad)(CP C Pt:Addr)(vs:List V)(H:Hp)(Q:VK)(_:XK):Prop
 |mk (w n ps:_) (_:vs=[.ref w]) (_:WebAt C H w n ps) (_:Zy n ps) (_:Wf H Pt) (_:(∃U,Ze n ps U)) (_:∀x F inc ld fu H',PartOk n ps [] [] ld F inc fu->(ld=none↔Xl n ps [] [] F=[])->(∀y,ld=some y->y∈Xl n ps [] [] F/\∀z∈Xl n ps [] [] F,y<=z)->PartAt K CP C H' x n ps [] [] F inc ld fu->SameX Pt H H'->Wf H' Pt->Q ↑x H')
def gR{Pt:Addr}(T:Txt K mg t)(hB:RE K mg base t.dZt Pt):WR P w base Xd T.qZu 10 (spZu K t.A_Part t.A_Web Pt):=by
 show T.qZu.okI ["web","opened"] sQ λXu A outer s H vs Q E hr h=>?_
 .let⟨w,n,ps,rfl,hW,hG,hT,⟨U0,EB⟩,q⟩:=h;show⟨_,(XI (Zf 1<|Zb (zq T) hr T.qZs ZF<|XY (pv 0)<|XY (Zb (Qp T) hr T.qZe ZF<|XY (pv 0)<|XY (TF XT) XT)<|XY (Zb (zt T) hr T.qZq ZF<|XY (pv 0)<|XY (TF XT)<|XY (TF XT) XT) XT)
   (XC<|Zm<|Dn T.k_Part (Gx T hB) (hr.mono sT) Z T.c_Part T.bZt .nil ZF<|XY (pv 0)<|XY (TF XT)<|XY (TF XT)<|XY (Zq9 Z sU T.n_min<|pv 1) XT)),?_⟩
  let hU1:With n ps [] [] U0:=⟨EB,λz h=>(by cases h),λz h=>(by cases h)⟩;exists _,Z,_,Z,Yk _,λe1 Bc=>?_;let s1:=XZ (o:=.tup []) Bc
  exists w,e1,n,ps,[],Z,hW.same s1,hG,SqT.of XR,λz h=>(by cases h),λm H2 s2 PM WI=>?_;let Wq:=s1.trans s2
  exists _,Z,Yk _,λe2 OR=>⟨Yk _,λe3 he3=>?_⟩;let s3:=XZ (o:=.tup []) OR
  let s4:=XZ (o:=.tup []) he3;let EA:=Wq.trans (s3.trans s4)
  exists w,e2,e3,n,ps,[],[],Z,hW.same EA,hG,SqT.of<|s4 _ _ XR,SqT.of XR,.nil,λz h=>(by cases h),λz h=>(by cases h),λH5 s5 h=>absurd hU1<|h U0,λl F H5 s5 hl hF VY=>?_;let s15:=EA.trans s5
  let uU:=((s3.trans s4).trans s5) _ _ WI;let PJ:(XB n.toNat<|XU ps []).length=n.toNat:=ZD _ _
  exists w,m,l,n,ps,XB n.toNat<|XU ps [],F,Z,hW.same s15,hG,uU,PJ,SqT.of hl,λpA H6 s6 hp0 gQ=>?_;let gQ:H6 pA=some (.lst<|IL<|Xl n ps [] [] F):=gQ
  show nm ?_;let s16:=s15.trans s6
  let OT:∀z∈Xl n ps [] [] F,0<=z/\z<ps⁻¹:=λz hz=>Zt9 hz;exists _,Z,Yk _,λf1 NL=>⟨Yk _,λf2 KZ=>?_⟩;let s7:=XZ (o:=.tup []) NL
  let s8:=XZ (o:=.tup []) KZ;let Gu:(upd (upd H6 f1<|.tup []) f2<|.tup []) f1=some (.tup []):=s8 _ _ XR
  let Gs:(upd (upd H6 f1<|.tup []) f2<|.tup []) f2=some (.tup []):=XR;let uQ:=s16.trans (s7.trans s8)
  let uP:=(s7.trans s8) _ _ gQ;generalize upd (upd H6 f1<|.tup []) f2 (.tup [])=H8 at *;let main:∀ld:Option Int,(ld=none↔Xl n ps [] [] F=[])->(∀y,ld=some y->y∈Xl n ps [] [] F/\∀z∈Xl n ps [] [] F,y<=z)->∀x dx,H8 x=none->H8 dx=none->dx≠x->sp_Part_init K t.A_Part t.A_Web Pt [.ref x,.ref w,.ref f1,.ref f2,WY ld] (upd (upd H8 dx<|.own x) x<|.ins t.A_Part dx []) (λv H2=>v=.non/\Q ↑x H2) E0:=by
   intro ld hn hs x dx nx NK KU;let s9:Same H8 (upd (upd H8 dx<|.own x) x<|.ins t.A_Part dx []):=Zr (XZ NK) (by rwa[XJ (Xa KU)])
   let s19:=uQ.trans s9;exists x,dx,w,f1,f2,n,ps,[],[],ld,Z,XR,hW.same s19,hG,hT.same s19,SqT.of<|s9 _ _ Gu,SqT.of<|s9 _ _ Gs,.nil,λz h=>(by cases h),λz h=>(by cases h),Yk _,⟨U0,hU1⟩,λy hy=>OT y (hs y hy).1,λe F' Ji Sy=>?_,λF' inc fu l' i' H' Ji Sy Wn h1 h2 Xm Pj Tw keep ND=>⟨Z,?_⟩
   .let eF:F'=F:=Xv (VY F' Ji) (Sy F hF);rw[eF];show hn.mp e
   .let eF:F'=F:=Xv (VY F' Ji) (Sy F hF);subst eF;let sx:SameX Pt H8 H':=λb o hb e=>keep b o (Za e nx) hb (s9 _ _ e)
    let Gr:Wf H8 Pt:=hT.same uQ;show q x F' inc ld fu H' ⟨Ji,Sy,Wn,h1,h2⟩ hn hs ⟨dx,w,f1,f2,l',i',Xm,(hW.same uQ).samex Gr sx,SqT.of<|sx _ _ (Gr.ne Gu B) Gu,SqT.of<|sx _ _ (Gr.ne Gs B) Gs,Pj,Tw⟩ ((SameX.same uQ).trans sx) ND
  exists _,Z,pA,Xl n ps [] [] F,Z,SqL.of uP,λe=>?_,λmn h1 h2=>?_
  .show main none ⟨λ_=>e,λ_=>rfl⟩ λy h=>by cases h
  .show main (some mn) ⟨λh=>(by cases h),λh=>(by rw[h]at h1;cases h1)⟩ λy h=>(by cases h;exists h1,h2)
inductive spZv(K:Ad)(CP C Pt:Addr)(vs:List V)(H:Hp)(Q:VK)(_:XK):Prop
 |mk (x n ps I O F inc z y:_) (_:vs=[.ref x]) (_:PartAt K CP C H x n ps I O F inc (some z) (some y)) (_:Zy n ps) (_:Wf H Pt) (_:(I).Nodup) (_:(∀v∈I,0<=v/\v<ps⁻¹)) (_:(∀v∈I,v∉O++[z])) (_:(O++[z]).length<=30) (_:(∃U,With n ps (I) (O++[z]) U)) (_:0<=y) (_:y<ps⁻¹) (_:∀x' F' VG fu H',PartOk n ps (I) (O++[z]) (some y) F' VG fu->PartAt K CP C H' x' n ps (I) (O++[z]) F' VG (some y) fu->SameX Pt H H'->Wf H' Pt->Q ↑x' H')
def gP{Pt:Addr}(T:Txt K mg t)(hB:RE K mg base t.dZt Pt):WR P w base Xd T.qZv 10 (spZv K t.A_Part t.A_Web Pt):=by
 show T.qZv.okI ["part"] sQ λXu A outer s H vs Q E hr h=>?_
 .let⟨x,n,ps,I,O,F,inc,z,y,rfl,⟨dx,w,a,b,l,i,hx,hW,hA,Qo,hl,hi⟩,hG,hT,hIn,XE,Ud,NH,hex,y0,y1,q⟩:=h;exists _,(XC<|Zm<|Dn T.k_Part (Gx T hB) (hr.mono sT) Z T.c_Part T.bZt .nil ZF<|XY (Zk K (pv 0) Z)<|XY (Zk K (pv 0) Z)<|XY (Zz (HI K) (Zk K (pv 0) Z)<|TF<|XY (Zk K (pv 0) Z) XT)<|XY (Zk K (pv 0) Z) XT),?_;let gO:I.length<=30:=by
   have:=Hn (m:=VJ ps.length) hIn λv hv=>Xr.mpr (XE v hv)
   let e:=hG.2.2.1;rw[ZN]at this
   try simp only[Xt,Yx]at this
   lia
  let NU:O.length<=30:=by
   have:=NH
   try simp only[Xt,Yx]at this
   lia
  exists _,Z,x,_,dx,_,.ref w,Z,hx,T.cl_Part,T.n_Part_web,Z,_,Z,x,_,dx,_,.ref a,Z,hx,T.cl_Part,T.n_Part_kept,Z,_,Z,x,_,dx,_,.ref b,Z,hx,T.cl_Part,T.n_Part_shut,Z,_,Z,x,_,dx,_,.int z,Z,hx,T.cl_Part,T.n_Part_lead,Z,(by change 1<=sizeLine;decide),λp hp=>?_;let s1:=XZ (o:=.tup<|IL [z]) hp
  show Aw (l:=O) (m:=[z]) (SqK.same (k:=true) s1 Qo) (SqT.of XR) (by rw[Yx];lia) λr1 H2 s2 To=>?_;let Wq:=s1.trans s2
  exists _,Z,x,_,dx,_,.int y,Z,Wq _ _ hx,T.cl_Part,T.n_Part_further,Z,?_;intro x' KP nx NK KU;let s9:Same H2 (upd (upd H2 KP<|.own x') x'<|.ins t.A_Part KP []):=Zr (XZ NK) (by rwa[XJ (Xa KU)])
  let Wj:Wf H2 Pt:=hT.same Wq;exists x',KP,w,a,r1,n,ps,I,O++[z],some y,Z,XR,hW.same<|Wq.trans s9,hG,Wj.same s9,SqK.same (k:=true) (Wq.trans s9) hA,SqK.same (k:=true) s9 To,hIn,XE,Ud,NH,hex,λv e=>(by cases e;exists y0,y1),λe=>(by cases e),λF' VG fu l' i' H' Ji Sy Wn h1 h2 Xm Pj Tw keep ND=>⟨Z,?_⟩;let sx:SameX Pt H2 H':=λb o hb e=>keep b o (Za e nx) hb (s9 _ _ e)
  show q x' F' VG fu H' ⟨Ji,Sy,Wn,h1,h2⟩ ⟨KP,w,a,r1,l',i',Xm,(hW.same Wq).samex Wj sx,SqK.samex (kd:=true) (SqK.same (k:=true) Wq hA) Wj sx,SqK.samex (kd:=true) (To) Wj sx,Pj,Tw⟩ ((SameX.same Wq).trans sx) ND
inductive spZw(K:Ad)(CP C Pt:Addr)(vs:List V)(H:Hp)(Q:VK)(_:XK):Prop
 |mk (x n ps I O F inc z y:_) (_:vs=[.ref x]) (_:PartAt K CP C H x n ps I O F inc (some z) (some y)) (_:Zy n ps) (_:Wf H Pt) (_:(I++[z]).Nodup) (_:(∀v∈I++[z],0<=v/\v<ps⁻¹)) (_:(∀v∈I++[z],v∉O)) (_:(O).length<=30) (_:(∃U,With n ps (I++[z]) (O) U)) (_:0<=y) (_:y<ps⁻¹) (_:∀x' F' VG fu H',PartOk n ps (I++[z]) (O) (some y) F' VG fu->PartAt K CP C H' x' n ps (I++[z]) (O) F' VG (some y) fu->SameX Pt H H'->Wf H' Pt->Q ↑x' H')
def gN{Pt:Addr}(T:Txt K mg t)(hB:RE K mg base t.dZt Pt):WR P w base Xd T.qZw 10 (spZw K t.A_Part t.A_Web Pt):=by
 show T.qZw.okI ["part"] sQ λXu A outer s H vs Q E hr h=>?_
 .let⟨x,n,ps,I,O,F,inc,z,y,rfl,⟨dx,w,a,b,l,i,hx,hW,hA,Qo,hl,hi⟩,hG,hT,hIn,XE,Ud,NH,hex,y0,y1,q⟩:=h;exists _,(XC<|Zm<|Dn T.k_Part (Gx T hB) (hr.mono sT) Z T.c_Part T.bZt .nil ZF<|XY (Zk K (pv 0) Z)<|XY (Zz (HI K) (Zk K (pv 0) Z)<|TF<|XY (Zk K (pv 0) Z) XT)<|XY (Zk K (pv 0) Z)<|XY (Zk K (pv 0) Z) XT),?_;let gO:I.length<=30:=by
   have:=Hn (m:=VJ ps.length) hIn λv hv=>Xr.mpr (XE v hv)
   let e:=hG.2.2.1;rw[ZN]at this
   try simp only[Xt,Yx]at this
   lia
  let NU:O.length<=30:=by
   have:=NH
   try simp only[Xt,Yx]at this
   lia
  exists _,Z,x,_,dx,_,.ref w,Z,hx,T.cl_Part,T.n_Part_web,Z,_,Z,x,_,dx,_,.ref a,Z,hx,T.cl_Part,T.n_Part_kept,Z,_,Z,x,_,dx,_,.int z,Z,hx,T.cl_Part,T.n_Part_lead,Z,(by change 1<=sizeLine;decide),λp hp=>?_;let s1:=XZ (o:=.tup<|IL [z]) hp
  show Aw (l:=I) (m:=[z]) (SqK.same (k:=true) s1 hA) (SqT.of XR) (by rw[Yx];lia) λr1 H2 s2 To=>?_;let Wq:=s1.trans s2
  exists _,Z,x,_,dx,_,.ref b,Z,Wq _ _ hx,T.cl_Part,T.n_Part_shut,Z,_,Z,x,_,dx,_,.int y,Z,Wq _ _ hx,T.cl_Part,T.n_Part_further,Z,?_;intro x' KP nx NK KU;let s9:Same H2 (upd (upd H2 KP<|.own x') x'<|.ins t.A_Part KP []):=Zr (XZ NK) (by rwa[XJ (Xa KU)])
  let Wj:Wf H2 Pt:=hT.same Wq;exists x',KP,w,r1,b,n,ps,I++[z],O,some y,Z,XR,hW.same<|Wq.trans s9,hG,Wj.same s9,SqK.same (k:=true) s9 To,SqK.same (k:=true) (Wq.trans s9) Qo,hIn,XE,Ud,NH,hex,λv e=>(by cases e;exists y0,y1),λe=>(by cases e),λF' VG fu l' i' H' Ji Sy Wn h1 h2 Xm Pj Tw keep ND=>⟨Z,?_⟩;let sx:SameX Pt H2 H':=λb o hb e=>keep b o (Za e nx) hb (s9 _ _ e)
  show q x' F' VG fu H' ⟨Ji,Sy,Wn,h1,h2⟩ ⟨KP,w,r1,b,l',i',Xm,(hW.same Wq).samex Wj sx,SqK.samex (kd:=true) (To) Wj sx,SqK.samex (kd:=true) (SqK.same (k:=true) Wq Qo) Wj sx,Pj,Tw⟩ ((SameX.same Wq).trans sx) ND
inductive spZx(K:Ad)(CP C:Addr)(vs:List V)(H:Hp)(Q:VK)(_:XK):Prop
 |mk (x n ps I O F inc ld fu:_) (_:vs=[.ref x]) (_:PartAt K CP C H x n ps I O F inc ld fu) (_:Zy n ps) (_:I.Nodup) (_:(∀z∈I,0<=z/\z<ps⁻¹)) (_:O.length<=30) (_:(∀z∈I,z∉O)) (_:∀c H',PC n ps I O c->Same H H'->Q (.int c) H')
def gM(T:Txt K mg t):WR P w base Xd T.qZx 8 (spZx K t.A_Part t.A_Web):=by
 show T.qZx.okI ["part"] sQ λXu A outer s H vs Q E hr h=>?_
 .let⟨x,n,ps,I,O,F,inc,ld,fu,rfl,⟨dx,w,a,b,l,i,hx,hW,hA,Qo,hl,hi⟩,hG,hI,XE,hO,Ud,q⟩:=h;exists _,(XC<|Zm<|Zb (iw T) hr T.qZk ZF<|XY (Zk K (pv 0) Z)<|XY (Zk K (pv 0) Z)<|XY (Zk K (pv 0) Z) XT),?_;exists _,Z,x,_,dx,_,.ref w,Z,hx,T.cl_Part,T.n_Part_web,Z,_,Z,x,_,dx,_,.ref a,Z,hx,T.cl_Part,T.n_Part_kept,Z,_,Z,x,_,dx,_,.ref b,Z,hx,T.cl_Part,T.n_Part_shut,Z,?_;exists w,a,b,n,ps,I,O,Z,hW,hG,hA,Qo,hI,XE,hO,Ud,q
def gL{n:Int}{ps:Aa}{I F ms:Ac}{z:Int}(hF:Ze n ps F)(hz:z∉F)(hp:ms.Perm (Td n ps F z F++[z]))(hs:ms.Pairwise (·<=·)):(ms.filter λt=>decide (t≠z/\t∉I))=WX n ps I F z:=by
 show RQ ((hp.filter _).trans ?_) (hs.filter _) ?_
 .rw[Rx,List.filter_cons_of_neg B,tQ,Yu];show List.Perm.of_eq (Nr λt ht=>?_)
  have:t≠z:=λe=>hz (e▸(Vp.mp ht).1)
  simp[this]
 .show((XS.mp hF.1).2.filter _).filter _ |>.imp λh=>J
inductive spZy(K:Ad)(CP C:Addr)(vs:List V)(H:Hp)(Q:VK)(_:XK):Prop
 |mk (x n ps I O F inc ld fu z:_) (_:vs=[.ref x,.int z]) (_:PartAt K CP C H x n ps I O F inc ld fu) (_:Zy n ps) (_:Ze n ps F) (_:z∉F) (_:0<=z) (_:z<ps⁻¹) (_:∀r xs H',Same H H'->H r=none->H' r=some (.lst xs)->Bears (WT H') xs ((WX n ps I F z).map λo=>xchT F o z)->Q ↑r H')
def gK:FnScope ["part","into","leaving"] ["part","into"] (Xe (top 51)):=Rc sQ
def gJ(T:Txt K mg t):WR P w base Xd T.qZy 9 (spZy K t.A_Part t.A_Web):=by
 show T.qZy.okI ["part","into","leaving"] sQ λXu A outer s H vs Q E hr h=>?_
 .let⟨x,n,ps,I,O,F,inc,ld,fu,z,rfl,⟨dx,w,a,b,l,i,hx,hW,hA,Qo,hl,hi⟩,hG,hF,hz,z0,z1,q⟩:=h;show⟨_,(XI (Vr (i:=2) Z gK.nd Z Z (sc0:=Xe<|top 51) (N0:=["part","into","leaving"]) (N':=["tie","into","part"]) (o:=1) (fr:=[1,0]) ⟨Z,sQ,sQ,sQ,Z,sQ⟩ (Kc K<|Zb (g7 T) hr T.qZp ZF<|XY (Zk K (pv 0) Z)<|XY (Zk K (pv 0) Z)<|XY (pv 1) XT) (Zn sT) (λ_ _ _ _=>(Xc 0)) (λ_ _ _ _=>(ZX<|PW.pt<|xk (Zi Qb (pv 0) (pv 1)<|Zw _)<|Mp<|Zi (Tx K) (pv 0) (Zk K (pv 2) Z) Z)) λ_ _ _ _=>(pv 0))
   (XC<|Zm<|Ww Z (sc0:=Xe<|top 51) (N0:=["part","into","leaving"]) (N':=["out","part","into"]) (o:=1) (fr:=[0,1]) ⟨Z,sQ,sQ,sQ,Z,sQ⟩ (Zv K<|pv 2) (Zn sT) (λ_ _ _ _=>(Xc 0)) (λ_ _ _ _=>RT) λ_ _ _ _=>(Zl (ZS K) sU T.n_tuple Boot.«tuple»<|XY (Zh (ZG4 K) sU T.n_sorted Boot.«sorted»<|XY (Zz (HI K) (Zb (zM T) hr T.qZa ZF<|XY (Zk K (pv 1) Z)<|XY (pv 0) XT)<|TF<|XY (pv 2) XT) XT) XT))),?_⟩
  let big:(30:Int)<10^70:=sT;let g3:=hG.2.2.1
  exists _,Z,x,_,dx,_,.ref w,Z,hx,T.cl_Part,T.n_Part_web,Z,_,Z,x,_,dx,_,.ref l,Z,hx,T.cl_Part,T.n_Part_least,Z,_,Z,?_;exists w,l,n,ps,true,F,z,Z,hW,hG,SqT.of hl,D,J,λ_ _ _ _ ms TU WI rA H1 s1 Ut PN=>?_,λ_ h=>absurd h λh=>h.elim hz λh=>h ⟨z0,z1⟩,λh=>absurd hF h;let hm30:ms.length<=40:=by
   rw[TU.length_eq,Xt,Yx]
   have:=HL n ps F z F
   have:=hF.1.len
   lia
  show⟨rA,Z,⟨_,SqT.of PN⟩,HU (K:=K) (a:=rA) (xs:=IL ms) (λj ws H2=>H2=H1/\j<=ms.length/\ws=IL ((ms.take j).filter λt=>decide<|t≠z/\t∉I)) ⟨Z,Yk _,Z⟩ (Zg<|by rw[Xy];lia)
   (λj ws H2 hj h=>by let⟨e,SF,ew⟩:=h;show⟨e▸SqT.of PN,by rw[ew,Xy];show Yn (Yr ..)<|by rw[Yh];lia⟩) ?_ ?_⟩
  .rintro j v ws H2 hj ⟨rfl,Vg,rfl⟩ S Xw;let⟨y,rfl,hy⟩:=ZV hj;let VX:j<ms.length:=(Xx.mp hy).1
   show nm ?_;exists _,Z,_,Z,Z,_,Z,?_;rw[ZA];show WL (λhe=>?_) (λhe=>?_)
   .show Xw _ _ ⟨Z,VX,?_⟩;rw[Zx hy,if_neg (by simp[he]),Yu]
   exists _,Z,_,Z,x,_,dx,_,.ref a,Z,s1 _ _ hx,T.cl_Part,T.n_Part_kept,Z,a,_,Z,.inr<|SqK.same (k:=true) s1 hA,Z,ZP _,_,Z,?_;rw[Vc];show WL (λhc=>?_) (λhc=>?_)
   .show Xw _ _ ⟨Z,VX,?_⟩;rw[Zx hy,if_neg (by simp[hc]),Yu]
   .exists _,Z,Xw _ _ ⟨Z,VX,?_⟩;rw[Zx hy,if_pos<|Yv ⟨he,hc⟩,ZU]
  rintro ws H2 ⟨rfl,_,rfl⟩ lA hlA;rw[Xy,YE,gL hF hz TU WI];let u1:=XZ (o:=.lst<|IL<|WX n ps I F z) hlA
  let kL:(upd H2 lA<|.lst<|IL<|WX n ps I F z) lA=some (.lst<|IL<|WX n ps I F z):=XR;show nm ?_;dsimp only[List.set];let s2:=s1.trans u1
  change ID _ _ _ (upd H2 lA<|.lst<|IL<|WX n ps I F z);generalize upd H2 lA (.lst<|IL<|WX n ps I F z)=H3 at *;let lvl:(WX n ps I F z).length<=30:=Yn (Yr ..) (by have:=HL n ps F z F;have:=hF.1.len;lia)
  let hFl:F.length<=30:=by have:=hF.1.len;lia
  show⟨_,Z,lA,Z,⟨_,SqL.of kL⟩,Wc (K:=K) (a:=lA) (xs:=IL<|WX n ps I F z) (λj ys H4=>Same H3 H4/\j<=(WX n ps I F z).length/\Bears (WT H4) ys (((WX n ps I F z).take j).map λo=>xchT F o z)) ⟨Same.refl _,Yk _,⟨Z,λi l e=>by simp at e⟩⟩ (Zg<|by rw[Xy];lia)
   (λj ys H4 hj h=>by let⟨e,SF,ey⟩:=h;show⟨SqL.of<|e _ _ kL,by rw[ey.1,Yc,Yh];lia⟩) ?_ ?_⟩
  .rintro j v ys H4 hj ⟨s4,Vg,hY⟩ S Xw;let⟨o,rfl,ho⟩:=ZV hj;let VX:j<(WX n ps I F z).length:=(Xx.mp ho).1
   let Jl:=s2.trans s4;show nm ?_;exists _,Z,x,_,dx,_,.ref l,Z,Jl _ _ hx,T.cl_Part,T.n_Part_least,Z,_,Z,l,true,F,o,Z,SqT.of<|Jl _ _ hl,J,λr1 H5 s5 hr10 To=>?_;let wl:=LP F o
   exists _,Z,(by change 1<=sizeLine;decide),λp2 VO=>?_;let s6:=XZ (o:=.tup<|IL [z]) VO
   show Aw (l:=wo F o) (m:=[z]) (SqT.of<|s6 _ _ To) (SqT.of XR) (by rw[Yx];lia) λr3 H7 s7 Uy=>?_;show⟨r3,wo F o++[z],Z,Uy,by rw[Xt,Yx];lia,λns EY OZ p4 Jp=>?_⟩;let en:ns=xchT F o z:=RQ (EY.trans (UX F o z).symm) OZ (MQ F o z)
   subst en;let s8:=XZ (o:=.lst<|IL<|xchT F o z) Jp
   exists p4,_,Z,.inl ⟨SqL.of XR,λp5 vf=>?_⟩;let s9:=XZ (o:=.tup<|IL<|xchT F o z) vf
   let sA:=(s5.trans s6).trans (s7.trans<|s8.trans s9);show Xw _ _ ⟨s4.trans sA,VX,?_⟩;rw[YY,ho,YK];show(hY.imp λ_ _ h=>by let⟨q,e,hq⟩:=h;exists q,e,sA _ _ hq).snoc ⟨p5,Z,XR⟩
  .rintro ys H4 ⟨s4,_,hY⟩ d hd;rw[Xy,YE]at hY;let s5:=XZ (o:=.lst ys) hd
   show q d ys _ (s2.trans<|s4.trans s5) ((s2.trans s4).free hd) XR (hY.imp λ_ _ h=>by let⟨q,e,hq⟩:=h;exists q,e,s5 _ _ hq)
def ZR5{α:Type}{R:V->α->Prop}{xs ys:List V}{l m:List α}(h1:Bears R xs l)(h2:Bears R ys m):Bears R (xs++ys) (l++m):=by
 show⟨by rw[Xt,Xt,h1.1,h2.1],λi a e=>?_⟩;cases c:i<l.length
 .rw[Yp c]at e;let⟨v,hv,r⟩:=h1.2 i a e;exists v,by rw[Yp (by rwa[h1.1])];show hv,r
 .rw[Ym J]at e;let⟨v,hv,r⟩:=h2.2 _ a e;exists v,by rw[Ym (by rw[h1.1];lia),h1.1];show hv,r
def ZQ5{α:Type}{R:V->α->Prop}{xs:List V}{l:List α}(h:Bears R xs l):Bears R xs.reverse l.reverse:=by
 show⟨by rw[YN,YN,h.1],λi a e=>?_⟩;let hi:i<l.length:=by have:=(Xx.mp e).1;rwa[YN]at this
 rw[KH hi]at e;let⟨v,hv,r⟩:=h.2 _ a e;exists v,by rw[KH (by rwa[h.1]),h.1];show hv,r
inductive spZz(K:Ad)(CP C:Addr)(vs:List V)(H:Hp)(Q:VK)(_:XK):Prop
 |mk (x n ps I O F inc ld fu:_) (_:vs=[.ref x]) (_:PartAt K CP C H x n ps I O F inc ld fu) (_:Zy n ps) (_:Ze n ps F) (_:inc.length<=30) (_:(∀z∈inc,z∉F/\0<=z/\z<ps⁻¹)) (_:∀r xs H',Same H H'->H r=none->H' r=some (.lst xs)->Bears (WT H') xs (Av n ps I F inc)->Q ↑r H')
def gI(T:Txt K mg t):WR P w base Xd T.qZz 10 (spZz K t.A_Part t.A_Web):=by
 show T.qZz.okI ["part","row","ascending","into","trees"] sQ λXu A outer s H vs Q E hr h=>?_
 .let⟨x,n,ps,I,O,F,inc,ld,fu,rfl,Jh,hG,hF,UB,Sz,q⟩:=h;show⟨_,(XI (Zf 1<|TY<|XY (Zk K (pv 0) Z) XT)
   (XI (Zf 2<|Im Qc (Zz Th (Zh (Zp K) sU T.n_len Boot.«len»<|XY (Zk K (pv 0) Z) XT) Zc) Zc<|Zw _)
   (XI (TH Wz Z (Zv K<|Zk K (pv 0) Z) (Xc 3)
   (XI (Zf 4<|Zb (gJ T) hr T.qZy ZF<|XY (pv 0)<|XY (pv 3) XT)
   (XI (QR<|ON K PH uu uw qO (pv 1)<|XY (dO (Mq<|pv 2) (pv 4)<|oR K Z Z T.n_list Z T.n_reversed<|XY (pv 4) XT) XT)
   (XC<|Zf 2<|sj<|pv 2))))
   (XC<|Zm<|pv 1)))),?_⟩
  let⟨dx,w,a,b,l,i,hx,hW,hA,Qo,hl,hi⟩:=id Jh;exists _,Z,x,_,dx,_,.ref l,Z,hx,T.cl_Part,T.n_Part_least,Z,(by change 1<=sizeLine;decide),λr hr=>?_;let s1:=XZ (o:=.lst [.ref l]) hr
  show nm ?_;exists _,Z,x,_,dx,_,.ref i,Z,s1 _ _ hx,T.cl_Part,T.n_Part_incoming,Z,i,_,Z,.inl<|SqL.of<|s1 _ _ hi,_,_,Z,Z,(by change(0:Int)<2;decide),Z,?_;show nm ?_;let ea:decide (V.int ((IL inc).length%2:Int)=V.int 1)=(inc.length%2 == 1):=by rw[ZA,Xy,Qh,YL,QW];omega
  change Um _ _ _ [some ↑x,some<|.ref r,some<|.bl<|decide<|V.int ((IL inc).length%2:Int)=V.int 1,none,none] (upd H r<|.lst [.ref l]);rw[ea];generalize VH:(inc.length%2 == 1)=asc at *;let kr:(upd H r<|.lst [.ref l]) r=some (.lst [.ref l]):=XR
  generalize upd H r (.lst [.ref l])=H1 at *;let mR:=s1 _ _ hi
  let fresh:∀b o,H b=some o->b≠r:=λb o e=>Za e hr;show⟨_,rfl,x,_,dx,_,.ref i,rfl,s1 _ _ hx,T.cl_Part,T.n_Part_incoming,rfl,i,rfl,⟨_,SqL.of mR⟩,Iv (K:=K) (a:=i) (xs:=IL inc) (λj σ H2=>∃xs v3 v4,σ=[some ↑x,some<|.ref r,some<|.bl<|asc != (j%2 == 1),v3,v4]/\Same H H2/\H2 r=some (.lst xs)/\Bears (WT H2) xs (F::Vi n ps I F (inc.take j) asc)) ⟨[.ref l],none,none,by cases asc<;>rfl,s1,kr,⟨rfl,λj m e=>by
   match j,e with
   |0,e=>show⟨_,Z,l,Z,by rw[<-Ye e];show s1 _ _ hl⟩⟩⟩ (λj σ H2 _ h=>by let⟨_,_,_,_,e,_⟩:=h;show SqL.of<|e _ _ hi) ?_ ?_⟩
  rotate_left
  .rintro σ H2 ⟨xs,v3,v4,rfl,s2,UT,hX⟩;rw[Xy,YE]at hX;show JH ?_;exists _,Z,?_;rw[<-VH]at hX;show q r xs H2 s2 hr UT hX
  rintro j v σ H2 hj ⟨xs,v3,v4,rfl,s2,UT,hX⟩;let⟨z,rfl,hz⟩:=ZV hj;let⟨zF,z0,z1⟩:=Sz z (Xj hz);let OI:j<inc.length:=(Xx.mp hz).1
  show nm ?_;dsimp only[List.set];exists _,Z,_,Z,x,n,ps,I,O,F,inc,ld,fu,z,Z,⟨dx,w,a,b,l,i,s2 _ _ hx,hW.same s2,SqK.same (k:=true) s2 hA,SqK.same (k:=true) s2 Qo,s2 _ _ hl,s2 _ _ hi⟩,hG,hF,zF,z0,z1,λtA ys H3 s3 ht0 NN hY=>?_;show nm ?_;dsimp only[List.set];let Uy:=s3 _ _ UT
  let y7:F.length<=30:=by have:=hF.1.len;have:=hG.2.2.1;lia
  let xl:xs.length<=1000:=by
   rw[hX.1,YI];let h1:=Zf9 n ps I F (inc.take j) asc
   let h2:(inc.take j).length*F.length<=30*30:=QV (by rw[Yh];grind) y7;lia
  let yl:ys.length<=30:=by rw[hY.1,Yc];show Yn (Yr ..) (Yn (HL n ps F z F) y7)
  let gH:Vi n ps I F (inc.take<|j+1) asc=Vi n ps I F (inc.take j) asc++Vw n ps I F (asc != (j%2 == 1)) z:=by
   let e:inc.take (j+1)=inc.take j++[z]:=by rw[YY,hz];rfl
   let el:(inc.take j).length=j:=by rw[Yh];lia
   rw[e,vw,el]
  let flip:(!(asc != (j%2 == 1)))=(asc != ((j+1)%2 == 1)):=by rcases(by grind:j%2=0/\(j+1)%2=1\/j%2=1/\(j+1)%2=0) with ⟨a,b⟩|⟨a,b⟩<;>rw[a,b]<;>cases asc<;>rfl
  let fin:∀zs H4,Same H3 H4->zs.length=ys.length->Bears (WT H4) zs (Vw n ps I F (asc != (j%2 == 1)) z)->Same H (upd H4 r<|.lst<|xs++zs)/\Bears (WT<|upd H4 r<|.lst<|xs++zs) (xs++zs) (F::Vi n ps I F (inc.take<|j+1) asc):=λzs H4 s4 we hZ=>by
   let Jq:=s4 _ _ Uy;exists ZI hr<|(s2.trans s3).trans s4,?_;rw[gH];let hX4:Bears (WT H4) xs (F::Vi n ps I F (inc.take j) asc):=hX.imp λ_ _ h=>by let⟨c,e,hc⟩:=h;exists c,e,(s3.trans s4) _ _ hc
   show(ZR5 hX4 hZ).imp λ_ _ h=>by let⟨c,e,hc⟩:=h;exists c,e,by rwa[XJ (Vt hc Jq B)]
  exists _,Z,.inl ⟨Z,_,SqL.of Uy⟩,?_;cases hb:(asc != (j%2 == 1)) with
  |true=>
   rw[hb]at fin flip;exists _,Z,_,Z,?_;show SI ?_;exists _,Z,?_;let⟨f1,f2⟩:=fin ys H3 (Same.refl _) Z hY;exists r,tA,xs,ys,Z,Z,Uy,NN,OO J,?_;exists _,Z,_,Z,?_;exists xs++ys,_,_,by rw[<-flip];rfl,f1,XR,f2
  |false=>
   rw[hb]at fin flip;exists _,Z,_,Z,?_;show SJ ?_;exists _,Z,tA,ys,Z,SqL.of NN,λd hd=>?_;let s4:=XZ (o:=.lst ys.reverse) hd
   let⟨f1,f2⟩:=fin ys.reverse _ s4 (YN) (ZQ5<|hY.imp λ_ _ h=>by let⟨c,e,hc⟩:=h;exists c,e,s4 _ _ hc);exists r,d,xs,ys.reverse,Z,Z,s4 _ _ Uy,XR,OO (by rw[YN];lia),?_;exists _,Z,_,Z,?_;exists xs++ys.reverse,_,_,by rw[<-flip];rfl,f1,XR,f2
inductive spZA(K:Ad)(CP C Pt:Addr)(d:Nat)(vs:List V)(H:Hp)(Q:VK)(_:XK):Prop
 |mk (x n ps I O F inc ld fu R size start stop:_) (_:vs=[.ref x,.int size,.int start,.int stop]) (_:PartAt K CP C H x n ps I O F inc ld fu) (_:PartOk n ps I O ld F inc fu) (_:Zy n ps) (_:Wf H Pt) (_:RowR n ps d I O ld R) (_:size=R.length) (_:0<=start) (_:stop<=size) (_:stop-start<=100000) (_:∀r xs H',SameX Pt H H'->Wf H' Pt->H r=none->H' r=some (.lst xs)->Bears (WT H') xs ((R.drop start.toNat).take (stop-start).toNat)->Q ↑r H')
def gG(xs:List V){a b:Nat}(h2:b<=xs.length):Wx xs (some (a:Int)) (some (b:Int))=(xs.drop a).take (b-a):=by
 let e1:HT.UP xs.length 0 (some (a:Int))=min a xs.length:=rfl;let e2:HT.UP xs.length xs.length (some (b:Int))=min b xs.length:=rfl
 unfold Wx;rw[e1,e2,IZ h2];rcases Nat.le_total a xs.length with c|c
 .rw[IZ c]
 .rw[tY c,ue<|XM _,ue c,tD,tD]
def gF{α:Type}{R:V->α->Prop}{xs:List V}{l:List α}(h:Bears R xs l)(a b:Nat):Bears R ((xs.drop a).take b) ((l.drop a).take b):=by
 show⟨by rw[Yh,Yh,WE,WE,h.1],λi x e=>?_⟩;rw[Qk]at e;cases c:i<b
 .rw[if_pos c,SU]at e;let⟨v,hv,r⟩:=h.2 _ x e;exists v,by rw[Qk,if_pos c,SU];show hv,r
 .rw[if_neg c]at e;cases e
def gE{α:Type}(A sO:List α){a b:Nat}(h:b<=A.length):((A++sO).drop a).take (b-a)=(A.drop a).take (b-a):=by
 rcases Nat.le_total a A.length with c|c
 .rw[Py c,FV (by rw[WE];show Nat.sub_le_sub_right h a)]
 .rw[Nat.sub_eq_zero_of_le (Yn h c),tJ,tJ]
def ZS7{α:Type}(sO:List α){i k:Nat}(h:i+k<=sO.length):((sO.reverse).drop i).take k=((sO.drop (sO.length-i-k)).take k).reverse:=by rw[List.drop_reverse,List.take_reverse,Yh,IZ<|Nat.sub_le _ _,tH,Nat.sub_sub_self (Nat.le_sub_of_add_le' h)]
def gD{α:Type}(A sO:List α){a b c:Nat}(hc:(a<=A.length/\c=A.length)\/(A.length<=a/\c=a))(gC:c<=b)(hb:b<=A.length+sO.length):((A++sO.reverse).drop a).take (b-a)=A.drop a++((sO.drop (A.length+sO.length-b)).take (b-c)).reverse:=by
 rcases hc with ⟨h,rfl⟩|⟨h,rfl⟩
 .rw[Py h,List.take_append,YO (by rw[WE];show Nat.sub_le_sub_right gC a),WE,Nat.sub_sub_sub_cancel_right h]
  have:=ZS7 sO (i:=0) (k:=b-A.length) sS
  rw[Kz]at this;rw[this,show sO.length-0-(b-A.length)=A.length+sO.length-b by grind]
 .rw[xM,ue h,Pz,Pz,ZS7 sO sS,show sO.length-(c-A.length)-(b-c)=A.length+sO.length-b by grind]
def gB{x y:Int}:∃m,(if x<y then x else y)=m/\m<=x/\m<=y/\(x<y->m=x)/\(¬x<y->m=y):=by
 cases c:x<y
 .exists x,if_pos c,IS _,Mw c,λ_=>rfl,λh=>absurd c h
 .exists y,if_neg c,DV.mp c,IS _,λh=>absurd h c,λ_=>rfl
def ZX3{H H2:Hp}{Pt r:Addr}{pos:Pos}{qual:Str}(t:TabH H2 Pt pos qual)(s:SameX Pt H H2)(h:H2 r=none):H r=none:=by
 cases e:H r with
 |none=>rfl
 |some o=>
  let XN:r≠Pt:=λe'=>by let⟨p,h1,_⟩:=t;rw[<-e',h]at h1;cases h1
  rw[s _ _ XN e]at h;cases h
def gz{Pt:Addr}(T:Txt K mg t)(hB:RE K mg base t.dZt Pt)(d:Nat):WR P w base Xd T.qZA (11+d) (spZA K t.A_Part t.A_Web Pt d):=by
 let key:∀d k sp,WR P w base Xd T.qZA k sp->k<=10+d->(∀e,d=e+1->sp=spZA K t.A_Part t.A_Web Pt e)->WR P w base Xd T.qZA (11+d) (spZA K t.A_Part t.A_Web Pt d):=by
  intro d k sp ih hk Rr;rw[show 11+d=10+d+1 by lia];show T.qZA.ok ["part","size","start","stop","first","middle","trees","turned"] sQ (λvs H Q E h=>?_) (λXu A outer s H vs Q E hr h=>?_)
  .let⟨x,n,ps,I,O,F,inc,ld,fu,R,size,start,stop,rfl,_⟩:=h;rfl
  .let⟨x,n,ps,I,O,F,inc,ld,fu,R,size,start,stop,rfl,Jh,Uw,hG,hT,hR,hsz,Fl,Sm,Xg,q⟩:=h;show⟨_,(XI (VL (Zi Dx (pv 2) (pv 3)<|Zw _)
   (XC<|Zm<|TY XT)
   Zu)
   (XI (VL (Zi Dw (Zk K (pv 0) Z) xn<|Zw _)
   (XC<|Zm<|Ko (Kd K) (QO (gI T) (hr.mono D) Z T.qZz.mm T.qZz.fn.kp T.qZz.bi .nil ZF<|XY (pv 0) XT) (Tz<|pv 2)<|Tz<|pv 3)
   Zu)
   (XI (Zf 4<|QO (gP T hB) (hr.mono D) Z T.qZv.mm T.qZv.fn.kp T.qZv.bi .nil ZF<|XY (pv 0) XT)
   (XI (Zf 5<|QO (gM T) (hr.mono D) Z T.qZx.mm T.qZx.fn.kp T.qZx.bi .nil ZF<|XY (pv 4) XT)
   (XI (Zf 6<|QO ih (hr.mono D) Z T.qZA.mm T.qZA.fn.kp T.qZA.bi .nil ZF<|XY (pv 4)<|XY (pv 5)<|XY (pv 2)<|XY (Zh (rF Z) sU T.n_min Boot.«min»<|XY (pv 3)<|XY (pv 5) XT) XT)
   (XI (VL (Zi Pb (pv 3) (pv 5)<|Zw _)
   (XI (Zf 7<|QO ih (hr.mono D) Z T.qZA.mm T.qZA.fn.kp T.qZA.bi .nil ZF<|XY (QO (gN T hB) (hr.mono D) Z T.qZw.mm T.qZw.fn.kp T.qZw.bi .nil ZF<|XY (pv 0) XT)<|XY (Zz Mh (pv 1)<|pv 5)<|XY (Zz Mh (pv 1)<|pv 3)<|XY (Zz Mh (pv 1)<|Zh (dD Z) sU T.n_max Boot.«max»<|XY (pv 2)<|XY (pv 5) XT) XT)
   (XC<|QR<|ON K PH uu uw qO (pv 6)<|XY (oR K Z Z T.n_list Z T.n_reversed<|XY (pv 7) XT) XT))
   Zu)
   (XC<|Zm<|pv 6))))))),?_⟩
   let⟨dx,w0,a,b,l,i,hx,hW,hA,Qo,hl,hi⟩:=id Jh;exists _,Z,_,Z,_,_,Z,Z,_,Z,?_;show WO (λTu=>?_) (λXk=>?_)
   .exists Yk _,λr hr=>?_;let s1:=XZ (o:=.lst []) hr
    show q r [] _ (SameX.same s1) (hT.same s1) hr XR ?_;rw[show(stop-start).toNat=0 by lia,tJ];exists Z,λi l e=>by simp at e
   show JH ?_;let⟨a0,rfl⟩:=DS Fl;let⟨b0,rfl⟩:=DS (show 0<=stop by lia);let Vh:a0<=b0:=J
   let gy:b0<=R.length:=by rw[hsz]at Sm;show Int.ofNat_le.mp Sm
   let e0:((b0:Int)-(a0:Int)).toNat=b0-a0:=Int.toNat_sub _ _;rw[QP,e0]at q;subst hsz;exists _,Z,x,_,dx,_,WY fu,Z,hx,T.cl_Part,T.n_Part_further,Z,Z,_,Z,?_;cases hR with
   |und RA UB hiz=>
    let⟨rfl,rfl,rfl⟩:=Uw.uniq RA;show SI ?_;exists _,Z,x,n,ps,I,O,F,inc,ld,none,Z,Jh,hG,Uw.tr.1,UB,hiz,λr xs H1 s1 Ut To hX=>?_;let MU:=hX.1
    exists _,Z,_,Z,_,Z,_,Z,r,xs,Z,SqL.of To,λq1 EX=>?_;rw[gG xs (by rwa[MU])];let s2:=XZ (o:=.lst<|(xs.drop a0).take (b0-a0)) EX
    let Wq:=s1.trans s2;show q q1 _ _ (SameX.same Wq) (hT.same Wq) (s1.free EX) XR ?_;show(gF hX _ _).imp λ_ _ h=>by let⟨c,e,hc⟩:=h;exists c,e,s2 _ _ hc
   |div RA hIn XE Ud NH Gq y6 y0 y1 hpc gx gu=>
    rename_i e F' VG z y A' sO;let⟨rfl,rfl,rfl⟩:=Uw.uniq RA;let gr:=Rr e rfl
    subst gr;show SJ ?_;show JH ?_;let Ts:=Wo.mp hIn
    let yZ:I.Nodup:=Ts.1;let yY:∀v∈I,0<=v/\v<ps⁻¹:=λv hv=>XE v (Yg _ hv)
    let yX:∀v∈I,v∉O++[z]:=λv hv h=>(XA.mp h).elim (Ud v<|Yg _ hv) λh=>Ts.2.2 v hv z B (XG.mp h);let NU:O.length<=30:=by rw[Xt,Yx]at NH;lia
    rw[Xt,YN]at gy;let Ra:(((A'++sO.reverse).length:Nat):Int)=A'⁻¹+sO.length:=by rw[Xt,YN,Int.natCast_add]
    let⟨m,em,m1,m2,m3,m4⟩:=gB (x:=A'⁻¹) (y:=(b0:Int));exists _,Z,x,n,ps,I,O,F,inc,z,y,Z,Jh,hG,hT,yZ,yY,yX,NH,y6,y0,y1,λx1 F1 Ld vo H1 Hc JX sx1 KO=>?_;show nm ?_;exists _,Z,x1,n,ps,I,O++[z],F1,Ld,some y,vo,Z,JX,hG,yZ,yY,NH,yX,λc H2 hc s2=>?_;let ec:=hc.uniq hpc
    subst ec;show nm ?_;let yW:SameX Pt H H2:=sx1.trans (SameX.same s2)
    let Wj:=KO.same s2;exists _,Z,_,Z,_,Z,_,Z,_,Z,_,_,Z,?_;exists x1,n,ps,I,O++[z],F1,Ld,some y,vo,A',_,_,_,Z,JX.samex KO<|SameX.same s2,Hc,hG,Wj,gx,Z,Fl,(by rwa[em]),(by rw[em];show FC (Int.sub_le_sub_right m2 _) Xg),λr xs H3 Ez Rz Ut Uy hX=>?_;show nm ?_;let Gp:=yW.trans Ez
    let gq:H r=none:=ZX3 Wj yW Ut;rw[QP,em]at hX;exists _,Z,_,Z,_,_,Z,Z,_,Z,?_;show WO (λhgt=>?_) λhle=>?_;rotate_left
    .change(_:Prop);show JH ?_;exists _,Z,?_;let gn:¬A'⁻¹<(b0:Int):=hle
     rw[m4 gn,e0]at hX;rw[gE A' sO.reverse J]at q;show q r xs H3 Gp Rz gq Uy hX
    let yV:A'⁻¹<(b0:Int):=hgt;rw[m3 yV,Int.toNat_sub,YO (by rw[WE];show XM _)]at hX;clear m1 m2 m3 m4 em m;exists _,Z,x,n,ps,I,O,F,inc,z,y,Z,Jh.samex hT Gp,hG,Rz,hIn,XE,Ud,NU,Gq,y0,y1,λx2 F2 GN jt H4 Qr Sl Jk Gn=>?_;exists _,Z,_,Z,_,_,Z,Z,_,Z,_,Z,_,_,Z,Z,_,Z,_,Z,_,Z,_,_,Z,_,_,Z,Z,?_;obtain⟨c0,ec,zR,gC⟩:∃c0:Nat,(if A'⁻¹>(a0:Int) then A'⁻¹ else (a0:Int))=(c0:Int)/\((a0<=A'.length/\c0=A'.length)\/(A'.length<=a0/\c0=a0))/\c0<=b0:=by
     cases c:A'⁻¹>(a0:Int)
     .exists A'.length,if_pos c,.inl ⟨Qf<|Int.ofNat_lt.mp c,Z⟩,Qf<|Int.ofNat_lt.mp yV
     .exists a0,if_neg c,.inr ⟨Int.ofNat_le.mp<|DV.mp c,Z⟩,Vh
    rw[gD A' sO zR gC gy]at q;let hAc:A'.length<=c0:=by rcases zR with h|h<;>lia
    let hac:a0<=c0:=by rcases zR with h|h<;>lia
    clear zR;exists x2,n,ps,I++[z],O,F2,GN,some y,jt,sO,_,_,_,Z,Sl,Qr,hG,Gn,gu,(by rw[Ra];lia),(by rw[Ra];lia),(by rw[ec,Ra];lia),(by rw[ec,Ra];lia),λr2 ys H5 zm gm hr20 Gm hY=>?_;show nm ?_;let Jq:=Jk _ _ (Rz.ne Uy B) Uy
    let yU:=zm _ _ (Gn.ne Jq B) Jq;let gk:=(Gp.trans Jk).trans zm
    let e2:(A'⁻¹+sO.length-(b0:Int)).toNat=A'.length+sO.length-b0:=sS;let e3:(A'⁻¹+sO.length-(c0:Int)-(A'⁻¹+sO.length-(b0:Int))).toNat=b0-c0:=sS
    rw[ec,Ra,e2,e3]at hY;let MU:xs.length<=100000:=by rw[hX.1,WE];lia
    let QD:ys.length<=100000:=by rw[hY.1,Yh];lia
    exists _,Z,.inl ⟨Z,_,SqL.of yU⟩,_,Z,r2,ys,Z,SqL.of Gm,λdA hd=>?_;let s6:=XZ (o:=.lst ys.reverse) hd
    let EE:=s6 _ _ yU;let z1:1000000<=sizeLine:=sT
    exists r,dA,xs,ys.reverse,Z,Z,EE,XR,(by rw[YN];lia),?_;exists _,Z,?_;show q r (xs++ys.reverse) _ (λb o hb e=>?_) ((gm.same s6).put EE) gq XR ?_
    .rw[XJ (Za e gq)];show s6 _ _ (gk _ _ hb e)
    .let f1:Bears (WT<|upd H5 dA<|.lst ys.reverse) xs (A'.drop a0):=hX.imp λ_ _ h=>by
      let⟨c,e,hc⟩:=h;let hc4:=Jk _ _ (Rz.ne hc B) hc
      exists c,e,s6 _ _<|zm _ _ (Gn.ne hc4 B) hc4
     let f2:Bears (WT<|upd H5 dA<|.lst ys.reverse) ys.reverse ((sO.drop<|A'.length+sO.length-b0).take (b0-c0)).reverse:=ZQ5 (hY.imp λ_ _ h=>by let⟨c,e,hc⟩:=h;exists c,e,s6 _ _ hc)
     show(ZR5 f1 f2).imp λ_ _ h=>by let⟨c,e,hc⟩:=h;exists c,e,by rwa[XJ (Vt hc EE B)]
 induction d with
 |zero=>show key 0 0 _ ZQ9 J λe h=>(by cases h)
 |succ d ih=>show key (d+1) (11+d) _ ih J λe h=>(by cases h;rfl)
inductive spZB(vs:List V)(H:Hp)(Q:VK)(_:XK):Prop
 |mk (z:Int) (_:vs=[.int z]) (_:-(10^70)<z) (_:z<10^70) (_:(0<=z->Q .non H)) (_:(z<0->False))
def gj(T:Txt K mg t):WR P w base Xd T.qZB 1 spZB:=by
 show T.qZB.okI ["number"] sQ λXu A outer s H vs Q E hr h=>?_
 .let⟨z,rfl,z0,z1,q,qe⟩:=h;show⟨_,(XC (VL (Zi Kq (pv 0) Zc<|Zw _)
   (XC Kw)
   Zu)),?_⟩
  exists _,Z,_,_,Z,Z,_,Z,?_;show WO (λh=>?_) (λh=>?_)
  .show qe h
  .show q J
inductive spZC(K:Ad)(CP C Pt:Addr)(vs:List V)(H:Hp)(Q:VK)(_:XK):Prop
 |mk (w:Addr) (n:Int) (ps:Aa) (num most:Int) (R:Ab) (_:vs=[.ref w,.int num,.int most]) (_:WebAt C H w n ps) (_:Zy n ps) (_:Wf H Pt) (_:0<=num) (_:num<10^70) (_:0<=most) (_:most<=100000) (_:((∃U,Ze n ps U)->RowW n ps R)) (_:((∀U,¬Ze n ps U)->R=[])) (_:∀(r:Addr)(xs:List V)(H':Hp),SameX Pt H H'->Wf H' Pt->H r=none->H' r=some (.lst xs)->Bears (WT H') xs ((R.drop num.toNat).take most.toNat)->Q ↑r H')
def gh{Pt:Addr}(T:Txt K mg t)(hB:RE K mg base t.dZt Pt):WR P w base Xd T.qZC 44 (spZC K t.A_Part t.A_Web Pt):=by
 show T.qZC.okI ["web","number","most","size"] sQ λXu A outer s H vs Q E hr h=>?_
 .let⟨w,n,ps,num,most,R,rfl,hW,hG,hT,n0,n1,m0,m1,hRw,hRn,q⟩:=h;show⟨_,(XI (QR<|Zb (gj T) hr T.qZB ZF<|XY (pv 1) XT)
   (XI (Zf 3<|Zb (zB T) hr T.qZj ZF<|XY (pv 0) XT)
   (XI (VL (Zi Dx (pv 1) (pv 3)<|Zw _)
   (XC<|Zm<|TY XT)
   Zu)
   (XC<|Zm<|Zb (gz T hB 31) hr T.qZA ZF<|XY (Zb (gR T hB) hr T.qZu ZF<|XY (pv 0) XT)<|XY (pv 3)<|XY (pv 1)<|XY (Zh (rF Z) sU T.n_min Boot.«min»<|XY (Zz VD (pv 1)<|pv 2)<|XY (pv 3) XT) XT)))),?_⟩
  let big:(0:Int)<10^70:=sT;exists _,Z,num,Z,J,n1,λ_=>?_,λh=>absurd h J;exists _,Z,w,n,ps,Z,hW,hG,λc H1 hc s1=>?_;show nm ?_;dsimp only[List.set];let Ra:R.length=c:=by
   cases hex:∃U,Ze n ps U
   .let⟨_,_,_,_,_,_,_,_,h⟩:=hRw hex;show h.uniq hc
   .let PY:∀U,¬Ze n ps U:=λU hU=>hex ⟨U,hU⟩;rw[hRn PY,(ZV4 hc).mpr PY];rfl
  exists _,Z,_,Z,_,_,Z,Z,_,Z,?_;show WO (λTu=>?_) (λXk=>?_)
  .exists Yk _,λr hr=>?_;let s2:=XZ (o:=.lst []) hr
   let Wq:=s1.trans s2;show q r [] _ (SameX.same Wq) (hT.same Wq) (s1.free hr) XR ?_;rw[YQ J,tD];exists Z,λi l e=>by simp at e
  change(_:Prop);show JH ?_;obtain⟨U0,EB⟩:∃U,Ze n ps U:=Yz λno=>by
   have:=(ZV4 hc).mpr λU hU=>no ⟨U,hU⟩
   lia
  let⟨ld,F,inc,fu,Uw,hn,hs,NR,_⟩:=hRw ⟨U0,EB⟩;let KO:=hT.same s1
  exists _,Z,w,n,ps,Z,hW.same s1,hG,KO,⟨U0,EB⟩,λx F' VG EG EI H2 RA Ph Wd Jh yW Wj=>?_;let eF:F'=F:=Xv (Uw.least F' RA.tr) (RA.least F Uw.tr)
  subst eF;let el:=Ah Ph Wd hn hs
  subst el;exists _,rfl,_,rfl,_,rfl,_,rfl,_,_,rfl,rfl,_,rfl,_,_,rfl,?_;exists x,n,ps,[],[],F',VG,EG,EI,R,_,_,_,rfl,Jh,RA,hG,Wj,NR,J,n0,(by split<;>lia),(by split<;>lia),λr xs H3 Ez Rz Ut Uy hX=>?_
  let e1:((R.drop num.toNat).take ((if (c:Int)<num+most then (c:Int) else num+most)-num).toNat)=(R.drop num.toNat).take most.toNat:=by rw[List.take_eq_take_iff,WE];split<;>grind
  rw[e1]at hX;show q r xs H3 ((SameX.same s1).trans (yW.trans Ez)) Rz (ZX3 Wj ((SameX.same s1).trans yW) Ut) Uy hX
inductive spZD(K:Ad)(vs:List V)(H:Hp)(Q:VK)(_:XK):Prop
 |mk (a:Addr) (ns:Ac) (k:Int) (_:vs=[.ref a,.int k]) (_:SqL K H a (IL ns)) (_:0<=k) (_:∀r:Int,Q (.int r) H)
def KN(T:Txt K mg t):WR P w base Xd T.qZD 1 (spZD K):=by
 show T.qZD.okI ["script","k"] sQ λXu A outer s H vs Q E hr h=>?_
 .let⟨a,ns,k,rfl,hS,hk,q⟩:=h;show⟨_,(XI (VL (Zi Kq (pv 1) (Zh (Zp K) sU T.n_len Boot.«len»<|XY (pv 0) XT)<|Zw _)
   (XC<|Zm<|ZL (Zd K) (pv 0) (pv 1) λ_ _=>rfl)
   Zu)
   (XC<|Zm Zc)),?_⟩
  exists _,Z,_,Z,a,_,Z,.inl hS,_,_,Z,Z,_,Z,?_;show CO (λhc=>?_) (λ_=>?_)
  .let hc:=Yt hc;rw[Xy]at hc;obtain⟨z,hz⟩:∃z,ns[k.toNat]?=some z:=⟨_,Xq J⟩;exists _,Z,_,Z,a,_,k,.int z,Z,Z,hS,ZJ (n:=k.toNat) J (by rw[Ys,hz];rfl),q z
  .show q 0
inductive spZE(vs:List V)(H:Hp)(Q:VK)(_:XK):Prop
 |mk (c k:Int) (_:vs=[.int c,.int k]) (_:0<=k) (_:k<1000000000) (_:∀r:Int,0<=r->Q (.int r) H)
def Gk(T:Txt K mg t):WR P w base Xd T.qZE 1 spZE:=by
 show T.qZE.okI ["cell","k","big"] sQ λXu A outer s H vs Q E hr h=>?_
 .let⟨c,k,rfl,k0,k1,q⟩:=h;show⟨_,(XI (Zf 2<|Zz Ol (Zz VD (Zz Th (pv 0)<|Zz Io Zc Zc) Zc)<|Zz VD Zc<|Zz Ol (Zz Ol Zc<|pv 1)<|pv 1)
   (XI (Zf 2<|Zz VD (pv 2)<|Zz Ol Zc<|pv 1)
   (XC<|Zm<|Zz Th (Zz Ol (pv 2)<|pv 2)<|Zz VD (Zz Io Zc Zc) Zc))),?_⟩
  let a0:0<=c%10^(60:Int).toNat:=IY _ sT;let a1:c%10^(60:Int).toNat<10^60:=FL _ sT
  let b:=mW (M:=10^20) (N:=10^20) (a:=2*k) (b:=k) J J k0 J;let d:=mW (M:=10^70) (N:=10^70) (a:=c%10^(60:Int).toNat+3) (b:=16180339887498948482045868343656381177203+2*k*k) J J sS D
  exists _,Z,_,_,Z,Z,⟨sT,sT,sT⟩,_,_,Z,Z,(by change(0:Int)<10^60;decide),_,_,Z,Z,_,Z,_,_,Z,Z,⟨⟨sT,sT⟩,J,J⟩,_,Z,_,_,Z,Z,⟨⟨J,J⟩,D,D⟩,_,_,Z,Z,_,_,Z,Z,⟨⟨J,J⟩,D,D⟩,?_;exists _,Z,_,Z,_,_,Z,Z,⟨⟨sT,sT⟩,D,D⟩,_,_,Z,Z,?_;exists _,Z,_,Z,_,_,Z,Z,⟨⟨D,D⟩,D,D⟩,_,_,Z,Z,⟨sT,sT,sT⟩,_,_,Z,Z,_,_,Z,Z,(by change(0:Int)<10^60+33;decide),?_;show q _ (IY _ sT)
inductive spZF(K:Ad)(vs:List V)(H:Hp)(Q:VK)(_:XK):Prop
 |mk (a:Addr) (ns:Ac) (n most:Int) (_:vs=[.ref a,.int n,.int most]) (_:SqL K H a (IL ns)) (_:ns.length<=63) (_:1<=n) (_:n<=1000) (_:1<=most) (_:most<=30) (_:∀(l:Addr)(xs:List V)(ps:Aa)(H':Hp),Same H H'->H l=none->H' l=some (.lst xs)->PairsV H' xs ps->ps⁻¹<=most->(∀p∈ps,0<=p.1/\p.1<n/\0<=p.2/\p.2<n)->Q ↑l H')
def Zn5{ps:Aa}{n x y:Int}(h:∀p∈ps,0<=p.1/\p.1<n/\0<=p.2/\p.2<n)(h0:0<=x)(h1:x<n)(h2:0<=y)(h3:y<n):∀p∈ps++[(x,y)],0<=p.1/\p.1<n/\0<=p.2/\p.2<n:=λp hp=>by
 rcases XA.mp hp with e|e
 .show h p e
 .rw[XG.mp e];exists h0,h1,h2,h3
def gf{ps:Aa}{n x y:Int}{i:Nat}(h:∀p∈ps,0<=p.1/\p.1<n/\0<=p.2/\p.2<n)(h0:0<=x)(h1:x<n)(h2:0<=y)(h3:y<n):∀p∈ps.set i (x,y),0<=p.1/\p.1<n/\0<=p.2/\p.2<n:=λp hp=>by
 rcases eN hp with e|e
 .show h p e
 .rw[e];exists h0,h1,h2,h3
def PairsV.mutl{H:Hp}{d:Addr}{ys zs xs:List V}{ps:Aa}(hP:PairsV H xs ps)(hl:H d=some (.lst ys)):PairsV (upd H d (.lst zs)) xs ps:=⟨hP.1,λi p e=>by let⟨v,e1,t,e2,e3⟩:=hP.2 i p e;show⟨v,e1,t,e2,by rwa[XJ (Vt e3 hl (λz=>nomatch z))]⟩⟩
def gd{s rest:TS}{sP:Ends}{σ:L2.St}{H:Hp}(P:L2.St->Hp->Prop)(h1:∀σ' H',P σ' H'->rest sP σ' H')(h2:∀K:L2.St->Hp->Prop,(∀σ' H',P σ' H'->K σ' H')->s {sP with nx:=K} σ H):Um s rest sP σ H:=h2 _ h1
def gc(T:Txt K mg t):WR P w base Xd T.qZF 2 (spZF K):=by
 show T.qZF.okI ["script","count","most","told","rest","amount","k","digit","cell","m","at"] sQ λXu A outer s H vs Q E hr h=>?_
 .let⟨a,ns,n,most,rfl,hA,yT,n1,n2,m1,m2,q⟩:=h;show⟨_,(XI (Zf 3<|TY XT)
   (XI (VL (Zi Qc (Zz Th (Zb (KN T) hr T.qZD ZF<|XY (pv 0)<|XY Zc XT) Zc) Zc<|Zw _)
   (XI (Zf 4<|Zz Th (Zb (KN T) hr T.qZD ZF<|XY (pv 0)<|XY Zc XT)<|Zz Io Zc Zc)
   (XI (Zf 5<|Zz Th (pv 4)<|Zz VD (pv 2) Zc)
   (XI (Zf 4<|Zz Ip (pv 4)<|Zz VD (pv 2) Zc)
   (XI (TH Wz Z (rP Z T.n_range<|XY (pv 5) XT) (Xc 6)
   (XI (VL (Zi Qc (pv 4) Zc<|Zw _)
   (XC<|Zf 4<|Zb (Gk T) hr T.qZE ZF<|XY (Zb (KN T) hr T.qZD ZF<|XY (pv 0)<|XY Zc XT)<|XY (pv 6) XT)
   Zu)
   (XI (Zf 7<|Zz Th (pv 4)<|Zz VD (Zz Iq (pv 1)<|pv 1) Zc)
   (XI (QR<|ON K PH Er Es OX (pv 3)<|XY (TF<|XY (Zz Th (pv 7)<|pv 1)<|XY (Zz Th (Zz Ip (pv 7)<|pv 1)<|pv 1) XT) XT)
   (XC<|Zf 4<|Zz Ip (pv 4)<|Zz VD (Zz Iq (pv 1)<|pv 1) Zc)))))
   (XC<|Zm<|pv 3)))))
   Zu)
   (XI (TH Wz Z (LX K Z T.n_enumerate<|XY (Ko (Kd K) (pv 0) (Tz Zc) Ij) XT) (QJ (n:=2) K Z<|Zo (Xc 6)<|Zo (Xc 8) QQ)
   (XI (Zf 9<|Zb (Gk T) hr T.qZE ZF<|XY (pv 8)<|XY (Zz Th (pv 6) Zc) XT)
   (XC (VL (Zi Kq (pv 6) (pv 2)<|Zw _)
   (XC<|QR<|ON K PH Er Es OX (pv 3)<|XY (TF<|XY (Zz Th (Zz Ip (pv 9) Zc)<|pv 1)<|XY (Zz Th (Zz Ip (pv 9) Zc)<|pv 1) XT) XT)
   (XI (Zf 10<|Zz Th (pv 6)<|pv 2)
   (XI (Zf 9<|Zb (Gk T) hr T.qZE ZF<|XY (Zz VD (Zz VD (pv 9)<|ZL (ZK K) (ZL (Zd K) (pv 3) (pv 10) λ_ _=>rfl) Zc λ_ _=>rfl)<|Zz Iq Zc<|ZL (ZK K) (ZL (Zd K) (pv 3) (pv 10) λ_ _=>rfl) Zc λ_ _=>rfl)<|XY Zc XT)
   (XC<|rY (TF<|XY (Zz Th (Zz Ip (pv 9) Zc)<|pv 1)<|XY (Zz Th (Zz Ip (pv 9) Zc)<|pv 1) XT)<|rZ (pv 3) (pv 10) Dg)))))))
   (XC<|Zm<|pv 3)))),?_⟩
  let two:2<=sizeLine:=sT;let Sx:(0:Int)<n:=D
  let md:∀z:Int,0<=z%n/\z%n<n:=λz=>⟨IY _ D,FL _ Sx⟩;exists Yk _,λtd Ey=>?_;let s0:=XZ (o:=.lst []) Ey
  let Gj:(upd H td<|.lst []) td=some (.lst []):=XR;let EF:=s0.seq hA
  generalize upd H td (.lst [])=H0 at *;exists _,Z,a,ns,1,Z,EF,sT,λc1=>⟨_,_,Z,Z,(by change(0:Int)<2;decide),Z,_,Z,?_⟩;rw[ZA];show WO (λ_=>?_) (λ_=>?_)
  .exists _,Z,a,ns,2,Z,EF,sT,λc2=>⟨_,_,Z,Z,⟨sT,sT,sT⟩,_,_,Z,Z,(by change(0:Int)<10^60;decide),?_⟩;exists _,Z,_,Z,_,_,Z,Z,_,_,Z,Z,(by change(0:Int)<most+1;omega),?_;exists _,Z,_,Z,_,_,Z,Z,_,_,Z,Z,⟨by change(0:Int)<most+1;omega,by change most+1<1073741824;omega⟩,?_;let am0:0<=c2%10^(60:Int).toNat%(most+1):=IY _ D
   let am1:c2%10^(60:Int).toNat%(most+1)<most+1:=FL _ D;let nn:=mW (M:=1001) (N:=1001) (a:=n) (b:=n) D D D D
   exists _,Z,_,Z,D,D,ZY8 (lo:=0) (n:=(c2%10^(60:Int).toNat%(most+1)).toNat) (λi σ H2=>∃(xs:List V)(ps:Aa)(rs:Int)(v5 v6 v7:Option V),σ=[some ↑a,some<|.int n,some<|.int most,some<|.ref td,some<|.int rs,v5,v6,v7,none,none,none]/\Same H H2/\H2 td=some (.lst xs)/\PairsV H2 xs ps/\ps.length=i/\∀p∈ps,0<=p.1/\p.1<n/\0<=p.2/\p.2<n) ⟨[],[],_,_,_,_,Z,s0,Gj,PairsV.nil,Z,λp hp=>(by cases hp)⟩ ?_ ?_
   .rintro i σ H2 hi ⟨xs,ps,rs,v5,v6,v7,rfl,s2,h2,hP,Qq,hg⟩;show nm ?_;dsimp only;show gd (λσ H3=>∃Jg:Int,H3=H2/\σ=[some ↑a,some<|.int n,some<|.int most,some<|.ref td,some<|.int Jg,v5,some<|.int<|0+(i:Int),v7,none,none,none]) ?_ ?_
    .rintro σ H3 ⟨Jg,rfl,rfl⟩;let dp:(0:Int)<n*n+1:=D
     exists _,Z,_,Z,_,Z,_,_,Z,Z,.inl ⟨by change -(2^64)<n;omega,by change n<2^64;omega⟩,_,_,Z,Z,_,_,Z,Z,dp,?_;let⟨x0,x1⟩:=md (Jg%(n*n+1));let⟨y0,y1⟩:=md (Jg%(n*n+1)/n);exists _,Z,.inl ⟨Z,_,SqL.of h2⟩,_,Z,_,Z,_,_,Z,Z,Sx,_,Z,_,Z,_,_,Z,Z,⟨Sx,by change n<1073741824;omega⟩,_,Z,_,_,Z,Z,Sx,two,λtp PL=>?_;let u1:=XZ (o:=.tup [.int (Jg%(n*n+1)%n),.int (Jg%(n*n+1)/n%n)]) PL
     let h3:=u1 _ _ h2;exists td,xs,_,Z,Z,h3,Zg (by rw[hP.1];omega),?_;exists _,Z,_,Z,_,Z,_,_,Z,Z,.inl ⟨by change -(2^64)<n;omega,by change n<2^64;omega⟩,_,_,Z,Z,_,_,Z,Z,⟨dp,by change n*n+1<1073741824;omega⟩,?_;show⟨_,ps++[(Jg%(n*n+1)%n,Jg%(n*n+1)/n%n)],_,_,_,_,Z,ZI Ey<|s2.trans u1,XR,?_,by rw[Xt,Yx,Qq],Zn5 hg x0 x1 y0 y1⟩;show((hP.same u1).snoc ⟨tp,Z,XR⟩).mutl h3
    .intro Kn hK;exists _,Z,Z,_,Z,?_;rw[ZA];show WO (λ_=>?_) λ_=>hK _ _ ⟨rs,Z,Z⟩;exists _,Z,a,ns,2,Z,s2.seq hA,sT,λc3=>⟨_,Z,c3,_,Z,D,D,λr3 _=>hK _ _ ⟨r3,Z,Z⟩⟩
   .rintro σ H2 ⟨xs,ps,rs,v5,v6,v7,rfl,s2,h2,hP,Qq,hg⟩;exists _,Z,q td xs ps H2 s2 Ey h2 hP D hg
  .exists _,Z,_,Z,a,_,Z,EF,λp1 Uv=>?_;rw[JY];let cl:(LU ns (some 2) none).length<=63:=by
    have:=xa (IL ns) (some 2) none
    rw[JY,Xy,Xy]at this;omega
   generalize LU ns (some 2) none=cs at *;let u1:=XZ (o:=.lst<|IL cs) Uv
   let Uu:p1≠td:=λe=>by rw[e,Gj]at Uv;cases Uv
   exists p1,Z,⟨_,SqL.of XR⟩,CB (K:=K) (a:=p1) (xs:=IL cs) (λi σ H2=>∃(xs:List V)(ps:Aa)(v6 v8 v9 v10:Option V),σ=[some ↑a,some<|.int n,some<|.int most,some<|.ref td,none,none,v6,none,v8,v9,v10]/\Same H H2/\H2 p1=some (.lst<|IL cs)/\H2 td=some (.lst xs)/\PairsV H2 xs ps/\ps⁻¹=(if (i:Int)<most then (i:Int) else most)/\∀p∈ps,0<=p.1/\p.1<n/\0<=p.2/\p.2<n) ⟨[],[],none,none,none,none,Z,s0.trans u1,XR,u1 _ _ Gj,PairsV.nil,by rw[if_pos D];rfl,λp hp=>(by cases hp)⟩ (λi σ H2 _ zz=>by let⟨_,_,_,_,_,_,_,_,e,_⟩:=zz;show SqL.of e) ?_ ?_
   .rintro i v σ H2 pt gb hi ⟨xs,ps,v6,v8,v9,v10,rfl,s2,VO,h2,hP,Qq,hg⟩;let⟨c,rfl,hc⟩:=ZV hi;let hi63:=(Xx.mp hc).1
    let u2:=XZ (o:=.tup [.int i,.int c]) gb;exists pt,_,Z,SqT.of XR,Z,_,_,Z,_,_,Z,Z,?_;let MS:=u2 _ _ VO
    let h3:=u2 _ _ h2;let yS:=hP.same u2
    let s3:=s2.trans u2;generalize upd H2 pt (.tup [.int i,.int c])=H3 at *;exists _,Z,_,Z,_,_,Z,Z,(by change(0:Int)<37;decide),c,_,Z,IY _ sT,Int.lt_trans (FL _ sT) sT,λm m0=>?_;exists _,Z,_,Z,_,_,Z,Z,_,Z,?_;show WO (λhk=>?_) (λhk=>?_)
    .rw[if_pos hk]at Qq;let⟨x0,x1⟩:=md (m/8);let⟨y0,y1⟩:=md (m/800);exists _,Z,.inl ⟨Z,_,SqL.of h3⟩,_,Z,_,_,Z,Z,⟨sT,sT⟩,_,Z,_,_,Z,Z,Sx,_,Z,_,_,Z,Z,⟨sT,sT⟩,_,Z,_,_,Z,Z,Sx,two,λtp PL=>?_;let u3:=XZ (o:=.tup [.int (m/8%n),.int (m/800%n)]) PL
     let h4:=u3 _ _ h3;exists td,xs,_,rfl,rfl,h4,Zg (by rw[hP.1];omega),?_;show⟨_,ps++[(m/8%n,m/800%n)],_,_,_,_,rfl,ZI Ey<|s3.trans u3,by rw[XJ Uu];show u3 _ _ MS,XR,((yS.same u3).snoc ⟨tp,rfl,XR⟩).mutl h4,?_,Zn5 hg x0 x1 y0 y1⟩;rw[Xt,Yx];split<;>omega
    .rw[if_neg hk]at Qq;let at0:0<=(i:Int)%most:=IY _ D
     let at1:(i:Int)%most<most:=FL _ D;obtain⟨p,hp⟩:∃p,ps[((i:Int)%most).toNat]?=some p:=⟨_,Xq D⟩;let⟨v,hv,tt,rfl,VW⟩:=yS.2 _ p hp;let hix:We xs ((i:Int)%most)=some ↑tt:=ZJ (n:=((i:Int)%most).toNat) D hv
     exists _,Z,_,Z,_,_,Z,Z,(by change(0:Int)<most;omega),?_;exists _,Z,_,Z,_,Z,td,_,(i:Int)%most,.ref tt,Z,Z,SqL.of h3,hix,tt,_,0,.int p.1,Z,Z,SqT.of VW,Z,_,_,Z,Z,_,Z,_,Z,td,_,(i:Int)%most,.ref tt,Z,Z,SqL.of h3,hix,tt,_,1,.int p.2,Z,Z,SqT.of VW,Z,_,_,Z,Z,.inl ⟨sT,sT⟩,_,_,Z,Z,_,5,Z,sT,sT,λm' m0'=>?_;let⟨x0,x1⟩:=md (m'/8);let⟨y0,y1⟩:=md (m'/800);exists _,Z,_,_,Z,Z,⟨sT,sT⟩,_,Z,_,_,Z,Z,Sx,_,Z,_,_,Z,Z,⟨sT,sT⟩,_,Z,_,_,Z,Z,Sx,two,λtp PL=>?_;let u3:=XZ (o:=.tup [.int (m'/8%n),.int (m'/800%n)]) PL
     let h4:=u3 _ _ h3;exists _,Z,_,Z,td,xs,_,((i:Int)%most).toNat,Z,Z,h4,?_,?_
     .have:=hP.1
      unfold Md;rw[if_pos D,if_pos D]
     show⟨_,ps.set ((i:Int)%most).toNat (m'/8%n,m'/800%n),_,_,_,_,rfl,ZI Ey<|s3.trans u3,by rw[XJ Uu];show u3 _ _ MS,XR,((yS.same u3).set _ ⟨tp,rfl,XR⟩).mutl h4,?_,gf hg x0 x1 y0 y1⟩;rw[MC];split<;>omega
   .rintro σ H2 ⟨xs,ps,v6,v8,v9,v10,rfl,s2,VO,h2,hP,Qq,hg⟩;exists _,rfl,q td xs ps H2 s2 Ey h2 hP ?_ hg;split at Qq<;>omega
inductive spZG(K:Ad)(vs:List V)(H:Hp)(Q:VK)(_:XK):Prop
 |mk (n:Int) (a:Addr) (xs:List V) (ps:Aa) (_:vs=[.int n,.ref a]) (_:SqL K H a xs) (_:PairsV H xs ps) (_:Zy n ps) (_:ps.length<=10) (_:∀(r:Addr)(ys:List V)(L:Ab)(H':Hp),Same H H'->H' r=some (.lst ys)->TupsV H' ys L->L.length<=1024->(∀l,l∈L↔Ze n ps l)->L.Pairwise Vj->Q ↑r H')
def f9{ps:Aa}{z:Nat}{p:Int×Int}(h:ps[z]?=some p):Zq ps (z:Int)=(p.1.toNat,p.2.toNat):=by unfold Zq;rw[QP,ZY h]
def yR:FnScope ["count","ties","told","tie","pair","more","row","marks","low","high"] ["count","ties"] (Xe (top 59)):=Rc sQ
def f7(T:Txt K mg t):WR P w base Xd T.qZG 1 (spZG K):=by
 show T.qZG.okI ["count","ties","told","tie","pair","more","row","marks","low","high"] sQ λXu A outer s H vs Q E hr h=>?_
 .let⟨n,a,xs,ps,rfl,hA,hP,hG,p10,q⟩:=h;show⟨_,(XI (Zf 2<|TY<|XY (TF<|XY (TF XT)<|XY (Zl (pT Z) sU T.n_list Boot.«list»<|XY (Zl pW sU T.n_range Boot.«range»<|XY (pv 0) XT) XT) XT) XT)
   (XI (TH Wz Z (LX K Z T.n_enumerate<|XY (pv 1) XT) (QJ (n:=2) K Z<|Zo (Xc 3)<|Zo (Xc 4) QQ)
   (XI (Zf 5<|TY XT)
   (XI (TH Wz Z (Zv K<|pv 2) (QJ (n:=2) K Z<|Zo (Xc 6)<|Zo (Xc 7) QQ)
   (XI (Ti (i:=8) yR.nd Z (Or.inr Z)<|ZL (Zd K) (pv 7) (ZL (ZK K) (pv 4) Zc λ_ _=>rfl) λ_ _=>rfl)
   (XI (Ti (i:=9) yR.nd Z (Or.inr Z)<|ZL (Zd K) (pv 7) (ZL (ZK K) (pv 4) Zc λ_ _=>rfl) λ_ _=>rfl)
   (XC (VL (Zi Qb (pv 8) (pv 9)<|Zw _)
   (XC<|QR<|ON K PH Er Es OX (pv 5)<|XY (TF<|XY (Zz (nt K) (pv 6)<|TF<|XY (pv 3) XT)<|XY (Ww Z (sc0:=Xe<|top 59) (N0:=["count","ties","told","tie","pair","more","row","marks","low","high"]) (N':=["mark","low","high"]) (o:=1) (fr:=[8,9]) ⟨Z,sQ,sQ,sQ,Z,sQ⟩ (Zv K<|pv 7) (Zn sT) (λ_ _ _ _=>(Xc 0)) (λ_ _ _ _=>RT) λ_ _ _ _=>(ZL (Zd K) (TY<|XY (pv 0)<|XY (pv 1) XT) (Zl dC sU T.n_int Boot.«int»<|XY (Im Qc (pv 0) (pv 2)<|Zw _) XT) λ_ _=>rfl)) XT) XT)
   Zu)))))
   (XC<|Zf 2<|Zz SM (pv 2)<|pv 5))))
   (XC<|Zm<|Zh (Zc4 K) sU T.n_sorted Boot.«sorted»<|XY (Ww Z (sc0:=Xe<|top 59) (N0:=["count","ties","told","tie","pair","more","row","marks","low","high"]) (N':=["row","marks","count"]) (o:=2) (fr:=[0]) ⟨Z,sQ,sQ,sQ,Z,sQ⟩ (Zv K<|pv 2) (Fs<|Vd sT<|Vd sT Ft) (λ_ _ _ _=>(QJ (n:=2) K Z<|Zo (Xc 0)<|Zo (Xc 1) QQ)) (λ_ _ _ _=>(ZX<|Zi Qc (Zh (Zp K) sU T.n_len Boot.«len»<|XY (pv 0) XT) (Zz Mh (pv 2) Zc)<|Zw _)) λ_ _ _ _=>(pv 0)) XT))),?_⟩
  let⟨g1,g2,g3,g4⟩:=id hG;let QC:=hP.1
  let one:1<=sizeLine:=sT;let two:2<=sizeLine:=sT
  exists Yk _,λt0 ht0=>?_;let s0:=XZ (o:=.tup []) ht0
  exists _,Z,n,Z,λrg hrg=>⟨rg,0,n,Z,XR,⟨sT,sT,J,J⟩,J,λh0 hh0=>?_⟩;let s1:=Zr (o:=.lst<|(Vq 0 n).map V.int) (XZ (o:=.rng 0 n) hrg) hh0
  exists two,λpr hpr=>⟨one,λd0 hd0=>?_⟩;let s2:=XZ (o:=.tup [.ref t0,.ref h0]) hpr
  let s3:=XZ (o:=.lst [.ref pr]) hd0;let e0:(Vq 0 n).map V.int=IL (Xb n.toNat<|XU ps []):=by rw[pd];rfl
  let f1:=(s2.trans s3) _ _ (XR (a:=h0) (o:=.lst<|(Vq 0 n).map V.int));let bh0:∀(R:V->Ac->Prop),Bears R [] []:=λR=>⟨Z,λi l e=>by simp at e⟩
  let hB0:Bears (PhL n.toNat ps<|upd (upd (upd (upd (upd H t0<|.tup []) rg<|.rng 0 n) h0<|.lst<|(Vq 0 n).map V.int) pr<|.tup [.ref t0,.ref h0]) d0<|.lst [.ref pr]) [.ref pr] (UC n.toNat ps 0):=
   (bh0 _).snoc ⟨pr,t0,h0,Z,s3 _ _ XR,(s1.trans<|s2.trans s3) _ _ XR,by rwa[<-e0]⟩
  let sA:=(s0.trans<|s1.trans<|s2.trans s3).seq hA;show⟨_,Z,a,Z,⟨_,sA⟩,CB (K:=K) (a:=a) (xs:=xs) (λi σ H2=>∃(d:Addr)(ys:List V)(v3 v4 v5 v6 v7 v8 v9:Option V),σ=[some (.int n),some<|.ref a,some<|.ref d,v3,v4,v5,v6,v7,v8,v9]/\Same H H2/\H2 d=some (.lst ys)/\Bears (PhL n.toNat ps H2) ys (UC n.toNat ps i))
   ⟨d0,[.ref pr],none,none,none,none,none,none,none,Z,s0.trans<|s1.trans<|s2.trans s3,XR,hB0⟩ (λi σ H2 _ zz=>by let⟨_,_,_,_,_,_,_,_,_,_,e,_⟩:=zz;show e.seq hA) ?_ ?_⟩
  .rintro i v σ H2 pt Uu hi ⟨d,ys,v3,v4,v5,v6,v7,v8,v9,rfl,s2,hd,hB⟩;let⟨p,hp,tz,rfl,htz⟩:=hP.at hi;let hi10:i<10:=by have:=(Xx.mp hp).1;lia
   let⟨b1,b2,b3,b4⟩:=g4 p (Xj hp);let w1:=XZ (o:=.tup [.int i,.ref tz]) Uu
   exists pt,_,Z,SqT.of XR,Z,_,_,Z,_,_,Z,Z,?_;let SY:=w1 _ _ hd
   let JW:=hB.imp λ_ _ h=>h.same w1;let s3:=s2.trans w1
   generalize upd H2 pt (.tup [.int i,.ref tz])=H3 at *;exists Yk _,λe he=>?_;let w2:=XZ (o:=.lst []) he
   let yl:=Bp n.toNat ps (i:=i) J;let QD:=JW.1
   show⟨_,Z,d,Z,⟨_,SqL.of<|w2 _ _ SY⟩,Iv (K:=K) (a:=d) (xs:=ys) (λj σ H4=>∃(zs:List V)(v6 v7 v8 v9:Option V),σ=[some (.int n),some<|.ref a,some<|.ref d,some<|.int i,some<|.ref tz,some<|.ref e,v6,v7,v8,v9]/\Same H3 H4/\H4 e=some (.lst zs)/\Bears (PhM n.toNat ps e H4) zs ((((UC n.toNat ps i).take j).map (·++[(i:Int)])).filter (Fr n.toNat ps)))
    ⟨[],_,_,_,_,Z,w2,XR,bh0 _⟩ (λj σ H4 _ zz=>by let⟨_,_,_,_,_,_,e,_⟩:=zz;show SqL.of<|e _ _ SY) ?_ ?_⟩
   .rintro j v σ H4 hj ⟨zs,v6,v7,v8,v9,rfl,s4,Ex,hZ⟩;let⟨l,hl,tt,pA,yQ,rfl,VW,ED,hhA⟩:=JW.at hj;let hFr:=(Wk.mp<|Xj hl).2
    let Ls:=(Wk.mp<|Xj hl).1.len;exists tt,_,Z,SqT.of<|s4 _ _ VW,Z,_,_,Z,_,_,Z,Z,?_;let fZ:=s4 _ _ ED
    let Gi:=s4 _ _ hhA;let yP:=(s3.trans s4) _ _ htz
    let lL:(Xb n.toNat<|XU ps l).length=n.toNat:=ZE _ _;let eo:=f9 hp
    let lsn:Xb n.toNat (XU ps<|l++[(i:Int)])=lm (Xb n.toNat<|XU ps l) p.1.toNat p.2.toNat:=by rw[JU,eo,Na]
    let frz:=Rk (n:=n.toNat) (ps:=ps) (l:=l) (z:=(i:Int));rw[eo]at frz;let lst:(((UC n.toNat ps i).take (j+1)).map (·++[(i:Int)])).filter (Fr n.toNat ps)=(((UC n.toNat ps i).take j).map (·++[(i:Int)])).filter (Fr n.toNat ps)++(if Fr n.toNat ps (l++[(i:Int)])=true then [l++[(i:Int)]] else []):=by
     rw[YY,hl,YK,Rx];show YV _ ?_;change List.filter _ [l++[(i:Int)]]=_
     rw[YW];rfl
    let zl:zs.length<=1024:=by rw[hZ.1];show Yn (Yr ..) ?_;rw[Yc,Yh];lia
    generalize Xb n.toNat (XU ps l)=M at *;let iA:We (IL M) p.1=some (.int<|mk M p.1.toNat):=ZJ (n:=p.1.toNat) J (UL<|VP J)
    let iB:We (IL M) p.2=some (.int<|mk M p.2.toNat):=ZJ (n:=p.2.toNat) J (UL<|VP J);exists _,Z,_,Z,tz,_,0,.int p.1,Z,Z,SqT.of yP,Z,yQ,_,p.1,_,Z,Z,SqL.of Gi,iA,?_;exists _,Z,_,Z,tz,_,1,.int p.2,Z,Z,SqT.of yP,Z,yQ,_,p.2,_,Z,Z,SqL.of Gi,iB,?_;exists _,Z,_,Z,Z,_,Z,?_;rw[ZA];show WL (λheq=>?_) (λXN=>?_)
    .exists zs,_,_,_,_,Z,s4,Ex,?_;rwa[lst,if_neg λh=>(frz.mp h).2 heq,Yu]
    let hFz:Fr n.toNat ps (l++[(i:Int)])=true:=frz.mpr ⟨hFr,XN⟩;exists _,Z,.inl ⟨Z,_,SqL.of Ex⟩,_,Z,_,Z,one,λp2 VO=>?_;let x1:=XZ (o:=.tup [.int i]) VO
    exists pA,p2,_,_,Z,Z,x1 _ _ fZ,XR,OO (by rw[Xy];change _+1<=_;lia),λr3 H5 x2 Uy=>?_;let fX:=x1.trans x2
    let yN:=fX _ _ Gi;show⟨_,Z,yQ,Z,⟨_,SqL.of yN⟩,Wc (K:=K) (a:=yQ) (xs:=IL M) (λw us H6=>Same H5 H6/\w<=M.length/\us=IL ((M.take w).map λk=>if k=mk M p.2.toNat then mk M p.1.toNat else k)) ⟨Same.refl _,Yk _,Z⟩ (Zg<|by rw[Xy];lia)
     (λw us H6 hw zz=>by let⟨e,zN,ey⟩:=zz;show⟨SqL.of<|e _ _ yN,by rw[ey,Xy,Yc,Yh];lia⟩) ?_ ?_⟩
    .rintro w v us H6 hw ⟨x3,Mb,rfl⟩ S Xw;let⟨y,rfl,hy⟩:=ZV hw;let NC:=(Xx.mp hy).1
     show nm ?_;exists _,Z,_,Z,two,λlp Qq=>?_;let x4:=XZ (o:=.lst [.int y,.int (mk M p.1.toNat)]) Qq
     exists _,Z,_,Z,Z,.inr ⟨_,Z,?_⟩;rw[ZA];let app:∀v:Int,v=(if y=mk M p.2.toNat then mk M p.1.toNat else y)->IL ((M.take w).map λk=>if k=mk M p.2.toNat then mk M p.1.toNat else k)++[.int v]=IL ((M.take<|w+1).map λk=>if k=mk M p.2.toNat then mk M p.1.toNat else k):=λv hv=>by rw[YY,hy,YK,hv];show(ZU _ _).symm
     cases hc:y=mk M p.2.toNat
     .rw[Yv hc];exists lp,_,1,.int<|mk M p.1.toNat,Z,Z,SqL.of XR,Z,Xw _ _ ⟨x3.trans x4,NC,app _<|by rw[if_pos hc]⟩
     .rw[Sw hc];exists lp,_,0,.int y,Z,Z,SqL.of XR,Z,Xw _ _ ⟨x3.trans x4,NC,app _<|by rw[if_neg hc]⟩
    rintro us H6 ⟨x3,_,rfl⟩ la NO;rw[Xy,YE];let elm:(M.map λk=>if k=mk M p.2.toNat then mk M p.1.toNat else k)=Xb n.toNat (XU ps<|l++[(i:Int)]):=by rw[lsn];unfold lm;rw[if_pos XN]
    let x5:=XZ (o:=.lst<|IL<|M.map λk=>if k=mk M p.2.toNat then mk M p.1.toNat else k) NO;exists two,λtn htn=>?_;let x6:=XZ (o:=.tup [.ref r3,.ref la]) htn
    let fW:=fX.trans (x3.trans<|x5.trans x6);let he7:=fW _ _ Ex
    let hle:la≠e:=λz=>by rw[z,(fX.trans x3) _ _ Ex]at NO;cases NO
    exists e,zs,_,Z,Z,he7,Zg J,?_;exists zs++[.ref tn],_,_,_,_,Z,ZI he<|s4.trans fW,XR,?_;rw[lst,if_pos hFz];let hn:PhM n.toNat ps e (upd (upd H6 la<|.lst<|IL<|M.map λk=>if k=mk M p.2.toNat then mk M p.1.toNat else k) tn<|.tup [.ref r3,.ref la]) ↑tn (l++[(i:Int)]):=⟨tn,r3,la,Z,XR,by rw[(x3.trans<|x5.trans x6) _ _ Uy,ZU],by rw[<-elm];show x6 _ _ XR,hle⟩
    show((hZ.imp λ_ _ h=>h.same fW).snoc hn).imp λ_ _ h=>h.mut he7
   .rintro σ H4 ⟨zs,v6,v7,v8,v9,rfl,s4,Ex,hZ⟩;rw[JW.1,YE]at hZ;let zl:zs.length<=1024:=by rw[hZ.1];show Yn (Yr ..) ?_;rw[Yc];lia
    exists _,Z,_,Z,d,e,_,_,Z,Z,s4 _ _ SY,Ex,OO J,λdn hdn=>?_;let x1:=XZ (o:=.lst<|ys++zs) hdn
    exists dn,ys++zs,_,_,_,_,_,_,_,Z,s3.trans<|s4.trans x1,XR,?_;show((JW.imp λ_ _ h=>h.same s4).app (hZ.imp λ_ _ h=>h.low)).imp λ_ _ h=>h.same x1
  .rintro σ H2 ⟨d,ys,v3,v4,v5,v6,v7,v8,v9,rfl,s2,hd,hB⟩;rw[QC]at hB;let yl:=Bp n.toNat ps p10
   let QD:=hB.1;show⟨_,Z,d,Z,⟨_,SqL.of hd⟩,Wc (K:=K) (a:=d) (xs:=ys) (λi ws H3=>H3=H2/\i<=ys.length/\TupsV H2 ws (((UC n.toNat ps ps.length).take i).filter λl=>decide<|l⁻¹=n-1)) ⟨Z,Yk _,TupsV.nil⟩ (Zg J)
    (λi ws H3 hi zz=>by let⟨e,Vf,ey⟩:=zz;show⟨e▸SqL.of hd,by rw[ey.1];show Yn (Yr ..)<|by rw[Yh];lia⟩) ?_ ?_⟩
   .rintro i v ws H3 hi ⟨rfl,UB,hW⟩ S Xw;let⟨l,hl,tt,pA,yQ,rfl,VW,ED,hhA⟩:=hB.at hi;let Xo:i<ys.length:=(Xx.mp hi).1
    exists tt,_,Z,SqT.of VW,Z,_,_,Z,_,_,Z,Z,?_;let tk:((UC n.toNat ps ps.length).take (i+1)).filter (λl=>decide<|l⁻¹=n-1)=((UC n.toNat ps ps.length).take i).filter (λl=>decide<|l⁻¹=n-1)++(if l⁻¹=n-1 then [l] else []):=by
     rw[YY,hl,Rx];show YV _ ?_;change List.filter _ [l]=_
     rw[YW];cases h:l⁻¹=n-1
     .rw[if_pos h,if_pos (Yv h)];rfl
     .rw[if_neg h,if_neg (by simp;show h)];rfl
    exists _,Z,pA,_,Z,.inr<|SqT.of ED,_,Z,_,_,Z,Z,Z,_,Z,?_;rw[Xy,ZA];show WO (λh=>?_) (λh=>?_)
    .exists _,Z,Xw _ _ ⟨Z,Xo,?_⟩;rw[tk,if_pos h];show hW.snoc ⟨pA,Z,ED⟩
    .show Xw _ _ ⟨Z,Xo,?_⟩;rwa[tk,if_neg h,Yu]
   .rintro ws H3 ⟨rfl,_,hW⟩ p hp;rw[QD,YE]at hW;let hm:∀l,l∈(UC n.toNat ps ps.length).filter (λl=>decide<|l⁻¹=n-1)↔Ze n ps l:=λl=>by rw[Ya,YL];show mX hG
    let Ts:((UC n.toNat ps ps.length).filter λl=>decide<|l⁻¹=n-1).Nodup:=Mt IK (mY n.toNat ps ps.length);let Ls:((UC n.toNat ps ps.length).filter λl=>decide<|l⁻¹=n-1).length<=1024:=Yn (Yr ..) yl
    generalize (UC n.toNat ps ps.length).filter (λl=>decide<|l⁻¹=n-1)=W at *;let s4:=XZ (o:=.lst ws) hp
    let gY:=hW.same s4;let Mb:=hW.1
    exists p,ws,W,WT<|upd H3 p<|.lst ws,Z,SqL.of XR,gY,λv l zz=>by let⟨a,e,h⟩:=zz;show⟨a,e,SqT.of h⟩,?_,J,λzs M hZ NB hMs r hr=>?_
    .cases h1:n=1
     .show .inl ?_;rw[Mb]
      match W,Ts,hm with
      |[],_,_=>show Nat.zero_lt_two
      |[_],_,_=>show Nat.one_lt_two
      |x::y::W,Ts,hm=>
       let ex:x=[]:=YX.mp (by have:=((hm x).mp B).2.1;lia);let ey:y=[]:=YX.mp (by have:=((hm y).mp B).2.1;lia)
       show absurd (ex.trans ey.symm) ((YZ.mp Ts).1 y B)
     .show .inr λl hl e=>?_
      have:=((hm l).mp hl).2.1
      rw[e]at this;simp at this;lia
    .let s5:=XZ (o:=.lst zs) hr;show q r zs M _ (s2.trans<|s4.trans s5) XR (TupsV.same s5 hZ) (by rwa[NB.length_eq]) (λl=>by rw[NB.mem_iff];show hm l) (nH hMs<|NB.nodup_iff.mpr Ts)
inductive spZH(K:Ad)(vs:List V)(H:Hp)(Q:VK)(_:XK):Prop
 |mk (a:Addr) (T:Ac) (o z:Int) (_:vs=[.ref a,.int o,.int z]) (_:SqT K H a (IL T)) (_:T.length<=20) (_:∀(ms:Ac),ms.Perm (wo T o++[z])->ms.Pairwise (·<=·)->∀(r:Addr)(H':Hp),Same H H'->H' r=some (.tup<|IL ms)->Q ↑r H')
def yM(T:Txt K mg t):WR P w base Xd T.qZH 1 (spZH K):=by
 show T.qZH.okI ["tree","out","into"] sQ λXu A outer s H vs Q E hr h=>?_
 .let⟨a,T',o,z,rfl,hA,tl,q⟩:=h;exists _,(XC<|Zm<|Zl (ZS K) sU T.n_tuple Boot.«tuple»<|XY (Zh (QI K) sU T.n_sorted Boot.«sorted»<|XY (Zz SM (Ww Z (sc0:=Xe<|top 60) (N0:=["tree","out","into"]) (N':=["tie","out"]) (o:=1) (fr:=[1]) ⟨Z,sQ,sQ,sQ,Z,sQ⟩ (Kc K<|pv 0) (Zn sT) (λ_ _ _ _=>(Xc 0)) (λ_ _ _ _=>(ZX<|Zi Qb (pv 0) (pv 1)<|Zw _)) λ_ _ _ _=>(pv 0))<|TY<|XY (pv 2) XT) XT) XT),?_;let one:1<=sizeLine:=sT
  show⟨_,Z,a,Z,⟨_,hA⟩,HU (K:=K) (a:=a) (xs:=IL T') (λj zs H4=>H4=H/\j<=T'.length/\zs=IL (wo (T'.take j) o)) ⟨Z,Yk _,Z⟩ (Zg<|by rw[Xy];omega)
    (λj zs H4 hj zz=>by let⟨e,SF,ey⟩:=zz;show⟨e▸hA,by rw[ey,Xy];show Yn (LP _ _)<|by rw[Yh];omega⟩) ?_ ?_⟩
  .rintro j x zs H4 hj ⟨rfl,Vg,rfl⟩ S Xw;let⟨y,rfl,hy⟩:=ZV hj;let VX:j<T'.length:=(Xx.mp hy).1
   show nm ?_;exists _,Z,_,Z,Z,_,Z,?_;rw[ZA];show WL (λhe=>?_) (λhe=>?_)
   .show Xw _ _ ⟨Z,VX,?_⟩;rw[wB hy,if_neg (by simpa using he),Yu]
   .exists _,Z,Xw _ _ ⟨Z,VX,?_⟩;rw[wB hy,if_pos he,ZU]
  rintro zs H4 ⟨rfl,_,rfl⟩ p1 Uv;rw[Xy,YE];let wl:=LP T' o
  exists _,Z,one,λp2 VO=>?_;show LV (l2:=[z]) (by rw[XJ (Za XR VO)];show XR) XR (by simp only[YI,KA];omega) λp3 MS=>?_;show⟨p3,_,Z,SqL.of XR,by simp only[Xt,YI,KA];omega,λms fV fU p4 Jp=>?_⟩;let s6:=Zr (Zr (Zr (XZ (o:=.lst<|IL<|wo T' o) Uv) (o:=.lst<|IL [z]) VO) (o:=.lst<|IL<|wo T' o++[z]) MS) (o:=.lst<|IL ms) Jp
  exists p4,IL ms,Z,.inl ⟨SqL.of XR,λtp PL=>?_⟩;show q ms fV fU tp _ (s6.trans<|XZ PL) XR
inductive spZI(K:Ad)(vs:List V)(H:Hp)(Q:VK)(_:XK):Prop
 |mk (n:Int) (a b:Addr) (xs:List V) (ps:Aa) (I:Ac) (_:vs=[.int n,.ref a,.ref b]) (_:SqL K H a xs) (_:PairsV H xs ps) (_:Zy n ps) (_:SqL K H b (IL I)) (_:(∀z∈I,0<=z/\z<ps⁻¹)) (_:∀(m:Addr)(H':Hp),Same H H'->H' m=some (.lst<|IL<|Xb n.toNat<|XU ps I)->Q ↑m H')
def Gh:FnScope ["count","ties","kept","marks","tie","low","high"] ["count","ties","kept"] (Xe (top 61)):=Rc sQ
def fS(T:Txt K mg t):WR P w base Xd T.qZI 1 (spZI K):=by
 show T.qZI.okI ["count","ties","kept","marks","tie","low","high"] sQ λXu A outer s H vs Q E hr h=>?_
 .let⟨n,a,b,xs,ps,I,rfl,hA,hP,⟨g1,g2,g3,g4⟩,hI,XE,q⟩:=h;show⟨_,(XI (Zf 3<|Zl (pT Z) sU T.n_list Boot.«list»<|XY (Zl pW sU T.n_range Boot.«range»<|XY (pv 0) XT) XT)
   (XI (TH Wz Z (Zv K<|pv 2) (Xc 4)
   (XI (Ti (i:=5) Gh.nd Z (Or.inr Z)<|ZL (Zd K) (pv 3) (ZL (ZK K) (ZL (Zd K) (pv 1) (pv 4) λ_ _=>rfl) Zc λ_ _=>rfl) λ_ _=>rfl)
   (XI (Ti (i:=6) Gh.nd Z (Or.inr Z)<|ZL (Zd K) (pv 3) (ZL (ZK K) (ZL (Zd K) (pv 1) (pv 4) λ_ _=>rfl) Zc λ_ _=>rfl) λ_ _=>rfl)
   (XC<|Vr (i:=3) Z Gh.nd Z Z (sc0:=Xe<|top 61) (N0:=["count","ties","kept","marks","tie","low","high"]) (N':=["mark","low","high"]) (o:=1) (fr:=[5,6]) ⟨Z,sQ,sQ,sQ,Z,sQ⟩ (Zv K<|pv 3) (Zn sT) (λ_ _ _ _=>(Xc 0)) (λ_ _ _ _=>RT) λ_ _ _ _=>(ZL (Zd K) (TY<|XY (pv 0)<|XY (pv 1) XT) (Zl dC sU T.n_int Boot.«int»<|XY (Im Qc (pv 0) (pv 2)<|Zw _) XT) λ_ _=>rfl)))))
   (XC<|Zm<|pv 3))),?_⟩
  let two:2<=sizeLine:=sT;exists _,Z,n,Z,λr Ut=>⟨r,0,n,Z,XR,⟨sT,sT,J,J⟩,J,λm hm=>?_⟩;let sm:Same H (upd (upd H r<|.rng 0 n) m<|.lst<|(Vq 0 n).map V.int):=Zr (XZ Ut) hm
  show⟨_,Z,b,Z,⟨_,sm.seq hI⟩,Iv (K:=K) (a:=b) (xs:=IL I) (λi σ H2=>∃(m:Addr)(v4 v5 v6:Option V),σ=[some (.int n),some<|.ref a,some<|.ref b,some<|.ref m,v4,v5,v6]/\Same H H2/\H2 m=some (.lst<|IL<|Xb n.toNat<|XU ps<|I.take i))
   ⟨m,none,none,none,Z,sm,?_⟩ (λi σ H2 _ h=>by let⟨_,_,_,_,_,s2,_⟩:=h;show s2.seq hI) ?_ ?_⟩
  .rw[XR,pd];rfl
  .rintro i x σ H2 hi ⟨m,v4,v5,v6,rfl,s2,WI⟩;let⟨z,rfl,hz⟩:=ZV hi;let⟨z0,z1⟩:=XE z (Xj hz);obtain⟨p,hp⟩:∃p,ps[z.toNat]?=some p:=⟨_,Xq J⟩;let⟨e1,e2,e3,e4⟩:=g4 p (Xj hp);let⟨v,hv,tt,rfl,VW⟩:=(hP.same s2).2 z.toNat p hp;let ed:ps.getD z.toNat (0,0)=p:=ZY hp
   let hl:(Xb n.toNat<|XU ps<|I.take i).length=n.toNat:=ZE _ _;let step:Xb n.toNat (XU ps<|I.take<|i+1)=lm (Xb n.toNat<|XU ps<|I.take i) p.1.toNat p.2.toNat:=by rw[YY,hz];rw[show XU ps (I.take i++(some z).toList)=XU ps (I.take i)++[(p.1.toNat,p.2.toNat)] by unfold XU;rw[YK];change _++[((ps.getD z.toNat (0,0)).1.toNat,(ps.getD z.toNat (0,0)).2.toNat)]=_;rw[ed],Na]
   generalize Xb n.toNat (XU ps<|I.take i)=M at *;let iA:We (IL M) p.1=some (.int<|mk M p.1.toNat):=ZJ (n:=p.1.toNat) J (UL<|VP J)
   let iB:We (IL M) p.2=some (.int<|mk M p.2.toNat):=ZJ (n:=p.2.toNat) J (UL<|VP J);let iz:We xs z=some ↑tt:=ZJ (n:=z.toNat) J hv
   show nm ?_;dsimp only[List.set];exists _,Z,_,Z,_,Z,a,xs,z,.ref tt,Z,Z,s2.seq hA,iz,tt,_,0,.int p.1,Z,Z,SqT.of VW,Z,m,_,p.1,_,Z,Z,SqL.of WI,iA,?_;show nm ?_;dsimp only[List.set];exists _,Z,_,Z,_,Z,a,xs,z,.ref tt,Z,Z,s2.seq hA,iz,tt,_,1,.int p.2,Z,Z,SqT.of VW,Z,m,_,p.2,_,Z,Z,SqL.of WI,iB,?_;show nm ?_;dsimp only[List.set];show⟨_,Z,m,Z,⟨_,SqL.of WI⟩,Wc (K:=K) (a:=m) (xs:=IL M) (λw us H6=>Same H2 H6/\w<=M.length/\us=IL ((M.take w).map λk=>if k=mk M p.2.toNat then mk M p.1.toNat else k)) ⟨Same.refl _,Yk _,Z⟩ (Zg<|by rw[Xy];lia)
    (λw us H6 hw h=>by let⟨e,zN,ey⟩:=h;show⟨SqL.of<|e _ _ WI,by rw[ey,Xy,Yc,Yh];lia⟩) ?_ ?_⟩
   .rintro w v us H6 hw ⟨x3,Mb,rfl⟩ S Xw;let⟨y,rfl,hy⟩:=ZV hw;let NC:=(Xx.mp hy).1
    exists _,Z,_,Z,two,λlp Qq=>?_;let x4:=XZ (o:=.lst [.int y,.int (mk M p.1.toNat)]) Qq
    exists _,Z,_,Z,Z,.inr ⟨_,Z,?_⟩;rw[ZA];let app:∀v:Int,v=(if y=mk M p.2.toNat then mk M p.1.toNat else y)->IL ((M.take w).map λk=>if k=mk M p.2.toNat then mk M p.1.toNat else k)++[.int v]=IL ((M.take<|w+1).map λk=>if k=mk M p.2.toNat then mk M p.1.toNat else k):=λv hv=>by rw[YY,hy,YK,hv];show(ZU _ _).symm
    cases hc:y=mk M p.2.toNat
    .rw[Yv hc];exists lp,_,1,.int<|mk M p.1.toNat,Z,Z,SqL.of XR,Z,Xw _ _ ⟨x3.trans x4,NC,app _<|by rw[if_pos hc]⟩
    .rw[Sw hc];exists lp,_,0,.int y,Z,Z,SqL.of XR,Z,Xw _ _ ⟨x3.trans x4,NC,app _<|by rw[if_neg hc]⟩
   rintro us H6 ⟨x3,_,rfl⟩ la NO;rw[Xy,YE];exists la,_,_,_,Z,s2.trans<|x3.trans<|XZ NO,?_;rw[XR,step];let e:(M.map λk=>if k=mk M p.2.toNat then mk M p.1.toNat else k)=lm M p.1.toNat p.2.toNat:=by
    unfold lm;cases c:mk M p.1.toNat≠mk M p.2.toNat
    .rw[if_pos c]
    .rw[if_neg c];show(VN λk _=>?_).trans (List.map_id M);split
     .rename_i h;rw[h];show Yz c
     .rfl
   rw[e]
  .rintro σ H2 ⟨m,v4,v5,v6,rfl,s2,WI⟩;rw[Xy,YE]at WI;exists _,Z,q m H2 s2 WI
inductive spZJ(K:Ad)(vs:List V)(H:Hp)(Q:VK)(_:XK):Prop
 |mk (n:Int) (a b:Addr) (xs:List V) (ps:Aa) (I:Ac) (y z:Int) (_:vs=[.int n,.ref a,.ref b,.int y,.int z]) (_:SqL K H a xs) (_:PairsV H xs ps) (_:Zy n ps) (_:SqL K H b (IL I)) (_:(∀z∈I,0<=z/\z<ps⁻¹)) (_:(0<=y/\y<ps⁻¹)) (_:(0<=z/\z<ps⁻¹)) (_:∀H':Hp,Same H H'->Q (.bl<|decide<|VV (XB n.toNat<|XU ps I) ps y=VV (XB n.toNat<|XU ps I) ps z) H')
def yL{a b c d:Int}:(min a b,max a b)=(min c d,max c d)↔(a=c/\b=d)\/(a=d/\b=c):=by rw[Prod.mk.injEq];omega
def fR{n:Int}{ps:Aa}{I:Ac}{y z:Int}(g:Zy n ps)(XE:∀z∈I,0<=z/\z<ps⁻¹)(hy:0<=y/\y<ps⁻¹)(hz:0<=z/\z<ps⁻¹):VV (Xb n.toNat (XU ps I)) ps y=VV (Xb n.toNat (XU ps I)) ps z↔VV (XB n.toNat (XU ps I)) ps y=VV (XB n.toNat (XU ps I)) ps z:=by
 let Wu:=ZR g XE;let a:=Tv (z:=y) g hy.1 hy.2
 let b:=Tv (z:=z) g hz.1 hz.2;unfold VV;rw[yL,yL];let k:∀{i j:Nat},i<n.toNat->j<n.toNat->(mk (Xb n.toNat<|XU ps I) i=mk (Xb n.toNat<|XU ps I) j↔mk (XB n.toNat<|XU ps I) i=mk (XB n.toNat<|XU ps I) j):=λhi hj=>(Wa Wu hi hj).trans (Ro Wu hi hj).symm
 show or_congr (and_congr (k a.1 b.1)<|k a.2 b.2) (and_congr (k a.1 b.2)<|k a.2 b.1)
def fQ:FnScope ["count","ties","kept","lead","other","marks","one"] ["count","ties","kept","lead","other"] (Xe (top 62)):=Rc sQ
def fP(T:Txt K mg t):WR P w base Xd T.qZJ 2 (spZJ K):=by
 show T.qZJ.okI ["count","ties","kept","lead","other","marks","one"] sQ λXu A outer s H vs Q E hr h=>?_
 .let⟨n,a,b,xs,ps,I,y,z,rfl,hA,hP,hG,hI,XE,hy,hz,q⟩:=h;show⟨_,(XI (Ti (i:=5) fQ.nd Z (Or.inr Z)<|Zb (fS T) hr T.qZI ZF<|XY (pv 0)<|XY (pv 1)<|XY (pv 2) XT)
   (XI (Zf 6<|Zh (QI K) sU T.n_sorted Boot.«sorted»<|XY (Ww Z (sc0:=Xe<|top 62) (N0:=["count","ties","kept","lead","other","marks","one"]) (N':=["place","marks"]) (o:=1) (fr:=[5]) ⟨Z,sQ,sQ,sQ,Z,sQ⟩ (Kc K<|ZL (Zd K) (pv 1) (pv 3) λ_ _=>rfl) (Zn sT) (λ_ _ _ _=>(Xc 0)) (λ_ _ _ _=>RT) λ_ _ _ _=>(ZL (Zd K) (pv 1) (pv 0) λ_ _=>rfl)) XT)
   (XC<|Zm<|Im (cT K<|CG hr) (pv 6) (Zh (QI K) sU T.n_sorted Boot.«sorted»<|XY (Ww Z (sc0:=Xe<|top 62) (N0:=["count","ties","kept","lead","other","marks","one"]) (N':=["place","marks"]) (o:=1) (fr:=[5]) ⟨Z,sQ,sQ,sQ,Z,sQ⟩ (Kc K<|ZL (Zd K) (pv 1) (pv 4) λ_ _=>rfl) (Zn sT) (λ_ _ _ _=>(Xc 0)) (λ_ _ _ _=>RT) λ_ _ _ _=>(ZL (Zd K) (pv 1) (pv 0) λ_ _=>rfl)) XT)<|Zw _))),?_⟩
  let⟨g1,g2,g3,g4⟩:=id hG;exists _,Z,_,Z,_,Z,n,a,b,xs,ps,I,Z,hA,hP,hG,hI,XE,λm H1 s1 hm=>?_;show nm ?_;dsimp only[List.set];let lL:(Xb n.toNat<|XU ps I).length=n.toNat:=ZE _ _
  let key:=fR hG XE hy hz;obtain⟨M,hM⟩:∃M,Xb n.toNat (XU ps I)=M:=⟨_,Z⟩;rw[hM]at hm lL key;let ends:∀u:Int,0<=u->u<ps⁻¹->∃p:Int×Int,ps.getD u.toNat (0,0)=p/\We (IL M) p.1=some (.int<|mk M p.1.toNat)/\We (IL M) p.2=some (.int<|mk M p.2.toNat)/\∃tt,We xs u=some ↑tt/\H tt=some (.tup<|IL [p.1,p.2]):=λu u0 u1=>by obtain⟨p,hp⟩:∃p,ps[u.toNat]?=some p:=⟨_,Xq J⟩;let⟨e1,e2,e3,e4⟩:=g4 p (Xj hp);let⟨v,hv,tt,rfl,VW⟩:=hP.2 u.toNat p hp;exists p,ZY hp,ZJ (n:=p.1.toNat) J<|UL<|VP J,ZJ (n:=p.2.toNat) J<|UL<|VP J,tt,ZJ (n:=u.toNat) J hv,VW
  let⟨p,ep,p1,p2,tp,ip,PL⟩:=ends y hy.1 hy.2;let⟨r,er,r1,r2,tr,ir,Jx⟩:=ends z hz.1 hz.2;let q':∀H':Hp,Same H H'->Q (.bl<|decide<|[min (mk M p.1.toNat) (mk M p.2.toNat),max (mk M p.1.toNat) (mk M p.2.toNat)]=[min (mk M r.1.toNat) (mk M r.2.toNat),max (mk M r.1.toNat) (mk M r.2.toNat)]) H':=λH' s=>by
   let e:decide ([min (mk M p.1.toNat) (mk M p.2.toNat),max (mk M p.1.toNat) (mk M p.2.toNat)]=[min (mk M r.1.toNat) (mk M r.2.toNat),max (mk M r.1.toNat) (mk M r.2.toNat)])=decide (VV (XB n.toNat<|XU ps I) ps y=VV (XB n.toNat<|XU ps I) ps z):=FJ.mpr (by
    rw[<-key];unfold VV;rw[ep,er,Prod.mk.injEq]
    simp)
   rw[e];show q H' s
  exists _,Z,_,Z,a,xs,y,.ref tp,Z,Z,s1.seq hA,ip,tp,Z,⟨_,SqT.of<|s1 _ _ PL⟩,HU (K:=K) (a:=tp) (xs:=IL [p.1,p.2]) (λj zs H4=>H4=H1/\j<=2/\zs=IL ([mk M p.1.toNat,mk M p.2.toNat].take j)) ⟨Z,Yk _,Z⟩ (by change 2<sizeLine;decide) (λj zs H4 hj h=>by let⟨e,SF,ey⟩:=h;show⟨e▸SqT.of (s1 _ _ PL),by rw[ey,Xy,Yh];lia⟩) ?_ ?_
  .rintro j v zs H4 hj ⟨rfl,Vg,rfl⟩ S Xw
   match j,hj with
   |0,hj=>
    let rfl:=Ye hj;exists _,Z,_,Z,m,_,p.1,_,Z,Z,SqL.of hm,p1,Xw _ _ ⟨Z,sT,Z⟩
   |1,hj=>
    let rfl:=Ye hj;exists _,Z,_,Z,m,_,p.2,_,Z,Z,SqL.of hm,p2,Xw _ _ ⟨Z,sT,Z⟩
   |k+2,hj=>cases hj
  rintro zs H4 ⟨rfl,_,rfl⟩ l1 Ta;let u1:=XZ (o:=.lst<|IL [mk M p.1.toNat,mk M p.2.toNat]) Ta
  let k1:=XR (H:=H4) (a:=l1) (o:=.lst<|IL [mk M p.1.toNat,mk M p.2.toNat]);change Mf _ (upd H4 l1<|.lst<|IL [mk M p.1.toNat,mk M p.2.toNat]) _;generalize upd H4 l1 (.lst<|IL [mk M p.1.toNat,mk M p.2.toNat])=H7 at *;exists l1,[mk M p.1.toNat,mk M p.2.toNat],Z,SqL.of k1,(by change 2<64;decide),λms hp hs l2 VB=>?_;let rfl:=vy hp hs;let u2:=u1.trans (XZ (o:=.lst<|IL [min (mk M p.1.toNat) (mk M p.2.toNat),max (mk M p.1.toNat) (mk M p.2.toNat)]) VB)
  let k2:=XR (H:=H7) (a:=l2) (o:=.lst<|IL [min (mk M p.1.toNat) (mk M p.2.toNat),max (mk M p.1.toNat) (mk M p.2.toNat)]);let WI:=u2 _ _ hm
  let s2:=s1.trans u2;show nm ?_;show JH ?_;change ID _ _ _ (upd H7 l2<|.lst<|IL [min (mk M p.1.toNat) (mk M p.2.toNat),max (mk M p.1.toNat) (mk M p.2.toNat)]);generalize upd H7 l2 (.lst<|IL [min (mk M p.1.toNat) (mk M p.2.toNat),max (mk M p.1.toNat) (mk M p.2.toNat)])=H5 at *;exists _,Z,_,Z,_,Z,a,xs,z,.ref tr,Z,Z,s2.seq hA,ir,tr,Z,⟨_,SqT.of<|s2 _ _ Jx⟩,HU (K:=K) (a:=tr) (xs:=IL [r.1,r.2]) (λj zs H6=>H6=H5/\j<=2/\zs=IL ([mk M r.1.toNat,mk M r.2.toNat].take j)) ⟨Z,Yk _,Z⟩ (by change 2<sizeLine;decide) (λj zs H6 hj h=>by let⟨e,SF,ey⟩:=h;show⟨e▸SqT.of (s2 _ _ Jx),by rw[ey,Xy,Yh];lia⟩) ?_ ?_
  .rintro j v zs H6 hj ⟨rfl,Vg,rfl⟩ S Xw
   match j,hj with
   |0,hj=>
    let rfl:=Ye hj;exists _,Z,_,Z,m,_,r.1,_,Z,Z,SqL.of WI,r1,Xw _ _ ⟨Z,sT,Z⟩
   |1,hj=>
    let rfl:=Ye hj;exists _,Z,_,Z,m,_,r.2,_,Z,Z,SqL.of WI,r2,Xw _ _ ⟨Z,sT,Z⟩
   |k+2,hj=>cases hj
  rintro zs H6 ⟨rfl,_,rfl⟩ l3 MP;exists l3,[mk M r.1.toNat,mk M r.2.toNat],Z,SqL.of XR,(by change 2<64;decide),λms hp hs l4 hl4=>?_;let rfl:=vy hp hs;let u4:=(XZ (o:=.lst<|IL [mk M r.1.toNat,mk M r.2.toNat]) MP).trans (XZ (o:=.lst<|IL [min (mk M r.1.toNat) (mk M r.2.toNat),max (mk M r.1.toNat) (mk M r.2.toNat)]) hl4)
  exists 1,_,l2,l4,Z,Z,sT,oY (SqL.of<|u4 _ _ k2)<|SqL.of XR,q' _<|s2.trans u4
inductive spZK(K:Ad)(vs:List V)(H:Hp)(Q:VK)(_:XK):Prop
 |mk (b c:Addr) (n:Int) (ys:List V) (ps:Aa) (L:Ab) (I O F:Ac) (_:vs=[.ref b,.ref c]) (_:H b=some (.lst ys)) (_:TupsV H ys L) (_:Zy n ps) (_:SqL K H c (IL I)) (_:(∀z∈I,0<=z/\z<ps⁻¹)) (_:(∀T,T∈L↔With n ps I O T)) (_:L[0]?=some F) (_:∀(r:Addr)(H':Hp),Same H H'->H r=none->H' r=some (.lst<|IL<|Xl n ps I O F)->Q ↑r H')
def fO(ks:Ac)(x:Int):putK (ks.map λk=>((Sum.inl k:Key),V.bl true)) (Sum.inl x) (.bl true)=(if x∈ks then ks else ks++[x]).map λk=>((Sum.inl k:Key),V.bl true):=by
 unfold putK;cases h:x∈ks
 .rw[if_pos h,if_pos (by rw[List.any_map];show Eg.mpr ⟨x,h,B⟩),Px];show VN λk _=>?_;change(if (Sum.inl k:Key)=Sum.inl x then ((Sum.inl k:Key),V.bl true) else (Sum.inl k,V.bl true))=_
  split<;>rfl
 .rw[if_neg h,if_neg (by rw[List.any_map];simpa using h),YK];rfl
def yK(T:Txt K mg t):WR P w base Xd T.qZK 1 (spZK K):=by
 show T.qZK.okI ["trees","kept","met","tree","tie"] sQ λXu A outer s H vs Q E hr h=>?_
 .let⟨b,c,n,ys,ps,L,I,O,F,rfl,hb,hL,hG,hI,XE,hmem,QZ,q⟩:=h;show⟨_,(XI (Zf 2 CS)
   (XI (TH Wz Z (Zv K<|pv 0) (Xc 3)
   (XC (TH Wz Z (Kc K<|pv 3) (Xc 4)
   (XC<|qw (qr hr) (pv 2) (pv 4) QS Z))))
   (XC<|Zm<|Ww Z (sc0:=Xe<|top 63) (N0:=["trees","kept","met","tree","tie"]) (N':=["tie","kept","trees"]) (o:=1) (fr:=[1,0]) ⟨Z,sQ,sQ,sQ,Z,sQ⟩ (Zv K<|Zh (j6 Z) sU T.n_sorted Boot.«sorted»<|XY (HR K um eh PySem.F.type_dict_keys j7<|pv 2) XT) (Zn sT) (λ_ _ _ _=>(Xc 0)) (λ_ _ _ _=>(ZX<|PW.pt<|xk (Zi (Tx K) (pv 0) (pv 1) Z)<|Mp<|Zi (Tx K) (pv 0) (ZL (Zd K) (pv 2) Zc λ_ _=>rfl) Z)) λ_ _ _ _=>(pv 0)))),?_⟩
  let hF:=(hmem F).mp (Xj QZ);let⟨vF,fN,tF,rfl,Ew⟩:=hL.2 0 F QZ;let bound:∀ks:Ac,ks.Nodup->(∀z∈ks,0<=z/\z<ps⁻¹)->ks.length<=30:=λks nd h=>by
   have:=kh nd (m:=VJ ps.length) λz hz=>Xr.mpr (h z hz)
   rw[show(VJ ps.length).length=ps.length by unfold VJ;simp]at this
   have:=hG.2.2.1
   lia
  intro d hd;let u1:=XZ (o:=.dK []) hd
  let kd:=XR (H:=H) (a:=d) (o:=.dK []);change Um _ _ _ _ (upd H d<|.dK []);generalize upd H d (.dK [])=H1 at *;show nm ?_;dsimp only[List.set];exists _,Z,b,Z,⟨_,SqL.of<|u1 _ _ hb⟩,Iv (K:=K) (a:=b) (xs:=ys) (λi σ H2=>∃(v3 v4:Option V)(ks:Ac),σ=[some ↑b,some<|.ref c,some<|.ref d,v3,v4]/\Same H H2/\H2 d=some (.dK<|ks.map λk=>(Sum.inl k,.bl true))/\ks.Nodup/\∀z,z∈ks↔∃T∈L.take i,z∈T) ⟨none,none,[],Z,u1,kd,.nil,λz=>B⟩ (λi σ H2 _ h=>by let⟨_,_,_,_,s2,_⟩:=h;show SqL.of<|s2 _ _ hb) ?_ ?_
  .rintro i v σ H2 hi ⟨v3,v4,ks,rfl,s2,hd2,nd,Si⟩;let⟨T',vL,tt,rfl,VW⟩:=hL.at hi;let wT:=(hmem T').mp (Xj vL)
   show nm ?_;dsimp only[List.set];exists _,Z,tt,Z,⟨_,SqT.of<|s2 _ _ VW⟩,rL (K:=K) (a:=tt) (xs:=IL T') (λj σ H3=>∃(v4:Option V)(ks:Ac),σ=[some ↑b,some<|.ref c,some<|.ref d,some<|.ref tt,v4]/\Same H H3/\H3 d=some (.dK<|ks.map λk=>(Sum.inl k,.bl true))/\ks.Nodup/\∀z,z∈ks↔(∃T∈L.take i,z∈T)\/z∈T'.take j) ⟨_,ks,Z,s2,hd2,nd,λz=>by rw[Si];simp⟩ (λj σ H3 _ h=>by let⟨_,_,_,s3,_⟩:=h;show SqT.of<|s3 _ _ VW) ?_ ?_
   .rintro j v σ H3 hj ⟨v4,ks,rfl,s3,SY,nd,Si⟩;let⟨x,rfl,hx⟩:=ZV hj;let kl:ks.length<=30:=bound ks nd λz hz=>by
     rcases(Si z).mp hz with ⟨U,hU,h⟩|h
     .show((hmem U).mp (VR hU)).1.1.all z h
     .show wT.1.1.all z (VR h)
    show nm ?_;dsimp only[List.set];exists _,Z,_,Z,d,_,Z,DPut.k (k:=Sum.inl x) SY (Zg<|by rw[Yc];lia),?_;rw[fO];exists _,_,Z,ZI hd s3,XR,?_,λz=>?_
    .split
     .show nd
     .show Wo.mpr ⟨nd,B,λa ha b hb e=>by rename_i h;show h<|by rwa[<-XG.mp hb,<-e]⟩
    .rw[YY,hx];change _↔_\/z∈T'.take j++[x]
     rw[XA,XG,<-or_assoc,<-Si z];split
     .rename_i h;exists .inl,λh'=>h'.elim id λe=>e▸h
     .rw[XA,XG]
   rintro σ H3 ⟨v4,ks,rfl,s3,SY,nd,Si⟩;exists _,v4,ks,Z,s3,SY,nd,λz=>?_;rw[Si z,Xy,YE,YY,vL];simp
  rintro σ H2 ⟨v3,v4,ks,rfl,s2,hd2,nd,Si⟩;rw[hL.1,YE]at Si;let kl:ks.length<=30:=bound ks nd λz hz=>by let⟨U,hU,h⟩:=(Si z).mp hz;show((hmem U).mp hU).1.1.all z h
  exists _,Z,.inr<|.inr<|.inl ⟨Z,.inl ⟨_,hd2⟩⟩,d,_,Z,Z,hd2,λvk hvk=>?_;let u5:=XZ (o:=RG vk d) hvk
  show⟨vk,d,_,ks,Z,XR,u5 _ _ hd2,by rw[Px];rfl,J,λms hp hs la NO=>?_⟩;let u6:=XZ (o:=.lst<|IL ms) NO
  let Jf:=s2.trans (u5.trans u6);let l6:=XR (H:=upd H2 vk<|RG vk d) (a:=la) (o:=.lst<|IL ms)
  generalize upd (upd H2 vk<|RG vk d) la (.lst<|IL ms)=H6 at *;let asc:ms.Pairwise (·<·):=(d7.mpr ⟨hs,hp.nodup_iff.mpr nd⟩).imp λ{x y} h=>by have:=h.1;have:=h.2;lia
  let hlen:=hp.length_eq;let done:(ms.filter λz=>decide<|z∉I/\z∉F)=Xl n ps I O F:=by
   let a1:(ms.filter λz=>decide<|z∉I/\z∉F).Pairwise (·<·):=asc.filter _;let a2:(Xl n ps I O F).Pairwise (·<·):=(JS ps.length).filter _
   show RQ ((Us (OH a1)<|OH a2).mpr λz=>?_) (a1.imp λh=>Mw h) (a2.imp λh=>Mw h);rw[Ya,hp.mem_iff,Si,YL];constructor
   .rintro⟨⟨U,hU,zU⟩,zI,zF⟩;show Lf hG XE ((hmem U).mp hU) hF.2.1 zU zF
   .intro h;let⟨U,hU⟩:=EH hG XE hF h;let⟨_,zI,zO,zF,_⟩:=(ZM hG XE).mp h;exists ⟨U,(hmem U).mpr ⟨hU.1,λv hv=>hU.2.1 v<|Yg _ hv,hU.2.2⟩,hU.2.1 z B⟩,zI,zF
  exists la,Z,⟨_,SqL.of l6⟩,Wc (K:=K) (a:=la) (xs:=IL ms) (λi ws H7=>H7=H6/\i<=ms.length/\ws=IL ((ms.take i).filter λz=>decide<|z∉I/\z∉F)) ⟨Z,Yk _,Z⟩ (Zg<|by rw[Xy];lia) (λi ws H7 hi h=>by let⟨e,Vf,ew⟩:=h;show⟨e▸SqL.of l6,by rw[ew,Xy];show Yn (Yr ..)<|by rw[Yh];lia⟩) ?_ ?_
  .rintro i v ws H7 hi ⟨rfl,UB,rfl⟩ S Xw;let⟨y,rfl,hy⟩:=ZV hi;let Xo:=(Xx.mp hy).1
   exists _,Z,_,Z,c,_,Z,.inl<|Jf.seq hI,Z,ZP _,_,Z,?_;rw[Vc];show WL (λhc=>?_) (λhc=>?_)
   .show Xw _ _ ⟨Z,Xo,?_⟩;rw[Zx hy,if_neg (by simp[hc]),Yu]
   exists _,Z,_,Z,b,ys,0,.ref tF,Z,Z,SqL.of<|Jf _ _ hb,ZJ (n:=0) Z fN,tF,_,Z,.inr<|SqT.of<|Jf _ _ Ew,Z,ZP _,_,Z,?_;rw[Vc];show WL (λNj=>?_) (λNj=>?_)
   .show Xw _ _ ⟨Z,Xo,?_⟩;rw[Zx hy,if_neg (by simp[Nj]),Yu]
   .exists _,Z,Xw _ _ ⟨Z,Xo,?_⟩;rw[Zx hy,if_pos<|Yv ⟨hc,Nj⟩,ZU]
  rintro ws H7 ⟨rfl,_,rfl⟩ r Rl;rw[Xy,YE,done];show q r _ (Jf.trans<|XZ Rl) (Jf.free Rl) XR
inductive spZL(K:Ad)(d:Nat)(vs:List V)(H:Hp)(Q:VK)(_:XK):Prop
 |mk (a b c:Addr) (n:Int) (xs ys:List V) (ps:Aa) (L:Ab) (I O F:Ac) (z:Int) (R:Ab) (_:vs=[.int n,.ref a,.ref b,.ref c,.int z]) (_:H a=some (.lst xs)) (_:PairsV H xs ps) (_:Zy n ps) (_:H b=some (.lst ys)) (_:TupsV H ys L) (_:L.Pairwise Vj) (_:(∀T,T∈L↔With n ps I O T)) (_:L.length<=1024) (_:H c=some (.lst<|IL I)) (_:(∀v∈I,0<=v/\v<ps⁻¹)) (_:I.length<=30) (_:L[0]?=some F) (_:z∈Xl n ps I O F) (_:R.length<=1024) (_:RowR n ps d I O (some z) R) (_:∀(r:Addr)(zs:List V)(H':Hp),Same H H'->H' r=some (.lst zs)->TupsV H' zs R->Q ↑r H')
def Ry:FnScope ["count","ties","trees","kept","lead","base","free","others","shut","with_it","first","second","loose","told","twins","k","tie","row"] ["count","ties","trees","kept","lead"] (Xe (top 64)):=Rc sQ
def fM(T:Txt K mg t)(d:Nat):WR P w base Xd T.qZL (3+d) (spZL K d):=by
 let key:∀d k sp,WR P w base Xd T.qZL k sp->k<=2+d->(∀e,d=e+1->sp=spZL K e)->WR P w base Xd T.qZL (3+d) (spZL K d):=by
  intro d k sp ih hk Rr;rw[show 3+d=2+d+1 by lia];show T.qZL.ok ["count","ties","trees","kept","lead","base","free","others","shut","with_it","first","second","loose","told","twins","k","tie","row"] sQ (λvs H Q E h=>?_) (λXu A outer s H vs Q E hr h=>?_)
  .let⟨a,b,c,n,xs,ys,ps,L,I,O,F,z,R,rfl,_⟩:=h;rfl
  .let⟨a,b,c,n,xs,ys,ps,L,I,O,F,z,R,rfl,ha,hP,hG,hb,hL,VH,hmem,GI,hc,XE,hIl,QZ,hz,Ra,hR,q⟩:=h;show⟨_,(XI (Ti (i:=5) Ry.nd Z (Or.inr Z)<|ZL (Zd K) (pv 2) Zc λ_ _=>rfl)
   (XI (Zf 6<|QO (yK T) (hr.mono D) Z T.qZK.mm T.qZK.fn.kp T.qZK.bi .nil ZF<|XY (pv 2)<|XY (pv 3) XT)
   (XI (Vr (i:=7) rfl Ry.nd rfl rfl (sc0:=Xe<|top 64) (N0:=["count","ties","trees","kept","lead","base","free","others","shut","with_it","first","second","loose","told","twins","k","tie","row"]) (N':=["tie","count","ties","kept","lead"]) (o:=1) (fr:=[0,1,3,4]) ⟨rfl,sQ,sQ,sQ,rfl,sQ⟩ (Zv K<|pv 6) (Zn sT) (λ_ _ _ _=>(Xc 0)) (λ_ _ _ _=>(ZX<|Uo<|Mq<|QO (fP T) (hr.mono D) rfl T.qZJ.mm T.qZJ.fn.kp T.qZJ.bi .nil ZF<|XY (pv 1)<|XY (pv 2)<|XY (pv 3)<|XY (pv 4)<|XY (pv 0) XT)) λ_ _ _ _=>(pv 0))
   (XI (VL (Zi Pb (Zh (Zp K) sU T.n_len Boot.«len»<|XY (pv 7) XT) Zc<|Zw _)
   (XI (Vr (i:=8) rfl Ry.nd rfl rfl (sc0:=Xe<|top 64) (N0:=["count","ties","trees","kept","lead","base","free","others","shut","with_it","first","second","loose","told","twins","k","tie","row"]) (N':=["tree","lead"]) (o:=1) (fr:=[4]) ⟨rfl,sQ,sQ,sQ,rfl,sQ⟩ (Zv K<|pv 2) (Zn sT) (λ_ _ _ _=>(Xc 0)) (λ_ _ _ _=>(ZX<|Zi (Tx K) (pv 1) (pv 0) rfl)) λ_ _ _ _=>(pv 0))
   (XI (Vr (i:=9) rfl Ry.nd rfl rfl (sc0:=Xe<|top 64) (N0:=["count","ties","trees","kept","lead","base","free","others","shut","with_it","first","second","loose","told","twins","k","tie","row"]) (N':=["tree","lead"]) (o:=1) (fr:=[4]) ⟨rfl,sQ,sQ,sQ,rfl,sQ⟩ (Zv K<|pv 2) (Zn sT) (λ_ _ _ _=>(Xc 0)) (λ_ _ _ _=>(ZX<|Zi (HS K) (pv 1) (pv 0) rfl)) λ_ _ _ _=>(pv 0))
   (XI (Zf 10<|QO ih (hr.mono D) Z T.qZL.mm T.qZL.fn.kp T.qZL.bi .nil ZF<|XY (pv 0)<|XY (pv 1)<|XY (pv 8)<|XY (pv 3)<|XY (ZL (Zd K) (pv 7) Zc λ_ _=>rfl) XT)
   (XI (Zf 11<|QO ih (hr.mono D) Z T.qZL.mm T.qZL.fn.kp T.qZL.bi .nil ZF<|XY (pv 0)<|XY (pv 1)<|XY (pv 9)<|XY (Zz SM (pv 3)<|TY<|XY (pv 4) XT)<|XY (ZL (Zd K) (pv 7) Zc λ_ _=>rfl) XT)
   (XC<|Zm<|Zz SM (pv 10)<|oR K Z Z T.n_list Z T.n_reversed<|XY (pv 11) XT)))))
   Zu)
   (XI (Vr (i:=12) rfl Ry.nd rfl rfl (sc0:=Xe<|top 64) (N0:=["count","ties","trees","kept","lead","base","free","others","shut","with_it","first","second","loose","told","twins","k","tie","row"]) (N':=["tie","kept","base","lead","trees"]) (o:=1) (fr:=[3,5,4,2]) ⟨rfl,sQ,sQ,sQ,rfl,sQ⟩ (Kc K<|pv 5) (Zn sT) (λ_ _ _ _=>(Xc 0)) (λ_ _ _ _=>(ZX<|PW.pt<|xk (Zi (Tx K) (pv 0) (pv 1) rfl)<|Mp<|Zi (oE K<|CG hr) (QO (yM T) (hr.mono D) rfl T.qZH.mm T.qZH.fn.kp T.qZH.bi .nil ZF<|XY (pv 2)<|XY (pv 0)<|XY (pv 3) XT) (pv 4) rfl)) λ_ _ _ _=>(pv 0))
   (XI (Zf 13<|TY<|XY (pv 5) XT)
   (XI (Zf 14<|Zz SM (Ww rfl (sc0:=Xe<|top 64) (N0:=["count","ties","trees","kept","lead","base","free","others","shut","with_it","first","second","loose","told","twins","k","tie","row"]) (N':=["tie","lead"]) (o:=1) (fr:=[4]) ⟨rfl,sQ,sQ,sQ,rfl,sQ⟩ (Zv K<|pv 6) (Zn sT) (λ_ _ _ _=>(Xc 0)) (λ_ _ _ _=>(ZX<|Zi Qb (pv 0) (pv 1)<|Zw _)) λ_ _ _ _=>(pv 0))<|TY<|XY (pv 4) XT)
   (XI (TH Wz Z (LX K Z T.n_enumerate<|XY (pv 14) XT) (QJ (n:=2) K Z<|Zo (Xc 15)<|Zo (dN (i:=16) Ry.nd Z<|Or.inr Z) QQ)
   (XI (Vr (i:=17) rfl Ry.nd rfl rfl (sc0:=Xe<|top 64) (N0:=["count","ties","trees","kept","lead","base","free","others","shut","with_it","first","second","loose","told","twins","k","tie","row"]) (N':=["out","base","tie"]) (o:=1) (fr:=[5,16]) ⟨rfl,sQ,sQ,sQ,rfl,sQ⟩ (Zv K<|pv 12) (Zn sT) (λ_ _ _ _=>(Xc 0)) (λ_ _ _ _=>RT) λ_ _ _ _=>(QO (yM T) (hr.mono D) rfl T.qZH.mm T.qZH.fn.kp T.qZH.bi .nil ZF<|XY (pv 1)<|XY (pv 0)<|XY (pv 2) XT))
   (XI (VL (Zi Qc (Zz Th (Zz Mh (Zh (Zp K) sU T.n_len Boot.«len»<|XY (pv 14) XT)<|pv 15) Zc) Zc<|Zw _)
   (XC<|QR<|HR K PH PySem.F.slot_list_reverse PySem.F.type_list_reverse qK<|pv 17)
   Zu)
   (XC<|QR<|ON K PH uu uw qO (pv 13)<|XY (pv 17) XT))))
   (XC<|Zm<|pv 13))))))))),?_⟩
   let hF:=(hmem F).mp (Xj QZ);let⟨vF,fN,tF,rfl,Ew⟩:=hL.2 0 F QZ;let zf:=(ZM hG XE).mp hz
   exists _,Z,b,ys,0,.ref tF,Z,Z,SqL.of hb,ZJ (n:=0) Z fN,?_;show nm ?_;dsimp only[List.set];exists _,Z,_,Z,b,c,n,ys,ps,L,I,O,F,Z,hb,hL,hG,SqL.of hc,XE,hmem,QZ,λfA H1 s1 hf0 NL=>?_;show nm ?_;dsimp only[List.set];let opl:(Xl n ps I O F).length<=30:=by
    have:=Lh (XB n.toNat<|XU ps I) ps (I++O++F) ps.length
    have:=hG.2.2.1
    show Yn ‹(MR _ ps _ ps.length).length<=ps.length› this
   let opb:∀t∈Xl n ps I O F,0<=t/\t<ps⁻¹:=λt ht=>((ZM hG XE).mp ht).1;exists _,Z,fA,Z,⟨_,SqL.of NL⟩,Wc (K:=K) (a:=fA) (xs:=IL<|Xl n ps I O F) (λi ws H2=>Same H1 H2/\i<=(Xl n ps I O F).length/\ws=IL (((Xl n ps I O F).take i).filter λt=>!decide (VV (XB n.toNat<|XU ps I) ps z=VV (XB n.toNat<|XU ps I) ps t))) ⟨Same.refl _,Yk _,Z⟩ (Zg<|by rw[Xy];lia) (λi ws H2 hi h=>by let⟨e,Vf,ew⟩:=h;show⟨SqL.of<|e _ _ NL,by rw[ew,Xy];show Yn (Yr ..)<|by rw[Yh];lia⟩) ?_ ?_
   .rintro i v ws H2 hi ⟨s2,UB,rfl⟩ S Xw;let⟨y,rfl,hy⟩:=ZV hi;let Xo:=(Xx.mp hy).1
    let Wq:=s1.trans s2;exists _,Z,_,Z,_,Z,_,Z,_,Z,n,a,c,xs,ps,I,z,y,Z,SqL.of<|Wq _ _ ha,hP.same Wq,hG,SqL.of<|Wq _ _ hc,XE,zf.1,opb y<|Xj hy,λH3 s3=>⟨_,Z,?_⟩;show WL (λWQ=>?_) (λWQ=>?_)
    .show Xw _ _ ⟨s2.trans s3,Xo,?_⟩;rw[Zx hy,if_neg (by simp[WQ]),Yu]
    .exists _,Z,Xw _ _ ⟨s2.trans s3,Xo,?_⟩;rw[Zx hy,if_pos (by simp[WQ]),ZU]
   rintro ws H2 ⟨s2,_,rfl⟩ oA hoA;rw[Xy,YE,z7];let u3:=XZ (o:=.lst<|IL<|Wh n ps I O F<|some z) hoA
   let k3:=XR (H:=H2) (a:=oA) (o:=.lst<|IL<|Wh n ps I O F<|some z);let MM:=s1.trans (s2.trans u3)
   let uZ:=u3 _ _ (s2 _ _ NL);generalize upd H2 oA (.lst<|IL<|Wh n ps I O F<|some z)=H3 at *;show nm ?_;dsimp only[List.set];exists _,Z,oA,_,Z,.inl<|SqL.of k3,_,_,Z,Z,_,Z,?_;let least:=jg VH QZ
   let uN:=MM _ _ hb;let EO:=hL.same MM
   let QD:=hL.1;clear s1 s2 u3 hoA NL;cases hR with
   |div Uw hIn yJ Ud NH Gq y6 y0 y1 hpc gx gu=>
    rename_i e F' inc y A' sO;let rfl:F'=F:=Xv (least F'<|(hmem F').mpr Uw.tr) (Uw.least F hF);let⟨yu,ym⟩:=Uw.some y rfl;let first:(Wh n ps I O F'<|some z)[0]?=some y:=z8 (RC.filter _) yu ym
    let gr:=Rr e rfl;subst gr;show WO (λ_=>?_) λh=>absurd (by rw[Xy];have:=(Xx.mp first).1;lia) h;exists _,rfl,b,rfl,⟨_,SqL.of uN⟩,Wc (K:=K) (a:=b) (xs:=ys) (λi ws H4=>H4=H3/\TupsV H3 ws ((L.take i).filter λT=>decide<|z∉T)) ⟨rfl,TupsV.nil⟩ (Zg J) (λi ws H4 hi h=>by let⟨e,ew⟩:=h;show⟨e▸SqL.of uN,by rw[ew.1];show Yn (Yr ..)<|by rw[Yh];lia⟩) ?_ ?_
    .rintro i v ws H4 hi ⟨rfl,NA⟩ S Xw;let⟨U,hU,tt,rfl,VW⟩:=EO.at hi;exists _,Z,_,Z,tt,_,Z,.inr<|SqT.of VW,Z,ZP _,_,Z,?_;rw[Vc];show WL (λWQ=>?_) (λWQ=>?_)
     .show Xw _ _ ⟨Z,?_⟩;rwa[LN hU,if_neg (by simp[WQ]),Yu]
     .exists _,Z,Xw _ _ ⟨Z,?_⟩;rw[LN hU,if_pos (by simp[WQ])];show NA.snoc ⟨tt,Z,VW⟩
    rintro uM H4 ⟨rfl,yH⟩ fL fK;rw[QD,YE]at yH;let u5:=XZ (o:=.lst uM) fK
    let ksh:=XR (H:=H4) (a:=fL) (o:=.lst uM);let hw5:=yH.same u5
    let zH:=u5 _ _ uN;let vK:=EO.same u5
    let GA:=MM.trans u5;let k5:=u5 _ _ k3
    generalize upd H4 fL (.lst uM)=H5 at *;show nm ?_;dsimp only[List.set];exists _,Z,b,Z,⟨_,SqL.of zH⟩,Wc (K:=K) (a:=b) (xs:=ys) (λi ws H6=>H6=H5/\TupsV H5 ws ((L.take i).filter λT=>decide<|z∈T)) ⟨Z,TupsV.nil⟩ (Zg J) (λi ws H6 hi h=>by let⟨e,ew⟩:=h;show⟨e▸SqL.of zH,by rw[ew.1];show Yn (Yr ..)<|by rw[Yh];lia⟩) ?_ ?_
    .rintro i v ws H6 hi ⟨rfl,NA⟩ S Xw;let⟨U,hU,tt,rfl,VW⟩:=vK.at hi;exists _,Z,_,Z,tt,_,Z,.inr<|SqT.of VW,Z,ZP _,_,Z,?_;rw[Vc];show WO (λWQ=>?_) (λWQ=>?_)
     .exists _,Z,Xw _ _ ⟨Z,?_⟩;rw[LN hU,if_pos (Yv WQ)];show NA.snoc ⟨tt,Z,VW⟩
     .show Xw _ _ ⟨Z,?_⟩;rwa[LN hU,if_neg (by simp[WQ]),Yu]
    rintro uL H6 ⟨rfl,yG⟩ fJ fI;rw[QD,YE]at yG;let u7:=XZ (o:=.lst uL) fI
    let kwi:=XR (H:=H6) (a:=fJ) (o:=.lst uL);let hw7:=yG.same u7
    let uK:=GA.trans u7;let k7:=u7 _ _ k5
    let fH:=u7 _ _ ksh;let fG:=hw5.same u7
    generalize upd H6 fJ (.lst uL)=H7 at *;show nm ?_;dsimp only[List.set];let iy:We (IL<|Wh n ps I O F'<|some z) 0=some (.int y):=ZJ (n:=0) rfl (UL first)
    let VY:∀U,With n ps I O U->HT.lexLt U F'=false:=λU hU=>least U ((hmem U).mpr hU);rw[Xt,YN]at Ra;exists _,Z,_,Z,_,Z,_,Z,_,Z,oA,_,0,.int y,Z,Z,SqL.of k7,iy,?_;exists a,fL,c,n,xs,uM,ps,_,I,O++[z],F',y,A',Z,uK _ _ ha,hP.same uK,hG,fH,fG,VH.filter _,jd hmem,Yn (Yr ..) GI,uK _ _ hc,XE,hIl,ZD7 QZ<|Yv zf.2.2.2.1,(jm (F2:=F') hG XE hF VY hz yu).1,J,gx,λr1 zs1 H8 s8 hr8 hZ1=>?_;show nm ?_;dsimp only[List.set];let fF:=uK.trans s8
    exists _,Z,_,Z,_,Z,_,Z,_,Z,(by change 1<=sizeLine;decide),λp9 yE=>?_;let u9:=XZ (o:=.lst<|IL [z]) yE
    show LV (l1:=I) (l2:=[z]) (u9 _ _<|fF _ _ hc) XR (by change _+1<=_;lia) λpk hpk=>?_;let Je:=u9.trans (XZ (o:=.lst<|IL<|I++[z]) hpk)
    let NJ:=fF.trans Je;let Gg:=s8.trans Je
    exists _,Z,oA,_,0,.int y,Z,Z,SqL.of<|Gg _ _ k7,iy,?_;obtain⟨F2,fE⟩:∃F2,(L.filter λT=>decide<|z∈T)[0]?=some F2:=by let⟨U,hU⟩:=Gq;exists _,Xq<|FR<|(vi hmem U).mpr hU
    let yD:(L.filter λT=>decide<|z∈T).Pairwise Vj:=VH.filter _;let wF2:=(vi hmem F2).mp (Xj fE)
    let mF2:∀U,With n ps (I++[z]) O U->HT.lexLt U F2=false:=λU hU=>jg yD fE U ((vi hmem U).mpr hU);let Iz:(I++[z]).length<=30:=by
     have:=kh hIn (m:=VJ ps.length) λv hv=>Xr.mpr (yJ v hv)
     rw[ZN]at this
     have:=hG.2.2.1
     lia
    exists a,fJ,pk,n,xs,uL,ps,_,I++[z],O,F2,y,sO,Z,NJ _ _ ha,hP.same NJ,hG,Gg _ _ kwi,hw7.same Gg,yD,vi hmem,Yn (Yr ..) GI,XR,yJ,Iz,fE,(jm hG XE hF VY hz yu).2 wF2 mF2,J,gu,λr2 uJ MN KS fD hZ2=>?_;show nm ?_;dsimp only[List.set];let Gf:=Je.trans KS
    exists _,Z,_,Z,r2,uJ,Z,SqL.of fD,λl12 fC=>?_;let Eu:=XZ (o:=.lst uJ.reverse) fC
    let z1:=hZ1.1;let z2:=hZ2.1
    exists r1,l12,zs1,uJ.reverse,Z,Z,Eu _ _<|Gf _ _ hr8,XR,OO (by rw[YN];lia),λr Rl=>?_;let fB:=Eu.trans (XZ (o:=.lst<|zs1++uJ.reverse) Rl)
    show q r _ _ (fF.trans<|Gf.trans fB) XR ?_;show((hZ1.same<|Gf.trans fB)).app ((hZ2.same fB).rev)
   |und Uw UB hiz=>
    rename_i F' inc;let rfl:F'=F:=Xv (least F'<|(hmem F').mpr Uw.tr) (Uw.least F hF);let fw:=Uw.none.mp rfl
    let one:1<=sizeLine:=sT;show WO (λh=>absurd h<|by rw[fw];change ¬(0:Int)>0;decide) λ_=>?_;show JH ?_;let lF:F'.length<=13:=by have:=hF.1.2.1;have:=hG.2.1;lia
    let hc3:=MM _ _ hc;let Ge:=MM _ _ Ew
    exists _,Z,tF,Z,⟨_,SqT.of Ge⟩,HU (K:=K) (a:=tF) (xs:=IL F') (λi ws H4=>Same H3 H4/\i<=F'.length/\ws=IL ((F'.take i).filter λt=>decide<|t∉I/\xchT F' t z∈L)) ⟨Same.refl _,Yk _,Z⟩ (Zg<|by rw[Xy];lia) (λi ws H4 hi h=>by let⟨e,Vf,ew⟩:=h;show⟨SqT.of<|e _ _ Ge,by rw[ew,Xy];show Yn (Yr ..)<|by rw[Yh];lia⟩) ?_ ?_
    .rintro i v ws H4 hi ⟨s4,Xo,rfl⟩ S Xw;let⟨y,rfl,hy⟩:=ZV hi;let Qn:=(Xx.mp hy).1
     exists _,Z,_,Z,c,_,Z,.inl<|SqL.of<|s4 _ _ hc3,Z,ZP _,_,Z,?_;rw[Vc];show WL (λWQ=>?_) (λWQ=>?_)
     .show Xw _ _ ⟨s4,Qn,?_⟩;rw[Zx hy,if_neg (by simp[WQ]),Yu]
     exists _,Z,_,Z,_,Z,tF,F',y,z,Z,SqT.of<|s4 _ _ Ge,J,λms UZ QH r5 H5 s5 Gm=>?_;let rfl:ms=xchT F' y z:=RQ (UZ.trans (UX F' y z).symm) QH (MQ F' y z);let uH:=s4.trans s5
     exists _,Z,nI (z:=xchT F' y z) ⟨r5,Z,Gm⟩ (SqL.of<|uH _ _ uN) (EO.same uH) ⟨_,Z,?_⟩;show WO (λhd=>?_) (λhd=>?_)
     .exists _,Z,Xw _ _ ⟨uH,Qn,?_⟩;rw[Zx hy,if_pos<|Yv ⟨WQ,hd⟩,ZU]
     .show Xw _ _ ⟨uH,Qn,?_⟩;rw[Zx hy,if_neg (by simp[hd]),Yu]
    rintro ws H4 ⟨s4,_,rfl⟩ lo Ng;rw[Xy,YE,je hG XE hF hz hmem];let u5:=s4.trans (XZ (o:=.lst<|IL<|WX n ps I F' z) Ng)
    let klo:=XR (H:=H4) (a:=lo) (o:=.lst<|IL<|WX n ps I F' z);let lvl:(WX n ps I F' z).length<=13:=Yn (Yr ..) (Yn (HL ..) lF)
    generalize upd H4 lo (.lst<|IL<|WX n ps I F' z)=H5 at *;show nm ?_;dsimp only[List.set];exists _,Z,one,λtA NN=>?_;let u6:=XZ (o:=.lst [.ref tF]) NN
    let ktA:=XR (H:=H5) (a:=tA) (o:=.lst [.ref tF]);let Jf:=MM.trans (u5.trans u6)
    let GC:H tA=none:=(MM.trans u5).free NN;let n2:lo≠tA:=Za klo NN
    let fv:=u6 _ _ klo;let hf6:=u6 _ _ (u5 _ _ uZ)
    let htF6:=Jf _ _ Ew;generalize upd H5 tA (.lst [.ref tF])=H6 at *;show nm ?_;dsimp only[List.set];exists _,Z,fA,Z,⟨_,SqL.of hf6⟩,Wc (K:=K) (a:=fA) (xs:=IL<|Xl n ps I O F') (λi ws H7=>H7=H6/\i<=(Xl n ps I O F').length/\ws=IL (((Xl n ps I O F').take i).filter λt=>decide<|t≠z)) ⟨Z,Yk _,Z⟩ (Zg<|by rw[Xy];lia) (λi ws H7 hi h=>by let⟨e,Vf,ew⟩:=h;show⟨e▸SqL.of hf6,by rw[ew,Xy];show Yn (Yr ..)<|by rw[Yh];lia⟩) ?_ ?_
    .rintro i v ws H7 hi ⟨rfl,hil2,rfl⟩ S Xw;let⟨y,rfl,hy⟩:=ZV hi;let Qn:=(Xx.mp hy).1
     exists _,Z,_,Z,Z,_,Z,?_;rw[ZA];show WL (λWQ=>?_) (λWQ=>?_)
     .show Xw _ _ ⟨Z,Qn,?_⟩;rw[Zx hy,if_neg (by simpa using WQ),Yu]
     .exists _,Z,Xw _ _ ⟨Z,Qn,?_⟩;rw[Zx hy,if_pos<|Yv WQ,ZU]
    rintro ws H7 ⟨rfl,_,rfl⟩ p8 uP;rw[Xy,YE];let yC:inc=((Xl n ps I O F').filter λt=>decide<|t≠z)++[z]:=jf (by rw[<-Jr fw];show Uw.inc) RC hz
    let fl:((Xl n ps I O F').filter λt=>decide<|t≠z).length<=30:=Yn (Yr ..) opl;exists _,Z,one,λp9 yE=>?_;show LV (l2:=[z]) (by rw[XJ (Za XR yE)];show XR) XR (by change _+1<=_;lia) λtw htw=>?_;let Je:=Zr (Zr (XZ (o:=.lst<|IL<|(Xl n ps I O F').filter λt=>decide<|t≠z) uP) (o:=.lst [.int z]) yE) (o:=.lst<|IL<|((Xl n ps I O F').filter λt=>decide<|t≠z)++[z]) htw
    let n1:tA≠tw:=Za (Zr (XZ (o:=.lst<|IL<|(Xl n ps I O F').filter λt=>decide<|t≠z) uP) (o:=.lst [.int z]) yE _ _ ktA) htw;rw[<-yC]at Je ⊢;let ktw:=XR (H:=upd (upd H7 p8<|.lst<|IL<|(Xl n ps I O F').filter λt=>decide<|t≠z) p9<|.lst [.int z]) (a:=tw) (o:=.lst<|IL inc)
    let NJ:=Jf.trans Je;generalize upd (upd (upd H7 p8<|.lst<|IL<|(Xl n ps I O F').filter λt=>decide<|t≠z) p9<|.lst [.int z]) tw (.lst<|IL inc)=HX at *;show nm ?_;dsimp only[List.set];exists _,Z,tw,Z,⟨_,SqL.of ktw⟩,CB (K:=K) (a:=tw) (xs:=IL inc) (λi σ HA=>∃(zs:List V)(ft fq fo:Option V),σ=[some (.int n),some<|.ref a,some<|.ref b,some<|.ref c,some<|.int z,some<|.ref tF,some<|.ref fA,some<|.ref oA,none,none,none,none,some<|.ref lo,some<|.ref tA,some<|.ref tw,ft,fq,fo]/\Same H HA/\HA tw=some (.lst<|IL inc)/\HA lo=some (.lst<|IL<|WX n ps I F' z)/\HA tA=some (.lst zs)/\TupsV HA zs (F'::Vi n ps I F' (inc.take i) (inc.length%2 == 1))/\zs.length<=1+13*i) ⟨[.ref tF],none,none,none,Z,NJ,ktw,Je _ _ fv,Je _ _ ktA,TupsV.one ⟨tF,Z,NJ _ _ Ew⟩,XM _⟩ (λi σ HA _ h=>by let⟨_,_,_,_,_,_,e,_⟩:=h;show SqL.of e) ?_ ?_;rotate_left
    .rintro σ HA ⟨zs,ft,fq,fo,rfl,sA,yB,yA,Gd,EK,zl⟩;rw[Xy,YE]at EK;exists _,Z,q tA zs HA sA Gd EK
    rintro i v σ HA pt Uu hi ⟨zs,ft,fq,fo,rfl,sA,yB,yA,Gd,EK,zl⟩;let⟨y,rfl,hy⟩:=ZV hi;let fk:=(Xx.mp hy).1
    let yop:y∈Xl n ps I O F':=by
     have:=Xj hy
     rw[yC]at this;rcases XA.mp this with e|e
     .show(Ya.mp e).1
     .rw[XG.mp e];show hz
    let lvy:WX n ps I F' y=WX n ps I F' z:=by
     have:y∈Ua n ps I O F' (some z):=by rwa[Jr fw]
     let⟨_,h⟩:=Ya.mp this;let⟨x,e,h⟩:=Yt h;show Zg9 hG XE hF (opb y yop) zf.1 (by rwa[Ye e])
    let uB:=XZ (o:=.tup [.int i,.int y]) Uu;exists pt,_,Z,SqT.of XR,Z,_,_,Z,_,_,Z,Z,?_;let sB:=sA.trans uB
    let yy:=uB _ _ yB;let Gb:=uB _ _ yA
    let fj:=uB _ _ Gd;let fi:=EK.same uB
    generalize upd HA pt (.tup [.int i,.int y])=HB at *;exists _,Z,lo,Z,⟨_,SqL.of Gb⟩,Wc (K:=K) (a:=lo) (xs:=IL<|WX n ps I F' z) (λj ws HC=>Same HB HC/\j<=(WX n ps I F' z).length/\TupsV HC ws (((WX n ps I F' z).take j).map λo=>xchT F' o y)) ⟨Same.refl _,Yk _,TupsV.nil⟩ (Zg<|by rw[Xy];lia) (λj ws HC hj h=>by let⟨e,SF,ew⟩:=h;show⟨SqL.of<|e _ _ Gb,by rw[ew.1,Yc,Yh];lia⟩) ?_ ?_
    .rintro j v ws HC hj ⟨sC,Vg,NA⟩ S Xw;let⟨o,rfl,ho⟩:=ZV hj;let Rp:=(Xx.mp ho).1
     let sBC:=sB.trans sC;exists _,Z,_,Z,_,Z,tF,F',o,y,Z,SqT.of<|sBC _ _ Ew,J,λms UZ QH r5 HD sD Gm=>?_;let rfl:ms=xchT F' o y:=RQ (UZ.trans (UX F' o y).symm) QH (MQ F' o y);show Xw _ _ ⟨sC.trans sD,Rp,?_⟩;rw[YY,ho,YK];show(NA.same sD).snoc ⟨r5,Z,Gm⟩
    rintro ws HC ⟨sC,_,NA⟩ rA PN;rw[Xy,YE]at NA;let uD:=XZ (o:=.lst ws) PN
    let uG:=XR (H:=HC) (a:=rA) (o:=.lst ws);let yx:=NA.same uD
    let fh:HB rA=none:=sC.free PN;let fg:=sC.trans uD
    let wl:=NA.1;rw[Yc]at wl;generalize upd HC rA (.lst ws)=HD at *;show nm ?_;dsimp only[List.set];let par:((inc.length%2 == 1) != (i%2 == 1))=decide ((inc⁻¹-i)%2=1):=by rcases uC inc.length with h1|h1<;>rcases uC i with h2|h2<;>rw[h1,h2]<;>simp<;>omega
    show Jy (λσ HE=>σ=[some (.int n),some<|.ref a,some<|.ref b,some<|.ref c,some<|.int z,some<|.ref tF,some<|.ref fA,some<|.ref oA,none,none,none,none,some<|.ref lo,some<|.ref tA,some<|.ref tw,some<|.int i,some<|.int y,some ↑rA]/\∃Et,HE rA=some (.lst Et)/\TupsV HE Et (Vw n ps I F' ((inc.length%2 == 1) != (i%2 == 1)) y)/\Same HB HE/\Et.length<=13) ?_ ?_;rotate_left
    .intro Kn hK;exists _,Z,tw,_,Z,.inl<|SqL.of<|fg _ _ yy,_,Z,_,_,Z,Z,_,_,Z,Z,(by change(0:Int)<2;decide),Z,_,Z,?_;rw[ZA,Xy];show WO (λhe=>?_) (λhe=>?_)
     .let e2:((inc.length%2 == 1) != (i%2 == 1))=false:=by rw[par];show Sw J
      exists _,Z,.inl ⟨Z,_,SqL.of uG⟩,rA,ws,Z,Z,uG,?_;show hK _ _ ⟨Z,ws.reverse,XR,?_,ZI fh fg,by rw[YN];lia⟩;rw[e2];change TupsV _ _ ((WX n ps I F' y).map λo=>xchT F' o y).reverse
      rw[lvy];show(TupsV.mut yx uG).rev
     .let e2:((inc.length%2 == 1) != (i%2 == 1))=true:=by rw[par];show Yv J
      show hK _ _ ⟨Z,ws,uG,?_,fg,J⟩;rw[e2];change TupsV _ _ ((WX n ps I F' y).map λo=>xchT F' o y)
      rwa[lvy]
    rintro σ HE ⟨rfl,Et,hrE,hwE,sE,wl'⟩;let Ga:=sE _ _ fj
    exists _,Z,.inl ⟨Z,_,SqL.of Ga⟩,_,Z,tA,rA,zs,Et,Z,Z,Ga,hrE,OO J,?_;show⟨zs++Et,_,_,_,Z,ZI GC<|sB.trans sE,by rw[XJ (Xa n1)];show sE _ _ yy,by rw[XJ n2];show sE _ _ Gb,XR,?_,by rw[Xt];lia⟩;rw[YY,hy];let e3:=vw n ps I F' y (inc.take i) (inc.length%2 == 1)
    rw[Yh,IZ (Qf fk)]at e3;change TupsV _ _ (F'::Vi n ps I F' (inc.take i++[y]) (inc.length%2 == 1))
    rw[e3];show TupsV.mut ((fi.same sE).app hwE) Ga
 induction d with
 |zero=>show key 0 0 _ ZQ9 J λe h=>(by cases h)
 |succ d ih=>show key (d+1) (3+d) _ ih J λe h=>(by cases h;rfl)
inductive spZM(K:Ad)(vs:List V)(H:Hp)(Q:VK)(_:XK):Prop
 |mk (a:Addr) (n:Int) (xs:List V) (ps:Aa) (R:Ab) (_:vs=[.int n,.ref a]) (_:H a=some (.lst xs)) (_:PairsV H xs ps) (_:Zy n ps) (_:ps.length<=10) (_:((∃U,Ze n ps U)->RowW n ps R/\R.Nodup/\∀U,U∈R↔Ze n ps U)) (_:((∀U,¬Ze n ps U)->R=[])) (_:∀(r:Addr)(zs:List V)(H':Hp),Same H H'->H' r=some (.lst zs)->TupsV H' zs R->R.length<=1024->Q ↑r H')
def ff(T:Txt K mg t):WR P w base Xd T.qZM 37 (spZM K):=by
 show T.qZM.okI ["count","ties","trees"] sQ λXu A outer s H vs Q E hr h=>?_
 .let⟨a,n,xs,ps,R,rfl,ha,hP,hG,RB,hR,yw,q⟩:=h;show⟨_,(XI (Zf 2<|Zb (f7 T) hr T.qZG ZF<|XY (pv 0)<|XY (pv 1) XT)
   (XI (VL (Zi Kq (Zh (Zp K) sU T.n_len Boot.«len»<|XY (pv 2) XT) Zc<|Zw _)
   (XC<|Zm<|pv 2)
   Zu)
   (XC<|Zm<|Zb (fM T 31) hr T.qZL ZF<|XY (pv 0)<|XY (pv 1)<|XY (pv 2)<|XY (TY XT)<|XY (ZL (Zd K) (Zb (yK T) hr T.qZK ZF<|XY (pv 2)<|XY (TY XT) XT) Zc λ_ _=>rfl) XT))),?_⟩
  exists _,Z,_,Z,n,a,xs,ps,Z,SqL.of ha,hP,hG,RB,λeA ys L H1 s1 yt hL GI hmem VH=>?_;show nm ?_;dsimp only[List.set];let QD:=hL.1
  exists _,Z,eA,ys,Z,.inl<|SqL.of yt,_,_,Z,Z,_,Z,?_;let eRL:(∃U,Ze n ps U)->R.length=L.length:=λh=>((Us (hR h).2.1 (Zj7 VH)).mpr λz=>by rw[(hR h).2.2,hmem]).length_eq
  cases hex:∃U,Ze n ps U;rotate_left
  .let e0:R=[]:=yw λU hU=>hex ⟨U,hU⟩;let l0:L=[]:=FW.mpr λU hU=>hex ⟨U,(hmem U).mp hU⟩
   subst e0 l0;show WO (λ_=>⟨_,Z,q eA ys H1 s1 yt hL<|Yk _⟩) (λh=>absurd (by rw[QD];decide) h)
  let⟨fe,hRn,hRm⟩:=hR hex;let el:=eRL hex
  let l0:0<L.length:=by let⟨U,hU⟩:=hex;show FR ((hmem U).mpr hU)
  obtain⟨F,QZ⟩:∃F,L[0]?=some F:=⟨_,Xq l0⟩;let hF:=(hmem F).mp (Xj QZ)
  let VY:∀U,Ze n ps U->HT.lexLt U F=false:=λU hU=>jg VH QZ U ((hmem U).mpr hU);show WO (λh=>?_) (λh=>?_)
  .exists _,Z,q eA ys H1 s1 yt ?_ J;let r1:R.length=1:=J
   let l1:L.length=1:=J;let FZ:=(ZR6 (L:=F) hG fe hF VY).1
   let⟨x,rfl⟩:=ug.mp r1;let⟨y,rfl⟩:=ug.mp l1;rwa[show x=F from Ye FZ,<-show y=F from Ye QZ]
  show JH ?_;let gt:1<R.length:=J
  let⟨ld,F',inc,fu,Uw,h1,h2,NR,hTC⟩:=id fe;let rfl:F'=F:=Xv (VY F' Uw.tr.1) (Uw.least F<|VT.mpr hF);let⟨z,o,z1,z2,_,_,_⟩:=Zj8 hG fe hF VY gt;let rfl:ld=some z:=by
   cases ld with
   |none=>rw[h1.mp Z]at z1;cases z1
   |some y=>
    let a1:=(h2 y Z)
    have:=a1.2 z z1
    have:=z2 y a1.1
    rw[show y=z by lia]
  let hmw:∀T,T∈L↔With n ps [] [] T:=λT=>by rw[VT,hmem]
  let nb:∀v∈([]:Ac),0<=v/\v<ps⁻¹:=λv h=>by cases h
  exists _,Z,_,Z,_,Z,Yk _,λp1 Uv=>?_;let u1:=XZ (o:=.lst []) Uv
  let k1:=XR (H:=H1) (a:=p1) (o:=.lst []);exists _,Z,Yk _,λp2 VO=>?_;let u2:=XZ (o:=.lst []) VO
  let Eu:=u1.trans u2;exists eA,p2,n,ys,ps,L,[],[],F',Z,Eu _ _ yt,hL.same Eu,hG,SqL.of XR,nb,hmw,QZ,λfA H4 s4 hf0 NL=>?_;let EA:=Eu.trans s4
  exists fA,_,0,.int z,Z,Z,SqL.of NL,ZJ (n:=0) Z<|UL<|z8 RC z1 z2,?_;let GB:=s1.trans EA
  exists a,eA,p1,n,xs,ys,ps,L,[],[],F',z,R,Z,GB _ _ ha,hP.same GB,hG,EA _ _ yt,hL.same EA,VH,hmw,GI,(u2.trans s4) _ _ k1,nb,Yk _,QZ,z1,J,NR,λr zs H5 s5 Gm hZ=>q r zs H5 (GB.trans s5) Gm hZ J
inductive spZN(K:Ad)(Pt:Addr)(vs:List V)(H:Hp)(Q:VK)(_:XK):Prop
 |mk (a:Addr) (ns:Ac) (_:vs=[.ref a]) (_:SqL K H a (IL ns)) (_:ns.length<=63) (_:Wf H Pt) (_:∀H',Q (.bl true) H')
def fc{Pt:Addr}(T:Txt K mg t)(hB:RE K mg base t.dZt Pt):WR P w base Xd T.qZN 46 (spZN K Pt):=by
 show T.qZN.okI ["script","count","ties","found","due","tree"] sQ λXu A outer s H vs Q E hr h=>?_
 .let⟨a,ns,rfl,hS,yT,hTb,k⟩:=h;show⟨_,(XI (Zf 1<|Zz VD Zc<|Zz Th (Zb (KN T) hr T.qZD ZF<|XY (pv 0)<|XY Zc XT) Zc)
   (XI (Zf 2<|Zb (gc T) hr T.qZF ZF<|XY (pv 0)<|XY (pv 1)<|XY Zc XT)
   (XI (Zf 3<|Zb (gh T hB) hr T.qZC ZF<|XY (Dn T.k_Web (zP T) (hr.mono sT) Z T.c_Web T.bZ8 .nil ZF<|XY (pv 1)<|XY (pv 2) XT)<|XY Zc<|XY Zc XT)
   (XI (Zf 4<|Ko (Kd K) (Zb (ff T) hr T.qZM ZF<|XY (pv 1)<|XY (pv 2) XT) Ij<|Tz Zc)
   (XI (VL (PW.pt<|Pg (Uo<|Mq<|Zh (pC K (T:="list")) sU T.n_isinstance Boot.«isinstance»<|XY (pv 3)<|XY (IE (v:=V.ty "list") Z T.n_list Boot.«list» Z) XT)<|DL<|Zi (cS K<|CG hr) (pv 3) (pv 4)<|Zw _)
   (XC<|Zm QS)
   Zu)
   (XI (TH Wz Z (Zv K<|pv 3) (Xc 5)
   (XC (VL (PW.pt<|Pg (Uo<|Mq<|Zh (pC K (T:="tuple")) sU T.n_isinstance Boot.«isinstance»<|XY (pv 5)<|XY (IE (v:=V.ty "tuple") Z T.n_tuple Boot.«tuple» Z) XT)<|DL<|Uo<|Mq<|Zh (o3 K Z) sU T.n_all Boot.«all»<|XY (Ww Z (sc0:=Xe sZN) (N0:=["script","count","ties","found","due","tree"]) (N':=["tie"]) (o:=1) (fr:=[]) ⟨Z,sQ,sQ,sQ,Z,sQ⟩ (Kc K<|pv 5) (Zn sT) (λ_ _ _ _=>(Xc 0)) (λ_ _ _ _=>RT) λ_ _ _ _=>(Zh (pC K (T:="int")) sU T.n_isinstance Boot.«isinstance»<|XY (pv 0)<|XY (IE (v:=V.ty "int") Z T.n_int Boot.«int» Z) XT)) XT)
   (XC<|Zm QS)
   Zu)))
   (XC<|Zm QS))))))),?_⟩
  exists _,Z,a,ns,0,Z,hS,sT,λhd=>⟨_,_,Z,Z,(by change(0:Int)<6;decide),_,_,Z,Z,?_⟩;let c0:0<=hd%6:=IY _ sT
  let c1:hd%6<6:=FL _ sT;obtain⟨n,hn⟩:∃n:Int,1+hd%6=n:=⟨_,Z⟩;show nm ?_;dsimp only;rw[hn];exists _,Z,_,Z,a,ns,n,10,Z,hS,yT,J,J,sT,sT,λl xs ps H1 s1 Oa Ta hP UQ hpg=>?_;let hG:Zy n ps:=⟨J,J,J,hpg⟩
  let QC:=hP.1;obtain⟨R,hR,yw⟩:∃R:Ab,((∃U,Ze n ps U)->RowW n ps R/\R.Nodup/\∀U,U∈R↔Ze n ps U)/\((∀U,¬Ze n ps U)->R=[]):=by
   cases h:∃U,Ze n ps U
   .let⟨R,h1,h2,h3⟩:=js hG h;exists R,λ_=>⟨h1,h2,h3⟩,λno=>absurd h.choose_spec<|no _
   .exists [],λq=>absurd q h,λ_=>rfl
  exists _,Z,_,Z,λx dx nx NK KU=>?_;let t1:Same H1 (upd (upd H1 dx<|.own x) x<|.ins t.A_Web dx []):=Zr (XZ NK) (by rwa[XJ (Xa KU)])
  exists x,dx,n,l,false,xs,ps,Z,XR,λo=>?_,hP.same t1,hG,λH2 hW k3=>⟨Z,?_⟩
  .show SqL.of (by rwa[XJ (Za Ta nx),XJ<|Za Ta nx,XJ (Za Ta NK)])
  let s2:Same H1 H2:=λb o e=>k3 b o (t1 b o e) (Za e nx);let VB:=s2 _ _ Ta
  let PK:=s1.trans s2;let Wj:=hTb.same PK
  exists x,n,ps,0,300,R,Z,hW,hG,Wj,sT,sT,sT,sT,λh=>(hR h).1,yw,λfA fs H3 Ez Rz hf0 iu hX=>?_;rw[show(0:Int).toNat=0 from Z,show(300:Int).toNat=300 from Z,Kz]at hX;show nm ?_;dsimp only[List.set];let MP:=Ez _ _ (Wj.ne VB B) VB
  let yS:PairsV H3 xs ps:=⟨QC,λi p h=>by let⟨v,hv,tt,rfl,e⟩:=(hP.same s2).2 i p h;exists _,hv,tt,Z,Ez _ _ (Wj.ne e B) e⟩;exists _,Z,_,Z,l,n,xs,ps,R,Z,MP,yS,hG,J,hR,yw,λdA zs H4 s4 g6 hZ Ra=>?_;exists _,Z,dA,zs,Z,SqL.of g6,λuA gV=>?_;rw[oq sT,show(300:Int).toNat=300 from Z];let u5:=XZ (o:=.lst<|zs.take 300) gV
  let kuA:=XR (H:=H4) (a:=uA) (o:=.lst<|zs.take 300);let s35:=s4.trans u5
  let uE:=s35 _ _ iu;let hX5:TupsV (upd H4 uA<|.lst<|zs.take 300) fs (R.take 300):=⟨hX.1,λi p h=>by let⟨v,hv,c,e,hc⟩:=hX.2 i p h;exists v,hv,c,e,s35 _ _ hc⟩
  let hZ5:=(hZ.same u5).take 300;show nm ?_;dsimp only[List.set];generalize upd H4 uA (.lst<|zs.take 300)=H5 at *;show Jy (λσ H6=>σ=[some ↑a,some<|.int n,some<|.ref l,some<|.ref fA,some<|.ref uA,none]/\H6=H5) ?_ ?_;rotate_left
  .intro Kn hK;exists _,Z,_,_,_,Z,TyOf.lst uE,pf,_,Z,?_;show SJ ?_;exists _,Z,_,Z,2,_,fA,uA,Z,Z,sT,oB (SqL.of uE) (SqL.of kuA) hX5 hZ5,_,Z,?_;rw[Yv Z];show SJ (hK _ _ ⟨Z,Z⟩)
  rintro σ H6 ⟨rfl,rfl⟩;show⟨_,Z,fA,Z,⟨_,SqL.of uE⟩,Iv (K:=K) (a:=fA) (xs:=fs) (λi σ H7=>∃v5:Option V,σ=[some ↑a,some<|.int n,some<|.ref l,some<|.ref fA,some<|.ref uA,v5]/\Same H6 H7) ⟨none,Z,Same.refl _⟩ (λi σ H7 _ h=>by let⟨_,_,e⟩:=h;show SqL.of<|e _ _ uE) ?_ λσ H7 h=>by let⟨_,e,_⟩:=h;rw[e];show k _⟩;rintro i v σ H7 hi ⟨v5,rfl,s7⟩;let⟨U,hU,c,rfl,hc⟩:=hX5.at hi;let zv:=s7 _ _ hc
  let lU:U.length<=20:=by
   let fb:=VR (Xj hU);let hU':Ze n ps U:=Yz λno=>by
    cases h:∃U,Ze n ps U
    .show no (((hR h).2.2 U).mp fb)
    .rw[yw λU hU=>h ⟨U,hU⟩]at fb;cases fb
   have:=hU'.2.1
   lia
  show nm ?_;dsimp only[List.set];exists _,Z,_,_,_,Z,TyOf.tup zv,pf,_,Z,?_;show SJ ?_;exists _,Z,c,Z,⟨_,SqT.of zv⟩,HU (K:=K) (a:=c) (xs:=IL U) (λj bs H8=>H8=H7/\j<=U.length/\bs=(List.replicate j true).map V.bl) ⟨Z,Yk _,Z⟩ (Zg<|by rw[Xy];lia) (λj bs H8 hj h=>by let⟨e,SF,ew⟩:=h;show⟨e▸SqT.of zv,by rw[ew,Yc,YU];show XM _⟩) ?_ ?_
  .rintro j v bs H8 hj ⟨rfl,Vg,rfl⟩ S Xw;let⟨y,rfl,hy⟩:=ZV hj;exists _,Z,_,_,_,Z,TyOf.int _,pf,Xw _ _ ⟨Z,(Xx.mp hy).1,?_⟩;rw[List.replicate_succ',YK];rfl
  rintro bs H8 ⟨rfl,_,rfl⟩ bA hbA;exists bA,_,Z,SqL.of XR,_,Z,?_;rw[show(List.replicate (IL U).length true).all id=true by simp];show SJ ⟨_,Z,s7.trans<|XZ hbA⟩
end
end My
namespace My
open PySem L2
def Qm{K:Ad}{f:Addr}{fd:FuncData}(F:Fun K "law" "law" sZN f fd)(s:Shared)(u:Value):BindsTo s fd ⟨[u],[]⟩ [("script",u)]:=by let⟨oc,od,kV,doc,pm,an,Xu,ct,Tf,rfl,lk,Sr⟩:=F.ex;show .of_eq rfl
end My
open PySem PySem.W PyProof.Rows
set_option maxRecDepth 100000 in
set_option maxHeartbeats 0 in
theorem PySem.Challenge.cw_spanrow_k37_whole_row_by_its_words_holds : PySem.Challenge.rw_spanrow_k37_whole_row_by_its_words.Holds := by
 w_on;o_law;k_head;(case hw=>w_witness2)
 k_fill
 refine L2.NW (l:=PySem.Challenge.rw_spanrow_k37_whole_row_by_its_words) (n:=63) (k:=46) (x:="script") (CX:=L2.Xd) (sp:=λK=>My.spZN K 308) (c:=310) (Pt:=308) rfl (by decide) rfl ⟨rfl,by decide,by decide⟩ (λw h Y=>⟨PySem.W.km_in_of Y,PySem.W.km_tabs_of Y 308 (XG.mpr rfl)⟩) ?C ?P ?F (λ_ H a ns hl hO hS=>⟨a,ns,rfl,hS,hl,⟨#[],hO.1,trivial,.inl rfl⟩,λ_=>rfl⟩) (λ_ _ _ _ z=>z)
 case C=>intro w;kernel_rfl
 case P=>intro w;kernel_rfl
 case F =>
  intro w mg fa h KX G CQ
  let f x n:=My.FQ (L2.Ki KX) mg x (My.top n)
  obtain⟨⟨aZ0,dZ0,qZ0⟩,⟨aZ1,dZ1,qZ1⟩,⟨aZ2,dZ2,qZ2⟩,⟨aZ3,dZ3,qZ3⟩,⟨aZ4,dZ4,qZ4⟩,⟨aZ5,dZ5,qZ5⟩,⟨aZ6,dZ6,qZ6⟩,⟨aZ7,dZ7,qZ7⟩,⟨aZ9,dZ9,qZ9⟩,⟨aZa,dZa,qZa⟩,⟨aZb,dZb,qZb⟩,⟨aZc,dZc,qZc⟩,⟨aZd,dZd,qZd⟩,⟨aZe,dZe,qZe⟩,⟨aZf,dZf,qZf⟩,⟨aZg,dZg,qZg⟩,⟨aZh,dZh,qZh⟩,⟨aZi,dZi,qZi⟩,⟨aZj,dZj,qZj⟩,⟨aZk,dZk,qZk⟩,⟨aZl,dZl,qZl⟩,⟨aZm,dZm,qZm⟩,⟨aZn,dZn,qZn⟩,⟨aZo,dZo,qZo⟩,⟨aZp,dZp,qZp⟩,⟨aZq,dZq,qZq⟩,⟨aZr,dZr,qZr⟩,⟨aZs,dZs,qZs⟩,⟨aZu,dZu,qZu⟩,⟨aZv,dZv,qZv⟩,⟨aZw,dZw,qZw⟩,⟨aZx,dZx,qZx⟩,⟨aZy,dZy,qZy⟩,⟨aZz,dZz,qZz⟩,⟨aZA,dZA,qZA⟩,⟨aZB,dZB,qZB⟩,⟨aZC,dZC,qZC⟩,⟨aZD,dZD,qZD⟩,⟨aZE,dZE,qZE⟩,⟨aZF,dZF,qZF⟩,⟨aZG,dZG,qZG⟩,⟨aZH,dZH,qZH⟩,⟨aZI,dZI,qZI⟩,⟨aZJ,dZJ,qZJ⟩,⟨aZK,dZK,qZK⟩,⟨aZL,dZL,qZL⟩,⟨aZM,dZM,qZM⟩,⟨aZN,dZN,qZN⟩⟩:f "refuse_not_square" 9 ["table"]/\f "row_taken_off" 10 ["row","pivot","last"]/\f "first_with_some" 11 ["rows"]/\f "determinant" 12 ["table"]/\f "row_without" 13 ["row","number"]/\f "table_without" 14 ["table","number"]/\f "is_tie" 20 ["web","number"]/\f "refuse_bad_web" 19 ["places","ties"]/\f "ties_beside" 21 ["web","ties"]/\f "ties_without" 22 ["ties","left_out"]/\f "is_set" 23 ["web","ties"]/\f "made_set" 24 ["web","ties"]/\f "merged_marks" 25 ["web","marks","ties"]/\f "piece_marks" 26 ["web","ties"]/\f "pieces_of" 27 ["web","ties"]/\f "is_joined" 28 ["web","ties"]/\f "weighted_table" 30 ["web","weights"]/\f "pull_table" 31 ["web"]/\f "tree_count" 32 ["web"]/\f "part_count" 33 ["web","inside","outside"]/\f "is_tree" 35 ["web","ties"]/\f "refuse_no_tree" 36 ["web","tree"]/\f "grown_tree" 37 ["web","inside","order"]/\f "tree_cut" 38 ["web","tree","tie"]/\f "ring_of" 39 ["web","tree","tie"]/\f "least_in" 41 ["web","inside","outside"]/\f "end_pieces" 44 ["web","marks","tie"]/\f "open_ties" 45 ["web","marks","gone"]/\f "whole_part" 47 ["web"]/\f "half_without" 48 ["part"]/\f "half_with" 49 ["part"]/\f "part_size" 50 ["part"]/\f "trees_with_tie" 51 ["part","into"]/\f "undivided_row" 52 ["part"]/\f "trees_between" 53 ["part","size","start","stop"]/\f "refuse_below_nought" 42 ["number"]/\f "row_from" 54 ["web","number","most"]/\f "_law_at" 56 ["script","k"]/\f "_law_mixed" 57 ["cell","k"]/\f "_law_ties" 58 ["script","count","most"]/\f "_law_trees" 59 ["count","ties"]/\f "_law_swapped" 60 ["tree","out","into"]/\f "_law_marks" 61 ["count","ties","kept"]/\f "_law_twins" 62 ["count","ties","kept","lead","other"]/\f "_law_open" 63 ["trees","kept"]/\f "_law_row" 64 ["count","ties","trees","kept","lead"]/\f "_law_whole_row" 65 ["count","ties"]/\My.FQ (L2.Ki KX) mg "law" My.sZN ["script"]:=by
   dsimp only [L2.Ki,f]
   and_intros
   all_goals (refine' My.z9 KX G ?a ?l ?c ?k ?b;(case a | l | c | k=>k_is);(case b=>first | exact λ_ _ _ _ _ _=>My.un1 λ_=>rfl | exact λ_ _ _ _ _ _=>My.qk λ_ _=>rfl | exact λ_ _ _ _ _ _=>My.un3 λ_ _ _=>rfl | exact λ_ _ _ _ _ _=>My.un4 λ_ _ _ _=>rfl | exact λ_ _ _ _ _ _=>My.un5 λ_ _ _ _ _=>rfl))
  have yr:My.cZ (L2.Ki KX) mg "Web" "Web.__init__" My.sZ8 ["places","ties"]:=by
   dsimp only [L2.Ki];refine' My.CC KX G ?aC ?a ?i ?l ?c ?k ?pg ?hd ?po ?sa ?mk ?kc ?na
   (case aC | a | i | l | c | k | pg | hd | po | sa | mk | kc=>k_is)
   (case na=>(intro f hf;simp only [Yi,tX,or_false]at hf;rcases hf with rfl | rfl <;> k_is))
  have FY:My.Ay (L2.Ki KX) mg "Part" "Part.__init__" My.sZt ["web","kept","shut","lead","least","incoming","further"] 308:=by
   dsimp only [L2.Ki];refine' My.GQ KX G ?aC ?a ?i ?l ?c ?k ?pg ?hd ?po ?sa ?mk ?kc ?na ?z
   (case aC | a | i | l | c | k | pg | hd | po | sa | mk | kc=>k_is)
   (case na=>(intro f hf;simp only [Yi,tX,or_false]at hf;rcases hf with rfl | rfl | rfl | rfl | rfl | rfl | rfl <;> k_is))
   (case z=>kernel_rfl)
  have h_MOST_PLACES:∃ tk,mg "MOST_PLACES"=some (.int 14 tk):=by
   refine' My.SH KX G ?a ?b
   (case a=>k_is);(case b=>exact⟨_,rfl⟩)
  have h_MOST_TIES:∃ tk,mg "MOST_TIES"=some (.int 30 tk):=by
   refine' My.SH KX G ?a ?b
   (case a=>k_is);(case b=>exact⟨_,rfl⟩)
  obtain⟨yq,h_enumerate,yp,h_isinstance,yn,FX,yk,yj,KL,h_reversed,yi,Nz,KJ,yh⟩:mg "all"=none/\mg "enumerate"=none/\mg "int"=none/\mg "isinstance"=none/\mg "len"=none/\mg "list"=none/\mg "max"=none/\mg "min"=none/\mg "range"=none/\mg "reversed"=none/\mg "set"=none/\mg "sorted"=none/\mg "tuple"=none/\mg "zip"=none:=by and_intros <;> refine' PySem.W.mg_none_of KX G ?_ <;> k_is
  obtain⟨A_Web,aZ8,dZ8,c_Web,fZ8,cl_Web,k_Web,Ny⟩:=yr;obtain⟨A_Part,aZt,dZt,yg,c_Part,fZt,cl_Part,k_Part,Wi,yf,ye⟩:=FY;have T:My.Txt (L2.Ki KX) mg ⟨aZ0,aZ1,aZ2,aZ3,aZ4,aZ5,aZ6,aZ7,aZ8,aZ9,aZa,aZb,aZc,aZd,aZe,aZf,aZg,aZh,aZi,aZj,aZk,aZl,aZm,aZn,aZo,aZp,aZq,aZr,aZs,aZt,aZu,aZv,aZw,aZx,aZy,aZz,aZA,aZB,aZC,aZD,aZE,aZF,aZG,aZH,aZI,aZJ,aZK,aZL,aZM,aZN,A_Web,A_Part,dZ0,dZ1,dZ2,dZ3,dZ4,dZ5,dZ6,dZ7,dZ8,dZ9,dZa,dZb,dZc,dZd,dZe,dZf,dZg,dZh,dZi,dZj,dZk,dZl,dZm,dZn,dZo,dZp,dZq,dZr,dZs,dZt,dZu,dZv,dZw,dZx,dZy,dZz,dZA,dZB,dZC,dZD,dZE,dZF,dZG,dZH,dZI,dZJ,dZK,dZL,dZM,dZN⟩:=⟨qZ0,qZ1,qZ2,qZ3,qZ4,qZ5,qZ6,qZ7,fZ8,fZ8.binds (λ_ _ _ _ _ _=>My.un3 λ_ _ _=>rfl),qZ9,qZa,qZb,qZc,qZd,qZe,qZf,qZg,qZh,qZi,qZj,qZk,qZl,qZm,qZn,qZo,qZp,qZq,qZr,qZs,fZt,fZt.binds (λ_ _ _ _ _ _=>My.un5 λ_ _ _ _ _=>rfl),qZu,qZv,qZw,qZx,qZy,qZz,qZA,qZB,qZC,qZD,qZE,qZF,qZG,qZH,qZI,qZJ,qZK,qZL,qZM,qZN,c_Web,cl_Web,k_Web,Ny _ (by simp),Ny _ (by simp),c_Part,cl_Part,k_Part,Wi _ (by simp),Wi _ (by simp),Wi _ (by simp),Wi _ (by simp),Wi _ (by simp),Wi _ (by simp),Wi _ (by simp),h_MOST_PLACES,h_MOST_TIES,yq,h_enumerate,yp,h_isinstance,yn,FX,yk,yj,KL,h_reversed,yi,Nz,KJ,yh⟩
  have e0:=CQ.symm.trans qZN.mm;cases e0;exact⟨dZN,λs u=>My.Qm qZN.fn s u,λbase _ _ HB=>My.fc T ⟨yg,yf,ye,HB,by decide⟩⟩
#print axioms PySem.Challenge.cw_spanrow_k37_whole_row_by_its_words_holds
