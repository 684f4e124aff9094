import PyProof.Rows.All
import Wide.All
import OpenK.AllK
import Wide.FinOn
import Lean
import PyProof.EqAt
import PyProof.EqKinds
import PyProof.TupleCall
import PySem.Challenge.RW_spanrow_k38_whole_each_tree_once
set_option Elab.async false
set_option linter.all false
set_option bootstrap.genMatcherCode false
set_option genSizeOf false
set_option maxRecDepth 100000
def zN(t:Bool)(k:Lean.Name)(a:Array Lean.Syntax):(Lean.Syntax):=.node .none ((if t then `Lean.Parser.Tactic else `Lean.Parser.Term)++k) a
def zU(a:Array Lean.Syntax):(Lean.Syntax):=.node .none `null a
def zC:(Nat→Lean.Syntax→Lean.Syntax)
|0,s=>s
|n+1,s=>zN true `rcasesPatMed #[zU #[if s.isIdent then zN true `rcasesPat.one #[s] else if s[1].isMissing then zN true `rcasesPat.ignore #[s[0]] else zN true `rcasesPat.tuple #[s[0],zU (s[1].getArgs.map λx=>if x.isAtom then x else zN true `rcasesPatLo #[zC n x,zU #[]]),s[2]]]]
def zL(s:Lean.Syntax):(Lean.MacroM Lean.Syntax):=
 let d:=s[2][0]
 let p:=if d[0].isOfKind `Lean.Parser.Term.letId then d[0][0] else d[0]
 if d[1].getNumArgs != 0 then Lean.Macro.throwUnsupported else if p.isIdent&&p.getId != `rfl then pure (zN true `tacticHave__ #[s[0],s[1],s[2]]) else pure (zN true `obtain #[s[0],zU #[zC 9 p],zU d[2][0].getArgs,zU #[d[3],zU #[d[4]]]])
local macro_rules(kind:=Lean.Parser.Tactic.tacticLet__)|s=>zL s
local macro_rules(kind:=Lean.Parser.Tactic.show)|s=>pure (zN true `refine #[s[0],s[1]])
local macro_rules(kind:=Lean.Parser.Tactic.«tacticExists_,,»)|s=>pure (zN true `refine #[s[0],zN false `anonymousCtor #[s[0],s[1],s[0]]])
local macro_rules(kind:=Lean.Parser.Tactic.cases)|s=>if s[3].getNumArgs==0&&s[1][0][0].getNumArgs==2 then pure (.node .none `«tacticBy_cases_:_» #[s[0],zU #[s[1][0][0][0][0],s[1][0][0][1]],s[1][0][1]]) else Lean.Macro.throwUnsupported
local macro_rules(kind:=«term~~~_»)|s=>pure (zN false `proj #[s[1],s[0],Lean.mkIdent `heap.objs.size])
local macro_rules(kind:=coeNotation)|s=>pure (zN false `app #[zN false `dotIdent #[s[0],Lean.mkIdent `ref],zU #[s[1]]])
local macro_rules
|`($x⁻¹)=>`((($x).length:Int))
def zD(s:Lean.Syntax):Lean.MacroM Lean.Syntax:=
 let d:=s[1]
 if s.getPos?.isNone||d.isOfKind `Lean.Parser.Command.theorem then Lean.Macro.throwUnsupported else
 let t:=d[2][1][0][1]
 let q:=d.isOfKind `Lean.Parser.Command.definition
 let s:=if q&&!(t.isMissing||t.isOfKind `Lean.Parser.Term.paren) then s.setArg 1 (.node .none `Lean.Parser.Command.theorem #[d[0],d[1],.node .none `Lean.Parser.Command.declSig #[d[2][0],d[2][1][0]],d[3]]) else if q||d.isOfKind `Lean.Parser.Command.abbrev||d.isOfKind `Lean.Parser.Command.instance then s.setArg 0 (s[0].setArg 4 (.node .none `null #[.node .none `Lean.Parser.Command.noncomputable #[s[0]]])) else s
 let s:=s.rewriteBottomUp (·.setInfo .none)
 if d[1][0].getId==`twz then pure (.node .none `null ((d[3][1].isStrLit?.getD "").toList.foldl (λ(a,i,n) c=>let n:=n*57+c.toNat-if c<'a' then 48 else 54;if i=10 then (a.push (s.setArg 1 (s[1].setArg 1 (s[1][1].setArg 0 (Lean.mkIdent (.mkSimple s!"tw{n}"))))),0,0) else (a,i+1,n)) (#[],0,0)).1) else pure s
local macro_rules(kind:=Lean.Parser.Command.declaration)|s=>zD s
namespace PySem.W.Fast
def twz:="NZ>W;HfOEV1I4lKXZAENEI=WQUTRee6VLVDJSbhb9228TkJNTDLnJh>I2;6FnhcEjaMn>UncNY9Gc82Rgk?GQS>M=M0NMSUbM0:ZEiXNQ1ZZSi=76PU@Ymj8?6BdEA0jkKd9PT2P<fegiQ9dE2X<J:lSmAM7Bkjhm7Lc4W>e<eHFI7d1PB5T=ViQ4hjBB6YL2NG=0l1B@ndUfhfROQ@5GfRPZ4kRfXkAjFYT?B5:idYi9mR0NA2Ta16UaBI9jC@g:T2IZ=nJgnA63h5;B09G1K;0MeOcdF6iR>a4e<AlZPFGdO0J@RjUE4M1GZU34UFHFf=?g@<k2ccSYkHMSZP7AX:n?Yhf2H3jPbPhITOkVQ2cTXUIdk015DCM4ee8n@V:MZh>GkEMcajd=RJAn6YiL<F<ZJNHD0EbYH5c3mlQb5gfKInT>PJ?4Ufe;N:>CUKe@ENPN<aK:CPfY?DQ@G1FGEa<YbgS1RgV8PlOYl5TSab?mR7d5mj<:Zn=NOVBc=MPB@e9gSZn2n@idAGm>bJQj5RBF1caPXahObI8OTCmHZK29e3VTU0DIHghSKaUhb6UjgND7jdhE9Xn>RZ6Q5:8fEHUOPmA3J7W0KXgL0><@Dh5Oi6XN@0QPRJa2KC3Qaf:fEZ2n6bbBD66MV28m1J<>TcL?:UlF1PNmBb@JRHJ6;WcFmDDM0ZQSTTAgXdiPj?iBkHHX<7i7GNZl;LWLjW;VJ5NHBn;;NO;E==K6nkUf4CaH3LjYGFIXj5dSZHS4IdlHn11YPkM>mIiiXh5TBUS1DZA32Hn8Q>KR=QfmlU<NZaRgeQRl@1jXcQ4l3=l?dje1;b702W@jjK;<1dbQgDM<<>HL>CGSLF=SZjKGBM8Zi7BRK?lTOMD47Jed37fjRQV4F<68:U<AiT<1lKb>>W;Z?6gK6Sjgja17R18<:IUm0;UmAKeP5f?1j5fIVSbdeQlDl4ZRf36@ekV49c>BA3?ADUO=n1kG@Y@YAlYDIA2kH>IQ624N4dkAI;iebXEfe8hKO>M:hL@@3084ma0CPL<M?c96@b@V5ISaY1cS>8cGVLUgU;Fb38SJQ4j47?Mhd=dJenQ0nAD:kCGE>6gXemFihWgMB4a9b9S6WS<HlMgl5dnMJTWZ4>H=GPR;O70YRlK>3dam5mk9iPETRM>XB@ORJM64fGhAUXY0K7ZC3m;AkN4XK?SUGUCZEQjQTK<dkd>f45L0P=1TRTnYhW72ILc6B9d4QSTQFZIVNNV2lWE2=Gn1Pg97JnZ@9Y?8R6aB@66ifQi2fDHYDblmWQWfchc7<CXSc:cM@4QYEP51<@kBF9back=LlJ9bS=Q:5;iI;gFgY1WV1X<737@hVG3NBGlH>I4dX@fn=IMZG:k=jD;ClbcQ6F6A8RHSVT8flaYC:=X2:NAC>?9ZbjLCkee<E@K3C;fUJeQhNbkZKQLgjKLPbAFd7aOh;g>a6K88YU8YeR<1n5FKNdVn84UnJ42BTX:OEALb5S>Q6Pk07dOZ:S6S0babf:=;P3B4V><K<XYG3VGWmZmJMWT5aQYSIn27eCSZ0SYdTXYCIUjeJEL>;l:4bQZn4A=fFlidG6GGLaCbba9K4UnJ:M1m0aSZN9;G<RnKDZOYQ3ZAlI=@ScIZlTVMLRMCmkI2>@M4dK<;H<AFJBM=m<6JTi45gcU?Fn7keZO4I7NCS1EU29in@V>HQXDf20S1gH;T27hAaTN?PEm2R955MUZIO2HVSdCIC?Xme?8cd1QB5V5502mLhn4Ekg59fWdAS63I;Cel@U0;;Kf<mZAQMi<gDGlBeAmAHjO5>D4Rl>E<kNV3kCIQhBAenfJd9VUlO2gLI3CZK1Lg?RSRTY;XiALF1YX7gVXg8dL3e@SS:D5BYG>aN4lce4l3>ZQHdUl2J9P>SYA@hdbY3P8XQFL3MB5T=gHXMGHnILnOdb<V8Kh?>BKhU:?8YSA6KC:SMnELObamOSP0?QOnK>VhGKPX:kT0njUaPN5e2;UTfMG=5FRm@k4J>Gd3X3T;QikE:=NlVJA8abZdZP431KI3Le9DBjfmiV:Hgh2R4Q9hISEMmNAGi0m@FST40:mTVZmDPNRSdDYESVNh?jRl2jHAXTZB?0ZF67m>hZ7;PZChYkkRgW?j@Y1gbQ1l8cJ1DDASbN672j9>8VnjVEVcn@3R5fS7:dWPAnm1R:dg24?a54n1S<L>7SEcPhNUBMSSd<;9Dld4>FOiODXj5KZFVSRE439b:XSUHNYahfVW86Gk@f;=bh=GmgTB1?P;:kDlc>KTlDCi8c@O>2a=TlTP5McaK:kDi8nfL?F3>WDmCJISV4SI4XXaX<TD8GJ>WK?f5X>CW?653bD4YVaHjI5EJ;O736YnMKbMCBLMU?944T@ng=7EENbBUknHiLL45MDG3I9NT?h6Jj:gF8XND13iSDW7KcJXL?ZK>gUH>;hHX3UQ=hSj<452U3UHEH?QO9F4eYIi9?GT=2<HhOi7lB6=c7CM1V@iA065@>eZ9>QBaUHYK;<<G4d9463YjcDNedO1hL<X8M2hC4EgXEJ2IJ0PD9>bg>@nkNEFVGNhe;I<XQPKLIblic>DIU7ARI9UegOQ0LEZ<=XYbC8IFjgfgB3lLRI075e2P1NNO89kZjKj>A<d6AV:IdYlPabndQNeT0JgaWeFA7YaQGGXg2mY7<kTSQmaPBVRaNU8GkUZVWf8Y938:H5jiW@23D94Rc8ElV2j182VlMeL1QCbKfJTPHfSUIbi>cJ8gC9ULT7EB3Q4=>lAE2aNL<d?Kn5@jn6k=mnVF6cfbGgVe@3<@MR@AcZQbSJPiQ;dNWBS5cjlK:Ed<?iE8@a37<OK@hEa0PdAf0:7V:a;>aBcI@UYGIgJ@QgkM<?bKZ8973Qg6cUO4HS08IFlfcKeOh8CJKI@Fk0?fl=Q34RbcRkkc4Y0g;Yd>fjO9Qld>gf4RA95@7R;jaOATgDh>V<@;=Pld?jZi>XmiPC?PRYJY0cim0CAXgFS>9gZ0R>97e<=H:Adi8niRZa8?;HM0OP5m?7Vb1YhK?Kb6FDLP5bYW>KdF?TDHX6CYCCi029PV8jYa7:AMG@PX1O=COi<BWGPH9BUKER0mDXTkLK;WInn1lbZOKaF:<78jCJOSgM?9W7iS4hMLBem:C2Fc7m=GDJJP>:XTOT=UP9WYmg82U3ZcIPd@6U8@TAkMU3Y>9KRRi;YgFLaPe4OBEkaB5ff@dj@EEL7UCnjg:c1PGQkjNlNQLjY6Fb54alnk6IXi6KRjNEal8Vd0jJ@4eQKPMDHMcVj<JQ1I6gAAWIDJcIFZ84fa:RB4ZE8gkE6>dWHCC<C<gAgCLc?@?XJN9eNTbG?jnHii1bfMB8ZfaJKk9lTbdbk1TYOn>H>cdAYnEFbWE9UUA7e=LLNGD"
end PySem.W.Fast
def Z{α:Sort _}{a:α}:a=a:=rfl
abbrev Aa:=List (Int×Int)
abbrev Ab:=List (List Int)
abbrev Ac:=List Int
abbrev Ad:=PySem.W.Frag
abbrev Ae:=PySem.Value->PySem.Shared->Prop
abbrev Af:=PySem.Str->Option PySem.Value
abbrev Ag:=List PySem.Value
def J{p:Prop}(h:p:=by lia):p:=h
def DX{p:Prop}(h:p:=by decide +kernel):p:=h
def sZ{p:Prop}(h:p:=by decide):p:=h
def B{p:Prop}(h:p:=by simp):p:=h
def DW{p:Prop}(h:p:=by omega):p:=h
def sV{p:Prop}(h:p:=by grind):p:=h
def Ea{p:Prop}(h:p:=by rfl):p:=h
def Eb{p:Prop}(h:p:=by kernel_rfl):p:=h
def Xy:=@List.getElem?_eq_some_iff
def Xs:=@List.getElem?_eq_getElem
def XG:=@List.mem_singleton
def XU:=@PySem.wpAny_bind
def Xw:=@List.length_append
def Xd:=@PySem.Heap.get?_push_of_some
def XA:=@List.mem_append
def Xg:=@List.mem_of_getElem?
def XN:=@Nat.le_refl
def Ws:=@List.getD_eq_getElem?_getD
def Ya:=@List.size_toArray
def Yb:=@List.length_map
def Yc:=@List.mem_cons_self
def Yd:=@List.mem_filter
def Ye:=@List.mem_cons_of_mem
def Yf:=@List.mem_append_left
def Yg:=@List.mem_append_right
def Yh:=@List.mem_cons
def Yi:=@Option.some.inj
def Yj:=@PySem.wpAny_pure
def Yk:=@List.getElem?_append_right
def Yl:=@List.length_take
def Ym:=@Nat.zero_le
def Yn:=@List.getElem?_append_left
def Yo:=@PySem.Heap.lt_size
def Yp:=@List.getElem?_map
def Yq:=@PySem.Heap.get?_push_size
def Yr:=@Nat.le_trans
def Ys:=@Nat.lt_of_lt_of_le
def Yt:=@List.length_singleton
def Yu:=@Array.length_toList
def Yv:=@decide_eq_true
def Yw:=@List.append_assoc
def Yx:=@List.append_nil
def Yy:=@of_decide_eq_true
def Yz:=@Array.getD_eq_getD_getElem?
def YA:=@PyProof.Rows.wpS_bind
def YB:=@Nat.ne_of_lt
def YC:=@List.getElem?_of_mem
def YD:=@Classical.byContradiction
def YE:=@Bool.false_ne_true
def YF:=@List.length_cons
def YG:=@List.length_filter_le
def YH:=@List.pairwise_append
def YI:=@Array.getElem?_toList
def YJ:=@List.take_of_length_le
def YK:=@Int.toNat_natCast
def YL:=@PyProof.Rows.wpS_pure
def YM:=@List.length_eq_zero_iff
def YN:=@List.mem_map
def YO:=@List.drop_eq_nil_of_le
def QP:=@congrArg
def YQ:=@List.map_append
def YR:=@Array.getElem?_eq_getElem
def YS:=@List.take_length
def YT:=@List.pairwise_cons
def YU:=@List.length_replicate
def YV:=@decide_eq_true_iff
def YW:=@List.length_drop
def YX:=@PySem.Heap.get?_update_other
def YY:=@List.mem_range
def YZ:=@List.filter_cons
def VX:=@List.length_reverse
def VM:=@List.getElem?_eq_none
def UT:=@List.pairwise_iff_getElem
def VW:=@List.getElem?_take
def Wg:=@List.nodup_append
def WB:=@List.take_succ
def Up:=@Array.perm_iff_toList_perm
def VL:=@List.map_congr_left
def Vw:=@List.mem_of_mem_take
def Wk:=@PyProof.Rows.KeyOrd.kle_trans
def Xc:=@Ne.symm
def Rn:=@Bool.false_eq_true
def RQ:=@Array.toList_push
def Nv:=@PySem.F.plainAttrs_list
def SI:=@PySem.PassesOwn.never
def RP:=@List.mem_reverse
def QI:=@List.filter_append
def Sf:=@Nat.not_lt_zero
def Qd:=@Array.toList_append
def Pw:=@PySem.Heap.get?_update_self
def TB:=@List.map_cons
def Kz:=@List.perm_ext_iff_of_nodup
def Nu:=@List.Perm.append_left
def RO:=@PySem.codeAny_builtin
def Rm:=@decide_eq_false
def Ji:=@PyProof.Rows.callWith_type1
def SS:=@getElem?_pos
def SR:=@Nat.zero_add
def MJ:=@List.take_append_drop
def Pu:=@PySem.wpAny_Call_Name_kw
def Ud:=@Nat.le_succ
def Ky:=@List.pairwise_singleton
def Qc:=@PyProof.Rows.KeyOrd.kle_of_klt
def Se:=@PySem.wpAny_holding
def MG:=@List.mem_of_mem_drop
def Jh:=@List.drop_eq_getElem_cons
def Gd:=@List.take_append_of_le_length
def Qb:=@List.nodup_cons
def Tz:=@PySem.sizeLine_eq
def Nt:=@PySem.Obj.data_mapFields
def Pr:=@List.all_eq_true
def Nr:=@List.length_range
def Nq:=@List.ext_getElem?
def Rl:=@Int.mul_assoc
def SH:=@PyProof.Rows.wpS_forRange
def MF:=@List.getElem?_drop
def Pq:=@List.nil_append
def Pp:=@Bool.eq_iff_iff
def Uc:=@PySem.wpAny_mono
def Np:=@Nat.lt_succ_self
def Qa:=@PyProof.Rows.KeyOrd.kle_refl
def Gb:=@List.extract_eq_take_drop
def ME:=@List.take_sublist
def MD:=@List.pairwise_map
def MC:=@List.getElem?_set
def MB:=@List.flatten_cons
def EF:=@List.eq_nil_iff_forall_not_mem
def Rk:=@Int.mul_zero
def Ga:=@PySem.F.type_list_append
def FZ:=@PySem.F.slot_list_append
def EE:=@List.drop_append_of_le_length
def PZ:=@Nat.lt_irrefl
def SG:=@PySem.Heap.SameBut.update
def Tx:=@PySem.wpAny_truthy_bool
def Tw:=@PySem.wpAny_newObj_type
def VR:=@Int.one_mul
def Vv:=@Nat.ne_of_gt
def Tv:=@List.getElem_mem
def Vu:=@Int.add_zero
def SF:=@List.filter_congr
def Tu:=@PySem.wpAny_call_entry
def RN:=@PySem.mem_of_lookup
def Jg:=@List.replicate_succ
def MA:=@PySem.F.plain_min_loop
def Jf:=@PySem.Around.under_plainId
def Mz:=@List.length_set
def FY:=@List.getElem?_zipWith
def FX:=@List.getElem?_reverse
def RM:=@beq_iff_eq
def Kx:=@List.lookup_cons
def Kw:=@Bool.and_eq_true
def Po:=@Int.mul_comm
def FW:=@Array.toList_extract
def FV:=@PySem.builtinLookup_eq_fast
def Je:=@decide_eq_true_eq
def Jd:=@Nat.lt_succ_of_lt
def Kv:=@List.length_nil
def Mw:=@PySem.Heap.size_push
def Nn:=@Nat.sub_self
def Nm:=@Nat.le_of_lt
def ED:=@List.pairwise_lt_range
def EC:=@List.Perm.append_right
def Ku:=@List.drop_zero
def FU:=@Int.emod_lt_of_pos
def Nl:=@PyProof.Rows.listUpdate_at
def EB:=@List.perm_append_comm
def Mv:=@PySem.wpAny_newList
def Mu:=@PySem.plainId_quiet
def Jc:=@Int.emod_nonneg
def FT:=@List.reverse_perm
def Mt:=@Nat.succ.inj
def Ms:=@List.map_map
def Kt:=@PySem.W.mg_of
def PY:=@PySem.wpAny_rule
def Jb:=@PySem.wpAny_passesOwn
def Sd:=@if_false
def EA:=@beq_eq_false_iff_ne
def Ja:=@Nat.mul_le_mul
def Ez:=@List.map_eq_nil_iff
def Ey:=@List.length_zipWith
def Ex:=@List.getElem_of_mem
def Ew:=@List.filterMap_cons
def xX:=@List.eq_of_mem_replicate
def FR:=@PySem.wpAny_setState_of
def Mr:=@PySem.codeAny_mono
def xW:=@List.getElem?_replicate
def Mq:=@Int.mul_one
def FP:=@Nat.min_eq_left
def Eu:=@PySem.wpAny_setEntries_of
def IZ:=@PySem.wpAny_seqItems
def FO:=@PySem.wpAny_askSetting
def xV:=@List.length_pos_of_mem
def IY:=@List.any_cons
def xU:=@Array.getElem?_eq_none
def Pn:=@List.drop_sublist
def Pm:=@Bool.not_eq_true'
def Mp:=@PySem.wpAny_callSpecial?_slot
def Mo:=@List.pairwise_reverse
def Mn:=@List.Pairwise.sublist
def Tt:=@PySem.wpAny_of_eq
def SE:=@PySem.F.called_set
def Pl:=@PySem.Code.quiet_builtin
def QH:=@PySem.typeLookup_type
def SD:=@Int.le_refl
def xT:=@Nat.pow_le_pow_right
def Et:=@List.cons_append
def IX:=@Int.pow_zero
def IW:=@Int.le_of_lt
def Pk:=@PyProof.Rows.wpS_modify
def xS:=@PySem.Obj.isFreed_of_fields
def xR:=@List.getElem?_range
def xQ:=@List.flatten_append
def FN:=@PySem.wpAny_setField
def Es:=@Option.map_some
def Er:=@List.range_succ
def Ep:=@List.foldl_cons
def Eo:=@Array.Perm.refl
def RL:=@PyProof.Rows.wpS_mono
def xP:=@PySem.codeAny_call_builtin
def xO:=@Nat.lt_of_le_of_lt
def xN:=@List.mem_filterMap
def uB:=@List.getElem?_eq_none_iff
def IV:=@Int.mul_add
def uz:=@PySem.F.args_tuple_add_2
def uw:=@Option.isSome_iff_exists
def uu:=@List.length_erase_of_mem
def En:=@List.drop_drop
def ur:=@List.Pairwise.imp_of_mem
def FL:=@Int.zero_add
def FK:=@Int.le_trans
def FJ:=@PySem.wpAny_attempt
def xM:=@List.foldl_append
def xK:=@Int.mul_left_comm
def Em:=@PySem.wpAny_execs_nil
def uq:=@PySem.F.entry_tuple_add
def uo:=@Nat.add_sub_cancel_left
def um:=@PySem.Calls.Name_function_global
def xJ:=@beq_self_eq_true
def uj:=@PySem.F.slot_tuple_add
def xH:=@Nat.le_of_not_lt
def El:=@List.sum_cons
def ui:=@List.getElem?_set_self
def uh:=@List.getElem?_eraseIdx
def xG:=@List.flatten_nil
def ug:=@List.drop_of_length_le
def xE:=@List.drop_append
def xD:=@List.any_eq_true
def uf:=@PySem.Calls.call_function_entry
def Ek:=@PySem.wpAny_tryCatch
def xC:=@List.find?_cons
def ue:=@PySem.W.hideAll_none
def ud:=@List.mem_of_getLast?
def uc:=@List.mem_erase_of_ne
def t9:=@List.length_eraseIdx
def t8:=@List.getElem?_set_ne
def Ej:=@Int.zero_mul
def Pj:=@Int.pow_succ
def IU:=@Array.toList_reverse
def Ph:=@PyProof.Rows.get?_update_seq
def Mm:=@PySem.wpAny_isInstance
def US:=@if_true
def IT:=@List.filter_sublist
def IS:=@List.filter_eq_self
def Ml:=@PySem.F.entry_min_loop
def QG:=@PySem.wpAny_letGo
def IQ:=@PySem.W.callWith_K
def t7:=@Nat.add_sub_cancel
def t6:=@Bool.not_eq_false'
def xB:=@PySem.wpAny_updateSeq
def Ei:=@PySem.wpAny_typeOf
def t5:=@bne_self_eq_false
def fi:=@PyProof.Rows.callWith_builtin1
def tZ:=@List.reverse_cons
def tY:=@Bool.eq_false_iff
def tX:=@PyProof.Rows.F.plain_set_update_loop
def xA:=@PySem.wpAny_runValue
def xw:=@PySem.wpAny_fieldsOf
def FI:=@PySem.wpAny_call
def xu:=@PySem.isSubtype_type
def tW:=@decide_eq_decide
def FH:=@PySem.call_meets
def fh:=@PySem.F.slot_dict_setdefault
def xt:=@Nat.sub_zero
def xr:=@Nat.mul_comm
def tV:=@Nat.min_eq_right
def xq:=@Nat.le_of_eq
def tU:=@List.not_mem_nil
def fg:=@List.dropLast_concat_getLast
def xp:=@Int.sub_zero
def Eh:=@Int.not_lt
def tT:=@Int.min_eq_right
def tS:=@Int.max_eq_right
def QF:=@PyProof.Rows.wpS_get
def tR:=@beq_false_of_ne
def tQ:=@PySem.SeqAt.EqAt.of_refs
def fc:=@PySem.F.excBase_ValueError
def tP:=@Nat.le_antisymm
def tO:=@List.of_mem_zip
def fb:=@List.length_eraseIdx_of_lt
def tN:=@List.filter_nil
def tL:=@Int.min_eq_left
def tK:=@Int.max_eq_left
def tJ:=@PySem.Calls.spliced_cons
def tI:=@Bool.or_eq_true
def eZ:=@Array.toList_setIfInBounds
def eW:=@Array.getElem?_eq_some_iff
def eV:=@PySem.F.plain_extend_loop
def eS:=@List.mem_or_eq_of_mem_set
def eR:=@List.getElem?_zip_eq_some
def xo:=@Int.neg_mul
def eQ:=@Int.eq_of_mul_eq_mul_left
def xn:=@Int.add_mul
def tH:=@PySem.wpAny_pyIter_list
def xm:=@PyProof.Rows.entry_list_sort
def eO:=@PySem.F.type_list_extend
def eN:=@PySem.F.slot_list_extend
def eM:=@PySem.F.slot_dict_values
def tG:=@PySem.Obj.cls_mapFields
def IP:=@List.take_zero
def IM:=@List.take_take
def Eg:=@List.mem_of_mem_eraseIdx
def IK:=@List.drop_take
def Ef:=@List.append_cancel_right
def IJ:=@List.Perm.refl
def II:=@Int.natAbs_mul
def IG:=@PySem.Calls.spliced_nil
def Pg:=@PyProof.Rows.listItems_at
def IF:=@PyProof.Rows.entry_proto_collect'
def eK:=@PySem.F.plainAttrs_dict
def eJ:=@PySem.F.attr_ValueError
def eE:=@List.pairwise_mergeSort
def eD:=@Int.eq_ofNat_of_zero_le
def Ee:=@PySem.wpAny_load
def tE:=@PySem.noFill_tuple_add
def eh:=@PySem.W.funFrames_hide
def d9:=@PySem.W.cellsFrom_some
def tD:=@List.take_nil
def tw:=@PySem.Heap.size_update
def xk:=@PyProof.Rows.slot_list_sort
def tu:=@PyProof.Rows.getElem?_mirror_all
def d8:=@List.set_append_right
def d7:=@List.getElem?_toArray
def dZ:=@Classical.choose_spec
def dY:=@Bool.beq_eq_decide_eq
/-! THE HAND dX,for ints,bools,texts,own classes,dW and tuples (index,tq,in,append,pop ..),calls,loops. dU it whole ahead of tm own text;what tm proof does not reach may be deleted. -/
namespace L2
open PySem PySem.Spec PyProof.Rows
abbrev Key:=Sum Int Str
def Ub:(Key->Value->Bool)
 | .inl k,v=>Value.isInt k v
 | .inr x,v=>Value.isStrOf x v
def Zaa(w:World):(Key->Int)
 | .inl k=>hashInt k
 | .inr x=>hashStr w x
def ZH:∀{k:Key}{v:Value},Ub k v=true->(∃i t,k=Sum.inl i/\v=Value.int i t)\/(∃x t,k=Sum.inr x/\v=Value.str x t)
 | .inl i,v,h=>by let⟨t,e⟩:=Value.isInt_shape (k:=i) (v:=v) h;show .inl ⟨i,t,Z,e⟩
 | .inr x,v,h=>by let⟨t,e⟩:=Value.isStrOf_shape (x:=x) (v:=v) h;show .inr ⟨x,t,Z,e⟩
def ZU8(i:Int)(t:Tok):Ub (.inl i) (.int i t)=true:=by simp[Ub,Value.isInt]
def ZT8(x:Str)(t:Tok):Ub (.inr x) (.str x t)=true:=by simp[Ub,Value.isStrOf]
def Zab(a b:Int):decide ((Sum.inl a:Key)=Sum.inl b)=(a == b):=by
 cases e:a=b
 .subst e;simp
 .let h:¬(Sum.inl a:Key)=Sum.inl b:=λq=>e (Sum.inl.inj q);rw[Rm h];show(EA.mpr e).symm
def Zac(a b:Str):decide ((Sum.inr a:Key)=Sum.inr b)=decide (a=b):=by
 cases e:a=b
 .subst e;simp
 .let h:¬(Sum.inr a:Key)=Sum.inr b:=λq=>e (Sum.inr.inj q);rw[Rm h,Rm e]
def Zad(a:Int)(b:Str):decide ((Sum.inl a:Key)=Sum.inr b)=false:=Rm (λq=>nomatch q)
def Zae(a:Str)(b:Int):decide ((Sum.inr a:Key)=Sum.inl b)=false:=Rm (λq=>nomatch q)
def QE(prog:Program)(w:World):(PySem.KeyKind prog w Key) where
 is:=Ub
 hash:=Zaa w
 inj:=λv a b ha hb=>by
  rcases ZH ha with ⟨i,t,rfl,rfl⟩|⟨x,t,rfl,rfl⟩
  .rcases ZH hb with ⟨j,u,rfl,e⟩|⟨y,u,rfl,e⟩
   .injection e with e1 _;rw[e1]
   .show nomatch e
  .rcases ZH hb with ⟨j,u,rfl,e⟩|⟨y,u,rfl,e⟩
   .show nomatch e
   .injection e with e1 _;rw[e1]
 byValue:=λk v h=>by rcases ZH h with ⟨i,t,rfl,rfl⟩|⟨x,t,rfl,rfl⟩<;>rfl
 pyHash:=λhv h=>by
  rcases ZH hv with ⟨i,t,rfl,rfl⟩|⟨x,t,rfl,rfl⟩
  .show wpAny_pyHash_int h
  .show wpAny_pyHash_str h
 eqBool:=λhu hv h=>by
  rcases ZH hu with ⟨i,t,rfl,rfl⟩|⟨x,t,rfl,rfl⟩
  .rcases ZH hv with ⟨j,u,rfl,rfl⟩|⟨y,u,rfl,rfl⟩
   .rw[Zab]at h;show wpAny_eqBool_int h
   .rw[Zad]at h;show SeqAt.EqAt.int_str i t y u _ _ _ _ h
  .rcases ZH hv with ⟨j,u,rfl,rfl⟩|⟨y,u,rfl,rfl⟩
   .rw[Zae]at h;show SeqAt.EqAt.str_int x t j u _ _ _ _ h
   .rw[Zac]at h;show wpAny_eqBool_str h
 «strs»:=λk x t v h=>by
  rcases ZH h with ⟨i,u,rfl,e⟩|⟨y,u,rfl,e⟩
  .show nomatch e
  .injection e with e1 _;subst e1;cases v<;>rfl
def Za6(prog:Program)(w:World)(i:Int)(t:Tok):(QE prog w).is (.inl i) (.int i t)=true:=ZU8 i t
def Zaf(prog:Program)(w:World)(x:Str)(t:Tok):(QE prog w).is (.inr x) (.str x t)=true:=ZT8 x t
inductive V where
 |non|bl (b:Bool)|int (i:Int)|str (x:Str)|byt (b:Array UInt8)|flt (b:UInt64)|ref (a:Addr)|ty (n:String)
 deriving DecidableEq
def RelV:(V->Value->Prop)
 | .non,u=>u=Value.none
 | .bl b,u=>u=Value.bool b
 | .int i,u=>∃t,u=Value.int i t
 | .str x,u=>∃t,u=Value.str x t
 | .byt b,u=>∃t,u=Value.bytes b t
 | .flt b,u=>∃t,u=Value.float b t
 | .ref a,u=>u=Value.ref a
 | .ty n,u=>u=Value.type n
abbrev Vals:List V->List Value->Prop:=Paired RelV
def Vals.length{xs:List V}{us:Ag}(r:Vals xs us):xs.length=us.length:=Paired.length r
def Vals.get{xs:List V}{us:Ag}{i:Nat}{x:V}(h:Vals xs us)(e:xs[i]?=some x):∃u,us[i]?=some u/\RelV x u:=by
 induction h generalizing i with
 |nil=>simp at e
 |cons r t ih=>
  cases i with
  |zero=>simp at e;subst e;exists _,Z,r
  |succ i=>
   let⟨u,h1,h2⟩:=ih (i:=i) (by simpa using e);exists u,by simpa using h1,h2
def Vals.set(r:RelV x u){xs:List V}{us:Ag}(i:Nat)(h:Vals xs us):Vals (xs.set i x) (us.set i u):=by
 induction h generalizing i with
 |nil=>show .nil
 |cons q t ih=>
  cases i with
  |zero=>show .cons r t
  |succ i=>show .cons q (ih i)
def Vals.append{xs ys:List V}{us ws:Ag}(h:Vals xs us)(s:Vals ys ws):Vals (xs++ys) (us++ws):=by
 induction h with
 |nil=>show s
 |cons r t ih=>show .cons r ih
def Vals.take{xs:List V}{us:Ag}(n:Nat)(h:Vals xs us):Vals (xs.take n) (us.take n):=by
 induction h generalizing n with
 |nil=>cases n<;>show .nil
 |cons r t ih=>
  cases n with
  |zero=>show .nil
  |succ n=>show .cons r (ih n)
def Vals.drop{xs:List V}{us:Ag}(n:Nat)(h:Vals xs us):Vals (xs.drop n) (us.drop n):=by
 induction h generalizing n with
 |nil=>cases n<;>show .nil
 |cons r t ih=>
  cases n with
  |zero=>show .cons r t
  |succ n=>show ih n
def RelO:(Option V->Option Value->Prop)
 |some v,some u=>RelV v u
 |none,none=>True
 |_,_=>False
def KV{κ:Type}:(List (κ×V)->List (κ×Value)->Prop):=Paired λ(p:κ×V) (q:κ×Value)=>p.1=q.1/\RelV p.2 q.2
def kV:(Key->V)
 | .inl i=>.int i
 | .inr x=>.str x
inductive HO where
 |lst (xs:List V)
 |tup (xs:List V)
 |dK (kvs:List (Key×V))|dT (kvs:List (List Key×V))
 |set (S:Int->Bool) (n:Nat)
 |ins (C dx:Addr) (fs:List (Str×V))
 |own (x:Addr)
 |xd (fs:List (Str×V))
 |met (f x:Addr)
 |rng (lo hi:Int)
 |frz (o:Obj) (u:HO)
 |tbl (ps:Array Value)
 |ext (φ:Heap->Prop)
abbrev Hp:=Addr->Option HO
def upd(H:Hp)(a:Addr)(o:HO):(Hp):=λb=>if b=a then some o else H b
def XQ:upd H a o a=some o:=by unfold upd;rw[if_pos Z]
def XJ(h:b≠a):upd H a o b=H b:=by unfold upd;rw[if_neg h]
def PX{H:Hp}{a b:Addr}{o u:HO}(h:H a=some o)(h':H b=some u)(d:o≠u):a≠b:=by intro e;subst e;rw[h]at h';show d (Yi h')
def Za{H:Hp}{a b:Addr}{o:HO}(h:H a=some o)(h':H b=none):a≠b:=by intro e;subst e;rw[h]at h';cases h'
section
variable(P:Program)(w:World)
def ObjOk(H:Hp)(h:Heap)(a:Addr):(HO->Prop)
 | .lst xs=>xs.length<=sizeLine/\∃(XX:Ag)(n:Nat),Vals xs XX/\h.get? a=some {cls:=.type "list",data:=.seq XX.toArray n}
 | .tup xs=>xs.length<=sizeLine/\∃XX:Ag,Vals xs XX/\IsTup h a XX.toArray
 | .dK kvs=>kvs.length<=sizeLine/\(a == sysModules)=false/\∃vs,KV kvs vs/\h.DictOf (QE P w) a vs
 | .dT kvs=>kvs.length<=sizeLine/\(a == sysModules)=false/\∃xs:List (List Key×Addr×Value),
   Paired (λ(p:List Key×V) (q:List Key×Addr×Value)=>p.1=q.1/\H q.2.1=some (.tup<|p.1.map kV)/\RelV p.2 q.2.2) kvs xs/\
   ∃o es ep,h.get? a=some o/\o.ExactDict/\o.data=.dict es ep/\es.toList=xs.map (entryOfKey<|tupleKind<|QE P w)/\(xs.map (·.1)).Nodup
 | .set S n=>h.SetOf (intKind P w) a S n
 | .ins C dx fs=>H dx=some (.own a)/\fs.length<=1000/\dx≠a/\h.get? a=some (PySem.W.instObj C dx)/\
   ∃mA,h.Ns1 dx mA/\(∀f,RelO (fs.lookup f)<|mA f)/\PySem.Within mA (fs.map (·.1))
 | .own _=>∃o,h.get? a=some o
 | .xd fs=>∃mA,h.Ns1 a mA/\∀f,RelO (fs.lookup f) (mA f)
 | .rng lo hi=>∃t u v,h.get? a=some {cls:=.type "range",data:=.fields #[.int lo t,.int hi u,.int 1 v]}
 | .frz o u=>h.get? a=some o/\ObjOk H h a u
 | .tbl ps=>h.get? a=some {cls:=.none,data:=.fields ps}
 | .met f x=>h.get? a=some (PySem.W.methodObj ↑f<|.ref x)
 | .ext φ=>φ h/\(∃o,h.get? a=some o)/\∀h1 h2:Heap,φ h1->(∀o,h1.get? a=some o->h2.get? a=some o)->φ h2
def HOk(H:Hp)(h:Heap):(Prop):=∀a o,H a=some o->ObjOk P w H h a o
end
section
variable{P:Program}{w:World}{H H':Hp}{h h':Heap}{a:Addr}{o:HO}
def ObjOk.lt(x:ObjOk P w H h a o):a<h.objs.size:=by
 cases o with
 |lst xs=>let⟨_,_,_,_,e⟩:=x;show Yo e
 |tup xs=>let⟨_,_,_,p⟩:=x;show p.lt
 |dK kvs=>let⟨_,_,_,_,o,_,_,e,_⟩:=x;show Yo e
 |dT kvs=>let⟨_,_,_,_,o,_,_,e,_⟩:=x;show Yo e
 |set S n=>let⟨o,_,_,_,e,_⟩:=x;show Yo e
 |ins C dx fs=>let⟨_,_,_,e,_⟩:=x;show Yo e
 |own y=>let⟨_,e⟩:=x;show Yo e
 |xd fs=>let⟨_,⟨_,_,_,e,_⟩,_⟩:=x;show Yo e
 |rng lo hi=>let⟨_,_,_,e⟩:=x;show Yo e
 |frz ob u=>let⟨e,_⟩:=x;show Yo e
 |tbl ps=>show Yo (show h.get? a=some _ from x)
 |met f y=>show Yo (show h.get? a=some _ from x)
 |ext φ=>let⟨_,⟨_,e⟩,_⟩:=x;show Yo e
def Paired.mapP{α β:Type}{F G:α->β->Prop}{l₁:List α}{l₂:List β}(h:Paired F l₁ l₂)(f:∀a b,F a b->G a b):Paired G l₁ l₂:=by
 induction h with
 |nil=>show .nil
 |cons r t ih=>show .cons (f _ _ r) ih
def ObjOk.stay(x:ObjOk P w H h a o)(k:∀b u,(b=a\/H b=some (.own a))->h.get? b=some u->h'.get? b=some u)
  (ho:∀b,H b=some (.own a)->H' b=some (.own a))(ht:∀b xs,H b=some (.tup xs)->H' b=some (.tup xs)):ObjOk P w H' h' a o:=by
 induction o with
 |lst xs=>let⟨z,XX,n,r,e⟩:=x;exists z,XX,n,r,k _ _ (.inl Z) e
 |tup xs=>let⟨z,XX,r,ob,e,c⟩:=x;exists z,XX,r,ob,k _ _ (.inl Z) e,c
 |dK kvs=>let⟨z,y,vs,r,ob,es,ep,e,c⟩:=x;exists z,y,vs,r,ob,es,ep,k _ _ (.inl Z) e,c
 |dT kvs=>
  let⟨z,y,xs,r,ob,es,ep,e,c⟩:=x;exists z,y,xs,Paired.mapP r λp q z=>⟨z.1,ht _ _ z.2.1,z.2.2⟩,ob,es,ep,k _ _ (.inl Z) e,c
 |set S n=>let⟨ob,es,ep,t,e,c⟩:=x;exists ob,es,ep,t,k _ _ (.inl Z) e,c
 |ins C dx fs=>
  let⟨d,z,ne,e,mA,⟨od,es,ep,e2,c⟩,r⟩:=x;exists ho _ d,z,ne,k _ _ (.inl Z) e,mA,⟨od,es,ep,k _ _ (.inr d) e2,c⟩,r
 |own y=>let⟨ob,e⟩:=x;exists ob,k _ _ (.inl Z) e
 |xd fs=>let⟨mA,⟨od,es,ep,e,c⟩,r⟩:=x;exists mA,⟨od,es,ep,k _ _ (.inl Z) e,c⟩,r
 |rng lo hi=>let⟨t,u,v,e⟩:=x;exists t,u,v,k _ _ (.inl Z) e
 |frz ob u ih=>let⟨e,q⟩:=x;exists k _ _ (.inl Z) e,ih q
 |tbl ps=>
  let e:h.get? a=some {cls:=.none,data:=.fields ps}:=x;change h'.get? a=some {cls:=.none,data:=.fields ps}
  show k a _ (.inl Z) e
 |met f y=>
  let e:h.get? a=some (PySem.W.methodObj ↑f<|.ref y):=x;change h'.get? a=some (PySem.W.methodObj ↑f<|.ref y)
  show k a _ (.inl Z) e
 |ext φ=>let⟨p,⟨o,e⟩,st⟩:=x;exists st _ _ p λo q=>k _ _ (.inl Z) q,⟨o,k _ _ (.inl Z) e⟩,st
def HOk.lt(x:HOk P w H h)(e:H a=some o):a<h.objs.size:=(x a o e).lt
def HOk.fresh(x:HOk P w H h)(e:h.objs.size<=a):H a=none:=by
 cases q:H a with
 |none=>rfl
 |some u=>show absurd (Ys (x.lt q) e) (PZ _)
def HOk.kept(x:HOk P w H h)(k:∀b u,h.get? b=some u->h'.get? b=some u):HOk P w H h':=λa o e=>
 (x a o e).stay (λb u _ q=>k b u q) (λ_ q=>q) λ_ _ q=>q
def HOk.laid(x:HOk P w H h)(k:∀b u,h.get? b=some u->h'.get? b=some u)(hp:h.objs.size<=a)(new:ObjOk P w (upd H a o) h' a o):HOk P w (upd H a o) h':=λb u e=>by
 let hn:=x.fresh hp;cases hb:b=a
 .subst hb;rw[XQ]at e;cases e;show new
 .rw[XJ hb]at e;show(x b u e).stay (λc v _ q=>k c v q) (λc q=>by rwa[XJ (Za q hn)]) λc xs q=>by rwa[XJ (Za q hn)]
end
def Rd(H:Hp)(a:Addr)(u:HO):(Prop):=H a=some u\/∃o,H a=some (.frz o u)
def Rd.ok(r:Rd H a u)(x:HOk P w H h):ObjOk P w H h a u:=by
 rcases r with r|⟨o,r⟩
 .show x a u r
 .let⟨_,q⟩:=x a _ r;show q
def DZ:(Option HO->Prop)
 |some (.lst _)=>True
 |some (.dK _)=>True
 |some (.dT _)=>True
 |some (.set _ _)=>True
 |some (.ins _ _ _)=>True
 |some (.ext _)=>True
 |_=>False
section
variable{P:Program}{w:World}{H:Hp}{h h':Heap}{x e:Addr}{o':HO}
def HOk.write(ok:HOk P w H h)(mu:DZ (H x))(he:e=x\/H e=some (.own x))(k:∀b u,b≠e->h.get? b=some u->h'.get? b=some u)(FG:∃u,h'.get? e=some u)
  (new:ObjOk P w (upd H x o') h' x o'):HOk P w (upd H x o') h':=λb u q=>by
 let DY:∀c y,H c=some (.own y)->c≠x:=λc y r z=>by subst z;rwa[r]at mu
 let sW:∀c xs,H c=some (.tup xs)->c≠x:=λc xs r z=>by subst z;rwa[r]at mu
 cases hb:b=x
 .subst hb;rw[XQ]at q;cases q;show new
 .rw[XJ hb]at q;cases IE:b=e
  .let q':H b=some (.own x):=by
    rcases he with z|z
    .show absurd (IE.trans z) hb
    .rw[IE];show z
   rw[q]at q';cases q';let⟨v,hv⟩:=FG;exists v,by rwa[IE]
  .show(ok b u q).stay (λc v hc r=>k c v ?_ r) (λc r=>by rwa[XJ (DY c b r)]) λc xs r=>by rwa[XJ (sW c xs r)]
   rcases hc with rfl|hc
   .show IE
   .rintro rfl;rcases he with z|z
    .show DY c b hc z
    .rw[hc]at z;cases z;show hb rfl
end
structure Un(fs ex:List Addr)(H H':Hp)(h h':Heap):Prop where
 keep:∀b o,h.get? b=some o->H b=none->b∉fs->b∉ex->h'.get? b=some o
 slot:∀b o,h.get? b=some o->H b=none->b∈fs->b∉ex->∃sl,h'.get? b=some {o with slots:=sl}
 free:∀b o,h.get? b=some o->H b=none->b∉ex->H' b=none
 there:∀b o,h.get? b=some o->b∉ex->∃o',h'.get? b=some o'
 tups:∀b xs,H b=some (.tup xs)->H' b=some (.tup xs)
 frzs:∀b o u,H b=some (.frz o u)->H' b=some (.frz o u)
 tbls:∀b ps,H b=some (.tbl ps)->∃more,H' b=some (.tbl<|ps++more)
section
variable{fs ex:List Addr}{H H1:Hp}{h h1 h':Heap}{a x e:Addr}{o:HO}
def Un.any(u:Un fs ex H H1 h h1){ob:Obj}(q:h.get? b=some ob)(n:H b=none)(hx:b∉ex):∃sl,h1.get? b=some {ob with slots:=sl}:=by
 cases hb:b∈fs
 .show u.slot b ob q n hb hx
 .exists ob.slots,u.keep b ob q n hb hx
def Un.kept(k:∀b u,h.get? b=some u->h'.get? b=some u):Un fs ex H H h h':=
 ⟨λb ob q _ _ _=>k b ob q,λb ob q _ _ _=>⟨ob.slots,k b ob q⟩,λ_ _ _ n _=>n,λb ob q _=>⟨ob,k b ob q⟩,λ_ _ q=>q,λ_ _ _ q=>q,λ_ ps q=>⟨#[],by rw[q];simp⟩⟩
def Un.refl:Un fs ex H H h h:=Un.kept λ_ _ q=>q
def Un.laid(k:∀b u,h.get? b=some u->h'.get? b=some u)(hp:h.objs.size<=a)(hn:H a=none):Un fs ex H (upd H a o) h h' where
 keep:=λb u q _ _ _=>k b u q
 slot:=λb u q _ _ _=>⟨u.slots,k b u q⟩
 free:=λb u q n _=>by rwa[XJ (YB<|Ys (Yo q) hp)]
 there:=λb u q _=>⟨u,k b u q⟩
 tups:=λb xs q=>by rwa[XJ (Za q hn)]
 frzs:=λb u xs q=>by rwa[XJ (Za q hn)]
 tbls:=λb ps q=>⟨#[],by rw[XJ (Za q hn),q];simp⟩
def Un.write(mu:DZ (H x))(he:e=x\/H e=some (.own x))(k:∀b u,b≠e->h.get? b=some u->h'.get? b=some u)(FG:∃u,h'.get? e=some u):Un fs ex H (upd H x o) h h':=by
 let hx:∀b,H b=none->b≠x:=λb n z=>by subst z;rwa[n]at mu
 let hb:∀b,H b=none->b≠e:=λb n z=>by
  subst z;rcases he with r|r
  .show hx b n r
  .rw[n]at r;cases r
 let hm:∀b u,H b=some u->¬DZ (some u)->b≠x:=λb u q nm z=>by subst z;rw[q]at mu;show nm mu
 show⟨λb u q n _ _=>k b u (hb b n) q,λb u q n _ _=>⟨u.slots,k b u (hb b n) q⟩,λb u q n _=>by rw[XJ (hx b n)];show n,λb u q _=>?_,
  λb xs q=>by rw[XJ (hm b _ q λz=>z)];show q,λb u xs q=>by rw[XJ (hm b _ q λz=>z)];show q,λb ps q=>⟨#[],by rw[XJ (hm b _ q λz=>z),q];simp⟩⟩
 cases IE:b=e
 .subst IE;show FG
 .exists u,k b u IE q
end
def xj(h:Heap)(H:Hp):(List Addr):=(List.range h.objs.size).filter λa=>(H a).isSome
def Uo(h:Heap)(H:Hp):(Heap):=PySem.W.hideAll h (xj h H)
def ZZ8(h:Heap)(H:Hp):(Uo h H).objs.size=h.objs.size:=PySem.W.hideAll_size _ _
def Zag{b:Addr}{o:Obj}(e:h.get? b=some o)(n:H b=none):(Uo h H).get? b=some o:=
 PySem.W.hideAll_get _ e λhm=>by let q:(H b).isSome=true:=(Yd.mp hm).2;rw[n]at q;simp at q
def Zah{b:Addr}{o:Obj}(e:(Uo h H).get? b=some o):h.get? b=some o/\H b=none:=by
 let e':h.get? b=some o:=PySem.W.of_hideAll (xj h H) e;exists e',?_;cases q:H b with
 |none=>rfl
 |some x=>
  let hm:b∈xj h H:=Yd.mpr ⟨YY.mpr<|Yo e',by simp[q]⟩;let z:(Uo h H).get? b=none:=ue (xj h H) hm
  rw[z]at e;cases e
def Zai(g h:Heap)(L:Addr):(List (Addr×Obj)):=(List.range h.objs.size).filterMap λa=>if a=L\/(g.get? a).isSome=true then none else (h.get? a).map λo=>(a,o)
def rest(g h:Heap)(L d:Addr):(List (Addr×Obj)):=(Zai g h L).filter λp=>decide (p.1≠d)
structure Mod(K:Ad)(mg:Af)(base:Heap):Prop where
 kin:K.In base
 glob:base.Ns mainGlobals mg
 blt:∃mb,base.Ns builtinsNs mb/\∀x:Str,x≠"__name__"->mb x=bootBuiltins x
 nolimit:base.NoLimit
structure Cx where
 prog:Program
 w:World
 K:Ad
 mg:Af
 base:Heap
 A:Around
 N:List Str
 s₀:Shared
 H₀:Hp
 env:Env
 outer:List Env
 stack:List Env
 ex:List Addr
 fn:Str->Bool
 calm:Bool
 pn:List (Addr×Obj)
 xe:Ae
def VV(l:List Env):(List Addr):=l.filterMap (·.frame)
abbrev Cx.fs(X:Cx):List Addr:=VV X.outer
def sU(sc:Scope)(x:Str):(Prop):=sc.names.lookup x=some .local\/sc.names.lookup x=some .cell\/sc.names.lookup x=some .free
def Loc(sc:Scope)(x:Str):(Prop):=sc.names.lookup x=some .local\/sc.names.lookup x=some .cell
def Look(env:Env)(h:Heap)(m:Af)(x:Str)(u:Value):(Prop):=
 (env.kindOf x=some .local/\m x=some u)\/((env.kindOf x=some .cell\/env.kindOf x=some .free)/\∃c,env.cells.lookup x=some c/\h.IsCell c (some u))
structure Cx.Ok(X:Cx):Prop where
 mod:Mod X.K X.mg X.base
 kind:X.env.scope.kind=.function
 glob:X.env.globals=mainGlobals
 blt:X.env.builtins=builtinsNs
 above:(~~~X.s₀)<=X.env.locals
 inj:∀x y c,X.env.cells.lookup x=some c->X.env.cells.lookup y=some c->x=y
 has:∀x,(X.env.kindOf x=some .cell\/X.env.kindOf x=some .free)->∃c,X.env.cells.lookup x=some c
 cab:∀x c,X.fn x=true->X.env.cells.lookup x=some c->(~~~X.s₀)<=c
 hd:X.calm=true->X.A.handled=none
 frames:X.A.frames=some X.stack
 stk:X.stack=X.outer\/(X.stack=X.env::X.outer/\X.env.frame=some X.env.locals)
 exf:∀b∈X.ex,b≠X.env.locals/\∀x c,X.env.cells.lookup x=some c->c≠b
 bs:∀b o,X.base.get? b=some o->X.s₀.heap.get? b=some o/\X.H₀ b=none
 bsz:X.base.objs.size<=(~~~X.s₀)
 noex:∀b o,X.base.get? b=some o->b∉X.ex
 exfs:∀b∈X.ex,b∉X.fs
 funs:X.s₀.heap.FunFrames X.base X.outer
 frf:∀b∈X.fs,X.H₀ b=none
structure Inv(X:Cx)(pins:List (Addr×Obj))(σ:List (Option V))(H:Hp)(s:Shared):Prop where
 ok:X.Ok
 os:s.os=X.s₀.os
 bare:AllBare s.gens
 base:Un X.fs X.ex X.H₀ H X.s₀.heap s.heap
 loc:∃m,s.heap.Ns X.env.locals m/\∀(i:Nat)(x:Str)(v:V),X.N[i]?=some x->σ[i]?=some (some v)->sU X.env.scope x->∃u,RelV v u/\Look X.env s.heap m x u
 cell:∀x c,X.env.cells.lookup x=some c->∃v,s.heap.IsCell c v
 free:H X.env.locals=none
 freeC:∀x c,X.env.cells.lookup x=some c->H c=none
 pin:∀p∈X.pn++pins,s.heap.get? p.1=some p.2/\H p.1=none/\p.1≠X.env.locals/\p.1∉X.fs/\∀v,p.2.data≠.cell v
 hok:HOk X.prog X.w H s.heap
 len:σ.length=X.N.length
section
variable{X:Cx}{pins:List (Addr×Obj)}{σ:List (Option V)}{H H':Hp}{s:Shared}{h':Heap}
def Cx.Ok.nofr(ok:X.Ok){b:Addr}{o:Obj}(e:X.base.get? b=some o):b∉X.fs:=λhb=>by
 have:=(ok.funs.mem hb).1
 rw[e]at this;cases this
def Inv.bs(I:Inv X pins σ H s):∀b o,X.base.get? b=some o->s.heap.get? b=some o/\H b=none:=λb o e=>
 ⟨I.base.keep b o (I.ok.bs b o e).1 (I.ok.bs b o e).2 (I.ok.nofr e) (I.ok.noex b o e),I.base.free b o (I.ok.bs b o e).1 (I.ok.bs b o e).2 (I.ok.noex b o e)⟩
def Inv.bk(I:Inv X pins σ H s):∀b o,X.base.get? b=some o->s.heap.get? b=some o:=λb o e=>(I.bs b o e).1
def Inv.mod(I:Inv X pins σ H s):Mod X.K X.mg X.base:=I.ok.mod
def Inv.kIn(I:Inv X pins σ H s):X.K.In s.heap:=I.ok.mod.kin.keeps I.bk
def Inv.lt(I:Inv X pins σ H s):X.env.locals<(~~~s):=by let⟨_,hn,_⟩:=I.loc;show hn.lt
def Inv.sz(I:Inv X pins σ H s):(~~~X.s₀)<=(~~~s):=Yr I.ok.above (Nm I.lt)
def Inv.nofs(I:Inv X pins σ H s){a:Addr}(h:(~~~s)<=a):a∉X.fs:=λhb=>by let⟨_,o,ho,_⟩:=I.ok.funs.mem hb;show absurd (Ys (Yo ho)<|Yr I.sz h) (PZ _)
def Inv.cne(I:Inv X pins σ H s):∀x c,X.env.cells.lookup x=some c->c≠X.env.locals:=λx c e z=>by let⟨v,o,ho,hd⟩:=I.cell x c e;let⟨m,⟨o',es,ep,WE,SA,_⟩,_⟩:=I.loc;rw[z,WE]at ho;cases ho;rw[SA]at hd;cases hd
def Inv.funs(I:Inv X pins σ H s):s.heap.FunFrames X.base X.outer:=by
 let all:∀(l:List Env),(∀b∈VV l,b∈X.fs)->X.s₀.heap.FunFrames X.base l->s.heap.FunFrames X.base l:=by
  intro l
  induction l with
  |nil=>intro _ _;trivial
  |cons env r ih=>
   intro hs hl;let⟨hk,⟨L,o,hf,hn,ho,hd⟩,hr⟩:=hl;let hL:L∈X.fs:=hs L (by unfold VV;rw[Ew,hf];show Yc)
   let⟨sl,e⟩:=I.base.slot L o ho (I.ok.frf L hL) hL λz=>I.ok.exfs L z hL;exists hk,⟨L,_,hf,hn,e,hd⟩,ih (λb hb=>hs b<|by unfold VV;rw[Ew,hf];show Ye _ hb) hr
 show all X.outer (λ_ hb=>hb) I.ok.funs
def Inv.stack(I:Inv X pins σ H s):s.heap.FunFrames X.base X.stack:=by
 rcases I.ok.stk with e|⟨e,hf⟩
 .rw[e];show I.funs
 .rw[e];let⟨m,hn,_⟩:=I.loc;show .cons (by rw[I.ok.kind];decide) hf hn ?_ I.funs;show Heap.get?_none_of_le (Yr I.ok.bsz I.ok.above)
def Inv.stkSub(I:Inv X pins σ H s):∀b∈VV X.stack,b∈X.env.locals::X.fs:=λb hb=>by
 rcases I.ok.stk with e|⟨e,hf⟩
 .rw[e]at hb;show Ye _ hb
 .rw[e]at hb;unfold VV at hb;rwa[Ew,hf]at hb
def Inv.stkFree(I:Inv X pins σ H s):∀b∈VV X.stack,H b=none:=λb hb=>by
 rcases Yh.mp (I.stkSub b hb) with e|hb
 .rw[e];show I.free
 .let⟨_,o,ho,_⟩:=I.ok.funs.mem hb;show I.base.free b o ho (I.ok.frf b hb) λz=>I.ok.exfs b z hb
def Inv.step{g':Array GenState}{t':Nat}{d':Drawn}{ch:List Addr}(I:Inv X pins σ H s)
  (Nk:∀b∈ch,(b∈X.ex\/(~~~X.s₀)<=b)/\b≠X.env.locals/\(∀x c,X.env.cells.lookup x=some c->c≠b)/\∀p∈X.pn++pins,p.1≠b)
  (keep:∀b o,b≠X.env.locals->b∉X.fs->b∉ch->s.heap.get? b=some o->H b=none->h'.get? b=some o)
  (slot:∀b o,b≠X.env.locals->b∈X.fs->b∉ch->s.heap.get? b=some o->H b=none->∃sl,h'.get? b=some {o with slots:=sl})(free:∀b o,b∉ch->s.heap.get? b=some o->H b=none->H' b=none)
  (there:∀b o,b∉ch->s.heap.get? b=some o->∃o',h'.get? b=some o')
  (tups:∀b xs,H b=some (.tup xs)->H' b=some (.tup xs))(frzs:∀b o u,H b=some (.frz o u)->H' b=some (.frz o u))(tbls:∀b ps,H b=some (.tbl ps)->∃more,H' b=some (.tbl<|ps++more))
  (ns:∀m,s.heap.Ns X.env.locals m->h'.Ns X.env.locals m)(hok:HOk X.prog X.w H' h')(hg:AllBare g'):
  Inv X pins σ H' {s with heap:=h',gens:=g',drawn:=d',toks:=t'}:=by
 let DV:∀b o,X.s₀.heap.get? b=some o->b≠X.env.locals:=λb o e=>YB (Ys (Yo e) I.ok.above);let xi:∀b o,X.s₀.heap.get? b=some o->b∉X.ex->b∉ch:=λb o e hx hb=>by
  rcases(Nk b hb).1 with z|z
  .show hx z
  .show absurd (Ys (Yo e) z) (PZ _)
 let cellK:∀x c,X.env.cells.lookup x=some c->∀v,s.heap.IsCell c v->h'.IsCell c v:=λx c e v ⟨o,ho,hd⟩=>by
  let DU:c∉ch:=λz=>(Nk c z).2.2.1 x c e rfl;cases hc:c∈X.fs
  .let⟨sl,q⟩:=slot c o (I.cne x c e) hc DU ho (I.freeC x c e);exists _,q,hd
  .exists o,keep c o (I.cne x c e) hc DU ho<|I.freeC x c e,hd
 exists I.ok,I.os,hg,⟨λb o e n hb hx=>?_,λb o e n hb hx=>?_,λb o e n hx=>?_,λb o e hx=>?_,λb xs e=>tups b xs<|I.base.tups b xs e,λb o xs e=>frzs b o xs<|I.base.frzs b o xs e,λb ps e=>?_⟩,?_,λx c e=>?_,?_,λx c e=>?_,λp hp=>?_,hok,I.len
 .show keep b o (DV b o e) hb (xi b o e hx) (I.base.keep b o e n hb hx) (I.base.free b o e n hx)
 .let⟨sl,e1⟩:=I.base.slot b o e n hb hx;let⟨ID,e2⟩:=slot b _ (DV b o e) hb (xi b o e hx) e1 (I.base.free b o e n hx);exists ID,e2
 .let⟨o',e1⟩:=I.base.there b o e hx;show free b o' (xi b o e hx) e1 (I.base.free b o e n hx)
 .let⟨o',e1⟩:=I.base.there b o e hx;show there b o' (xi b o e hx) e1
 .let⟨m1,e1⟩:=I.base.tbls b ps e;let⟨m2,e2⟩:=tbls b _ e1;exists m1++m2,by rw[e2,Array.append_assoc]
 .let⟨m,hn,hl⟩:=I.loc;exists m,ns m hn,λi x v e1 e2 e3=>?_;let⟨u,r,l⟩:=hl i x v e1 e2 e3;exists u,r,?_;rcases l with l|⟨k,c,e,z⟩
  .show .inl l
  .show .inr ⟨k,c,e,cellK x c e _ z⟩
 .let⟨v,z⟩:=I.cell x c e;exists v,cellK x c e v z
 .let⟨m,⟨o,_,_,ho,_⟩,_⟩:=I.loc;show free _ o (λz=>(Nk _ z).2.1 Z) ho I.free
 .let⟨v,o,ho,hd⟩:=I.cell x c e;show free c o (λz=>(Nk c z).2.2.1 x c e Z) ho (I.freeC x c e)
 .let⟨e,n,ne,nf,d⟩:=I.pin p hp;let DU:p.1∉ch:=λz=>(Nk p.1 z).2.2.2 p hp rfl
  exists keep p.1 p.2 ne nf DU e n,free p.1 p.2 DU e n,ne,nf,d
def Inv.un{t':Nat}(I:Inv X pins σ H s)(u:Un X.fs [] H H' s.heap h')(hok:HOk X.prog X.w H' h'):Inv X pins σ H' {s with heap:=h',toks:=t'}:=by
 let⟨m,⟨o,es,ep,ho,r⟩,_⟩:=id I.loc;let⟨sl,hL⟩:=u.any ho I.free B;show I.step (g':=s.gens) (d':=s.drawn) (ch:=[]) (λ_ z=>nomatch z) (λb o _ hb _ e n=>u.keep b o e n hb B) (λb o _ hb _ e n=>u.slot b o e n hb B) (λb o _ e n=>u.free b o e n B) (λb o _ e=>u.there b o e B) u.tups u.frzs u.tbls (λm' hm=>by let⟨o',xh,xg,WE,r'⟩:=hm;rw[ho]at WE;cases WE;exists _,xh,xg,hL,r') hok I.bare
def Inv.call{t':Nat}{d':Drawn}(I:Inv X pins σ H s)(u:Un (VV X.stack) ch H H' s.heap h')(hok:HOk X.prog X.w H' h')(hg:AllBare g')
  (Nk:∀b∈ch,(b∈X.ex\/(~~~X.s₀)<=b)/\b≠X.env.locals/\(∀x c,X.env.cells.lookup x=some c->c≠b)/\∀p∈X.pn++pins,p.1≠b):
  Inv X pins σ H' {s with heap:=h',gens:=g',drawn:=d',toks:=t'}:=by
 let⟨m,⟨o,es,ep,ho,r⟩,_⟩:=id I.loc;let⟨sl,hL⟩:=u.any ho I.free λz=>(Nk _ z).2.1 rfl;show I.step (ch:=ch) Nk (λb o hL hb hc e n=>u.keep b o e n (λz=>(Yh.mp<|I.stkSub b z).elim hL hb) hc) (λb o _ _ hc e n=>u.any e n hc) (λb o hc e n=>u.free b o e n hc) (λb o hc e=>u.there b o e hc) u.tups u.frzs u.tbls (λm' hm=>by let⟨o',xh,xg,WE,r'⟩:=hm;rw[ho]at WE;cases WE;exists _,xh,xg,hL,r') hok hg
def Inv.turned{t':Nat}(I:Inv X pins σ H s)(k:∀b o,b≠it->s.heap.get? b=some o->h'.get? b=some o)(hn:H it=none)(hL:it≠X.env.locals)
  (h1:it∈X.ex\/(~~~X.s₀)<=it)(h2:∀x c,X.env.cells.lookup x=some c->c≠it)(h3:∀p∈X.pn++pins,p.1≠it):Inv X pins σ H {s with heap:=h',toks:=t'}:=by
 let dS:∀b u,H b=some u->b≠it:=λb u e z=>by rw[z,hn]at e;cases e
 show I.step (g':=s.gens) (d':=s.drawn) (ch:=[it]) (λb hb=>?_) (λb o _ _ hc e _=>k b o (λz=>hc<|by simp[z]) e) (λb o _ _ hc e _=>⟨o.slots,k b o (λz=>hc<|by simp[z]) e⟩) (λ_ _ _ _ n=>n)
  (λb o hc e=>⟨o,k b o (λz=>hc<|by simp[z]) e⟩) (λ_ _ e=>e) (λ_ _ _ e=>e) (λb ps e=>⟨#[],by rw[e];simp⟩) (λm hm=>?_) (λb u e=>?_) I.bare
 .let e:b=it:=by simpa using hb
  subst e;exists h1,hL,h2,h3
 .let⟨o,es,ep,ho,r⟩:=hm;exists o,es,ep,k _ o (Xc hL) ho,r
 .show(I.hok b u e).stay (λc v hc q=>k c v ?_ q) (λ_ q=>q) λ_ _ q=>q;rcases hc with z|z
  .rw[z];show dS b u e
  .show dS c _ z
def Inv.tok(I:Inv X pins σ H s)(t:Nat):Inv X pins σ H {s with toks:=t}:=I.un (h':=s.heap) (t':=t) Un.refl I.hok
def Inv.kept{t':Nat}(I:Inv X pins σ H s)(k:∀b u,s.heap.get? b=some u->h'.get? b=some u):Inv X pins σ H {s with heap:=h',toks:=t'}:=I.un (Un.kept k) (I.hok.kept k)
def Inv.laid{t':Nat}(I:Inv X pins σ H s)(k:∀b u,s.heap.get? b=some u->h'.get? b=some u)(hp:(~~~s)<=a)(new:ObjOk X.prog X.w (upd H a o) h' a o):
  Inv X pins σ (upd H a o) {s with heap:=h',toks:=t'}:=I.un (Un.laid k hp<|I.hok.fresh hp) (I.hok.laid k hp new)
def Inv.write{t':Nat}(I:Inv X pins σ H s)(mu:DZ (H x))(he:e=x\/H e=some (.own x))(k:∀b u,b≠e->s.heap.get? b=some u->h'.get? b=some u)(FG:∃u,h'.get? e=some u)
  (new:ObjOk X.prog X.w (upd H x o) h' x o):Inv X pins σ (upd H x o) {s with heap:=h',toks:=t'}:=I.un (Un.write mu he k FG) (I.hok.write mu he k FG new)
def Inv.weak(I:Inv X pins σ H s)(hl:σ'.length=σ.length)(w:∀(i:Nat) v,σ'[i]?=some (some v)->σ[i]?=some (some v)):Inv X pins σ' H s:=
 ⟨I.ok,I.os,I.bare,I.base,by let⟨m,hn,QD⟩:=I.loc;show⟨m,hn,λi x v e1 e2 e3=>QD i x v e1 (w i v e2) e3⟩,I.cell,I.free,I.freeC,I.pin,I.hok,hl.trans I.len⟩
def Inv.pins_of(I:Inv X pins σ H s)(h:∀p∈pins',s.heap.get? p.1=some p.2/\H p.1=none/\p.1≠X.env.locals/\p.1∉X.fs/\∀v,p.2.data≠.cell v):Inv X pins' σ H s:=
 ⟨I.ok,I.os,I.bare,I.base,I.loc,I.cell,I.free,I.freeC,λp hp=>(XA.mp hp).elim (λz=>I.pin p<|Yf _ z) (h p),I.hok,I.len⟩
def sT{N:List Str}(hN:N.Nodup){i j:Nat}{x:Str}(a:N[i]?=some x)(b:N[j]?=some x):i=j:=by let⟨h1,e1⟩:=Xy.mp a;let⟨h2,e2⟩:=Xy.mp b;show(List.getElem_inj hN).mp (e1.trans e2.symm)
def DT{E:Ae}{i:Nat}{x:Str}{Q:Unit->Shared->Prop}(I:Inv X pins σ H s)(hN:X.N.Nodup)(hi:X.N[i]?=some x)(hx:Loc X.env.scope x)(r:RelV v u)
  (h:∀s',Inv X pins (σ.set i<|some v) H s'->(∃a,Heap.SameBut a s.heap s'.heap/\(a=X.env.locals\/X.env.cells.lookup x=some a))->Q () s')(hf:X.fn x=true\/X.env.scope.names.lookup x=some .local:=by first|show .inl rfl|show .inr rfl|assumption):wpAny M A (storeName X.env x u) Q E s:=by
 let⟨m,hn,hl⟩:=id I.loc;let sS:(X.env.scope.kind == .class||(X.env.scope.kind == .module&&X.env.locals != X.env.globals))=false:=by rw[I.ok.kind];rfl
 let Mj:i<σ.length:=by rw[I.len];show(Xy.mp hi).1
 let cne:=I.cne;let tracked:∀{a:Addr}{h':Heap},(∃o,s.heap.get? a=some o/\H a=none)->Heap.SameBut a s.heap h'->HOk X.prog X.w H h':=λ{a h'} ha hs b ob e=>by
  let⟨_,_,Ks⟩:=ha;show(I.hok b ob e).stay (λc w' hc q=>(hs.2 c ?_).trans q) (λ_ q=>q) λ_ _ q=>q;rintro rfl;rcases hc with rfl|hc
  .rw[Ks]at e;cases e
  .rw[Ks]at hc;cases hc
 rcases hx with hk|hk
 .show wpAny_storeName_local hk hn (λh' RJ hs=>?_) sS;let⟨oL,_,_,Pf,_⟩:=id hn;show h _ ⟨I.ok,I.os,I.bare,⟨λb o e n hb hx=>?_,λb o e n hb hx=>?_,I.base.free,λb o e hx=>?_,I.base.tups,I.base.frzs,I.base.tbls⟩,⟨_,RJ,λj y v' e1 e2 e3=>?_⟩,λy c e=>?_,I.free,I.freeC,λp hp=>?_,tracked ⟨oL,Pf,I.free⟩ hs,by simpa using I.len⟩ ⟨_,hs,.inl Z⟩
  .show(hs.2 b<|YB<|Ys (Yo e) I.ok.above).trans (I.base.keep b o e n hb hx)
  .let⟨sl,e1⟩:=I.base.slot b o e n hb hx;exists sl,(hs.2 b<|YB<|Ys (Yo e) I.ok.above).trans e1
  .let⟨o',e1⟩:=I.base.there b o e hx;exists o',(hs.2 b<|YB<|Ys (Yo e) I.ok.above).trans e1
  .cases hj:j=i
   .subst hj;rw[hi]at e1;cases e1;rw[ui Mj]at e2;cases e2;exists u,r,.inl ⟨hk,B⟩
   .rw[t8 (Xc hj)]at e2;let⟨u',r',q⟩:=hl j y v' e1 e2 e3;exists u',r',?_;rcases q with ⟨k,e⟩|⟨k,c,e,z⟩
    .show .inl ⟨k,?_⟩
     have:y≠x:=λe=>hj (sT hN e1<|e▸hi)
     simp[this,e]
    .show .inr ⟨k,c,e,z.sameBut hs<|cne y c e⟩
  .let⟨w',z⟩:=I.cell y c e;exists w',z.sameBut hs<|cne y c e
  .let⟨e,n,ne,nf,d⟩:=I.pin p hp;exists (hs.2 p.1 ne).trans e,n,ne,nf,d
 .let FF:X.fn x=true:=by
   rcases hf with z|z
   .show z
   .rw[z]at hk;cases hk
  let⟨c,hc⟩:=I.ok.has x (.inl hk);let⟨w',z⟩:=I.cell x c hc;show wpAny_storeName_cell I.ok.kind hk hc z λh' VU hs=>?_;let⟨oc,xf,sR⟩:=id z;show h {s with heap:=h'} ⟨I.ok,I.os,I.bare,⟨λb o e n hb hx=>?_,λb o e n hb hx=>?_,I.base.free,λb o e hx=>?_,I.base.tups,I.base.frzs,I.base.tbls⟩,⟨m,hn.sameBut hs<|Xc<|cne x c hc,λj y v' e1 e2 e3=>?_⟩,λy c' e=>?_,I.free,I.freeC,λp hp=>?_,tracked ⟨oc,xf,I.freeC x c hc⟩ hs,by simpa using I.len⟩ ⟨c,hs,.inr hc⟩
  .show(hs.2 b<|YB<|Ys (Yo e)<|I.ok.cab x c FF hc).trans (I.base.keep b o e n hb hx)
  .let⟨sl,e1⟩:=I.base.slot b o e n hb hx;exists sl,(hs.2 b<|YB<|Ys (Yo e)<|I.ok.cab x c FF hc).trans e1
  .let⟨o',e1⟩:=I.base.there b o e hx;exists o',(hs.2 b<|YB<|Ys (Yo e)<|I.ok.cab x c FF hc).trans e1
  .cases hj:j=i
   .subst hj;rw[hi]at e1;cases e1;rw[ui Mj]at e2;cases e2;exists u,r,.inr ⟨.inl hk,c,hc,VU⟩
   .rw[t8 (Xc hj)]at e2;let⟨u',r',q⟩:=hl j y v' e1 e2 e3;exists u',r',?_;rcases q with q|⟨k,c',e,z'⟩
    .show .inl q
    .show .inr ⟨k,c',e,z'.sameBut hs ?_⟩;rintro rfl;show hj (sT hN e1<|I.ok.inj _ _ _ e hc▸hi)
  .cases dR:c'=c
   .subst dR;exists _,VU
   .let⟨w2,z2⟩:=I.cell y c' e;exists w2,z2.sameBut hs dR
  .let⟨e,n,ne,nf,d⟩:=I.pin p hp;exists (hs.2 p.1 ?_).trans e,n,ne,nf,d;intro q;rw[q,xf]at e;let q':oc=p.2:=Yi e
   show d w' (by rwa[<-q'])
def sQ{E:Ae}{i:Nat}{x:Str}{Q:Unit->Shared->Prop}(I:Inv X pins σ H s)(hN:X.N.Nodup)(hi:X.N[i]?=some x)(hx:Loc X.env.scope x)(r:RelV v u)
  (h:∀s',Inv X pins (σ.set i<|some v) H s'->Q () s')(hf:X.fn x=true\/X.env.scope.names.lookup x=some .local:=by first|show .inl rfl|show .inr rfl|assumption):wpAny M A (storeName X.env x u) Q E s:=
 DT I hN hi hx r (λs' I' _=>h s' I') hf
def Inv.call'(I:Inv X pins σ H s)(ho:s'.os=s.os)(u:Un (VV X.stack) ch H H' s.heap s'.heap)(hok:HOk X.prog X.w H' s'.heap)(hg:AllBare s'.gens)
  (Nk:∀b∈ch,(b∈X.ex\/(~~~X.s₀)<=b)/\b≠X.env.locals/\(∀x c,X.env.cells.lookup x=some c->c≠b)/\∀p∈X.pn++pins,p.1≠b):Inv X pins σ H' s':=by
 let⟨h',g',d',t',o'⟩:=s';let e:o'=s.os:=ho
 subst e;show I.call (g':=g') (t':=t') (d':=d') u hok hg Nk
end
abbrev XK:=Value->Option Addr->Hp->Prop
abbrev St:=List (Option V)
abbrev VK:=V->Hp->Prop
abbrev TE:=St->Hp->VK->Prop
abbrev TT:=St->Hp->(Bool->Hp->Prop)->Prop
abbrev TA:=St->Hp->(List V->Hp->Prop)->Prop
structure Ends where
 nx:St->Hp->Prop
 rt:VK
 bk:St->Hp->Prop:=λ_ _=>False
 ct:St->Hp->Prop:=λ_ _=>False
abbrev TS:=Ends->St->Hp->Prop
def EP(X:Cx)(pins:List (Addr×Obj))(σ:St)(Q:VK)(u:Value)(s':Shared):(Prop):=∃v H',Inv X pins σ H' s'/\RelV v u/\Q v H'
def TP(X:Cx)(pins:List (Addr×Obj))(σ:St)(Q:Bool->Hp->Prop)(b:Bool)(s':Shared):(Prop):=∃H',Inv X pins σ H' s'/\Q b H'
def Zaj(X:Cx)(pins:List (Addr×Obj))(σ:St)(Q:List V->Hp->Prop)(us:Ag)(s':Shared):(Prop):=∃vs H',Inv X pins σ H' s'/\Vals vs us/\Q vs H'
def SP(X:Cx)(pins:List (Addr×Obj))(D:Ends)(f:Flow)(s':Shared):(Prop):=
 match f with
 | .next=>∃σ' H',Inv X pins σ' H' s'/\D.nx σ' H'
 | .brk=>∃σ' H',Inv X pins σ' H' s'/\D.bk σ' H'
 | .cont=>∃σ' H',Inv X pins σ' H' s'/\D.ct σ' H'
 | .ret u=>∃v σ' H',Inv X pins σ' H' s'/\RelV v u/\D.rt v H'
def PE(X:Cx)(e:Expr)(t:TE):(Prop):=
 ∀(pins:List (Addr×Obj))(s:Shared)(σ:St)(H:Hp)(Q:VK),Inv X pins σ H s->t σ H Q->wpAny (model X.prog X.w) X.A (eval e X.env) (EP X pins σ Q) X.xe s
def PT(X:Cx)(e:Expr)(t:TT):(Prop):=
 ∀(pins:List (Addr×Obj))(s:Shared)(σ:St)(H:Hp)(Q:Bool->Hp->Prop),Inv X pins σ H s->t σ H Q->wpAny (model X.prog X.w) X.A (isTrue e X.env<|eval e X.env) (TP X pins σ Q) X.xe s
def PW(X:Cx)(e:Expr)(t:TT):(Prop):=
 ∀(whole:Sem Value)(pins:List (Addr×Obj))(s:Shared)(σ:St)(H:Hp)(Q:Bool->Hp->Prop),Inv X pins σ H s->t σ H Q->wpAny (model X.prog X.w) X.A (isTrue e X.env whole) (TP X pins σ Q) X.xe s
def PW.pt(h:PW X e t):PT X e t:=h _
def PA(X:Cx)(es:List Expr)(t:TA):(Prop):=
 ∀(pos:Pos)(pins:List (Addr×Obj))(s:Shared)(σ:St)(H:Hp)(Q:List V->Hp->Prop),Inv X pins σ H s->t σ H Q->wpAny (model X.prog X.w) X.A (spliced<|backTo pos<|starEach es X.env) (Zaj X pins σ Q) X.xe s
def PS(X:Cx)(st:Stmt)(t:TS):(Prop):=
 ∀(pins:List (Addr×Obj))(s:Shared)(σ:St)(H:Hp)(D:Ends),Inv X pins σ H s->t D σ H->wpAny (model X.prog X.w) X.A (exec st X.env) (SP X pins D) X.xe s
def PSs(X:Cx)(st:List Stmt)(t:TS):(Prop):=
 ∀(pins:List (Addr×Obj))(s:Shared)(σ:St)(H:Hp)(D:Ends),Inv X pins σ H s->t D σ H->wpAny (model X.prog X.w) X.A (execs st X.env) (SP X pins D) X.xe s
def thn{α:Type}{t:Sem α}{Q Q':α->Shared->Prop}{M:Model}{A:Around}{E:Ae}{s:Shared}(h:wpAny M A t Q E s)(hQ:∀a s,Q a s->Q' a s):wpAny M A t Q' E s:=Uc h hQ λ_ _ x=>x
section
variable{X:Cx}
inductive isB(x:V)(H:Hp)(Q:Bool->Hp->Prop):Prop
 |mk (k:Bool) (_:x=.bl k) (_:Q k H)
inductive tVar(i:Nat)(σ:St)(H:Hp)(Q:VK):Prop
 |mk (v:_) (_:σ[i]?=some (some v)) (_:Q v H)
def tC(v:V):(TE):=λ_ H Q=>Q v H
def Zak{x:Str}{pos:Pos}(hN:X.N[i]?=some x)(hv:sU X.env.scope x)(hd:(x == ("__debug__":Str))=false:=by decide)(SQ:(x == ("__classdict__":Str))=false:=by decide):PE X (.Name x pos) (tVar i):=by
 intro pins s σ H Q I h;let⟨v,e,h⟩:=h;let⟨m,hn,hl⟩:=I.loc;let⟨u,r,l⟩:=hl i x v hN e hv;let fin:EP X pins σ Q u s:=⟨v,H,I,r,h⟩
 rcases l with ⟨hk,hm⟩|⟨hk,c,hc,Rj⟩
 .show wpAny_Name (wpAny_loadName_local I.ok.kind hk hn hm fin) hd
 .rcases hk with hk|hk
  .show wpAny_Name (wpAny_loadName_cell I.ok.kind hk hc Rj fin) hd
  .show wpAny_Name (wpAny_loadName_free I.ok.kind hk hc Rj fin SQ) hd
def Zb{i j pos}:PE X (.Constant (.int i) j pos) (tC (.int i)):=λ_ _ _ H _ I h=>wpAny_Constant_int ⟨.int i,H,I.tok _,⟨_,Z⟩,h⟩
def Mi{b j pos}:PE X (.Constant (.bool b) j pos) (tC (.bl b)):=λ_ _ _ H _ I h=>Constant_bool ⟨.bl b,H,I,Z,h⟩
def xc{j pos}:PE X (.Constant .none j pos) (tC .non):=λ_ _ _ H _ I h=>Constant_none ⟨.non,H,I,Z,h⟩
def Zal{x j pos}:PE X (.Constant (.str x) j pos) (tC (.str x)):=λ_ _ _ H _ I h=>Calls.Constant_str ⟨.str x,H,I.tok _,⟨_,Z⟩,h⟩
def Gl(X:Cx)(x:Str):(Prop):=X.env.kindOf x=some .globalImplicit
def Pe{E:Ae}{u:Value}{pos:Pos}{Q:Ae}(I:Inv X pins σ H s)(hg:Gl X x)(hm:X.mg x=some u)(h:Q u s)
  (hd:(x == ("__debug__":Str))=false:=by decide):wpAny (model X.prog X.w) X.A (eval (.Name x pos) X.env) Q E s:=
 um I.ok.kind hg (Calls.loadGlobal_global (by rw[I.ok.glob];show I.mod.glob.keeps I.bk) hm h) hd
def PV{E:Ae}{u:Value}{pos:Pos}{Q:Ae}(I:Inv X pins σ H s)(hg:Gl X x)(hm:X.mg x=none)(hv:bootBuiltins x=some u)(h:Q u s)
  (hn:x≠"__name__":=by decide)(hd:(x == ("__debug__":Str))=false:=by decide):wpAny (model X.prog X.w) X.A (eval (.Name x pos) X.env) Q E s:=by let⟨mb,h1,h2⟩:=I.mod.blt;show um I.ok.kind hg (Calls.loadGlobal_builtin (by rw[I.ok.glob];show I.mod.glob.keeps I.bk) hm (by rw[I.ok.blt];show h1.keeps I.bk) ((h2 x hn).trans hv) h) hd
def Pd{u:Value}{pos:Pos}(hg:Gl X x)(hm:X.mg x=some u)(r:RelV v u)(hd:(x == ("__debug__":Str))=false:=by decide):PE X (.Name x pos) (tC v):=
 λ_ _ _ H _ I h=>Pe I hg hm ⟨v,H,I,r,h⟩ hd
def sN{u:Value}{pos:Pos}(hg:Gl X x)(hm:X.mg x=none)(hv:bootBuiltins x=some u)(r:RelV v u)(hn:x≠"__name__":=by decide)(hd:(x == ("__debug__":Str))=false:=by decide):PE X (.Name x pos) (tC v):=
 λ_ _ _ H _ I h=>PV I hg hm hv ⟨v,H,I,r,h⟩ hn hd
variable{a b:Expr}{ta tb:TE}{pos:Pos}
def PC(X:Cx)(op:CmpOp)(a b:Expr)(t:TE):(Prop):=
 ∀(pins:List (Addr×Obj))(s:Shared)(σ:St)(H:Hp)(Q:VK),Inv X pins σ H s->t σ H Q->
  wpAny (model X.prog X.w) X.A (eval a X.env) (λv s₁=>wpAny (model X.prog X.w) X.A (eval b X.env) (λu s₂=>wpAny (model X.prog X.w) X.A (compareOp op v u) (EP X pins σ Q) X.xe s₂) X.xe s₁) X.xe s
def tB(t:TE):(TT):=λσ H Q=>t σ H λx H1=>isB x H1 Q
def IC{e:Expr}{t:TE}(h:PE X e t)(he:∀whole,isTrue e X.env whole=(do let v <-whole;standAt e.pos;holding [v] (truthy v)):=by intro _;rfl):PT X e (tB t):=by intro pins s σ H Q I hw;show isTrue_plain (thn (h pins s σ H _ I hw) λv s1 zz=>?_) (he _);let⟨x,H1,I1,r1,q1⟩:=zz;let⟨d,rfl,q⟩:=q1;cases r1;show Tx ⟨H1,I1,q⟩
variable{tA xb:TT}{rest:List Expr}
def sM(t u:TT):(TT):=λσ H Q=>t σ H λc H1=>if c=true then u σ H1 Q else Q false H1
def tOr(t u:TT):(TT):=λσ H Q=>t σ H λc H1=>if c=true then Q true H1 else u σ H1 Q
def sL(t:TT):(TT):=λσ H Q=>t σ H λc H1=>Q (!c) H1
def DS(ha:PT X a tA):PW X (.BoolOp .And [a] pos) tA:=by
 intro wh pins s σ H Q I h;show isTrue_and (thn (ha pins s σ H Q I h) λc s1 e=>?_);cases c with
 |true=>show isTrue_and_nil e
 |false=>show e
def xa(ha:PT X a tA):PW X (.BoolOp .Or [a] pos) tA:=by
 intro wh pins s σ H Q I h;show isTrue_or (thn (ha pins s σ H Q I h) λc s1 e=>?_);cases c with
 |false=>show isTrue_or_nil e
 |true=>show e
def DR(ha:PT X a tA)(hb:PW X (.BoolOp .And (b::rest) pos) xb):PW X (.BoolOp .And (a::b::rest) pos) (sM tA xb):=by
 intro wh pins s σ H Q I h;show isTrue_and (thn (ha pins s σ H _ I h) λc s1 Xv=>?_);let⟨H1,I1,q1⟩:=Xv;cases c with
 |true=>show hb wh pins s1 σ H1 Q I1 q1
 |false=>exists H1,I1,q1
def Ri(ha:PT X a tA)(hb:PW X (.BoolOp .Or (b::rest) pos) xb):PW X (.BoolOp .Or (a::b::rest) pos) (tOr tA xb):=by
 intro wh pins s σ H Q I h;show isTrue_or (thn (ha pins s σ H _ I h) λc s1 Xv=>?_);let⟨H1,I1,q1⟩:=Xv;cases c with
 |true=>exists H1,I1,q1
 |false=>show hb wh pins s1 σ H1 Q I1 q1
def Kr(ha:PT X a tA):PT X (.UnaryOp .Not a pos) (sL tA):=by intro pins s σ H Q I h;show isTrue_not (ha pins s σ H (λc H1=>Q (!c) H1) I h)
def sJ(ta tb:TE):(TE):=λσ H Q=>ta σ H λx H1=>∃c,x=.bl c/\if c=true then tb σ H1 Q else Q (.bl false) H1
def sI(ta:TE):(TE):=λσ H Q=>ta σ H λx H1=>∃c,x=.bl c/\Q (.bl<|!c) H1
def DQ{op}(h:PE X a t):PE X (.BoolOp op [a] pos) t:=λpins s σ H Q I hw=>BoolOp_one (h pins s σ H Q I hw)
def IB(ha:PE X a ta)(hb:PE X (.BoolOp .And (b::rest) pos) tb):PE X (.BoolOp .And (a::b::rest) pos) (sJ ta tb):=by
 intro pins s σ H Q I h;show BoolOp_and (thn (ha pins s σ H _ I h) λv s1 Xv=>?_);let⟨x,H1,I1,r1,q1⟩:=Xv;let⟨c,rfl,q1⟩:=q1;cases r1;show Tx ?_;cases c with
 |true=>show hb pins s1 σ H1 Q I1 q1
 |false=>exists .bl false,H1,I1,Z,q1
def sG(ha:PE X a ta):PE X (.UnaryOp .Not a pos) (sI ta):=by intro pins s σ H Q I h;show UnaryOp_ (thn (ha pins s σ H _ I h) λv s1 Xv=>?_);let⟨x,H1,I1,r1,q1⟩:=Xv;let⟨c,rfl,q1⟩:=q1;cases r1;show not_of (Tx ⟨.bl<|!c,H1,I1,Z,q1⟩)
def tIf(t:TT)(ta tb:TE):(TE):=λσ H Q=>t σ H λc H1=>if c=true then ta σ H1 Q else tb σ H1 Q
def DP{c:Expr}(hc:PT X c tA)(ha:PE X a ta)(hb:PE X b tb):PE X (.IfExp c a b pos) (tIf tA ta tb):=by
 intro pins s σ H Q I h;show wpAny_IfExp (thn (hc pins s σ H _ I h) λd s1 Xv=>?_);let⟨H1,I1,q1⟩:=Xv;cases d with
 |true=>show ha pins s1 σ H1 Q I1 q1
 |false=>show hb pins s1 σ H1 Q I1 q1
end
def SqL(K:Ad)(H:Hp)(a:Addr)(xs:List V):(Prop):=
 Rd H a (.lst xs)\/
  ∃(o:Obj)(XX:Array Value)(n:Nat),K.lookup a=some o/\o.cls=.type "list"/\o.dict=none/\o.data=.seq XX n/\XX.size<=sizeLine/\Vals xs XX.toList
def SqT(K:Ad)(H:Hp)(a:Addr)(xs:List V):(Prop):=
 Rd H a (.tup xs)\/
  ∃(o:Obj)(XX:Array Value)(n:Nat),K.lookup a=some o/\o.cls=.type "tuple"/\o.data=.seq XX n/\XX.size<=sizeLine/\Vals xs XX.toList
def sF:(Value->Option V)
 | .none=>some .non
 | .bool b=>some (.bl b)
 | .int i _=>some (.int i)
 | .str x _=>some (.str x)
 | .bytes b _=>some (.byt b)
 | .float b _=>some (.flt b)
 | .ref a=>some ↑a
 | .type n=>some (.ty n)
 |_=>none
def RelV.abs(r:RelV x u):sF u=some x:=by
 cases x with
 |non=>cases r;rfl
 |bl _=>cases r;rfl
 |int _=>let⟨t,rfl⟩:=r;rfl
 |str _=>let⟨t,rfl⟩:=r;rfl
 |byt _=>let⟨t,rfl⟩:=r;rfl
 |flt _=>let⟨t,rfl⟩:=r;rfl
 |ref _=>cases r;rfl
 |ty _=>cases r;rfl
def RelV.inj(r:RelV x u)(q:RelV y u):x=y:=Yi (r.abs.symm.trans q.abs)
def Vals.inj{xs ys:List V}{us:Ag}(h:Vals xs us)(h':Vals ys us):xs=ys:=by
 induction h generalizing ys with
 |nil=>cases h';rfl
 |cons r t ih=>cases h' with
  |cons r' t'=>rw[r.inj r',ih t']
section
variable{X:Cx}{pins:List (Addr×Obj)}{σ:St}{H:Hp}{s:Shared}{a:Addr}{xs ys:List V}
def SqL.of{K:Ad}(h:H a=some (.lst xs)):SqL K H a xs:=.inl (.inl h)
def SqT.of{K:Ad}(h:H a=some (.tup xs)):SqT K H a xs:=.inl (.inl h)
def Inv.list(I:Inv X pins σ H s)(h:SqL X.K H a xs):∃XX:Ag,Vals xs XX/\PlainL s.heap a XX.toArray/\xs.length<=sizeLine:=by
 rcases h with h|⟨o,XX,n,hk,hc,hd,hs,hz,r⟩
 .let⟨z,XX,n,r,e⟩:=h.ok I.hok;exists XX,r,⟨_,n,e,Z,Z,Z⟩,z
 .exists XX.toList,r,⟨o,n,I.kIn a o hk,hc,hd,by simpa using hs⟩,?_;let e:=r.length
  simp only[Yu]at e;lia
def Inv.tuple(I:Inv X pins σ H s)(h:SqT X.K H a xs):∃XX:Ag,Vals xs XX/\IsTup s.heap a XX.toArray/\xs.length<=sizeLine:=by
 rcases h with h|⟨o,XX,n,hk,hc,hs,hz,r⟩
 .let⟨z,XX,r,p⟩:=h.ok I.hok;exists XX,r,p,z
 .exists XX.toList,r,⟨o,I.kIn a o hk,hc,n,by simpa using hs⟩,?_;let e:=r.length
  simp only[Yu]at e;omega
def Inv.list_inj(I:Inv X pins σ H s)(h:SqL X.K H a xs)(h':SqL X.K H a ys):xs=ys:=by
 let⟨XX,r,⟨o,n,e,_,_,d⟩,_⟩:=I.list h;let⟨its',r',⟨o',n',e',_,_,d'⟩,_⟩:=I.list h';rw[e]at e';cases e';rw[d]at d';injection d' with d1 _
 have:XX=its':=by simpa using QP Array.toList d1
 subst this;show r.inj r'
def Inv.tuple_inj(I:Inv X pins σ H s)(h:SqT X.K H a xs)(h':SqT X.K H a ys):xs=ys:=by
 let⟨XX,r,⟨o,e,_,n,d⟩,_⟩:=I.tuple h;let⟨its',r',⟨o',e',_,n',d'⟩,_⟩:=I.tuple h';rw[e]at e';cases e';rw[d]at d';injection d' with d1 _
 have:XX=its':=by simpa using QP Array.toList d1
 subst this;show r.inj r'
end
abbrev Cx.wish(X:Cx)(E:Ae):Cx:={X with xe:=E}
abbrev Cx.nox(X:Cx):Cx:=X.wish λ_ _=>False
def Cx.Ok.wish{X:Cx}(ok:X.Ok)(E:Ae):(X.wish E).Ok:=
 ⟨ok.mod,ok.kind,ok.glob,ok.blt,ok.above,ok.inj,ok.has,ok.cab,ok.hd,ok.frames,ok.stk,ok.exf,ok.bs,ok.bsz,ok.noex,ok.exfs,ok.funs,ok.frf⟩
def Cx.Ok.unwish{X:Cx}{E:Ae}(ok:(X.wish E).Ok):X.Ok:=
 ⟨ok.mod,ok.kind,ok.glob,ok.blt,ok.above,ok.inj,ok.has,ok.cab,ok.hd,ok.frames,ok.stk,ok.exf,ok.bs,ok.bsz,ok.noex,ok.exfs,ok.funs,ok.frf⟩
section
variable{X:Cx}{pins:List (Addr×Obj)}{σ:St}{H:Hp}{s:Shared}{E:Ae}
def Inv.wish(I:Inv X pins σ H s)(E:Ae):Inv (X.wish E) pins σ H s:=⟨I.ok.wish E,I.os,I.bare,I.base,I.loc,I.cell,I.free,I.freeC,I.pin,I.hok,I.len⟩
def Inv.unwish(I:Inv (X.wish E) pins σ H s):Inv X pins σ H s:=⟨I.ok.unwish,I.os,I.bare,I.base,I.loc,I.cell,I.free,I.freeC,I.pin,I.hok,I.len⟩
def SP.unwish(h:SP (X.wish E) pins D f s'):SP X pins D f s':=by
 cases f with
 |next=>let⟨σ',H',I,q⟩:=h;exists σ',H',I.unwish,q
 |brk=>let⟨σ',H',I,q⟩:=h;exists σ',H',I.unwish,q
 |cont=>let⟨σ',H',I,q⟩:=h;exists σ',H',I.unwish,q
 |ret u=>let⟨v,σ',H',I,r,q⟩:=h;exists v,σ',H',I.unwish,r,q
def PSs.nox{st:List Stmt}{t:TS}(h:PSs X.nox st t):PSs X st t:=λpins s σ H D I hw=>
 Uc (h pins s σ H D (I.wish _) hw) (λ_ _ q=>q.unwish) λ_ _ z=>False.elim z
end
section
variable{X:Cx}{st:Stmt}{rest:List Stmt}{t u:TS}{e:Expr}{te:TE}{pos:Pos}
def sE:(TS):=λD σ H=>D.nx σ H
def Ts(t u:TS):(TS):=λD σ H=>t {D with nx:=u D} σ H
def Zr:PSs X [] sE:=λ_ _ σ H _ I h=>Em ⟨σ,H,I,h⟩
def XH(h1:PS X st t)(h2:PSs X rest u):PSs X (st::rest) (Ts t u):=by
 intro pins s σ H D I h;show wpAny_execs_cons (thn (h1 pins s σ H {D with nx:=u D} I h) λf s1 q=>?_);cases f with
 |next=>
  let⟨σ',H',I',q⟩:=q;show h2 pins s1 σ' H' D I' q
 |ret v=>show q
 |brk=>show q
 |cont=>show q
def XE(h1:PS X st t):PSs X [st] t:=by
 intro pins s σ H D I h;show wpAny_execs_cons (thn (h1 pins s σ H D I h) λf s1 q=>?_);cases f with
 |next=>show Em q
 |ret v=>show q
 |brk=>show q
 |cont=>show q
def Inv.quiet(I:Inv X pins σ H s):interactive X.env=false:=by simp[interactive,I.ok.kind]
def sD(te:TE):(TS):=λD σ H=>te σ H λ_ H1=>D.nx σ H1
def VJ(he:PE X e te)(hs:swapsWith e none pos.line X.env=pure false:=by rfl):PS X (.Expr e pos) (sD te):=by intro pins s σ H D I h;show wpAny_Expr_any (thn (he pins s σ H _ I h) λv s1 zz=>by let⟨x,H1,I1,r1,q1⟩:=zz;exists σ,H1,I1,q1) I.quiet hs
def DO(te:TE):(TS):=λD σ H=>te σ H D.rt
def Zm(he:PE X e te):PS X (.Return (some e) pos) (DO te):=by intro pins s σ H D I h;show wpAny_Return_some (thn (he pins s σ H _ I h) λv s1 zz=>by let⟨x,H1,I1,r1,q1⟩:=zz;exists x,σ,H1,I1,r1,q1)
def sC(c:TT)(t u:TS):(TS):=λD σ H=>c σ H λb H1=>if b=true then t D σ H1 else u D σ H1
def VZ{c:Expr}{a b:List Stmt}{tc:TT}(hc:PT X c tc)(ha:PSs X a t)(hb:PSs X b u):PS X (.If c a b pos) (sC tc t u):=by
 intro pins s σ H D I h;show wpAny_If (thn (hc pins s σ H _ I h) λd s1 Xv=>?_);let⟨H1,I1,q1⟩:=Xv;cases d with
 |true=>show ha pins s1 σ H1 D I1 q1
 |false=>show hb pins s1 σ H1 D I1 q1
def sv:(TS):=λ_ _ _=>False
def Mh:PS X st sv:=λ_ _ _ _ _ _ h=>h.elim
end
abbrev TG:=V->St->Hp->(St->Hp->Prop)->Prop
abbrev IA:=List V->St->Hp->(St->Hp->Prop)->Prop
def PG(X:Cx)(target:Expr)(t:TG):(Prop):=
 ∀(pins:List (Addr×Obj))(s:Shared)(σ:St)(H:Hp)(v:V)(u:Value)(Q:St->Hp->Prop),Inv X pins σ H s->RelV v u->t v σ H Q->
  wpAny (model X.prog X.w) X.A (assign target X.env u) (λ_ s'=>∃σ' H',Inv X pins σ' H' s'/\Q σ' H') X.xe s
def DN(X:Cx)(ts:List Expr)(t:IA):(Prop):=
 ∀(pins:List (Addr×Obj))(s:Shared)(σ:St)(H:Hp)(vs:List V)(us:Ag)(Q:St->Hp->Prop),Inv X pins σ H s->Vals vs us->t vs σ H Q->
  wpAny (model X.prog X.w) X.A (assignInOrder ((assignEach ts X.env).map (·.2)) us) (λ_ s'=>∃σ' H',Inv X pins σ' H' s'/\Q σ' H') X.xe s
abbrev Pc:=V->V->V->Hp->(Hp->Prop)->Prop
def Iz(X:Cx)(t:Pc):(Prop):=
 ∀(pins:List (Addr×Obj))(s:Shared)(σ:St)(H:Hp)(o i v:V)(ov iv u:Value)(Q:Hp->Prop),Inv X pins σ H s->RelV o ov->RelV i iv->RelV v u->t o i v H Q->
  wpAny (model X.prog X.w) X.A (setItem ov iv u) (λ_ s'=>∃H',Inv X pins σ H' s'/\Q H') X.xe s
abbrev w9:=V->V->Hp->VK->Prop
def su(X:Cx)(op:Operator)(t:w9):(Prop):=
 ∀(pins:List (Addr×Obj))(s:Shared)(σ:St)(H:Hp)(x y:V)(v u:Value)(Q:VK),Inv X pins σ H s->RelV x v->RelV y u->t x y H Q->
  wpAny (model X.prog X.w) X.A (inplaceOp op v u) (EP X pins σ Q) X.xe s
section
variable{X:Cx}{pos:Pos}
def Tq(i:Nat):(TG):=λv σ H Q=>Q (σ.set i<|some v) H
def dQ{x:Str}(hN:X.N.Nodup)(hi:X.N[i]?=some x)(hx:Loc X.env.scope x)(hf:X.fn x=true\/X.env.scope.names.lookup x=some .local:=by first|show .inl rfl|show .inr rfl|assumption):PG X (.Name x pos) (Tq i):=by intro pins s σ H v u Q I r h;show wpAny_assign_Name (sQ I hN hi hx r (λs' I'=>⟨_,H,I',h⟩) hf)
def Zc(i:Nat){x:Str}(hN:decide X.N.Nodup=true:=by kernel_rfl)(hi:X.N[i]?=some x:=by rfl)(hx:Loc X.env.scope x:=by show .inl rfl)(hf:X.fn x=true\/X.env.scope.names.lookup x=some .local:=by first|show .inl rfl|show .inr rfl|assumption):PG X (.Name x pos) (Tq i):=dQ (Yy hN) hi hx hf
inductive gNil(vs:List V)(σ:St)(H:Hp)(Q:St->Hp->Prop):Prop
 |mk  (_:vs=[]) (_:Q σ H)
inductive gCons(t:TG)(u:IA)(vs:List V)(σ:St)(H:Hp)(Q:St->Hp->Prop):Prop
 |mk (v r:_) (_:vs=v::r) (_:t v σ H λσ' H'=>u r σ' H' Q)
def VI:DN X [] gNil:=by intro pins s σ H vs us Q I r h;let⟨e,h⟩:=h;subst e;cases r;show assignInOrder_nil ⟨σ,H,I,h⟩
def Zn{e:Expr}{es:List Expr}{t:TG}{u:IA}(h1:PG X e t)(h2:DN X es u)
  (hs:(assignEach (e::es) X.env).map (·.2)=assign e X.env::(assignEach es X.env).map (·.2):=by rfl):DN X (e::es) (gCons t u):=by
 intro pins s σ H vs us Q I r h;let⟨v,vr,e1,h⟩:=h;subst e1;cases r with
 |cons r rr=>
  rw[hs];show assignInOrder_cons (thn (h1 pins s σ H _ _ _ I r h) λ_ s1 Xv=>?_);let⟨σ1,H1,I1,q1⟩:=Xv;show h2 pins s1 σ1 H1 _ _ Q I1 rr q1
inductive gTup(K:Ad)(n:Nat)(t:IA)(v:V)(σ:St)(H:Hp)(Q:St->Hp->Prop):Prop
 |mk (a xs:_) (_:v=.ref a) (_:SqT K H a xs) (_:xs.length=n) (_:t xs σ H Q)
def sr{k:Nat}(hc:X.calm=true)(h:DN X es t)
  (hn:(assignEach es X.env).length=n:=by rfl)(WV:(assignEach es X.env).findIdx? (·.1)=none:=by rfl):PG X (.Tuple es k pos) (gTup X.K n t):=by
 intro pins s σ H v u Q I r hw;let⟨a,xs,e1,hq,hl,hw⟩:=hw;subst e1;cases r;let⟨XX,rv,ht,hz⟩:=I.tuple hq;show assign_Tuple_tuple (I.ok.hd hc) ht (by simp[hn,<-hl,rv.length]) WV λh' hx=>?_;let I1:Inv X pins σ H {s with heap:=h'}:=I.kept (t':=s.toks) λb o e=>hx b o (YB<|Yo e) e
 show h pins _ σ H xs _ Q I1 (by simpa using rv) hw
def sq(to ti:TE)(t:Pc):(TG):=λv σ H Q=>to σ H λo H1=>ti σ H1 λi H2=>t o i v H2 λH3=>Q σ H3
def sj{o i:Expr}{to ti:TE}{t:Pc}(ho:PE X o to)(hi:PE X i ti)(hs:Iz X t)
  (ha:∀v,assign (.Subscript o i pos) X.env v=(do
   let ov <-holding [v] (eval o X.env)
   let iv <-holding [v,ov] (eval i X.env)
   standAt pos
   holding [v,ov,iv] (setItem ov iv v)
   release [v,ov,iv] []):=by intro _;rfl):PG X (.Subscript o i pos) (sq to ti t):=by intro pins s σ H v u Q I r h;rw[ha];show XU (Se<|thn (ho pins s σ H _ I h) λov s1 Xv=>?_);let⟨x,H1,I1,r1,q1⟩:=Xv;show XU (Se<|thn (hi pins s1 σ H1 _ I1 q1) λiv s2 Xv=>?_);let⟨y,H2,I2,r2,q2⟩:=Xv;show XU (wpAny_standAt<|XU<|Se<|thn (hs pins s2 σ H2 x y v ov iv u _ I2 r1 r2 r q2) λ_ s3 Xv=>?_);let⟨H3,I3,q3⟩:=Xv;show wpAny_release ⟨σ,H3,I3,q3⟩
def Mg(te:TE)(g:TG):(TS):=λD σ H=>te σ H λx H1=>g x σ H1 D.nx
def si{tg e:Expr}{te:TE}{g:TG}(he:PE X e te)(hg:PG X tg g)(hs:swapsWithSole [tg] e pos.line X.env=pure false:=by rfl)(hw:swappedStores [tg] e X.env=pure none:=by rfl)
  (h1:(assignEach [tg] X.env).map (·.2)=[assign tg X.env]:=by rfl):PS X (.Assign [tg] e pos) (Mg te g):=by intro pins s σ H D I h;show wpAny_Assign_stores (thn (he pins s σ H _ I h) λv s1 Xv=>?_) hs hw;let⟨x,H1,I1,r1,q1⟩:=Xv;rw[h1];show thn (hg pins s1 σ H1 x v _ I1 r1 q1) λ_ s2 q=>q
def Rh{i:Nat}{x:Str}{e:Expr}{te:TE}{pos':Pos}(hN:X.N.Nodup)(hi:X.N[i]?=some x)(hx:Loc X.env.scope x)(he:PE X e te)(hs:swapsWith e (some (.Name x pos')) pos.line X.env=pure false:=by rfl)(hf:X.fn x=true\/X.env.scope.names.lookup x=some .local:=by first|show .inl rfl|show .inr rfl|assumption):
  PS X (.Assign [.Name x pos'] e pos) (Mg te<|Tq i):=by intro pins s σ H D I h;show wpAny_Assign_Name (thn (he pins s σ H _ I h) λv s1 Xv=>?_) hs;let⟨y,H1,I1,r1,q1⟩:=Xv;show sQ I1 hN hi hx r1 (λs2 I2=>⟨_,H1,I2,q1⟩) hf
def Zf(i:Nat){x:Str}{e:Expr}{te:TE}{pos':Pos}(he:PE X e te)(hN:decide X.N.Nodup=true:=by kernel_rfl)(hi:X.N[i]?=some x:=by rfl)(hx:Loc X.env.scope x:=by show .inl rfl)(hs:swapsWith e (some<|.Name x pos') pos.line X.env=pure false:=by rfl)(hf:X.fn x=true\/X.env.scope.names.lookup x=some .local:=by first|show .inl rfl|show .inr rfl|assumption):PS X (.Assign [.Name x pos'] e pos) (Mg te<|Tq i):=Rh (Yy hN) hi hx he hs hf
def sf(to ti te:TE)(tget:V->V->Hp->VK->Prop)(w6:w9)(tset:Pc):(TS):=λD σ H=>to σ H λo H1=>ti σ H1 λi H2=>tget o i H2 λx H3=>te σ H3 λy H4=>w6 x y H4 λz H5=>tset o i z H5 λH6=>D.nx σ H6
def DM(X:Cx)(t:V->V->Hp->VK->Prop):(Prop):=
 ∀(pins:List (Addr×Obj))(s:Shared)(σ:St)(H:Hp)(o i:V)(ov iv:Value)(Q:VK),Inv X pins σ H s->RelV o ov->RelV i iv->t o i H Q->
  wpAny (model X.prog X.w) X.A (getItem ov iv) (EP X pins σ Q) X.xe s
def Mf{o i e:Expr}{to ti te:TE}{tget:V->V->Hp->VK->Prop}{w6:w9}{tset:Pc}{op:Operator}{RI:Pos}(ho:PE X o to)(hi:PE X i ti)(hg:DM X tget)(he:PE X e te)(hp:su X op w6)(hs:Iz X tset)
  (ha:∀ov iv new,augStore i ov iv new=(do holding [new,ov,iv] (setItem ov iv new);release [new,ov,iv] [];pure .next):=by intros;rfl):PS X (.AugAssign (.Subscript o i RI) op e pos) (sf to ti te tget w6 tset):=by intro pins s σ H D I h;show wpAny_AugAssign_SubscriptAny (thn (ho pins s σ H _ I h) λov s1 Xv=>?_) ha;let⟨x1,H1,I1,r1,q1⟩:=Xv;show thn (hi pins s1 σ H1 _ I1 q1) λiv s2 Xv=>?_;let⟨x2,H2,I2,r2,q2⟩:=Xv;show thn (hg pins s2 σ H2 x1 x2 ov iv _ I2 r1 r2 q2) λold s3 Xv=>?_;let⟨x3,H3,I3,r3,q3⟩:=Xv;show thn (he pins s3 σ H3 _ I3 q3) λv s4 Xv=>?_;let⟨x4,H4,I4,r4,q4⟩:=Xv;show thn (hp pins s4 σ H4 x3 x4 old v _ I4 r3 r4 q4) λnew s5 Xv=>?_;let⟨x5,H5,I5,r5,q5⟩:=Xv;show thn (hs pins s5 σ H5 x1 x2 x5 ov iv new _ I5 r1 r2 r5 q5) λ_ s6 zz=>by let⟨H6,I6,q6⟩:=zz;exists σ,H6,I6,q6
def dP(f:Int->Int->Int):(w9):=λx y H Q=>∃i j,x=.int i/\y=.int j/\Q (.int<|f i j) H
def DL:su X .Add (dP λi j=>i+j):=by intro pins s σ H x y v u Q I r1 r2 h;let⟨i,j,e1,e2,q⟩:=h;subst e1;subst e2;let⟨t,rfl⟩:=r1;let⟨t',rfl⟩:=r2;show iadd_int ⟨.int _,H,I.tok _,⟨_,Z⟩,q⟩
def DK:su X .Sub (dP λi j=>i-j):=by intro pins s σ H x y v u Q I r1 r2 h;let⟨i,j,e1,e2,q⟩:=h;subst e1;subst e2;let⟨t,rfl⟩:=r1;let⟨t',rfl⟩:=r2;show isub_int ⟨.int _,H,I.tok _,⟨_,Z⟩,q⟩
def se(c:TT)(tb:TS):(TS):=λD σ H=>∃W:Nat->St->Hp->Prop,(∃m,W m σ H)/\∀m σ H,W m σ H->
 c σ H λb H1=>if b=true then ∃N:St->Hp->Prop,(∀σ' H',N σ' H'->∃m',m'<m/\W m' σ' H')/\tb {D with nx:=N,ct:=N,bk:=D.nx} σ H1 else D.nx σ H1
def sd{c:Expr}{body:List Stmt}{tc:TT}{tb:TS}(hp:PassesOwn (model X.prog X.w) X.A X.env X.xe)(hc:PT X c tc)(hb:PSs X body tb):PS X (.While c body [] pos) (se tc tb):=by
 intro pins s σ H D I h;let⟨W,⟨m0,w0⟩,turn⟩:=h;show wpAny_While (codeAny_whileLoop (λn s'=>∃σ' H',Inv X pins σ' H' s'/\W n σ' H') ?_ m0 ⟨σ,H,I,w0⟩);rintro n s1 ⟨σ1,H1,I1,w1⟩;show Jb hp (thn (hc pins s1 σ1 H1 _ I1<|turn n σ1 H1 w1) λb s2 Xv=>?_);let⟨H2,I2,q2⟩:=Xv;cases b with
 |true=>
  let⟨N,hN,q2⟩:=q2;rw[if_pos Z];show Jb hp (thn (hb pins s2 σ1 H2 _ I2 q2) λf s3 q3=>?_);cases f with
  |next=>
   let⟨σ3,H3,I3,n3⟩:=q3;let⟨m',hm,w3⟩:=hN σ3 H3 n3;exists m',hm,σ3,H3,I3,w3
  |cont=>
   let⟨σ3,H3,I3,n3⟩:=q3;let⟨m',hm,w3⟩:=hN σ3 H3 n3;exists m',hm,σ3,H3,I3,w3
  |brk=>show q3
  |ret v=>show q3
 |false=>
  rw[if_neg YE];show Em ⟨σ1,H2,I2,q2⟩
end
structure It where
 go:Nat->Hp->Prop
 yld:Nat->Hp->V->Hp->Prop
 stop:Nat->Hp->Prop
def FpOk(X:Cx)(pins:List (Addr×Obj))(H:Hp)(b:Addr):(Prop):=
 H b=none/\b≠X.env.locals/\b∉X.fs/\(b∈X.ex\/(~~~X.s₀)<=b)/\(∀x c,X.env.cells.lookup x=some c->c≠b)/\∀p∈X.pn++pins,p.1≠b
def Inv.fpOk{b:Addr}(I:Inv X pins σ H s)(hb:(~~~s)<=b)(hn:H' b=none):FpOk X pins H' b:=by
 exists hn,Vv<|Ys I.lt hb,I.nofs hb,.inr<|Yr I.sz hb,λx c e z=>?_,λp hp z=>?_
 .let⟨v,q⟩:=I.cell x c e;show absurd (Ys q.lt<|by rwa[z]) (PZ _)
 .show absurd (Ys (Yo (I.pin p hp).1)<|by rwa[z]) (PZ _)
structure Turn(P:Program)(w:World)(K:Ad)(tg:Expr)(sP:It)(fp:List Addr)(it:Addr)(tn:Nat->Heap->Prop):Prop where
 mem:it∈fp
 obj:∀i h,tn i h->∀b∈fp,∃o,h.get? b=some o/\∀v,o.data≠.cell v
 keep:∀i h h',tn i h->(∀b∈fp,∀o,h.get? b=some o->h'.get? b=some o)->tn i h'
 item:∀(X:Cx),X.prog=P->X.w=w->X.K=K->X.calm=true->∀(i:Nat)(pins:List (Addr×Obj))(s:Shared)(σ:St)(H:Hp)(E:Ae),Inv X pins σ H s->(∀b∈fp,FpOk X pins H b)->tn i s.heap->sP.go i H->
  wpAny (model P w) X.A (pyNext<|.ref it) (λr s1=>∃u,r=some u/\
   wpAny (model P w) X.A (letOwnedTupleGo tg ↑it u) (λ_ s2=>∃x H',Inv X pins σ H' s2/\RelV x u/\sP.yld i H x H'/\tn (i+1) s2.heap/\∀b∈fp,H' b=none) E s1) E s
 done:∀(X:Cx),X.prog=P->X.w=w->X.K=K->X.calm=true->∀(i:Nat)(pins:List (Addr×Obj))(s:Shared)(σ:St)(H:Hp)(E:Ae),Inv X pins σ H s->(∀b∈fp,FpOk X pins H b)->tn i s.heap->sP.stop i H->
  wpAny (model P w) X.A (pyNext<|.ref it) (λr s1=>r=none/\Inv X pins σ H s1) E s
 self:∀(A:Around)(i:Nat)(s:Shared)(Q:Ae)(E:Ae),tn i s.heap->Q ↑it s->wpAny (model P w) A (pyIter<|.ref it) Q E s
abbrev TI:=St->Hp->(It->Hp->Prop)->Prop
def dO(X:Cx)(pins:List (Addr×Obj))(σ:St)(tg:Expr)(R:It->Hp->Prop)(r9:Value)(s2:Shared):(Prop):=
 ∃(it:Addr)(fp:List Addr)(tn:Nat->Heap->Prop)(sP:It)(H':Hp),r9=.ref it/\Inv X pins σ H' s2/\Turn X.prog X.w X.K tg sP fp it tn/\tn 0 s2.heap/\(∀b∈fp,FpOk X pins H' b)/\R sP H'
def PI(X:Cx)(tg iter:Expr)(wi:TI):(Prop):=
 ∀(pins:List (Addr×Obj))(s:Shared)(σ:St)(H:Hp)(R:It->Hp->Prop),Inv X pins σ H s->wi σ H R->
  wpAny (model X.prog X.w) X.A (eval iter X.env) (λv s1=>wpAny (model X.prog X.w) X.A (pyIter v) (dO X pins σ tg R) X.xe s1) X.xe s
def Pb{E:Ae}{s:Shared}{it:Addr}{o:Obj}{n:String}{vs:Array Value}{Q:Unit->Shared->Prop}(ho:s.heap.get? it=some o)(hc:o.cls=.type n)(hd:o.data=.fields vs)
  (hn:["enumerate","zip","dict_itemiterator","dict_reverseitemiterator","odict_iterator","itertools.zip_longest","itertools.pairwise"].contains n=false)(hQ:Q () s):wpAny M A (letOwnedTupleGo tg ↑it u) Q E s:=by
 unfold letOwnedTupleGo;cases tg<;>first
  |show Yj hQ
  | (cases u<;>first
    |show Yj hQ
    | (show XU (Ee ho ?_)
       rw[hc,hd];change wpAny M A (if (["enumerate","zip","dict_itemiterator","dict_reverseitemiterator","odict_iterator","itertools.zip_longest","itertools.pairwise"].contains n&&vs[0]? == some (rawInt _))=true then _ else _) Q E s
       rw[if_neg (by intro h;rw[hn,Bool.false_and]at h;cases h)];show Yj hQ))
def Pa(K:Ad)(a:Addr):(It):=
 ⟨λi H=>∃xs x,SqL K H a xs/\xs[i]?=some x,λi H x H'=>H'=H/\∀xs,SqL K H a xs->xs[i]?=some x,λi H=>∃xs,SqL K H a xs/\xs.length<=i⟩
def OZ(K:Ad)(a:Addr):(It):=
 ⟨λi H=>∃xs x,SqT K H a xs/\xs[i]?=some x,λi H x H'=>H'=H/\∀xs,SqT K H a xs->xs[i]?=some x,λi H=>∃xs,SqT K H a xs/\xs.length<=i⟩
def Iy(lo:Int)(n:Nat):(It):=⟨λi _=>i<n,λi H x H'=>H'=H/\x=.int (lo+i),λi _=>n<=i⟩
def DJ{P:Program}{w:World}{K:Ad}{tg:Expr}(a it:Addr):Turn P w K tg (Pa K a) [it] it (λi h=>h.IsListIter it a i) where
 mem:=B
 obj:=λi h st b hb=>by
  let e:b=it:=by simpa using hb
  subst e;let⟨o,e,c,d⟩:=st;exists o,e,λv z=>by rw[d]at z;cases z
 keep:=λi h h' st k=>st.at λo e=>k it B o e
 item:=by
  intro X hP hw hK hc i pins s σ H E I hf st hg;subst hP hw hK;let⟨xs,x,hq,hx⟩:=hg;let⟨XX,rv,p,hz⟩:=I.list hq;let⟨u,hu,ru⟩:=rv.get hx;let⟨f0,f1,f2,f3,f4,f5⟩:=hf it B;show wpAny_pyNext_list_item st p.isList (x:=u) (by simpa using hu) λh' XR sb=>?_;let I1:Inv X pins σ H {s with heap:=h'}:=I.turned (t':=s.toks) (λb o hb e=>(sb.2 b hb).trans e) f0 f1 f3 f4 f5
  let⟨o,e,c,d⟩:=id XR;exists u,Z,Pb (s:={s with heap:=h'}) e c d sZ ⟨x,H,I1,ru,⟨Z,λys hy=>by rwa[I.list_inj hy hq]⟩,XR,λb hb=>(hf b hb).1⟩
 done:=by
  intro X hP hw hK hc i pins s σ H E I hf st hg;subst hP hw hK;let⟨xs,hq,hx⟩:=hg;let⟨XX,rv,p,hz⟩:=I.list hq;let⟨f0,f1,f2,f3,f4,f5⟩:=hf it B;let hl:=rv.length
  show wpAny_pyNext_list_end (I.ok.hd hc) st p.isList (by simp;lia) λh' eb=>⟨Z,I.turned (t':=s.toks) (λb o hb e=>eb b o hb e) f0 f1 f3 f4 f5⟩
 self:=λ_ _ _ _ _ st h=>wpAny_pyIter_listiter st h
def dN{P:Program}{w:World}{K:Ad}{tg:Expr}(a it:Addr):Turn P w K tg (OZ K a) [it] it (λi h=>h.IsTupleIter it a i) where
 mem:=B
 obj:=λi h st b hb=>by
  let e:b=it:=by simpa using hb
  subst e;let⟨o,e,c,d⟩:=st;exists o,e,λv z=>by rw[d]at z;cases z
 keep:=λi h h' st k=>st.at λo e=>k it B o e
 item:=by
  intro X hP hw hK hc i pins s σ H E I hf st hg;subst hP hw hK;let⟨xs,x,hq,hx⟩:=hg;let⟨XX,rv,p,hz⟩:=I.tuple hq;let⟨u,hu,ru⟩:=rv.get hx;let⟨f0,f1,f2,f3,f4,f5⟩:=hf it B;show wpAny_pyNext_tuple_item st (show s.heap.IsTuple a XX.toArray from p) (x:=u) (by simpa using hu) λh' XR sb=>?_;let I1:Inv X pins σ H {s with heap:=h'}:=I.turned (t':=s.toks) (λb o hb e=>(sb.2 b hb).trans e) f0 f1 f3 f4 f5
  let⟨o,e,c,d⟩:=id XR;exists u,Z,Pb (s:={s with heap:=h'}) e c d sZ ⟨x,H,I1,ru,⟨Z,λys hy=>by rwa[I.tuple_inj hy hq]⟩,XR,λb hb=>(hf b hb).1⟩
 done:=by
  intro X hP hw hK hc i pins s σ H E I hf st hg;subst hP hw hK;let⟨xs,hq,hx⟩:=hg;let⟨XX,rv,p,hz⟩:=I.tuple hq;let⟨f0,f1,f2,f3,f4,f5⟩:=hf it B;let hl:=rv.length
  show wpAny_pyNext_tuple_end (I.ok.hd hc) st (show s.heap.IsTuple a XX.toArray from p) (by simp;omega) λh' eb=>⟨Z,I.turned (t':=s.toks) (λb o hb e=>eb b o hb e) f0 f1 f3 f4 f5⟩
 self:=λ_ _ _ _ _ st h=>wpAny_pyIter_tupleiter st h
def ZE6{P:Program}{w:World}{K:Ad}{tg:Expr}(it:Addr)(lo:Int)(n:Nat):Turn P w K tg (Iy lo n) [it] it (λi h=>IsRangeIter h it (lo+(i:Nat)*1) ((n:Int)-(i:Nat)) 1) where
 mem:=B
 obj:=λi h st b hb=>by
  let e:b=it:=by simpa using hb
  subst e;exists _,st,λv z=>by let z':Data.fields _=Data.cell v:=z;cases z'
 keep:=λi h h' st k=>k it B _ st
 item:=by
  intro X hP hw hK hc i pins s σ H E I hf st hg;subst hP hw hK;let⟨f0,f1,f2,f3,f4,f5⟩:=hf it B;let W:=Walks.range (prog:=X.prog) (w:=X.w) (I.ok.hd hc) it lo 1 n
  show W.item i s _ _ hg st λv h' tk hv XR kk=>?_;let⟨t,rfl⟩:=hv;let I1:Inv X pins σ H {s with heap:=h',toks:=tk}:=I.turned (λb o hb e=>kk b o (by simpa using hb) e) f0 f1 f3 f4 f5
  exists _,Z,Pb (s:={s with heap:=h',toks:=tk}) (n:="range_iterator") XR Z Z sZ ⟨.int<|lo+i,H,I1,⟨t,?_⟩,⟨Z,Z⟩,XR,λb hb=>(hf b hb).1⟩;rw[Mq]
 done:=by intro X hP hw hK hc i pins s σ H E I hf st hg;subst hP hw hK;let⟨f0,f1,f2,f3,f4,f5⟩:=hf it B;show wpAny_pyNext_range_end (I.ok.hd hc) st (by have:n<=i:=hg;lia) λh' eb=>⟨Z,I.turned (t':=s.toks) (λb o hb e=>eb b o hb e) f0 f1 f3 f4 f5⟩
 self:=λ_ _ _ _ _ st h=>wpAny_pyIter_rangeiter st h
section
variable{X:Cx}{tg:Expr}
inductive xList(K:Ad)(x:V)(H1:Hp)(R:It->Hp->Prop):Prop
 |mk (a:_) (_:x=.ref a) (_:∃xs,SqL K H1 a xs) (_:R (Pa K a) H1)
def DI(K:Ad)(tl:TE):(TI):=λσ H R=>tl σ H λx H1=>xList K x H1 R
inductive xTpl(K:Ad)(x:V)(H1:Hp)(R:It->Hp->Prop):Prop
 |mk (a:_) (_:x=.ref a) (_:∃xs,SqT K H1 a xs) (_:R (OZ K a) H1)
def DH(K:Ad)(tl:TE):(TI):=λσ H R=>tl σ H λx H1=>xTpl K x H1 R
def r6{l:Expr}{tl:TE}(hl:PE X l tl):PI X tg l (DI X.K tl):=by
 intro pins s σ H R I h;show thn (hl pins s σ H _ I h) λv s1 Xv=>?_;let⟨x,H1,I1,r1,q1⟩:=Xv;let⟨a,e,⟨xs,hq⟩,q⟩:=q1;subst e;cases r1;let⟨XX,rv,p,hz⟩:=I1.list hq;show tH p.isList ?_;exists (~~~s1),[(~~~s1)],_,_,H1,Z,I1.kept (t':=s1.toks) λb o e=>Xd _ e,DJ a _,⟨_,Yq _ Z,Z,Z⟩,λb hb=>?_,q;let e:b=(~~~s1):=by simpa using hb
 subst e;show I1.fpOk (XN _) (I1.hok.fresh<|XN _)
def rZ{l:Expr}{tl:TE}(hl:PE X l tl):PI X tg l (DH X.K tl):=by
 intro pins s σ H R I h;show thn (hl pins s σ H _ I h) λv s1 Xv=>?_;let⟨x,H1,I1,r1,q1⟩:=Xv;let⟨a,e,⟨xs,hq⟩,q⟩:=q1;subst e;cases r1;let⟨XX,rv,p,hz⟩:=I1.tuple hq;show wpAny_pyIter_tuple (show s1.heap.IsTuple a XX.toArray from p) ?_;exists (~~~s1),[(~~~s1)],_,_,H1,Z,I1.kept (t':=s1.toks) λb o e=>Xd _ e,dN a _,⟨_,Yq _ Z,Z,Z⟩,λb hb=>?_,q;let e:b=(~~~s1):=by simpa using hb
 subst e;show I1.fpOk (XN _) (I1.hok.fresh<|XN _)
def rY{R:It->Hp->Prop}{E:Ae}{lo hi:Int}{t u v:Tok}{tk:Nat}(I:Inv X pins σ H s)(h1:-(2^62)<=lo)(h2:lo<2^62)(h3:-(2^62)<=hi)(h4:hi<2^62)
  (q:R (Iy lo (hi-lo).toNat) H):wpAny (model X.prog X.w) X.A (pyIter<|.ref (~~~s)) (dO X pins σ tg R) E {s with heap:=s.heap.push {cls:=.type "range",data:=.fields #[.int lo t,.int hi u,.int 1 v]},toks:=tk}:=by
 show wpAny_pyIter_range (IsRange.new ..) (small_one h1 h2 h3 h4) ?_;let I1:Inv X pins σ H {s with heap:=s.heap.push {cls:=.type "range",data:=.fields #[.int lo t,.int hi u,.int 1 v]},toks:=tk}:=I.kept λb o e=>Xd _ e
 show⟨(s.heap.push {cls:=.type "range",data:=.fields #[.int lo t,.int hi u,.int 1 v]}).objs.size,[(s.heap.push {cls:=.type "range",data:=.fields #[.int lo t,.int hi u,.int 1 v]}).objs.size],_,_,H,Z,
  I1.kept (t':=tk) λb o e=>Xd _ e,ZE6 _ lo (hi-lo).toNat,?_,λb hb=>?_,q⟩
 .let e1:lo+((0:Nat):Int)*1=lo:=B;let e2:(((hi-lo).toNat:Nat):Int)-((0:Nat):Int)=Builtin.Range.rangeSize lo hi 1:=by rw[rangeSize_one];split<;>grind
  change IsRangeIter _ _ (lo+((0:Nat):Int)*1) ((((hi-lo).toNat:Nat):Int)-((0:Nat):Int)) 1;rw[e1,e2];show Yq _ rfl
 .let e:b=(s.heap.push {cls:=.type "range",data:=.fields #[.int lo t,.int hi u,.int 1 v]}).objs.size:=by simpa using hb
  subst e;show I1.fpOk (XN _) (I1.hok.fresh<|XN _)
inductive xRng(vs:List V)(H1:Hp)(R:It->Hp->Prop):Prop
 |mk (j:Int) (_:vs=[.int j]) (_:-(2^62)<=j) (_:j<2^62) (_:R (Iy 0 j.toNat) H1)
def rX(ta:TA):(TI):=λσ H R=>ta σ H λvs H1=>xRng vs H1 R
def rW{a:Expr}{ta:TA}{p pos:Pos}(hg:Gl X "range")(hm:X.mg "range"=none)(ha:PA X [a] ta)(hs:starEach [a] X.env=[(false,eval a X.env)]:=by rfl):PI X tg (.Call (.Name "range" p) [a] [] pos) (rX ta):=by
 intro pins s σ H R I h;show Call_ (PV I hg hm boot_range<|Ji (thn (ha pos pins s σ H _ I h) λus s1 Xv=>?_) hs Z);let⟨vs,H1,I1,r1,q1⟩:=Xv;let⟨j,e,q1,q2,q⟩:=q1;subst e;cases r1 with
 |cons r rr=>
  cases rr;let⟨t,rfl⟩:=r;show call_range_1 (rY I1 J DW q1 q2<|by simpa using q)
def rV(wi:TI)(g:TG)(tb:TS):(TS):=λD σ H=>wi σ H λsP H1=>∃W:Nat->Nat->St->Hp->Prop,(∃m,W 0 m σ H1)/\∀i m σ H,W i m σ H->
 (sP.stop i H/\D.nx σ H)\/(sP.go i H/\∃N:St->Hp->Prop,(∀σ' H',N σ' H'->∃m',m'<m/\W (i+1) m' σ' H')/\∀x H',sP.yld i H x H'->g x σ H' λσ2 H2=>tb {D with nx:=N,ct:=N,bk:=D.nx} σ2 H2)
def Me(fp:List Addr)(h:Heap):(List (Addr×Obj)):=fp.filterMap λb=>(h.get? b).map λo=>(b,o)
def Md{b:Addr}{o:Obj}(hb:b∈fp)(e:h.get? b=some o):(b,o)∈Me fp h:=xN.mpr ⟨b,hb,by rw[e];rfl⟩
def dM{p:Addr×Obj}(hp:p∈Me fp h):p.1∈fp/\h.get? p.1=some p.2:=by
 let⟨b,hb,e⟩:=xN.mp hp;cases q:h.get? b with
 |none=>rw[q]at e;cases e
 |some o=>
  rw[q]at e;let e':(b,o)=p:=Yi e
  subst e';exists hb,q
def Inv.pinned(I:Inv X pins σ H s)(hf:∀b∈fp,FpOk X pins H b)(ho:∀b∈fp,∃o,s.heap.get? b=some o/\∀v,o.data≠.cell v):Inv X (pins++Me fp s.heap) σ H s:=
 I.pins_of λp hp=>(XA.mp hp).elim (λz=>I.pin p<|Yg _ z) λz=>by let⟨hb,e⟩:=dM z;let⟨f0,f1,f2,_⟩:=hf p.1 hb;let⟨o,e',d⟩:=ho p.1 hb;rw[e]at e';cases e';exists e,f0,f1,f2,d
def Inv.unpinned{pins pl:List (Addr×Obj)}(I:Inv X (pins++pl) σ H s):Inv X pins σ H s:=I.pins_of λp hp=>I.pin p (Yg _<|Yf _ hp)
def Sb{iter:Expr}{body:List Stmt}{wi:TI}{g:TG}{tb:TS}{pos:Pos}(hp:PassesOwn (model X.prog X.w) X.A X.env X.xe)(hc:X.calm=true)(hi:PI X tg iter wi)(hg:PG X tg g)(hb:PSs X body tb)
  (hs:∀x,foldedSetIterable iter X.env x=pure x:=by intro _;rfl):PS X (.For tg iter body [] pos) (rV wi g tb):=by
 intro pins s σ H D I h;show wpAny_For (thn (hi pins s σ H _ I h) λv s1 h1=>thn h1 λr9 s2 h2=>?_) hs;let⟨it,fp,tn,sP,H2,e,I2,T,Xi,f2,W,⟨m0,w0⟩,turn⟩:=h2;subst e;let Iw:∀{H':Hp},(∀b∈fp,H' b=none)->∀b∈fp,FpOk X pins H' b:=λhn b hb=>⟨hn b hb,(f2 b hb).2⟩
 show codeAny_forLoop_any (λn s'=>∃i σ' H',Inv X pins σ' H' s'/\tn i s'.heap/\(∀b∈fp,H' b=none)/\W i n σ' H') ?_ m0 ⟨0,σ,H2,I2,Xi,λb hb=>(f2 b hb).1,w0⟩;rintro n s3 ⟨i,σ3,H3,I3,WL,dJ,w3⟩;rcases turn i n σ3 H3 w3 with ⟨stop,qn⟩|⟨go,N,hN,step⟩
 .show Jb hp (thn (T.done X Z Z Z hc i pins s3 σ3 H3 X.xe I3 (Iw dJ) WL stop) λr s4 zz=>?_);let⟨hr,I4⟩:=zz;subst hr;show Em ⟨σ3,H3,I4,qn⟩
 .show Jb hp (thn (T.item X Z Z Z hc i pins s3 σ3 H3 X.xe I3 (Iw dJ) WL go) λr s4 Xv=>?_);let⟨u,hr,h4⟩:=Xv;subst hr;show Jb hp (thn h4 λ_ s5 Xv=>?_);let⟨x,H5,I5,r5,y5,WU,rT⟩:=Xv;let rS:=I5.pinned (Iw rT) (T.obj _ _ WU)
  show Jb hp (thn (hg _ s5 σ3 H5 x u _ rS r5<|step x H5 y5) λ_ s6 Xv=>?_);let⟨σ6,H6,I6,q6⟩:=Xv;show Jb hp (thn (hb _ s6 σ6 H6 _ I6 q6) λf s7 q7=>?_);let again:∀{σ7:St}{H7:Hp},Inv X (pins++Me fp s5.heap) σ7 H7 s7->N σ7 H7->∃m,m<n/\∃i σ' H',Inv X pins σ' H' s7/\tn i s7.heap/\(∀b∈fp,H' b=none)/\W i m σ' H':=λ{σ7 H7} I7 n7=>by let⟨m',hm,w7⟩:=hN σ7 H7 n7;exists m',hm,i+1,σ7,H7,I7.unpinned,T.keep _ _ _ WU λb hb o e=>(I7.pin (b,o)<|Yg _<|Yg _<|Md hb e).1,λb hb=>?_,w7;let⟨o,e,d⟩:=T.obj _ _ WU b hb;show(I7.pin (b,o)<|Yg _<|Yg _<|Md hb e).2.1
  cases f with
  |next=>let⟨σ7,H7,I7,n7⟩:=q7;show again I7 n7
  |cont=>let⟨σ7,H7,I7,n7⟩:=q7;show again I7 n7
  |brk=>let⟨σ7,H7,I7,q7⟩:=q7;exists σ7,H7,I7.unpinned,q7
  |ret v=>let⟨x7,σ7,H7,I7,r7,q7⟩:=q7;exists x7,σ7,H7,I7.unpinned,r7,q7
end
def w5{K:Ad}{a:Addr}{xs:List V}{g:TG}{tb:TS}{D:Ends}{σ:St}{H:Hp}(Pv:Nat->St->Hp->Prop)(h0:Pv 0 σ H)(hl:∀i σ H,i<=xs.length->Pv i σ H->SqL K H a xs)
  (hs:∀i x σ H,xs[i]?=some x->Pv i σ H->g x σ H λσ2 H2=>tb {D with nx:=Pv<|i+1,ct:=Pv<|i+1,bk:=D.nx} σ2 H2)(hd:∀σ H,Pv xs.length σ H->D.nx σ H):
  ∃W:Nat->Nat->St->Hp->Prop,(∃m,W 0 m σ H)/\∀i m σ H,W i m σ H->
   ((Pa K a).stop i H/\D.nx σ H)\/((Pa K a).go i H/\∃N:St->Hp->Prop,(∀σ' H',N σ' H'->∃m',m'<m/\W (i+1) m' σ' H')/\∀x H',(Pa K a).yld i H x H'->g x σ H' λσ2 H2=>tb {D with nx:=N,ct:=N,bk:=D.nx} σ2 H2):=by
 exists λi m σ H=>m=xs.length-i/\i<=xs.length/\Pv i σ H,⟨xs.length,B,Ym _,h0⟩,?_;rintro i m σ H ⟨rfl,hi,p⟩;let q:=hl i σ H hi p
 cases Xm:i<xs.length
 .show .inr ⟨⟨xs,xs[i],q,by simp[Xm]⟩,Pv<|i+1,λσ' H' p'=>⟨xs.length-(i+1),DW,Z,Xm,p'⟩,λx H' y=>?_⟩;let⟨e,y⟩:=y;subst e;show hs i x σ _ (y xs q) p
 .let e:i=xs.length:=J;subst e;show .inl ⟨⟨xs,q,XN _⟩,hd σ H p⟩
def rR{K:Ad}{a:Addr}{xs:List V}{g:TG}{tb:TS}{D:Ends}{σ:St}{H:Hp}(Pv:Nat->St->Hp->Prop)(h0:Pv 0 σ H)(hl:∀i σ H,i<=xs.length->Pv i σ H->SqT K H a xs)
  (hs:∀i x σ H,xs[i]?=some x->Pv i σ H->g x σ H λσ2 H2=>tb {D with nx:=Pv<|i+1,ct:=Pv<|i+1,bk:=D.nx} σ2 H2)(hd:∀σ H,Pv xs.length σ H->D.nx σ H):
  ∃W:Nat->Nat->St->Hp->Prop,(∃m,W 0 m σ H)/\∀i m σ H,W i m σ H->
   ((OZ K a).stop i H/\D.nx σ H)\/((OZ K a).go i H/\∃N:St->Hp->Prop,(∀σ' H',N σ' H'->∃m',m'<m/\W (i+1) m' σ' H')/\∀x H',(OZ K a).yld i H x H'->g x σ H' λσ2 H2=>tb {D with nx:=N,ct:=N,bk:=D.nx} σ2 H2):=by
 exists λi m σ H=>m=xs.length-i/\i<=xs.length/\Pv i σ H,⟨xs.length,B,Ym _,h0⟩,?_;rintro i m σ H ⟨rfl,hi,p⟩;let q:=hl i σ H hi p
 cases Xm:i<xs.length
 .show .inr ⟨⟨xs,xs[i],q,by simp[Xm]⟩,Pv<|i+1,λσ' H' p'=>⟨xs.length-(i+1),DW,Z,Xm,p'⟩,λx H' y=>?_⟩;let⟨e,y⟩:=y;subst e;show hs i x σ _ (y xs q) p
 .let e:i=xs.length:=DW;subst e;show .inl ⟨⟨xs,q,XN _⟩,hd σ H p⟩
def rQ{lo:Int}{n:Nat}{g:TG}{tb:TS}{D:Ends}{σ:St}{H:Hp}(Pv:Nat->St->Hp->Prop)(h0:Pv 0 σ H)
  (hs:∀i σ H,i<n->Pv i σ H->g (.int<|lo+i) σ H λσ2 H2=>tb {D with nx:=Pv<|i+1,ct:=Pv<|i+1,bk:=D.nx} σ2 H2)(hd:∀σ H,Pv n σ H->D.nx σ H):
  ∃W:Nat->Nat->St->Hp->Prop,(∃m,W 0 m σ H)/\∀i m σ H,W i m σ H->
   ((Iy lo n).stop i H/\D.nx σ H)\/((Iy lo n).go i H/\∃N:St->Hp->Prop,(∀σ' H',N σ' H'->∃m',m'<m/\W (i+1) m' σ' H')/\∀x H',(Iy lo n).yld i H x H'->g x σ H' λσ2 H2=>tb {D with nx:=N,ct:=N,bk:=D.nx} σ2 H2):=by
 exists λi m σ H=>m=n-i/\i<=n/\Pv i σ H,⟨n,B,Ym _,h0⟩,?_;rintro i m σ H ⟨rfl,hi,p⟩;cases Xm:i<n
 .show .inr ⟨Xm,Pv<|i+1,λσ' H' p'=>⟨n-(i+1),DW,Z,Xm,p'⟩,λx H' y=>?_⟩;let⟨e,y⟩:=y;subst e y;show hs i σ _ Xm p
 .let e:i=n:=J;subst e;show .inl ⟨XN _,hd σ H p⟩
abbrev R2:=V->V->Hp->VK->Prop
def Wz(X:Cx)(f:Value->Value->Sem Value)(r:R2):(Prop):=
 ∀(pins:List (Addr×Obj))(s:Shared)(σ:St)(H:Hp)(x y:V)(v u:Value)(Q:VK),Inv X pins σ H s->RelV x v->RelV y u->r x y H Q->
  wpAny (model X.prog X.w) X.A (f v u) (EP X pins σ Q) X.xe s
def rP(X:Cx)(f:Value->Sem Value)(r:V->Hp->VK->Prop):(Prop):=
 ∀(pins:List (Addr×Obj))(s:Shared)(σ:St)(H:Hp)(x:V)(v:Value)(Q:VK),Inv X pins σ H s->RelV x v->r x H Q->
  wpAny (model X.prog X.w) X.A (f v) (EP X pins σ Q) X.xe s
def Tp(X:Cx)(f:Value)(r:List V->Hp->VK->Prop):(Prop):=
 ∀(pins:List (Addr×Obj))(s:Shared)(σ:St)(H:Hp)(xs:List V)(us:Ag)(Q:VK),Inv X pins σ H s->Vals xs us->r xs H Q->
  wpAny (model X.prog X.w) X.A (call f us) (EP X pins σ Q) X.xe s
def w4(r:R2)(ta tb:TE):(TE):=λσ H Q=>ta σ H λx H1=>tb σ H1 λy H2=>r x y H2 Q
def tUn(r:V->Hp->VK->Prop)(ta:TE):(TE):=λσ H Q=>ta σ H λx H1=>r x H1 Q
inductive rI(C:Int->Int->Prop)(g:Int->Int->V)(x:V)(y:V)(H:Hp)(Q:VK):Prop
 |mk (i j:_) (_:x=.int i) (_:y=.int j) (_:C i j) (_:Q (g i j) H)
inductive rI0(g:Int->Int->V)(x:V)(y:V)(H:Hp)(Q:VK):Prop
 |mk (i j:_) (_:x=.int i) (_:y=.int j) (_:Q (g i j) H)
inductive rU(g:Int->V)(x:V)(H:Hp)(Q:VK):Prop
 |mk (i:_) (_:x=.int i) (_:Q (g i) H)
section
variable{X:Cx}{a b:Expr}{ta tb:TE}{pos:Pos}
def Iv(ha:PE X a ta)(hb:PE X b tb){pins:List (Addr×Obj)}{s:Shared}{σ:St}{H:Hp}{R:V->V->Hp->Prop}(I:Inv X pins σ H s)
  (h:ta σ H λx H1=>tb σ H1 λy H2=>R x y H2){Q:Ae}{f:Value->Value->Sem Value}
  (hf:∀v u s2 x y H2,Inv X pins σ H2 s2->RelV x v->RelV y u->R x y H2->wpAny (model X.prog X.w) X.A (f v u) Q X.xe s2):
  wpAny (model X.prog X.w) X.A (eval a X.env) (λv s₁=>wpAny (model X.prog X.w) X.A (eval b X.env) (λu s₂=>wpAny (model X.prog X.w) X.A (f v u) Q X.xe s₂) X.xe s₁) X.xe s:=by show thn (ha pins s σ H _ I h) λv s1 Xv=>?_;let⟨x,H1,I1,r1,q1⟩:=Xv;show thn (hb pins s1 σ H1 _ I1 q1) λu s2 Xv=>?_;let⟨y,H2,I2,r2,q2⟩:=Xv;show hf v u s2 x y H2 I2 r1 r2 q2
def ZB(ho:Wz X (binaryOp op) r)(ha:PE X a ta)(hb:PE X b tb):PE X (.BinOp a op b pos) (w4 r ta tb):=by intro pins s σ H Q I h;show wpAny_BinOp (Iv ha hb I h λv u s2 x y H2 I2 rx ry q=>ho pins s2 σ H2 x y v u Q I2 rx ry q)
def OY{op:UnaryOp}{r:V->Hp->VK->Prop}(ho:rP X (unaryOp op) r)(ha:PE X a ta):PE X (.UnaryOp op a pos) (tUn r ta):=by intro pins s σ H Q I h;show UnaryOp_ (thn (ha pins s σ H _ I h) λv s1 zz=>by let⟨x,H1,I1,r1,q1⟩:=zz;show ho pins s1 σ H1 x v Q I1 r1 q1)
def Iu{f:Value->Value->Sem Value}{C:Int->Int->Prop}{g:Int->Int->Int}
  (rule:∀(i j:Int)(t u:Tok)(s:Shared)(Q:Ae)(E:Ae),C i j->Q (.int (g i j) s.toks) {s with toks:=s.toks+1}->wpAny (model X.prog X.w) X.A (f (.int i t)<|.int j u) Q E s):
  Wz X f (rI C λi j=>.int<|g i j):=by intro pins s σ H x y v u Q I rx ry h;let⟨i,j,rfl,rfl,hc,q⟩:=h;let⟨t,rfl⟩:=rx;let⟨t',rfl⟩:=ry;show rule i j t t' s _ _ hc ⟨.int<|g i j,H,I.tok _,⟨_,Z⟩,q⟩
def DG{f:Value->Value->Sem Value}{g:Int->Int->Int}
  (rule:∀(i j:Int)(t u:Tok)(s:Shared)(Q:Ae)(E:Ae),Q (.int (g i j) s.toks) {s with toks:=s.toks+1}->wpAny (model X.prog X.w) X.A (f (.int i t)<|.int j u) Q E s):
  Wz X f (rI0 λi j=>.int<|g i j):=by intro pins s σ H x y v u Q I rx ry h;let⟨i,j,rfl,rfl,q⟩:=h;let⟨t,rfl⟩:=rx;let⟨t',rfl⟩:=ry;show rule i j t t' s _ _ ⟨.int<|g i j,H,I.tok _,⟨_,Z⟩,q⟩
def Mc{f:Value->Value->Sem Value}{g:Int->Int->Bool}
  (rule:∀(i j:Int)(t u:Tok)(s:Shared)(Q:Ae)(E:Ae),Q (.bool<|g i j) s->wpAny (model X.prog X.w) X.A (f (.int i t)<|.int j u) Q E s):
  Wz X f (rI0 λi j=>.bl<|g i j):=by intro pins s σ H x y v u Q I rx ry h;let⟨i,j,rfl,rfl,q⟩:=h;let⟨t,rfl⟩:=rx;let⟨t',rfl⟩:=ry;show rule i j t t' s _ _ ⟨.bl<|g i j,H,I,Z,q⟩
def rO(i j:Int):(Prop):=0<j/\j<1073741824
def rN(i j:Int):(Prop):=0<=j/\j<=1000000/\i.natAbs<2^64
def CMul(i j:Int):(Prop):=(-(2^64)<i/\i<2^64)\/(-(2^64)<j/\j<2^64)
def CMul.ok(h:CMul i j):IntMulOk i j:=by
 rcases h with ⟨h1,h2⟩|⟨h1,h2⟩
 .show .of_left (intBits_le_64 h1 h2)
 .show .of_right (intBits_le_64 h1 h2)
def VH:Wz X (binaryOp .Add) (rI0 λi j=>.int (i+j)):=DG λ_ _ _ _ _ _ _ q=>add_int q
def Mb:Wz X (binaryOp .Sub) (rI0 λi j=>.int (i-j)):=DG λ_ _ _ _ _ _ _ q=>sub_int q
def Ir:Wz X (binaryOp .Mult) (rI CMul λi j=>.int (i*j)):=Iu λ_ _ _ _ _ _ _ hc q=>mul_int q hc.ok
def Iq:Wz X (binaryOp .FloorDiv) (rI rO λi j=>.int (i/j)):=Iu λi j _ _ _ _ _ hc q=>by
 let h1:(0:Int)<j:=hc.1;let h2:j<1073741824:=hc.2
 show floordiv_int J (by rwa[Int.fdiv_eq_ediv_of_nonneg i J]) (.inl<|PyProof.noPylong_small DW)
def Sz:Wz X (binaryOp .Mod) (rI (λ_ j=>0<j) λi j=>.int (i%j)):=Iu λi j _ _ _ _ _ hc q=>by let h1:(0:Int)<j:=hc;show mod_int' DW (by rwa[Int.fmod_eq_emod_of_nonneg i J])
def Ip:Wz X (binaryOp .Pow) (rI rN λi j=>.int (i^j.toNat)):=Iu λ_ _ _ _ _ _ _ hc q=>pow_int_small hc.1 hc.2.1 hc.2.2 q
def unI{f:Value->Sem Value}{g:Int->Int}
  (rule:∀(i:Int)(t:Tok)(s:Shared)(Q:Ae)(E:Ae),Q (.int (g i) s.toks) {s with toks:=s.toks+1}->wpAny (model X.prog X.w) X.A (f<|.int i t) Q E s):
  rP X f (rU λi=>.int<|g i):=by intro pins s σ H x v Q I rx h;let⟨i,rfl,q⟩:=h;let⟨t,rfl⟩:=rx;show rule i t s _ _ ⟨.int<|g i,H,I.tok _,⟨_,Z⟩,q⟩
def DF:rP X (unaryOp .USub) (rU λi=>.int (-i)):=unI λ_ _ _ _ _ q=>neg_int q
end
def DE:(V->V->Bool)
 | .non,.non=>true | .non,.int _=>true | .int _,.non=>true | .non,.bl _=>true | .bl _,.non=>true | .non,.str _=>true | .str _,.non=>true
 | .int _,.int _=>true | .bl _,.bl _=>true | .str _,.str _=>true | .byt _,.byt _=>true
 | .int _,.str _=>true | .str _,.int _=>true | .bl _,.str _=>true | .str _,.bl _=>true
 |_,_=>false
inductive rEq(x:V)(y:V)(H:Hp)(Q:VK):Prop
 |mk  (_:DE x y=true) (_:Q (.bl<|decide<|x=y) H)
inductive rNe(x:V)(y:V)(H:Hp)(Q:VK):Prop
 |mk  (_:DE x y=true) (_:Q (.bl<|!decide (x=y)) H)
def Zx:decide (V.int i=V.int j)=(i == j):=by rw[Pp];simp
def DD:decide (V.bl i=V.bl j)=(i == j):=by rw[Pp];simp
def Kq:decide (V.str i=V.str j)=(i == j):=by rw[Pp];simp
def Kp:decide (V.byt i=V.byt j)=(i.toList == j.toList):=by rw[Pp];cases i;cases j;simp
section
variable{X:Cx}{a b c:Expr}{ta tb tc:TE}{pos:Pos}
def ZM{k k':Bool}(I:Inv X pins σ H s)(q:Q (.bl k) H)(e:k=k'):EP X pins σ Q (.bool k') s:=by subst e;exists .bl k,H,I,Z,q
def Rg:Wz X (compareOp .Eq) rEq:=by
 intro pins s σ H x y v u Q I rx ry h;let⟨hs,q⟩:=h;cases x with
 |non=>
  cases rx;cases y with
  |non=>cases ry;show PySem.EqNone.eq_none_none (ZM I q B)
  |bl j=>cases ry;show PySem.EqNone.eq_none_bool (ZM I q B)
  |int j=>let⟨t',rfl⟩:=ry;show PySem.EqNone.eq_none_int (ZM I q B)
  |str j=>let⟨t',rfl⟩:=ry;show PySem.EqNone.eq_none_str (ZM I q B)
  |_=>show absurd (show false=true from hs) YE
 |bl i=>
  cases rx;cases y with
  |non=>cases ry;show PySem.EqNone.eq_bool_none (ZM I q B)
  |bl j=>cases ry;show eq_bool (ZM I q DD)
  |str j=>let⟨t',rfl⟩:=ry;show PySem.EqMixed.eq_bool_str (ZM I q B)
  |_=>show absurd (show false=true from hs) YE
 |int i=>
  let⟨t,rfl⟩:=rx;cases y with
  |non=>cases ry;show PySem.EqNone.eq_int_none (ZM I q B)
  |int j=>let⟨t',rfl⟩:=ry;show eq_int (ZM I q Zx)
  |str j=>let⟨t',rfl⟩:=ry;show PySem.EqMixed.eq_int_str (ZM I q B)
  |_=>show absurd (show false=true from hs) YE
 |str i=>
  let⟨t,rfl⟩:=rx;cases y with
  |non=>cases ry;show PySem.EqNone.eq_str_none (ZM I q B)
  |bl j=>cases ry;show PySem.EqMixed.eq_str_bool (ZM I q B)
  |int j=>let⟨t',rfl⟩:=ry;show PySem.EqMixed.eq_str_int (ZM I q B)
  |str j=>let⟨t',rfl⟩:=ry;show eq_str (ZM I q Kq)
  |_=>show absurd (show false=true from hs) YE
 |byt i=>
  let⟨t,rfl⟩:=rx;cases y with
  |byt j=>let⟨t',rfl⟩:=ry;show PySem.W.eq_bytes (ZM I q Kp)
  |_=>show absurd (show false=true from hs) YE
 |_=>cases y<;>show absurd (show false=true from hs) YE
def PU:Wz X (compareOp .NotEq) rNe:=by
 intro pins s σ H x y v u Q I rx ry h;let⟨hs,q⟩:=h;cases x with
 |non=>
  cases rx;cases y with
  |non=>cases ry;show PySem.EqNone.ne_none_none (ZM I q B)
  |bl j=>cases ry;show PySem.EqNone.ne_none_bool (ZM I q B)
  |int j=>let⟨t',rfl⟩:=ry;show PySem.EqNone.ne_none_int (ZM I q B)
  |str j=>let⟨t',rfl⟩:=ry;show PySem.EqNone.ne_none_str (ZM I q B)
  |_=>show absurd (show false=true from hs) YE
 |bl i=>
  cases rx;cases y with
  |non=>cases ry;show PySem.EqNone.ne_bool_none (ZM I q B)
  |bl j=>cases ry;show ne_bool (ZM I q<|QP not DD)
  |str j=>let⟨t',rfl⟩:=ry;show PySem.EqMixed.ne_bool_str (ZM I q B)
  |_=>show absurd (show false=true from hs) YE
 |int i=>
  let⟨t,rfl⟩:=rx;cases y with
  |non=>cases ry;show PySem.EqNone.ne_int_none (ZM I q B)
  |int j=>let⟨t',rfl⟩:=ry;show ne_int (ZM I q<|QP not Zx)
  |str j=>let⟨t',rfl⟩:=ry;show PySem.EqMixed.ne_int_str (ZM I q B)
  |_=>show absurd (show false=true from hs) YE
 |str i=>
  let⟨t,rfl⟩:=rx;cases y with
  |non=>cases ry;show PySem.EqNone.ne_str_none (ZM I q B)
  |bl j=>cases ry;show PySem.EqMixed.ne_str_bool (ZM I q B)
  |int j=>let⟨t',rfl⟩:=ry;show PySem.EqMixed.ne_str_int (ZM I q B)
  |str j=>let⟨t',rfl⟩:=ry;show ne_str (ZM I q<|QP not Kq)
  |_=>show absurd (show false=true from hs) YE
 |byt i=>
  let⟨t,rfl⟩:=rx;cases y with
  |byt j=>let⟨t',rfl⟩:=ry;show PySem.W.ne_bytes (ZM I q<|QP not Kp)
  |_=>show absurd (show false=true from hs) YE
 |_=>cases y<;>show absurd (show false=true from hs) YE
def UR:Wz X (compareOp .Lt) (rI0 λi j=>.bl (decide (i<j))):=Mc λ_ _ _ _ _ _ _ q=>lt_int q
def UQ:Wz X (compareOp .LtE) (rI0 λi j=>.bl (decide (i<=j))):=Mc λ_ _ _ _ _ _ _ q=>le_int q
def Rf:Wz X (compareOp .Gt) (rI0 λi j=>.bl (decide (j<i))):=Mc λ_ _ _ _ _ _ _ q=>gt_int q
def DC:Wz X (compareOp .GtE) (rI0 λi j=>.bl (decide (j<=i))):=Mc λ_ _ _ _ _ _ _ q=>ge_int q
def DB:Wz X (compareOp .Is) (λx y H Q=>y=.non/\Q (.bl (decide (x=.non))) H):=by
 intro pins s σ H x y v u Q I rx ry h;let⟨rfl,q⟩:=h;cases ry;show is_none_gen (ZM I q ?_);cases x<;>first
  | (cases rx;rfl)
  | (let⟨t,rfl⟩:=rx;rfl)
def Zq(b:Expr)(h:op≠.In:=by decide)(h2:op≠.NotIn:=by decide):behindInMarks op b=false:=by
 let e1:(op == CmpOp.In)=false:=by cases op<;>first|rfl|show absurd rfl h
 let e2:(op == CmpOp.NotIn)=false:=by cases op<;>first|rfl|show absurd rfl h2
 cases b<;>simp[behindInMarks,e1,e2]
def Nj(ho:Wz X (compareOp op) r)(ha:PE X a ta)(hb:PE X b tb)(hm:behindInMarks op b=false):PE X (.Compare a [op] [b] pos) (w4 r ta tb):=by intro pins s σ H Q I h;show wpAny_Compare1 (Iv ha hb I h λv u s2 x y H2 I2 rx ry q=>ho pins s2 σ H2 x y v u Q I2 rx ry q) hm
def DA(t:TE):(TT):=λσ H Q=>t σ H λx H'=>isB x H' Q
def Zh{op:CmpOp}{r:R2}(ho:Wz X (compareOp op) r)(ha:PE X a ta)(hb:PE X b tb)(hm:behindInMarks op b=false):PT X (.Compare a [op] [b] pos) (DA (w4 r ta tb)):=by
 intro pins s σ H Q I h;show wpAny_isTrue_Compare1 (thn (ha pins s σ H _ I h) λv s1 ⟨x,H1,I1,r1,q1⟩=>thn (hb pins s1 σ H1 _ I1 q1) λu s2 ⟨y,H2,I2,r2,q2⟩=>
  thn (ho pins s2 σ H2 x y v u _ I2 r1 r2 q2) λc s3 ⟨z,H3,I3,r3,k,e,q3⟩=>?_) hm
 subst e;cases r3;show Tx ⟨H3,I3,q3⟩
def Dz(r r':R2)(ta tb tc:TE):(TE):=λσ H Q=>ta σ H λx H1=>tb σ H1 λy H2=>r x y H2 λz H3=>∃k,z=.bl k/\
 (if k=true then tc σ H3 λw' H4=>r' y w' H4 Q else Q (.bl false) H3)
def rM{op Io:CmpOp}{r r':R2}(ho:Wz X (compareOp op) r)(WE:Wz X (compareOp Io) r')(ha:PE X a ta)(hb:PE X b tb)(hc:PE X c tc)
  (hm:lastMarks [op,Io] [b,c]=false:=by with_unfolding_all rfl):PE X (.Compare a [op,Io] [b,c] pos) (Dz r r' ta tb tc):=by
 intro pins s σ H Q I h;show Compare_chain (thn (ha pins s σ H _ I h) λv s1 ⟨x,H1,I1,r1,q1⟩=>chain_link (thn (hb pins s1 σ H1 _ I1 q1) λu s2 ⟨y,H2,I2,r2,q2⟩=>
  thn (ho pins s2 σ H2 x y v u _ I2 r1 r2 q2) λd s3 ⟨z,H3,I3,r3,k,e,q3⟩=>?_)) hm
 subst e;cases r3;show Tx ?_;cases k with
 |false=>show ite_ff ⟨.bl false,H3,I3,Z,q3⟩
 |true=>show ite_tt (chain_last<|thn (hc pins s3 σ H3 _ I3 q3) λw' s4 zz=>by let⟨z',H4,I4,r4,q4⟩:=zz;show WE pins s4 σ H4 y z' u w' Q I4 r2 r4 q4)
def dI{op Io:CmpOp}{r r':R2}(ho:Wz X (compareOp op) r)(WE:Wz X (compareOp Io) r')(ha:PE X a ta)(hb:PE X b tb)(hc:PE X c tc)
  (hm:lastMarks [op,Io] [b,c]=false:=by with_unfolding_all rfl):PT X (.Compare a [op,Io] [b,c] pos) (DA<|Dz r r' ta tb tc):=by
 intro pins s σ H Q I h;show isTrue_chain (thn (ha pins s σ H _ I h) λv s1 ⟨x,H1,I1,r1,q1⟩=>test_link (thn (hb pins s1 σ H1 _ I1 q1) λu s2 ⟨y,H2,I2,r2,q2⟩=>
  thn (ho pins s2 σ H2 x y v u _ I2 r1 r2 q2) λd s3 ⟨z,H3,I3,r3,k,e,q3⟩=>?_)) hm
 subst e;cases r3;show Tx ?_;cases k with
 |false=>
  let⟨k',e',q'⟩:=q3;cases e';show ite_ff ⟨H3,I3,q'⟩
 |true=>
  show ite_tt (test_last<|thn (hc pins s3 σ H3 _ I3 q3) λw' s4 zz=>?_);let⟨z',H4,I4,r4,q4⟩:=zz;show thn (WE pins s4 σ H4 y z' u w' _ I4 r2 r4 q4) λd' s5 Xv=>?_;let⟨z2,H5,I5,r5,k2,e2,q5⟩:=Xv;subst e2;cases r5;show Tx ⟨H5,I5,q5⟩
def Dy:(sizeLine:Nat)<2^63:=by rw[Tz];decide
def Sy{us:Ag}(r:Vals [x] us):∃u,us=[u]/\RelV x u:=by
 cases r with
 |cons r1 r2=>cases r2;exists _,Z,r1
def Im{us:Ag}(r:Vals [x,y] us):∃u w',us=[u,w']/\RelV x u/\RelV y w':=by
 cases r with
 |cons r1 r2=>
  cases r2 with
  |cons r3 r4=>cases r4;exists _,_,Z,r1,r3
def dH(hc:X.calm=true):Tp X (.builtin "max") (λxs H Q=>∃i j,xs=[.int i,.int j]/\Q (.int (if j>i then j else i)) H):=by
 intro pins s σ H xs us Q I r h;let⟨i,j,rfl,q⟩:=h;let⟨u,w',rfl,⟨t,rfl⟩,⟨t',rfl⟩⟩:=Im r;show max_two_ints (I.ok.hd hc) λh' tk k=>⟨_,H,I.kept k,?_,q⟩;cases hj:j>i
 .rw[if_pos hj,if_pos hj];exists _,Z
 .rw[if_neg hj,if_neg hj];exists _,Z
def rL(hc:X.calm=true):Tp X (.builtin "min") (λxs H Q=>∃i j,xs=[.int i,.int j]/\Q (.int (if j<i then j else i)) H):=by
 intro pins s σ H xs us Q I r h;let⟨i,j,rfl,q⟩:=h;let⟨u,w',rfl,⟨t,rfl⟩,⟨t',rfl⟩⟩:=Im r;show min_two_ints (I.ok.hd hc) λh' tk k=>⟨_,H,I.kept k,?_,q⟩;cases hj:j<i
 .rw[if_pos hj,if_pos hj];exists _,Z
 .rw[if_neg hj,if_neg hj];exists _,Z
def Zh9:Tp X (.type "int") (λxs H Q=>(∃i,xs=[.int i]/\Q (.int i) H)\/∃k,xs=[.bl k]/\Q (.int (if k then 1 else 0)) H):=by
 intro pins s σ H xs us Q I r h;rcases h with ⟨i,rfl,q⟩|⟨k,rfl,q⟩
 .let⟨u,rfl,t,rfl⟩:=Sy r;show call_int_int ⟨.int i,H,I,⟨_,Z⟩,q⟩
 .let⟨u,rfl,r1⟩:=Sy r;cases r1;show call_int_bool ⟨.int<|if k then 1 else 0,H,I.tok _,⟨_,Z⟩,q⟩
end
structure ObjM(h:Heap)(x dx C:Addr)(mA:Af):Prop where
 obj:h.get? x=some (PySem.W.instObj C dx)
 ns:h.Ns1 dx mA
 ne:dx≠x
def ZK8{h:Heap}{mA:Af}(n:h.Ns1 dx mA):∃od,h.get? dx=some od/\∀name,PySem.W.lookIn name od=some (mA name):=by
 let⟨o,es,ep,ho,hd,hk,_,hm⟩:=n;exists o,ho,λname=>?_;let e:=hm name
 unfold nsFind findBy at e;rw[<-Array.find?_toList]at e;unfold PySem.W.lookIn;rw[hd];dsimp only;split
 .rename_i y q;rw[q]at e;show QP some e
 .rename_i q;rw[q]at e;let a:es.toList.any (·.refKey)=false:=by rw[List.any_eq_false];intro y hy;let⟨z,t,rK⟩:=hk y (Array.mem_toList_iff.mp hy);simp[DictEntry.refKey,rK]
  let a':¬es.toList.any (·.refKey)=true:=by rw[a];show YE
  rw[if_neg a'];show QP some e
def ObjM.look{mA:Af}(I:ObjM h x dx C mA):∃od,PySem.W.InstAt h x (PySem.W.instObj C dx) C (some od)/\∀name,PySem.W.lookIn name od=some (mA name):=
 let ⟨od,ho,hl⟩:=ZK8 I.ns
 ⟨od,⟨I.obj,Z,Z,ho⟩,hl⟩
section
variable{prog:Program}{w:World}{A:Around}{E:Ae}{s:Shared}{K:Ad}{x dx C f:Addr}{mA:Af}{name:Str}{v:Value}
def rJ{Q:Ae}(X:K.In s.heap)(I:ObjM s.heap x dx C mA)(hg:PySem.W.plainGet K C name=true)(hh:PySem.W.hasDictIn K C=true)
  (ha:PySem.W.findIn K ↑C name=some none)(hv:mA name=some v)(wZ:PySem.W.handedIn v=true)(h:Q v {s with toks:=s.toks+1}):
  wpAny (model prog w) A (getAttr ↑x name expr) Q E s:=by let⟨od,sP,hl⟩:=I.look;show PySem.W.get_value X sP (PySem.W.plainGet_of hg).1 (PySem.W.findObj_own hh ha Z<|by rw[hl,hv]) wZ h
def rH{Q:Unit->Shared->Prop}(X:K.In s.heap)(I:ObjM s.heap x dx C mA)
  (hs:PySem.W.findIn K ↑C "__setattr__"=some (some<|.builtin "object.__setattr__"))(hp:PySem.W.plainOver K C=true)(ht:PySem.W.takerIn K C name=some none)(hh:PySem.W.hasDictIn K C=true)
  (hw:PySem.Within mA ns)(hsz:ns.length<=sizeLine)
  (h:∀h',ObjM h' x dx C (λy=>if y=name then some v else mA y)->Heap.SameBut dx s.heap h'->Q () {s with heap:=h',toks:=s.toks+2}):
  wpAny (model prog w) A (setAttr ↑x name v) Q E s:=by
 let⟨od,sP,hl⟩:=I.look;show PySem.W.set_plain X sP hs (PySem.W.osa_open (s:={s with toks:=s.toks+1}) (r:=none) X sP hp ht λb=>?_);let⟨cd,hc,SA⟩:=PySem.W.any_some hh;let hx:s.heap.get? x=some ⟨.ref C,some dx,.plain,#[]⟩:=I.obj
 show XU (Yj<|XU<|XU<|wpAny_loadPart hx<|XU<|PySem.W.Looks.here (s:={s with toks:=s.toks+1}) (PySem.W.looks_clsIn X hc) ?_);rw[SA];show Yj (a:=some dx) (XU<|Yj<|XU ?_);show wpAny_nsSet1 (s:={s with toks:=s.toks+1}) I.ns λh' OX Sx=>?_;let⟨oD,esD,epD,wY,dG,hcD⟩:=OX.count (PySem.Within.cons name v hw);show XU (wpAny_lookBehind wY (by rw[dG];show pastItsLine_dict<|Yr hcD<|by rw[YF];lia) ?_);show Yj (h _ ⟨(Sx.2 _<|Xc I.ne).trans I.obj,OX,I.ne⟩ Sx)
def rG{R:Result->Shared->Prop}{vs:Ag}{kw:List (Str×Value)}(X:K.In s.heap)(hm:PySem.W.makesIn K C=true)
  (hi:PySem.W.findIn K ↑C "__init__"=some (some<|.ref f))(hf:PySem.W.typeIn K ↑f=some (.type "function"))
  (h:codeAny (model prog w) (A.under<|.builtin "type.__call__" ⟨.ref C::vs,kw⟩) (.call ↑f ⟨.ref ((~~~s)+1)::vs,kw⟩) (PySem.W.InitBack ((~~~s)+1) R)
   {s with heap:=(s.heap.push PySem.W.emptyDict).push (PySem.W.instObj C (~~~s))}):
  codeAny (model prog w) A (.call ↑C ⟨vs,kw⟩) R s:=by let⟨hh,g,d,t,os⟩:=s;show PySem.W.make_core (PySem.W.makes_of X hm) (PySem.W.looks_findIn X hi) (λself=>PySem.W.bind_fn X self hf) (.inl Z) h
end
def XO(f:Str)(v:V):(List (Str×V)->List (Str×V))
 |[]=>[(f,v)]
 | (g,x)::r=>if g=f then (g,v)::r else (g,x)::XO f v r
def Dx(f g:Str)(v:V):∀fs:List (Str×V),(XO f v fs).lookup g=if g=f then some v else fs.lookup g
 |[]=>by
  change List.lookup g [(f,v)]=_;cases h:g=f
  .let hb:(g == f)=true:=RM.mpr h;simp only[List.lookup,hb,if_pos h]
  .let hb:(g == f)=false:=EA.mpr h;simp only[List.lookup,hb,if_neg h]
 | (k,x)::r=>by
  let ih:=Dx f g v r;rw[show XO f v ((k,x)::r)=(if k=f then (k,v)::r else (k,x)::XO f v r) from Z];cases hk:k=f
  .rw[if_pos hk];cases h:g=k
   .let hb:(g == k)=true:=RM.mpr h;simp only[List.lookup,hb,if_pos (h.trans hk)]
   .let hb:(g == k)=false:=EA.mpr h;simp only[List.lookup,hb,if_neg λe:g=f=>h (e.trans hk.symm)]
  .rw[if_neg hk];cases h:g=k
   .let hb:(g == k)=true:=RM.mpr h;simp only[List.lookup,hb,if_neg λe:g=f=>hk (h.symm.trans e)]
   .let hb:(g == k)=false:=EA.mpr h;simp only[List.lookup,hb];show ih
def rF(f:Str)(v:V):∀fs:List (Str×V),f∈(XO f v fs).map (·.1)/\∀g,g∈fs.map (·.1)->g∈(XO f v fs).map (·.1)
 |[]=>⟨by simp[XO],λg h=>by simp at h⟩
 | (k,x)::r=>by
  let⟨i1,i2⟩:=rF f v r;rw[show XO f v ((k,x)::r)=(if k=f then (k,v)::r else (k,x)::XO f v r) from Z];cases hk:k=f
  .rw[if_pos hk];subst hk;exists B,λg h=>by simpa using h
  .rw[if_neg hk];exists ?_,λg h=>?_
   .rw[TB];show Ye _ i1
   .rw[TB]at h ⊢;rcases Yh.mp h with e|e
    .show Yh.mpr (.inl e)
    .show Ye _ (i2 g e)
def Dw(f:Str)(v:V):∀fs:List (Str×V),(XO f v fs).length<=fs.length+1
 |[]=>by simp[XO]
 | (k,x)::r=>by
  let ih:=Dw f v r;rw[show XO f v ((k,x)::r)=(if k=f then (k,v)::r else (k,x)::XO f v r) from Z];cases hk:k=f
  .rw[if_pos hk,YF,YF];lia
  .rw[if_neg hk,YF,YF];lia
def RelO.some_of{v:V}(r:RelO (some v) o):∃u,o=some u/\RelV v u:=by
 cases o with
 |none=>show(show False from r).elim
 |some u=>exists u,Z,r
def rE(r:RelV v u):PySem.W.handedIn u=true:=by
 cases v with
 |non=>cases (show u=Value.none from r);rfl
 |bl b=>cases (show u=Value.bool b from r);rfl
 |int i=>let⟨t,e⟩:=(show ∃t,u=Value.int i t from r);cases e;rfl
 |str x=>let⟨t,e⟩:=(show ∃t,u=Value.str x t from r);cases e;rfl
 |byt b=>let⟨t,e⟩:=(show ∃t,u=Value.bytes b t from r);cases e;rfl
 |flt b=>let⟨t,e⟩:=(show ∃t,u=Value.float b t from r);cases e;rfl
 |ref a=>cases (show u=Value.ref a from r);rfl
 |ty n=>cases (show u=Value.type n from r);rfl
section
variable{P:Program}{w:World}{H:Hp}{h:Heap}{a C dx:Addr}{fs:List (Str×V)}
def dF(hok:HOk P w H h)(e:H a=some (.ins C dx fs)):∃mA,ObjM h a dx C mA/\(∀f,RelO (fs.lookup f) (mA f))/\PySem.Within mA (fs.map (·.1))/\fs.length<=1000/\H dx=some (.own a):=by let⟨d,z,ne,ob,mA,n,r,q⟩:=(show ObjOk P w H h a (.ins C dx fs) from hok a _ e);exists mA,⟨ob,n,ne⟩,r,q,z,d
end
structure Cls(K:Ad)(C:Addr):Prop where
 pg:PySem.W.plainGet K C Str.empty=true
 hd:PySem.W.hasDictIn K C=true
 po:PySem.W.plainOver K C=true
 sa:PySem.W.findIn K ↑C "__setattr__"=some (some<|.builtin "object.__setattr__")
def Cls.get{K:Ad}{C:Addr}(c:Cls K C)(f:Str):PySem.W.plainGet K C f=true:=c.pg
def NoAttr(K:Ad)(C:Addr)(f:Str):(Prop):=PySem.W.findIn K ↑C f=some none
def NoAttr.taker{K:Ad}{C:Addr}{f:Str}(n:NoAttr K C f):PySem.W.takerIn K C f=some none:=by unfold PySem.W.takerIn;rw[show PySem.W.findIn K ↑C f=some none from n];rfl
section
variable{X:Cx}{pins:List (Addr×Obj)}{σ:St}{H:Hp}{s:Shared}{a C dx:Addr}{fs:List (Str×V)}{f:Str}{v:V}{A:Around}{E:Ae}
def ZD7{Q:Ae}(I:Inv X pins σ H s)(e:H a=some (.ins C dx fs))(c:Cls X.K C)(n:NoAttr X.K C f)(l:fs.lookup f=some v)
  (h:∀u s',Inv X pins σ H s'->RelV v u->Q u s'):wpAny (model X.prog X.w) A (getAttr ↑a f b) Q E s:=by let⟨mA,O,r,_,_,_⟩:=dF I.hok e;let⟨u,hu,ru⟩:=RelO.some_of (v:=v) (o:=mA f) (by rw[<-l];show r f);show rJ I.kIn O (c.get f) c.hd n hu (rE ru) (h u _ (I.tok _) ru)
def ZR6{Q:Unit->Shared->Prop}(I:Inv X pins σ H s)(e:H a=some (.ins C dx fs))(c:Cls X.K C)(n:NoAttr X.K C f)(hl:fs.length<1000)(ry:RelV y u)
  (h:∀s',Inv X pins σ (upd H a<|.ins C dx<|XO f y fs) s'->Q () s'):wpAny (model X.prog X.w) A (setAttr ↑a f u) Q E s:=by
 let⟨mA,O,r,wi,_,ho⟩:=dF I.hok e;let hz:(fs.map (·.1)).length<=sizeLine:=by rw[Yb,Tz];lia
 show rH I.kIn O c.sa c.po n.taker c.hd wi hz λh' O' sb=>h _ ?_;let hd:∃o,h'.get? dx=some o:=by let⟨o,_,_,e',_⟩:=O'.ns;exists o,e'
 show I.write (x:=a) (e:=dx) (by rw[e];show True.intro) (.inr ho) (λb q hb z=>(sb.2 b hb).trans z) hd ?_;exists by rw[XJ O.ne];show ho,?_,O.ne,O'.obj,_,O'.ns,λg=>?_,λg hg=>?_
 .have:=Dw f y fs;lia
 .change RelO ((XO f y fs).lookup g) (if g=f then some u else mA g);rw[Dx];cases q:g=f
  .rw[if_pos q,if_pos q];show ry
  .rw[if_neg q,if_neg q];show r g
 .cases q:g=f
  .rw[q];show(rF f y fs).1
  .show(rF f y fs).2 g (wi g λz=>hg ?_);change(if g=f then some u else mA g)=none
   rwa[if_neg q]
def Inv.made(I:Inv X pins σ H s):Inv X pins σ (upd (upd H (~~~s) (.own ((~~~s)+1))) ((~~~s)+1) (.ins C (~~~s) []))
  {s with heap:=(s.heap.push PySem.W.emptyDict).push (PySem.W.instObj C (~~~s))}:=by
 let e1:(s.heap.push PySem.W.emptyDict).get? (~~~s)=some PySem.W.emptyDict:=Yq s.heap rfl;let e2:((s.heap.push PySem.W.emptyDict).push (PySem.W.instObj C (~~~s))).get? ((~~~s)+1)=some (PySem.W.instObj C (~~~s)):=by
  have:=Yq (s.heap.push PySem.W.emptyDict) (o:=PySem.W.instObj C (~~~s)) rfl
  rwa[Mw]at this
 let e3:(s.heap.push PySem.W.emptyDict).Ns (~~~s) (λ_=>none):=⟨PySem.W.emptyDict,#[],_,e1,Z,λe he=>absurd he B,λ_=>rfl⟩;let I1:=I.laid (a:=(~~~s)) (o:=.own<|(~~~s)+1) (h':=s.heap.push PySem.W.emptyDict) (t':=s.toks) (λb u q=>Xd _ q) (XN _) ⟨_,e1⟩
 show I1.laid (a:=(~~~s)+1) (o:=.ins C (~~~s) []) (t':=s.toks) (λb u q=>Xd _ q) (xq<|Mw _ _) ?_;let ne:(~~~s)≠(~~~s)+1:=YB (Np _)
 exists by rw[XJ ne,XQ],Ym _,ne,e2,λ_=>none,(Heap.Ns1.of_empty e3).at λo q=>Xd _ q,λ_=>True.intro,λy hy=>absurd Z hy
def Dv{pos:Pos}{Q:Ae}(hb:attributeBase e f env (eval e env)=eval e env)
  (h:wpAny (model prog w) A (eval e env) (λo s₁=>wpAny (model prog w) A (getAttr o f true) Q E s₁) E s):wpAny (model prog w) A (eval (.Attribute e f pos) env) Q E s:=
 Attribute_any_ h (by rw[arm_eval_Attribute,hb])
end
inductive xFld(K:Ad)(f:Str)(x:V)(H1:Hp)(Q:VK):Prop
 |mk (a C dx fs v:_) (_:x=.ref a) (_:H1 a=some (.ins C dx fs)) (_:Cls K C) (_:NoAttr K C f) (_:fs.lookup f=some v) (_:Q v H1)
def Du(K:Ad)(ta:TE)(f:Str):(TE):=λσ H Q=>ta σ H λx H1=>xFld K f x H1 Q
def rD(K:Ad)(ta tv:TE)(f:Str):(TS):=λD σ H=>tv σ H λy H1=>ta σ H1 λx H2=>∃a C dx fs,x=.ref a/\H2 a=some (.ins C dx fs)/\Cls K C/\NoAttr K C f/\fs.length<1000/\
 D.nx σ (upd H2 a<|.ins C dx<|XO f y fs)
section
variable{X:Cx}{o e value:Expr}{f:Str}{pos pos':Pos}{ta tv:TE}
def rC(he:PE X e ta)(hb:attributeBase e f X.env (eval e X.env)=eval e X.env):PE X (.Attribute e f pos) (Du X.K ta f):=by intro pins s σ H Q I h;show Dv hb (thn (he pins s σ H _ I h) λu s1 Xv=>?_);let⟨x,H1,I1,rx,a,C,dx,fs,v,ex,ea,c,n,l,q⟩:=Xv;subst ex;let rfl:u=Value.ref a:=rx;show ZD7 I1 ea c n l λu' s2 I2 ru=>⟨v,H1,I2,ru,q⟩
def Ma(ha:PE X o ta)(hv:PE X value tv)(hs:swapsWith value (some (.Attribute o f pos')) pos.line X.env=pure false):PS X (.Assign [.Attribute o f pos'] value pos) (rD X.K ta tv f):=by intro pins s σ H D I h;show plainObj_wpAny_Assign_Attribute (thn (hv pins s σ H _ I h) λu s1 zz=>?_) hs;let⟨y,H1,I1,ry,q⟩:=zz;show thn (ha pins s1 σ H1 _ I1 q) λov s2 Xv=>?_;let⟨x,H2,I2,rx,a,C,dx,fs,ex,ea,c,n,l,q2⟩:=Xv;subst ex;let rfl:ov=Value.ref a:=rx;show ZR6 I2 ea c n l ry λs3 I3=>⟨σ,_,I3,q2⟩
end
structure Room(k:Nat)(A:Around):Prop where
 hd:A.handled=none
 dp:A.depth+3*k+5<recursionLimit
 un:A.units+16*k+200<cLine
def Room.mono(r:Room k A)(h:j<=k):Room j A:=⟨r.hd,by have:=r.dp;lia,by have:=r.un;lia⟩
def Room.deeper(r:Room (k+1) A)(env:Env):Room k (A.deeper env):=
 ⟨r.hd,by have:=r.dp;change A.depth+1+3*k+5<_;lia,by have:=r.un;change A.units+3+16*k+200<_;lia⟩
def Room.in1(r:Room (k+1) A):Room k A.in1:=
 ⟨r.hd,by have:=r.dp;change A.depth+3*k+5<_;lia,by have:=r.un;change A.units+1+16*k+200<_;lia⟩
def Zf7{A:Around}{C:Addr}{us:Ag}{kw:List (Str×Value)}:(A.under (.builtin "type.__call__" ⟨.ref C::us,kw⟩)).depth=A.depth+1:=by
 first|rfl|simp[Around.under,Code.weight,Code.isCreation,Code.isGuard,Code.isCaller,Code.frames,Code.isFrame,guardIds]
def Ze7{A:Around}{C:Addr}{us:Ag}{kw:List (Str×Value)}:(A.under (.builtin "type.__call__" ⟨.ref C::us,kw⟩)).units=A.units+1:=by
 first|rfl|simp[Around.under,Code.cUnits,Code.frames,Code.isFrame]
def Room.make(r:Room (k+1) A)(C:Addr)(us:Ag)(kw:List (Str×Value)):Room k (A.under (.builtin "type.__call__" ⟨.ref C::us,kw⟩)):=
 ⟨r.hd,by have:=r.dp;rw[Zf7];lia,by have:=r.un;rw[Ze7];lia⟩
def Room.depth(r:Room k A):A.depth<recursionLimit:=by have:=r.dp;lia
def Room.units(r:Room k A):A.units+64<cLine:=by have:=r.un;lia
def Il:(TA):=λ_ H Q=>Q [] H
def Ik(ta:TE)(tr:TA):(TA):=λσ H Q=>ta σ H λx H1=>tr σ H1 λxs H2=>Q (x::xs) H2
section
variable{X:Cx}{e:Expr}{es:List Expr}{te:TE}{t:TA}{pos:Pos}
def XT:PA X [] Il:=λ_ _ _ _ H Q I h=>IG ⟨[],H,I,.nil,h⟩
def XY(ha:PE X e te)(hr:PA X es t)(hs:starEach (e::es) X.env=(false,eval e X.env)::starEach es X.env:=by rfl):PA X (e::es) (Ik te t):=by
 intro pos pins s σ H Q I h;rw[hs];change wpAny _ _ (spliced<|(false,eval e X.env)::backTo pos (starEach es X.env)) _ _ s
 show tJ (thn (ha pins s σ H _ I h) λu s1 Xv=>?_);let⟨x,H1,I1,r1,q1⟩:=Xv;show thn (hr pos pins s1 σ H1 _ I1 q1) λus s2 zz=>by let⟨xs,H2,I2,r2,q2⟩:=zz;exists x::xs,H2,I2,.cons r1 r2,q2
inductive xTup(xs:List V)(H1:Hp)(Q:VK):Prop
 |mk (_:xs.length<=sizeLine) (_:∀p,H1 p=none->Q ↑p (upd H1 p<|.tup xs))
def rB(t:TA):(TE):=λσ H Q=>t σ H λxs H1=>xTup xs H1 Q
inductive xLst(xs:List V)(H1:Hp)(Q:VK):Prop
 |mk (_:xs.length<=sizeLine) (_:∀p,H1 p=none->Q ↑p (upd H1 p<|.lst xs))
def rq(t:TA):(TE):=λσ H Q=>t σ H λxs H1=>xLst xs H1 Q
def To{x1}(h:PA X es t):PE X (.Tuple es x1 pos) (rB t):=by
 intro pins s σ H Q I hq;show wpAny_Tuple_spliced (thn (h pos pins s σ H _ I hq) λus s1 ⟨xs,H1,I1,r,z,q⟩=>⟨by rw[<-r.length];show z,?_⟩);let hf:H1 (~~~s1)=none:=I1.hok.fresh (XN _)
 exists .ref (~~~s1),upd H1 (~~~s1)<|.tup xs,I1.laid (t':=s1.toks) (λb u e=>Xd _ e) (XN _) ?_,Z,q _ hf;exists z,us,r,⟨_,Yq _ Z,Z,_,Z⟩
def Tn(h:PA X es t):PE X (.List es pos) (rq t):=by
 intro pins s σ H Q I hq;show wpAny_List_spliced (thn (h pos pins s σ H _ I hq) λus s1 ⟨xs,H1,I1,r,z,q⟩=>⟨by rw[<-r.length];show z,?_⟩);let hf:H1 (~~~s1)=none:=I1.hok.fresh (XN _)
 exists .ref (~~~s1),upd H1 (~~~s1)<|.lst xs,I1.laid (t':=s1.toks) (λb u e=>Xd _ e) (XN _) ?_,Z,q _ hf;exists z,us,0,r,Yq _ Z
end
abbrev Sp:=List V->Hp->VK->XK->Prop
abbrev RH:=List Env->Hp->Shared->XK->Ae
structure Env0(P:Program)(w:World)(K:Ad)(mg:Af)(base:Heap)(A:Around)(outer:List Env)(s:Shared)(H:Hp):Prop where
 frames:A.frames=some outer
 mod:Mod K mg base
 bs:∀b o,base.get? b=some o->s.heap.get? b=some o/\H b=none
 bsz:base.objs.size<=(~~~s)
 funs:s.heap.FunFrames base outer
 frf:∀b∈VV outer,H b=none
 hok:HOk P w H s.heap
 bare:AllBare s.gens
def CE(outer:List Env)(P:Program)(w:World)(H:Hp)(s:Shared)(Q:VK)(u:Value)(s':Shared):(Prop):=
 ∃v H',s'.os=s.os/\AllBare s'.gens/\Un (VV outer) [] H H' s.heap s'.heap/\HOk P w H' s'.heap/\RelV v u/\Q v H'
def CR(CX:RH)(outer:List Env)(P:Program)(w:World)(H:Hp)(s:Shared)(Q:VK)(E:XK)(r:Result)(s':Shared):(Prop):=
 match r with
 | .ok (.ret u)=>CE outer P w H s Q u s'
 | .ok _=>False
 | .error e=>CX outer H s E e s'
structure FnOk(P:Program)(w:World)(K:Ad)(mg:Af)(base:Heap)(CX:RH)(k:Nat)(f:Addr)(fd:FuncData)(ps:List Str)(sp:Sp):Prop where
 len:∀vs H Q E,sp vs H Q E->vs.length=ps.length
 run:∀(A:Around)(outer:List Env)(s:Shared)(H:Hp)(args:Args)(us:Ag)(vs:List V)(Q:VK)(E:XK),Room k A->Env0 P w K mg base A outer s H->BindsTo s fd args (ps.zip us)->Vals vs us->sp vs H Q E->
  codeAny (model P w) A (.call ↑f args) (CR CX outer P w H s Q E) s
def Env0.make{P:Program}{w:World}{K:Ad}{mg:Af}{base:Heap}{A:Around}{outer:List Env}{s:Shared}{H:Hp}(e:Env0 P w K mg base A outer s H)(C:Addr)(us:Ag)(kw:List (Str×Value)):
  Env0 P w K mg base (A.under<|.builtin "type.__call__" ⟨.ref C::us,kw⟩) outer s H:=⟨by first|show e.frames|(simpa[Around.under,Code.envs,Code.isFrame,pushEnvs] using e.frames),e.mod,e.bs,e.bsz,e.funs,e.frf,e.hok,e.bare⟩
def Env0.in1{P:Program}{w:World}{K:Ad}{mg:Af}{base:Heap}{A:Around}{outer:List Env}{s:Shared}{H:Hp}(e:Env0 P w K mg base A outer s H):
  Env0 P w K mg base A.in1 outer s H:=⟨e.frames,e.mod,e.bs,e.bsz,e.funs,e.frf,e.hok,e.bare⟩
section
variable{X:Cx}{pins:List (Addr×Obj)}{σ:St}{H:Hp}{s s':Shared}
def Inv.env0(I:Inv X pins σ H s):Env0 X.prog X.w X.K X.mg X.base X.A X.stack s H:=
 ⟨I.ok.frames,I.ok.mod,I.bs,Yr I.ok.bsz I.sz,I.stack,I.stkFree,I.hok,I.bare⟩
def Inv.after(I:Inv X pins σ H s)(h:CE X.stack X.prog X.w H s Q u s'):EP X pins σ Q u s':=by let⟨v,H',os,bare,un,hok,r,q⟩:=h;let⟨hh,g,d,t,rp⟩:=s';let rfl:rp=s.os:=os;exists v,H',I.call (h':=hh) (g':=g) (d':=d) (t':=t) (ch:=[]) un hok bare λb z=>absurd z B,r,q
end
def Dt(sp:Sp)(Vc:List V)(E:XK)(t:TA):(TE):=λσ H Q=>t σ H λvs H1=>sp (vs++Vc) H1 Q E
def rn(C:Addr)(sp:Sp)(Vc:List V)(E:XK)(t:TA):(TE):=λσ H Q=>t σ H λvs H1=>∀x dx,H1 x=none->H1 dx=none->dx≠x->
 sp (.ref x::(vs++Vc)) (upd (upd H1 dx<|.own x) x<|.ins C dx []) (λv H2=>v=.non/\Q ↑x H2) E
def Binds(K:Ad)(fd:FuncData)(ps:List Str)(ds:Ag):(Prop):=
 ∀(s:Shared)(us:Ag),K.In s.heap->(us++ds).length=ps.length->BindsTo s fd ⟨us,[]⟩ (ps.zip<|us++ds)
def Binds.all{K:Ad}{fd:FuncData}{ps:List Str}(h:∀us:Ag,us.length=ps.length->bindArgs fd ⟨us,[]⟩=pure (ps.zip us)):Binds K fd ps []:=λs us _ hl=>by rw[Yx]at hl ⊢;show .of_eq (h us hl)
def Ko(CX:RH)(X:Cx)(E:XK):(Prop):=∀(pins:List (Addr×Obj))(σ:St)(H:Hp)(s:Shared)(e:Value)(s':Shared),Inv X pins σ H s->CX X.stack H s E e s'->X.xe e s'
section
variable{X:Cx}{CX:RH}{k:Nat}{f C:Addr}{fd:FuncData}{ps:List Str}{sp:Sp}{Vc:List V}{ds:Ag}{E:XK}{x:Str}{p pos:Pos}{e:Expr}{es:List Expr}{t:TA}
def rm(F:FnOk X.prog X.w X.K X.mg X.base CX k f fd ps sp)(hr:Room k X.A)(hb:Binds X.K fd ps ds)(hd:Vals Vc ds)(hx:Ko CX X E)
  (I:Inv X pins σ H s)(r:Vals vs us)(h:sp (vs++Vc) H Q E):wpAny (model X.prog X.w) X.A (call ↑f us) (EP X pins σ Q) X.xe s:=by
 let r2:Vals (vs++Vc) (us++ds):=r.append hd;let hl:(us++ds).length=ps.length:=by rw[<-r2.length];show F.len _ _ _ _ h
 show FI (Mr (F.run X.A X.stack s H ⟨us,[]⟩ (us++ds) (vs++Vc) Q E hr I.env0 (hb s us I.kIn hl) r2 h) λr s' hq=>?_);cases r with
 |error e=>show hx pins σ H s e s' I hq
 |ok fl=>
  cases fl with
  |ret u=>show I.after hq
  |next=>show False.elim hq
  |brk=>show False.elim hq
  |cont=>show False.elim hq
def Ij(F:FnOk X.prog X.w X.K X.mg X.base CX k f fd ps sp)(hr:Room k X.A)(hg:Gl X x)(hm:X.mg x=some ↑f)(hk:PySem.W.keepIn X.K ↑f=true)(hb:Binds X.K fd ps ds)(hd:Vals Vc ds)(hx:Ko CX X E)
  (ha:PA X (e::es) t)(Tj:(x == ("__debug__":Str))=false:=by decide)(he:starEach (e::es) X.env=(false,eval e X.env)::starEach es X.env:=by rfl)(Vg:(backTo pos<|starEach es X.env).any (·.1)=false:=by rfl):
  PE X (.Call (.Name x p) (e::es) [] pos) (Dt sp Vc E t):=by intro pins s σ H Q I h;show Pu (Pe I hg hm ?_ Tj);show IQ (h₀:=X.base) I.ok.mod.kin hk (thn (ha pos pins s σ H _ I h) λus s1 ⟨vs,H1,I1,r,q⟩=>⟨I1.kIn,?_⟩) he Vg;show rm F hr hb hd hx I1 r q
structure Mk(K:Ad)(C f:Addr):Prop where
 makes:PySem.W.makesIn K C=true
 init:PySem.W.findIn K ↑C "__init__"=some (some<|.ref f)
 fn:PySem.W.isFn K ↑f=true
 kp:PySem.W.keepIn K ↑C=true
def rj(M:Mk X.K C f)(F:FnOk X.prog X.w X.K X.mg X.base CX k f fd ps sp)(hr:Room (k+1) X.A)(hb:Binds X.K fd ps ds)(hd:Vals Vc ds)
  (hx:Ko CX X E)(I:Inv X pins σ H s)(r:Vals vs us)
  (h:∀x dx,H x=none->H dx=none->dx≠x->sp (.ref x::(vs++Vc)) (upd (upd H dx<|.own x) x<|.ins C dx []) (λv H2=>v=.non/\Q ↑x H2) E):
  wpAny (model X.prog X.w) X.A (call ↑C us) (EP X pins σ Q) X.xe s:=by
 let hq:=h ((~~~s)+1) (~~~s) (I.hok.fresh<|Ud _) (I.hok.fresh<|XN _) (YB<|Np _);let I2:=Inv.made (C:=C) I
 let r2:Vals (V.ref ((~~~s)+1)::(vs++Vc)) (Value.ref ((~~~s)+1)::(us++ds)):=.cons Z (r.append hd);let hl:(Value.ref ((~~~s)+1)::us++ds).length=ps.length:=by let e:=r2.length;rw[F.len _ _ _ _ hq]at e;show e.symm
 show FI (rG (f:=f) I.kIn M.makes M.init (RM.mp M.fn) (Mr (F.run _ X.stack _ _ ⟨Value.ref ((~~~s)+1)::us,[]⟩ (Value.ref ((~~~s)+1)::(us++ds)) _ _ E (hr.make C us [])
  (I2.env0.make C us []) (hb _ (Value.ref ((~~~s)+1)::us) I2.kIn hl) r2 hq) λr s' Ds=>?_))
 cases r with
 |error e=>show hx pins σ _ _ e s' I2 Ds
 |ok fl=>
  cases fl with
  |ret u=>
   let⟨v,H',I3,rv,ev,q3⟩:=I2.after Ds;subst ev;exists rv,⟨V.ref<|(~~~s)+1,H',I3,Z,q3⟩
  |next=>show False.elim Ds
  |brk=>show False.elim Ds
  |cont=>show False.elim Ds
def OW(M:Mk X.K C f)(F:FnOk X.prog X.w X.K X.mg X.base CX k f fd ps sp)(hr:Room (k+1) X.A)(hg:Gl X x)(hm:X.mg x=some ↑C)(hb:Binds X.K fd ps ds)(hd:Vals Vc ds)(hx:Ko CX X E)
  (ha:PA X (e::es) t)(Tj:(x == ("__debug__":Str))=false:=by decide)(he:starEach (e::es) X.env=(false,eval e X.env)::starEach es X.env:=by rfl)(Vg:(backTo pos<|starEach es X.env).any (·.1)=false:=by rfl):
  PE X (.Call (.Name x p) (e::es) [] pos) (rn C sp Vc E t):=by intro pins s σ H Q I h;show Pu (Pe I hg hm ?_ Tj);show IQ (h₀:=X.base) I.ok.mod.kin M.kp (thn (ha pos pins s σ H _ I h) λus s1 ⟨vs,H1,I1,r,q⟩=>⟨I1.kIn,?_⟩) he Vg;show rj M F hr hb hd hx I1 r q
end
structure FnScope(N P:List Str)(sc:Scope):Prop where
 kind:sc.kind=.function
 co:sc.isCoroutine=false
 gen:sc.isGenerator=false
 nd:N.Nodup
 pre:N.take P.length=P
 par:∀x∈P,sc.names.lookup x=some .local\/sc.names.lookup x=some .cell
 nofree:∀y∈sc.names,y.2≠.free
def dE{kindOf:Str->Option NameKind}:∀{binds:List (Str×Value)}{m:Af},(∀v,(x,v)∉binds)->bindL kindOf binds m x=m x
 |[],_,_=>rfl
 | (n,v)::r,m,h=>by
  unfold bindL;rw[dE λw hw=>h w (Ye _ hw)];split
  .have:x≠n:=by rintro rfl;show h v Yc
   simp[this]
  .rfl
def dD{kindOf:Str->Option NameKind}:∀{binds:List (Str×Value)}{m:Af},(∀v,(x,v)∉binds)->bindC kindOf binds m x=m x
 |[],_,_=>rfl
 | (n,v)::r,m,h=>by
  unfold bindC;rw[dD λw hw=>h w (Ye _ hw)];split
  .rfl
  .have:x≠n:=by rintro rfl;show h v Yc
   simp[this]
def dC{kindOf:Str->Option NameKind}{x:Str}{v:Value}:∀{P:List Str}{vs:Ag}{i:Nat}{m:Af},P.Nodup->P[i]?=some x->vs[i]?=some v->kindOf x=some .local->
  bindL kindOf (P.zip vs) m x=some v
 |[],_,_,_,_,h,_,_=>by simp at h
 |_::_,[],_,_,_,_,h,_=>by simp at h
 |p::P,w::vs,0,m,nd,h1,h2,hk=>by
  simp at h1 h2;subst h1;subst h2;change bindL kindOf ((p,w)::P.zip vs) m p=_
  unfold bindL;rw[dE λv hv=>(Qb.mp nd).1 (tO hv).1,if_pos hk];simp
 |p::P,w::vs,i+1,m,nd,h1,h2,hk=>by change bindL kindOf ((p,w)::P.zip vs) m x=_;unfold bindL;show dC (i:=i) (Qb.mp nd).2 (by simpa using h1) (by simpa using h2) hk
def dB{kindOf:Str->Option NameKind}{x:Str}{v:Value}:∀{P:List Str}{vs:Ag}{i:Nat}{m:Af},P.Nodup->P[i]?=some x->vs[i]?=some v->kindOf x≠some .local->
  bindC kindOf (P.zip vs) m x=some v
 |[],_,_,_,_,h,_,_=>by simp at h
 |_::_,[],_,_,_,_,h,_=>by simp at h
 |p::P,w::vs,0,m,nd,h1,h2,hk=>by
  simp at h1 h2;subst h1;subst h2;change bindC kindOf ((p,w)::P.zip vs) m p=_
  unfold bindC;rw[dD λv hv=>(Qb.mp nd).1 (tO hv).1,if_neg hk];simp
 |p::P,w::vs,i+1,m,nd,h1,h2,hk=>by change bindC kindOf ((p,w)::P.zip vs) m x=_;unfold bindC;show dB (i:=i) (Qb.mp nd).2 (by simpa using h1) (by simpa using h2) hk
def start(N:List Str)(vs:List V):(St):=vs.map some++List.replicate (N.length-vs.length) none
def Wy(CX:RH)(P:Program)(w:World)(K:Ad)(mg:Af)(base:Heap)(N:List Str)(qual:Str)(scope:Scope)(f:Addr)(cd:Value)(A:Around)(outer:List Env)(s:Shared)(H:Hp)(E:XK):(Cx) where
 prog:=P
 w:=w
 K:=K
 mg:=mg
 base:=base
 A:=A.deeper (envOfC qual scope (~~~s) f cd)
 N:=N
 s₀:=s
 H₀:=H
 env:=envOfC qual scope (~~~s) f cd
 outer:=outer
 stack:=envOfC qual scope (~~~s) f cd::outer
 ex:=[]
 calm:=true
 fn:=λ_=>true
 pn:=[]
 xe:=λe s'=>wpAny (model P w) (A.deeper<|envOfC qual scope (~~~s) f cd) (leaving (envOfC qual scope (~~~s) f cd) e) (λ_ Ua=>CX outer H s E e Ua) (λe' Ua=>CX outer H s E e' Ua) s'
def Dr{sc:Scope}(h:sc.names.lookup x=some .cell):∃c,(cellsFrom n sc.names []).lookup x=some c:=by let q:=d9 sc.names n [] (.inl h);show uw.mp q
def ZX8{CX:RH}{P:Program}{w:World}{K:Ad}{mg:Af}{base:Heap}{N ps:List Str}{qual:Str}{scope:Scope}{f:Addr}{cd:Value}{A:Around}{outer:List Env}{s s1:Shared}{H:Hp}{E:XK}{us:Ag}{vs:List V}
  (S:FnScope N ps scope)(hd:A.handled=none)(e0:Env0 P w K mg base A outer s H)(hl:vs.length=ps.length)(r:Vals vs us)
  (x:InCallC s (~~~s) (bindL (envOfC qual scope (~~~s) f cd).kindOf (ps.zip us) λ_=>none) (cellsFrom ((~~~s)+1) scope.names []) (bindC (envOfC qual scope (~~~s) f cd).kindOf (ps.zip us) λ_=>none) s1):
  Inv (Wy CX P w K mg base N qual scope f cd A outer s H E) [] (start N vs) H s1:=by
 let Vg:ps.length<=N.length:=by have:=QP List.length S.pre;rw[Yl]at this;lia
 let⟨h1,tk,rfl,hk⟩:=x.done;let Ii:∀b:Addr,b∉(Wy CX P w K mg base N qual scope f cd A outer s H E).ex:=λb z=>absurd (show b∈([]:List Addr) from z) B
 show⟨⟨e0.mod,S.kind,Z,Z,XN _,λy z c h1 h2=>?_,λy hy=>?_,λy c _ h=>?_,λ_=>hd,Around.frames_deeper e0.frames,.inr ⟨Z,Z⟩,λb z=>absurd z<|Ii b,e0.bs,e0.bsz,λb _ _=>Ii b,λb z=>absurd z<|Ii b,e0.funs,e0.frf⟩,
  rfl,e0.bare,Un.kept hk,⟨_,x.toInCall.ns,λi y v h1 h2 h3=>?_⟩,λy c h=>⟨_,x.cell y c h⟩,e0.hok.fresh<|XN _,λy c h=>?_,λp hp=>absurd (show p∈([]:List (Addr×Obj)) from hp) B,e0.hok.kept hk,?_⟩
 .show name_of_addr x.apart (RN h1) (RN h2)
 .let hy:scope.names.lookup y=some .cell\/scope.names.lookup y=some .free:=hy;rcases hy with hy|hy
  .show Dr hy
  .show absurd Z (S.nofree _<|RN hy)
 .show Nm (x.above y c<|RN h)
 .let hi:i<vs.length:=by
   unfold start at h2;cases hi:i<vs.length
   .show hi
   .rw[Yk (by simpa using hi)]at h2;rw[xW]at h2;split at h2<;>cases h2
  let ha:vs[i]?=some v:=by
   unfold start at h2;rw[Yn (by simpa using hi),Yp]at h2;cases e:vs[i]? with
   |none=>rw[e]at h2;cases h2
   |some a=>rw[e]at h2;cases h2;rfl
  let⟨u,hu,rv⟩:=r.get ha;let hp:ps[i]?=some y:=by rwa[<-S.pre,List.getElem?_take_of_lt J]
  let dz:ps.Nodup:=by rw[<-S.pre];show S.nd.sublist (ME _ _)
  exists u,rv,?_;rcases S.par y (Xg hp) with k|k
  .show .inl ⟨k,dC dz hp hu k⟩
  .let⟨c,e⟩:=Dr (n:=(~~~s)+1) k;show .inr ⟨.inl k,c,e,?_⟩;let q:=x.cell y c e
   rwa[dB dz hp hu (by change scope.names.lookup y≠_;rw[k];decide)]at q
 .show e0.hok.fresh (Nm<|x.above y c<|RN h)
 .unfold start;change _=N.length
  rw[Xw,Yb,YU];grind
def OV{CX:RH}{P:Program}{w:World}{K:Ad}{mg:Af}{base:Heap}{k:Nat}{f:Addr}{name qual:Str}{params:Arguments}{body:List Stmt}{scope:Scope}{dV kV doc pm XC ct oc:Value}{an od:Option Addr}
  {Ti:Array (Option Value)}{N ps:List Str}{sp:Sp}(lk:K.lookup f=some ⟨oc,od,.func<|PySem.W.fnOf name qual params body scope dV kV doc pm an XC ct,Ti⟩)(SQ:PySem.W.codeIn K XC qual=true)(S:FnScope N ps scope)
  (len:∀vs H Q E,sp vs H Q E->vs.length=ps.length)
  (hbody:∀(A:Around)(outer:List Env)(s:Shared)(H:Hp)(vs:List V)(Q:VK)(E:XK),Room k (A.deeper<|envOfC qual scope (~~~s) f XC)->sp vs H Q E->
   ∃t,PSs (Wy CX P w K mg base N qual scope f XC A outer s H E) body t/\t {nx:=λ_ H'=>Q .non H',rt:=Q} (start N vs) H):
  FnOk P w K mg base CX (k+1) f (PySem.W.fnOf name qual params body scope dV kV doc pm an XC ct) ps sp:=by
 exists len,λA outer s H args us vs Q E hr e0 hb r Rc=>?_;let hl:=len _ _ _ _ Rc
 let KX:K.In s.heap:=e0.mod.kin.keeps λb o e=>(e0.bs b o e).1;let lim:s.heap.NoLimit:=e0.mod.nolimit.keeps λb o e=>(e0.bs b o e).1
 let Dq:∀y∈ps.zip us,scope.names.lookup y.1=some .local\/(scope.names.lookup y.1=some .cell/\((cellsFrom ((~~~s)+1) scope.names []).lookup y.1).isSome=true):=λ⟨n,v⟩ hy=>by
  rcases S.par n (tO hy).1 with q|q
  .show .inl q
  .show .inr ⟨q,d9 _ _ _<|.inl q⟩
 show codeAny_call_function hr.depth (KX _ _ lk) Z S.co S.gen Z (PySem.W.codeRec_of KX SQ) (hb _ _ _ _ ?_);show wpAny_newFunctionEnv_cells S.kind Dq λenv he s1 x=>?_;subst he;exists lim.keeps x.toInCall.keep,codeAny_func ?_;let⟨t,ht,hq⟩:=hbody A outer s H vs Q E (hr.deeper _) Rc;let I:Inv (Wy CX P w K mg base N qual scope f XC A outer s H E) [] (start N vs) H s1:=ZX8 S hr.hd e0 hl r x
 show Uc (ht [] s1 (start N vs) H _ I hq) (λfl s' hs=>?_) λe s' hs=>hs;let fin:∀{σ':St}{H':Hp}{v:V}{u:Value},Inv (Wy CX P w K mg base N qual scope f XC A outer s H E) [] σ' H' s'->RelV v u->Q v H'->CE outer P w H s Q u s':=
  λ{σ' H' v u} sP rv q=>⟨v,H',sP.os,sP.bare,sP.base,sP.hok,rv,q⟩
 cases fl with
 |ret u=>
  let⟨v,σ',H',sP,rv,q⟩:=hs;show fin sP rv q
 |next=>
  let⟨σ',H',sP,q⟩:=hs;show fin (v:=V.non) (u:=Value.none) sP Z q
 |brk=>
  let⟨_,_,_,q⟩:=hs;show False.elim q
 |cont=>
  let⟨_,_,_,q⟩:=hs;show False.elim q
section
variable{X:Cx}{x:Str}{p pos:Pos}{e:Expr}{es:List Expr}{t:TA}{id T:String}{r:List V->Hp->VK->Prop}
def dy(r:List V->Hp->VK->Prop)(t:TA):(TE):=λσ H Q=>t σ H λvs H1=>r vs H1 Q
def Ze(hc:Tp X (.builtin id) r)(hg:Gl X x)(hm:X.mg x=none)(hv:bootBuiltins x=some (.builtin id))(ha:PA X (e::es) t)(hn:x≠"__name__":=by decide)(Tj:(x == ("__debug__":Str))=false:=by decide)
  (he:starEach (e::es) X.env=(false,eval e X.env)::starEach es X.env:=by rfl)(Vg:(backTo pos<|starEach es X.env).any (·.1)=false:=by rfl):PE X (.Call (.Name x p) (e::es) [] pos) (dy r t):=by intro pins s σ H Q I h;show Pu (PV I hg hm hv ?_ hn Tj);show fi (thn (ha pos pins s σ H _ I h) λus s1 zz=>by let⟨vs,H1,I1,r1,q1⟩:=zz;show hc pins s1 σ H1 vs us Q I1 r1 q1) he Vg
def Zo(hc:Tp X (.type T) r)(hg:Gl X x)(hm:X.mg x=none)(hv:bootBuiltins x=some (.type T))(ha:PA X (e::es) t)(hn:x≠"__name__":=by decide)(Tj:(x == ("__debug__":Str))=false:=by decide)
  (he:starEach (e::es) X.env=(false,eval e X.env)::starEach es X.env:=by rfl)(Vg:(backTo pos<|starEach es X.env).any (·.1)=false:=by rfl):PE X (.Call (.Name x p) (e::es) [] pos) (dy r t):=by intro pins s σ H Q I h;show Pu (PV I hg hm hv ?_ hn Tj);show Ji (thn (ha pos pins s σ H _ I h) λus s1 zz=>by let⟨vs,H1,I1,r1,q1⟩:=zz;show hc pins s1 σ H1 vs us Q I1 r1 q1) he Vg
end
end L2
namespace HT
open PySem PyProof.Rows
def lexLt:(Ac->Ac->Bool)
 |[],[]=>false
 |[],_::_=>true
 |_::_,[]=>false
 |x::xs,y::ys=>if x=y then lexLt xs ys else decide (x<y)
def Xq(x y:Int)(xs ys:Ac):lexLt (x::xs) (y::ys)=if x=y then lexLt xs ys else decide (x<y):=rfl
section
variable{prog:Program}{w:World}{A:Around}{E:Ae}{s:Shared}
def LZ{vs ws:Ag}{Q:Ae}(ht:IsTup s.heap t vs.toArray)(hb:IsTup s.heap b ws.toArray)(hv:vs≠[])
  (h1:ws=[]->Q ↑t s)(h2:ws≠[]->Q (.ref (~~~s)) {s with heap:=s.heap.push {cls:=.type "tuple",data:=.seq (vs++ws).toArray} })
  (hsz:vs.length+ws.length<=sizeLine):wpAny (model prog w) A (binaryOp .Add ↑t<|.ref b) Q E s:=by
 let⟨⟨cls,dd,data,sl⟩,ho,hc,n,hd⟩:=id ht;let⟨⟨rh,wX,data2,wW⟩,RG,UP,n2,hd2⟩:=id hb;simp only at hc hd UP hd2;subst hc hd UP hd2;let e:vs.toArray++ws.toArray=(vs++ws).toArray:=B
 cases hw:ws=[]
 .show concat_meets ⟨_,ho,Z⟩ ⟨_,RG,Z⟩ tE seq_tuple_add uj uq (uz _ _)
   (tuple_addW1 t b vs.toArray ws.toArray n n2 dd wX sl wW (by simpa using hv)<|by simp[hw]) ⟨ho,RG,h1 hw⟩
 .show concat_meets ⟨_,ho,Z⟩ ⟨_,RG,Z⟩ tE seq_tuple_add uj uq (uz _ _)
   (tuple_addW2 t b vs.toArray ws.toArray n n2 dd wX sl wW (by simpa using hv) (by simpa using hw)<|by rwa[Ya,Ya]) ⟨ho,RG,?_⟩
  rw[e];show h2 hw
def Vb(n d:Nat):(Option Int->Nat)
 |none=>d
 |some v=>if v<0 then (v+(n:Int)).toNat else min v.toNat n
def Sw(n d:Nat):Vb n d none=d:=rfl
end
end HT
namespace L2
open PySem PySem.Spec PyProof.Rows
abbrev TO:=St->Hp->(Option Int->Hp->Prop)->Prop
def PO(X:Cx)(e:Option Expr)(t:TO):(Prop):=
 ∀(pins:List (Addr×Obj))(s:Shared)(σ:St)(H:Hp)(Q:Option Int->Hp->Prop),Inv X pins σ H s->t σ H Q->
  wpAny (model X.prog X.w) X.A (evalPart e X.env) (λu s'=>∃o H',Inv X pins σ H' s'/\IsPart u o/\Q o H') X.xe s
def rf:(TO):=λ_ H Q=>Q none H
inductive xPart(x:V)(H1:Hp)(Q:Option Int->Hp->Prop):Prop
 |mk (i:Int) (_:x=.int i) (_:Q (some i) H1)
def rd(t:TE):(TO):=λσ H Q=>t σ H λx H1=>xPart x H1 Q
section
variable{X:Cx}{e:Expr}{te:TE}{lo hi:Option Expr}{tl th:TO}{pos p2:Pos}
def Km:PO X none rf:=by intro pins s σ H Q I h;rw[evalPart_none];show Yj ⟨none,H,I,.none,h⟩
def Ni(h:PE X e te):PO X (some e) (rd te):=by intro pins s σ H Q I hw;rw[evalPart_some];show thn (h pins s σ H _ I hw) λu s1 Xv=>?_;let⟨x,H1,I1,r1,q1⟩:=Xv;let⟨i,rfl,q⟩:=q1;let⟨t,rfl⟩:=r1;exists some i,H1,I1,.int i t,q
def q9(X:Cx)(r:V->Option Int->Option Int->Hp->VK->Prop):(Prop):=
 ∀(pins:List (Addr×Obj))(s:Shared)(σ:St)(H:Hp)(x:V)(v vl vu:Value)(lo hi:Option Int)(sl:Addr)(Q:VK),Inv X pins σ H s->RelV x v->s.heap.IsSliceOf sl vl vu .none->IsPart vl lo->IsPart vu hi->r x lo hi H Q->
  ∃T id,typeLookup (.type T) "__getitem__"=pure (some<|.builtin id)/\s.TypeIs v T/\wpAny (model X.prog X.w) X.A (getItem v<|.ref sl) (EP X pins σ Q) X.xe s
def tSl(r:V->Option Int->Option Int->Hp->VK->Prop)(te:TE)(tl th:TO):(TE):=λσ H Q=>te σ H λx H1=>tl σ H1 λl H2=>th σ H2 λu H3=>r x l u H3 Q
def LY{r:V->Option Int->Option Int->Hp->VK->Prop}(hr:q9 X r)(he:PE X e te)(hl:PO X lo tl)(hu:PO X hi th):PE X (.Subscript e (.Slice lo hi none p2) pos) (tSl r te tl th):=by
 intro pins s σ H Q I h;show Subscript_ (thn (he pins s σ H _ I h) λv s1 Xv=>?_);let⟨x,H1,I1,r1,q1⟩:=Xv;show wpAny_Slice (thn (hl pins s1 σ H1 _ I1 q1) λvl s2 zz=>?_);let⟨l,H2,I2,pl,q2⟩:=zz;show thn (hu pins s2 σ H2 _ I2 q2) λvu s3 Xv=>?_;let⟨u,H3,I3,pu,q3⟩:=Xv;rw[evalPart_none];show Yj ?_;let I4:Inv X pins σ H3 {s3 with heap:=s3.heap.push {cls:=.type "slice",data:=.fields #[vl,vu,.none]} }:=I3.kept (t':=s3.toks) λb ob q=>Xd _ q
 let⟨T,id,hT,ht,hg⟩:=hr pins {s3 with heap:=s3.heap.push {cls:=.type "slice",data:=.fields #[vl,vu,.none]} } σ H3 x v vl vu l u (~~~s3) Q I4 r1 (Heap.IsSliceOf.new ..) pl pu q3;change wpAny (model X.prog X.w) X.A (subscriptTail e (.Slice lo hi none p2) v<|.ref (~~~s3)) (EP X pins σ Q) X.xe {s3 with heap:=s3.heap.push {cls:=.type "slice",data:=.fields #[vl,vu,.none]} }
 show tail_any (ops:=[.ref (~~~s3),v]) ht hT hg (by with_unfolding_all rfl)
def WK(xs:List V)(lo hi:Option Int):(List V):=(xs.drop<|HT.Vb xs.length 0 lo).take (HT.Vb xs.length xs.length hi-HT.Vb xs.length 0 lo)
def wV(xs:List V)(lo hi:Option Int):(WK xs lo hi).length<=xs.length:=by unfold WK;rw[Yl,YW];lia
def Dp(K:Ad):(R2):=λx y H Q=>∃a b xs ys,x=.ref a/\y=.ref b/\SqT K H a xs/\SqT K H b ys/\xs≠[]/\xs.length+ys.length<=sizeLine/\
 (ys=[]->Q ↑a H)/\(ys≠[]->∀p,H p=none->Q ↑p (upd H p<|.tup<|xs++ys))
def Vals.nil_iff(r:Vals xs us):us=[]↔xs=[]:=by
 cases r with
 |nil=>simp
 |cons _ _=>simp
def Dn:Wz X (binaryOp .Add) (Dp X.K):=by intro pins s σ H x y v u Q I rx ry h;let⟨a,b,xs,ys,rfl,rfl,ha,hb,hx,hz,q1,q2⟩:=h;cases rx;cases ry;let⟨XX,r1,p1,_⟩:=I.tuple ha;let⟨Vt,r2,p2,_⟩:=I.tuple hb;show HT.LZ p1 p2 (λz=>hx<|r1.nil_iff.mp z) (λz=>⟨.ref a,H,I,Z,q1<|r2.nil_iff.mp z⟩) (λz=>?_) (by rwa[<-r1.length,<-r2.length]);exists .ref (~~~s),_,I.laid (t':=s.toks) (o:=.tup<|xs++ys) (λb ob q=>Xd _ q) (XN _) ?_,Z,q2 (λw=>z<|r2.nil_iff.mpr w) _<|I.hok.fresh<|XN _;exists by rw[Xw];show hz,_,r1.append r2,IsTup.new _ _
end
def OU(n:Nat)(i:Int):(Option Nat):=if 0<=i then (if i<n then some i.toNat else none) else if -(n:Int)<=i then some (i+n).toNat else none
def Wh{α:Type}(xs:List α)(i:Int):(Option α):=(OU xs.length i).bind λj=>xs[j]?
def dw{j:Nat}(h:OU n i=some j):seqIndex? i n=some j/\j<n/\-(n:Int)<=i/\i<n:=by
 unfold OU at h;cases h0:0<=i
 .rw[if_pos h0]at h;cases h1:i<n
  .rw[if_pos h1]at h;let e:i.toNat=j:=Yi h
   exists by rw[seqIndex_of h0 h1,e],J,J,h1
  .rw[if_neg h1]at h;cases h
 .rw[if_neg h0]at h;cases h1:-(n:Int)<=i
  .rw[if_pos h1]at h;let e:(i+n).toNat=j:=Yi h
   exists by rw[seqIndex_neg J h1,e],J,h1,J
  .rw[if_neg h1]at h;cases h
def Dm{α:Type}{xs:List α}{i:Int}{v:α}(h:Wh xs i=some v):∃j,seqIndex? i xs.length=some j/\xs[j]?=some v/\j<xs.length/\-xs⁻¹<=i/\i<xs.length:=by
 unfold Wh at h;cases e:OU xs.length i with
 |none=>rw[e]at h;cases h
 |some j=>
  rw[e]at h;let⟨h1,h2,h3,h4⟩:=dw e;exists j,h1,h,h2,h3,h4
def Dl(b:Expr):(Prop):=∀o i,subscripted b false o i=operate [o,i] (getItem o i)
def Dk(X:Cx)(r:R2):(Prop):=
 ∀(value slice:Expr)(pins:List (Addr×Obj))(s:Shared)(σ:St)(H:Hp)(x y:V)(v u:Value)(Q:VK),Inv X pins σ H s->RelV x v->RelV y u->r x y H Q->
  subscripted slice false v u=operate [v,u] (getItem v u)->wpAny (model X.prog X.w) X.A (subscriptTail value slice v u) (EP X pins σ Q) X.xe s
def wU(X:Cx)(id:String)(r:V->List V->Hp->VK->Prop):(Prop):=
 ∀(pins:List (Addr×Obj))(s:Shared)(σ:St)(H:Hp)(x:V)(xs:List V)(v:Value)(us:Ag)(Q:VK),Inv X pins σ H s->RelV x v->Vals xs us->r x xs H Q->
  wpAny (model X.prog X.w) X.A (call (.builtin id)<|v::us) (EP X pins σ Q) X.xe s
section
variable{X:Cx}{a b:Expr}{ta tb:TE}{pos:Pos}
def ZK(hr:Dk X r)(ha:PE X a ta)(hb:PE X b tb)(hs:Dl b):PE X (.Subscript a b pos) (w4 r ta tb):=by intro pins s σ H Q I h;show Subscript_ (Iv ha hb I h λv u s2 x y H2 I2 rx ry q=>hr a b pins s2 σ H2 x y v u Q I2 rx ry q<|hs _ _)
inductive rIxL(K:Ad)(x:V)(y:V)(H:Hp)(Q:VK):Prop
 |mk (p xs i v:_) (_:x=.ref p) (_:y=.int i) (_:SqL K H p xs) (_:Wh xs i=some v) (_:Q v H)
inductive rIxT(K:Ad)(x:V)(y:V)(H:Hp)(Q:VK):Prop
 |mk (p xs i v:_) (_:x=.ref p) (_:y=.int i) (_:SqT K H p xs) (_:Wh xs i=some v) (_:Q v H)
def q8:Dk X (rIxL X.K):=by
 intro value slice pins s σ H x y v u Q I rx ry h hs;let⟨p,xs,i,z,rfl,rfl,hq,he,q⟩:=h;cases rx;let⟨t,rfl⟩:=ry;let⟨XX,r,pl,hz⟩:=I.list hq;let⟨j,h1,h2,h3,h4,h5⟩:=Dm he;let⟨w,ew,Ih⟩:=r.get h2;let hl:=r.length
 let hn:=Dy;let fin:EP X pins σ Q w s:=⟨z,H,I,Ih,q⟩
 cases h0:0<=i
 .let hj:i.toNat=j:=by rw[seqIndex_of h0 h5]at h1;show Yi h1
  show item_listR pl.isList h0 J (by rw[hj];simpa using ew) fin hs
 .let hj:(i+(XX.toArray.size:Int)).toNat=j:=by rw[seqIndex_neg J h4]at h1;rw[Ya,<-hl];show Yi h1
  show subscriptTail_builtinR (x:=w) pl.isList.typeIs slot_list_getitem.lookup
   (wpAny_getItem_list_neg (Q:=λr s'=>r=w/\EP X pins σ Q r s') pl.isList DW (by rw[Ya]<;>lia) J (by rw[hj];simpa using ew) ⟨rfl,fin⟩) hs
def Dj:Dk X (rIxT X.K):=by
 intro value slice pins s σ H x y v u Q I rx ry h hs;let⟨p,xs,i,z,rfl,rfl,hq,he,q⟩:=h;cases rx;let⟨t,rfl⟩:=ry;let⟨XX,r,pl,hz⟩:=I.tuple hq;let⟨j,h1,h2,h3,h4,h5⟩:=Dm he;let⟨w,ew,Ih⟩:=r.get h2;let hl:=r.length
 let hn:=Dy;let fin:EP X pins σ Q w s:=⟨z,H,I,Ih,q⟩
 show subscriptTail_builtinR (x:=w) pl.typeIs slot_tuple_getitem.lookup
  (getItem_tuple (j:=j) (Q:=λr s'=>r=w/\EP X pins σ Q r s') pl J J (by rwa[Ya,<-hl]) (by simpa using ew) ⟨Z,fin⟩) hs
def Zd7(XX:Ag)(n j:Nat)(u:Value):Obj.mapSeq (·.setIfInBounds j u) {cls:=.type "list",data:=.seq XX.toArray n}={cls:=.type "list",data:=.seq (XX.set j u).toArray n}:=by simp[Obj.mapSeq]
def Inv.lst{pins:List (Addr×Obj)}{σ:St}{H:Hp}{s:Shared}{p:Addr}{xs:List V}(I:Inv X pins σ H s)(h:H p=some (.lst xs)):
  ∃(XX:Ag)(n:Nat),Vals xs XX/\s.heap.get? p=some {cls:=.type "list",data:=.seq XX.toArray n}/\xs.length<=sizeLine:=by let⟨z,XX,n,r,e⟩:=I.hok p _ h;exists XX,n,r,e,z
def Inv.lstUpd{p:Addr}{xs ys:List V}{XX its':Ag}{f:Obj->Obj}(I:Inv X pins σ H s)(h:H p=some (.lst xs))
  (ho:s.heap.get? p=some {cls:=.type "list",data:=.seq XX.toArray n})(hf:f {cls:=.type "list",data:=.seq XX.toArray n}={cls:=.type "list",data:=.seq its'.toArray n'})(r:Vals ys its')(hz:ys.length<=sizeLine)(t:Nat):
  Inv X pins σ (upd H p<|.lst ys) {s with heap:=s.heap.update p f,toks:=t}:=by
 let e:(s.heap.update p f).get? p=some {cls:=.type "list",data:=.seq its'.toArray n'}:=by rw[Pw f ho (by rw[hf]<;>rfl),hf]
 show I.write (x:=p) (e:=p) (by rw[h];trivial) (.inl Z) (λb u hb q=>(YX _ _<|Xc hb).trans q) ⟨_,e⟩ ?_;exists hz,its',n',r,e
inductive rSetL(o:V)(i:V)(v:V)(H:Hp)(Q:Hp->Prop):Prop
 |mk (p xs k j:_) (_:o=.ref p) (_:i=.int k) (_:H p=some (.lst xs)) (_:OU xs.length k=some j) (_:Q (upd H p<|.lst<|xs.set j v))
def Di:Iz X rSetL:=by
 intro pins s σ H o i v ov iv u Q I ro ri rv h;let⟨p,xs,k,j,rfl,rfl,hp,hj,q⟩:=h;cases ro;let⟨t,rfl⟩:=ri;let⟨XX,n,r,ho,hz⟩:=I.lst hp;let⟨h1,h2,h3,h4⟩:=dw hj;let hl:=r.length
 let hn:=Dy;let I':Inv X pins σ (upd H p<|.lst<|xs.set j v) {s with heap:=s.heap.update p (Obj.mapSeq (·.setIfInBounds j u))}:=
  I.lstUpd hp ho (Zd7 XX n j u) (r.set rv j) (by rwa[Mz]) s.toks
 cases h0:0<=k
 .let hk:k.toNat=j:=by rw[seqIndex_of h0 h4]at h1;show Yi h1
  show PySem.W.ki_setAt ho h0 J (by rwa[Ya,<-hl]) (by rw[hk];exists _,I',q)
 .let hk:(k+(XX.toArray.size:Int)).toNat=j:=by rw[seqIndex_neg J h3]at h1;rw[Ya,<-hl];show Yi h1
  show PySem.W.ki_setBack ho DW (by rwa[Ya,<-hl]) J (by rw[hk];exists _,I',q)
def Zt4(lo hi:Option Int)(n:Nat):(sliceBounds lo hi none n).1=((HT.Vb n 0 lo:Nat):Int)/\(sliceBounds lo hi none n).2.1=((HT.Vb n n hi:Nat):Int)/\(sliceBounds lo hi none n).2.2=1:=by
 exists ?_,?_,Z
 .cases lo with
  |none=>simp[sliceBounds,HT.Vb]
  |some i=>
   simp only[sliceBounds,HT.Vb,Option.getD_none,show(1:Int)>0 by decide,US];cases h:i<0
   .simp only[h,US]<;>grind
   .simp only[h,Sd]<;>grind
 .cases hi with
  |none=>simp[sliceBounds,HT.Vb]
  |some i=>
   simp only[sliceBounds,HT.Vb,Option.getD_none,show(1:Int)>0 by decide,US];cases h:i<0
   .simp only[h,US]<;>omega
   .simp only[h,Sd]<;>omega
def ZS3(XX:Ag)(lo hi:Option Int):slicePick XX.toArray lo hi none=((XX.drop (HT.Vb XX.length 0 lo)).take (HT.Vb XX.length XX.length hi-HT.Vb XX.length 0 lo)).toArray:=by let⟨h1,h2,h3⟩:=Zt4 lo hi XX.toArray.size;unfold slicePick;rw[h1,h2,h3];simp only[sliceRange_one,pick_run,Ya]<;>rfl
inductive rSlL(K:Ad)(x:V)(lo:Option Int)(hi:Option Int)(H:Hp)(Q:VK):Prop
 |mk (a xs:_) (_:x=.ref a) (_:SqL K H a xs) (_:∀p,H p=none->Q ↑p (upd H p<|.lst<|WK xs lo hi))
def qZ:q9 X (rSlL X.K):=by
 intro pins s σ H x v vl vu lo hi sl Q I rx hs pl pu h;let⟨a,xs,rfl,hx,q⟩:=h;cases rx;let⟨XX,r,ht,hz⟩:=I.list hx;let hlen:=r.length
 exists "list",_,slot_list_getitem.lookup,ht.isList.typeIs,?_;show wpAny_getItem_list_slice ht.isList hs pl pu .none B ?_ (by rw[Ya]<;>lia)
 rw[ZS3,<-hlen];exists .ref (~~~s),_,I.laid (t':=s.toks) (o:=.lst<|WK xs lo hi) (λb ob q=>Xd _ q) (XN _) ?_,Z,q _<|I.hok.fresh<|XN _;exists Yr (wV xs lo hi) hz,_,0,(r.drop<|HT.Vb xs.length 0 lo).take (HT.Vb xs.length xs.length hi-HT.Vb xs.length 0 lo),Yq _ Z
def Sa:(V->Bool)
 | .non=>true
 | .bl _=>true
 | .int _=>true
 | .str _=>true
 |_=>false
def Sv:(V->V->Bool)
 | .non,.non=>true
 | .bl a,.bl b=>a == b
 | .bl a,.int b=>(if a then 1 else 0) == b
 | .int a,.bl b=>a == (if b then 1 else 0)
 | .int a,.int b=>a == b
 | .str a,.str b=>a == b
 |_,_=>false
def Dh(ry:RelV y u)(rx:RelV x v)(fy:Sa y=true)(fx:Sa x=true):SeqAt.EqAt A s u v (Sv y x):=by
 cases y with
 |non=>
  cases ry;cases x with
  |non=>cases rx;show SeqAt.EqAt.same _
  |bl b=>cases rx;show SeqAt.EqAt.none_bool b
  |int b=>let⟨t,rfl⟩:=rx;show SeqAt.EqAt.none_int b t
  |str b=>let⟨t,rfl⟩:=rx;show SeqAt.EqAt.none_str b t
  |_=>show absurd (show false=true from fx) YE
 |bl a=>
  cases ry;cases x with
  |non=>cases rx;show SeqAt.EqAt.bool_none a
  |bl b=>cases rx;show SeqAt.EqAt.bool_bool a b
  |int b=>let⟨t,rfl⟩:=rx;show SeqAt.EqAt.bool_int a b t
  |str b=>let⟨t,rfl⟩:=rx;show SeqAt.EqAt.bool_str a b t
  |_=>show absurd (show false=true from fx) YE
 |int a=>
  let⟨t',rfl⟩:=ry;cases x with
  |non=>cases rx;show SeqAt.EqAt.int_none a t'
  |bl b=>cases rx;show SeqAt.EqAt.int_bool a t' b
  |int b=>let⟨t,rfl⟩:=rx;show SeqAt.EqAt.int_int a t' b t
  |str b=>let⟨t,rfl⟩:=rx;show SeqAt.EqAt.int_str a t' b t
  |_=>show absurd (show false=true from fx) YE
 |str a=>
  let⟨t',rfl⟩:=ry;cases x with
  |non=>cases rx;show SeqAt.EqAt.str_none a t'
  |bl b=>cases rx;show SeqAt.EqAt.str_bool a t' b
  |int b=>let⟨t,rfl⟩:=rx;show SeqAt.EqAt.str_int a t' b t
  |str b=>let⟨t,rfl⟩:=rx;show SeqAt.EqAt.str_str a t' b t
  |_=>show absurd (show false=true from fx) YE
 |_=>show absurd (show false=true from fy) YE
def SO(x:V)(u:Value):(Bool):=match u with
 | .none=>Sv .non x
 | .bool b=>Sv (.bl b) x
 | .int i _=>Sv (.int i) x
 | .str z _=>Sv (.str z) x
 |_=>false
def Dg(r:RelV y u)(f:Sa y=true):SO x u=Sv y x:=by
 cases y with
 |non=>cases r;rfl
 |bl b=>cases r;rfl
 |int i=>let⟨t,rfl⟩:=r;rfl
 |str z=>let⟨t,rfl⟩:=r;rfl
 |_=>show absurd (show false=true from f) YE
def wR{xs:List V}{us:Ag}(h:Vals xs us)(f:xs.all Sa=true):us.any (SO x)=xs.any λy=>Sv y x:=by
 induction h with
 |nil=>rfl
 |cons r t ih=>
  rw[List.all_cons,Kw]at f;rw[IY,IY,Dg r f.1,ih f.2]
def Df(rx:RelV x v)(fx:Sa x=true){xs:List V}{us:Ag}(h:Vals xs us)(f:xs.all Sa=true):∀u∈us,SeqAt.EqAt A s u v (SO x u):=by
 induction h with
 |nil=>intro u hu;cases hu
 |cons r t ih=>
  intro u' hu;rw[List.all_cons,Kw]at f;rcases Yh.mp hu with rfl|hu
  .rw[Dg r f.1];show Dh r rx f.1 fx
  .show ih f.2 u' hu
def FE(x:V)(xs:List V):(Bool):=xs.any λy=>Sv y x
def dv(K:Ad)(neg:Bool):(R2):=λx y H Q=>∃p xs,y=.ref p/\(SqL K H p xs\/SqT K H p xs)/\Sa x=true/\xs.all Sa=true/\Q (.bl<|if neg then !FE x xs else FE x xs) H
def ZA8:Wz X (compareOp .In) (dv X.K false):=by
 intro pins s σ H x y v u Q I rx ry h;let⟨p,xs,rfl,hq,fx,fs,q⟩:=h;cases ry;rcases hq with hq|hq
 .let⟨XX,r,pl,hz⟩:=I.list hq;show SeqAt.in_listAt (SO x) pl.isList (λw hw=>Df rx fx r fs w<|by simpa using hw) ⟨.bl _,H,I,Z,?_⟩;rwa[show XX.toArray.any (SO x)=XX.any (SO x) by simp,wR r fs]
 .let⟨XX,r,pl,hz⟩:=I.tuple hq;show SeqAt.in_tupleAt (SO x) pl (λw hw=>Df rx fx r fs w<|by simpa using hw) ⟨.bl _,H,I,Z,?_⟩;rwa[show XX.toArray.any (SO x)=XX.any (SO x) by simp,wR r fs]
def Yz4:Wz X (compareOp .NotIn) (dv X.K true):=by
 intro pins s σ H x y v u Q I rx ry h;let⟨p,xs,rfl,hq,fx,fs,q⟩:=h;cases ry;rcases hq with hq|hq
 .let⟨XX,r,pl,hz⟩:=I.list hq;show SeqAt.notIn_listAt (SO x) pl.isList (λw hw=>Df rx fx r fs w<|by simpa using hw) ⟨.bl _,H,I,Z,?_⟩;rwa[show XX.toArray.any (SO x)=XX.any (SO x) by simp,wR r fs]
 .let⟨XX,r,pl,hz⟩:=I.tuple hq;show SeqAt.notIn_tupleAt (SO x) pl (λw hw=>Df rx fx r fs w<|by simpa using hw) ⟨.bl _,H,I,Z,?_⟩;rwa[show XX.toArray.any (SO x)=XX.any (SO x) by simp,wR r fs]
inductive yR0(K:Ad)(xs:List V)(H:Hp)(Q:VK):Prop
 |mk (p ys:_) (_:xs=[.ref p]) (_:(SqL K H p ys\/SqT K H p ys)) (_:Q (.int ys.length) H)
def ZO4:Tp X (.builtin "len") (yR0 X.K):=by
 intro pins s σ H xs us Q I r h;let⟨p,ys,rfl,hq,q⟩:=h;let⟨u,rfl,rx⟩:=Sy r;cases rx;let hn:=Dy
 rcases hq with hq|hq
 .let⟨XX,r',pl,hz⟩:=I.list hq;let hlen:=r'.length
  show Calls.call_len_list pl.isList (by simp only[Ya]<;>lia) ⟨.int ys.length,H,I.tok _,⟨s.toks+1,by rw[Ya,hlen]⟩,q⟩
 .let⟨XX,r',pl,hz⟩:=I.tuple hq;let hlen:=r'.length
  show len_tuple pl (by simp only[Ya]<;>omega) ⟨.int ys.length,H,I.tok _,⟨s.toks+1,by rw[Ya,hlen]⟩,q⟩
def ZN4:Tp X (.type "list") (λxs H Q=>∃p ys,xs=[.ref p]/\(SqL X.K H p ys\/SqT X.K H p ys)/\∀l,H l=none->Q ↑l (upd H l (.lst ys))):=by
 intro pins s σ H xs us Q I r h;let⟨p,ys,rfl,hq,q⟩:=h;let⟨u,rfl,rx⟩:=Sy r;cases rx;let fin:∀(XX:Ag),Vals ys XX->ys.length<=sizeLine->∀(h':Heap)(c':Nat),(∀b o',s.heap.get? b=some o'->h'.get? b=some o')->
   h'.get? (~~~s)=some {cls:=.type "list",dict:=none,data:=.seq XX.toArray c',slots:=#[]}->EP X pins σ Q (.ref (~~~s)) {s with heap:=h'}:=λXX r' hz h' c' kp e=>
  ⟨.ref (~~~s),_,I.laid (t':=s.toks) kp (XN _)<|show ObjOk X.prog X.w _ h' _ (.lst ys) from⟨hz,XX,c',r',e⟩,Z,q _<|I.hok.fresh<|XN _⟩
 rcases hq with hq|hq
 .let⟨XX,r',pl,hz⟩:=I.list hq;let hlen:=r'.length
  let⟨o,ho,hc,n,hd⟩:=pl.isList;show call_list_seq p (.inl rfl) ho hc hd (λh' c' kp e=>fin XX r' hz h' c' kp e) (by simp only[Ya]<;>omega)
 .let⟨XX,r',pl,hz⟩:=I.tuple hq;let hlen:=r'.length
  let⟨o,ho,hc,n,hd⟩:=pl;show call_list_seq p (.inr rfl) ho hc hd (λh' c' kp e=>fin XX r' hz h' c' kp e) (by simp only[Ya]<;>omega)
def Zh4:Tp X (.type "tuple") (λxs H Q=>∃p ys,xs=[.ref p]/\((SqL X.K H p ys/\∀l,H l=none->Q ↑l (upd H l (.tup ys)))\/(SqT X.K H p ys/\Q ↑p H))):=by
 intro pins s σ H xs us Q I r h;let⟨p,ys,rfl,h⟩:=h;let⟨u,rfl,rx⟩:=Sy r;cases rx;rcases h with ⟨hq,q⟩|⟨hq,q⟩
 .let⟨XX,r',pl,hz⟩:=I.list hq;let hlen:=r'.length
  show call_tuple_list pl.isList (λh' kp=>?_) (by simp only[Ya]<;>omega)
  let I1:Inv X pins σ H {s with heap:=h'}:=I.kept (t':=s.toks) kp;let I2:Inv X pins σ (upd H h'.objs.size<|.tup ys) {s with heap:=h'.push {cls:=.type "tuple",data:=.seq XX.toArray} }:=
   I1.laid (t':=s.toks) (λb o e=>Xd _ e) (XN _) (show ObjOk X.prog X.w _ _ _ (.tup ys) from⟨hz,XX,r',IsTup.new _ _⟩)
  exists .ref h'.objs.size,_,I2,Z,q _<|I1.hok.fresh<|XN _
 .let⟨XX,r',pl,hz⟩:=I.tuple hq;show call_tuple_same pl ⟨.ref p,H,I,Z,q⟩
def qY(K:Ad)(T:String)(x:V)(H:Hp):(Prop):=match x with
 | .str _=>T="str"
 | .int _=>T="int"
 | .ref p=>(T="list"/\∃xs,SqL K H p xs)\/(T="tuple"/\∃o,K.lookup p=some o/\o.cls=.type "tuple"/\o.dict=none)\/
   (T="dict"/\((∃kvs,H p=some (.dK kvs))\/∃kvs,H p=some (.dT kvs)))\/(T="set"/\∃S n,H p=some (.set S n))
 |_=>False
def De(I:Inv X pins σ H s)(r:RelV x v)(ty:qY X.K T x H):
  s.TypeIs v T/\∀a,v=.ref a->∃ob,s.heap.get? a=some ob/\ob.dict=none:=by
 cases x with
 |str z=>
  let⟨t,rfl⟩:=r;cases (show T="str" from ty);exists typeIs_str s z t,λ_ e=>nomatch e
 |int i=>
  let⟨t,rfl⟩:=r;cases (show T="int" from ty);exists typeIs_int s i t,λ_ e=>nomatch e
 |ref p=>
  cases r;rcases ty with ⟨rfl,xs,hq⟩|⟨rfl,o,hk,hc,hd⟩|⟨rfl,hk⟩|⟨rfl,S,n,hk⟩
  .let⟨XX,_,pl,_⟩:=I.list hq;exists pl.isList.typeIs,λa e=>?_;cases e;let⟨o,n,e,c,hd,_⟩:=pl;exists o,e,hd
  .exists ⟨o,I.kIn p o hk,hc⟩,λa e=>?_;cases e;exists o,I.kIn _ o hk,hd
  .let z:∃o,s.heap.get? p=some o/\o.ExactDict:=by
    rcases hk with ⟨kvs,hk⟩|⟨kvs,hk⟩
    .let⟨_,_,_,_,o,_,_,e,ex,_⟩:=I.hok p _ hk;exists o,e,ex
    .let⟨_,_,_,_,o,_,_,e,ex,_⟩:=I.hok p _ hk;exists o,e,ex
   let⟨o,e,ex⟩:=z;exists ⟨o,e,ex.1⟩,λa e2=>?_;cases e2;exists o,e,ex.2.1
  .let⟨o,_,_,_,e,ex,_⟩:=I.hok p _ hk;exists ⟨o,e,ex.1⟩,λa e2=>?_;cases e2;exists o,e,ex.2.1
 |_=>show False.elim ty
def Dc(K:Ad)(T:String)(r:V->List V->Hp->VK->Prop)(to:TE):(TE):=λσ H Q=>to σ H λx H1=>qY K T x H1/\r x [] H1 Q
def du(K:Ad)(T:String)(r:V->List V->Hp->VK->Prop)(to:TE)(t:TA):(TE):=λσ H Q=>to σ H λx H1=>qY K T x H1/\t σ H1 λxs H2=>r x xs H2 Q
variable{o e:Expr}{es:List Expr}{to:TE}{t:TA}{name:Str}{apos Xj:Pos}{T id:String}{r:V->List V->Hp->VK->Prop}
def qX(pa:PlainAttrs T)(slot:Slot T name id)(Ig:typeOf (.builtin id)=pure (.type "method_descriptor"))(hm:wU X id r)(ho:PE X o to)
  (UO:attributeBase o name X.env (eval o X.env)=eval o X.env:=by rfl)(UN:(apos.endLine == Xj.line)=true:=by rfl):PE X (.Call (.Attribute o name apos) [] [] Xj) (Dc X.K T r to):=by intro pins s σ H Q I h;show wpAny_Call_method0_late UO UN (thn (ho pins s σ H _ I h) λv s1 Xv=>?_);let⟨x,H1,I1,r1,ty,q1⟩:=Xv;let⟨h1,h2⟩:=De I1 r1 ty;exists T,id,pa,slot,Ig,h1,h2,Calls.callWith_builtin Z<|PySem.evalArgs_none<|hm pins s1 σ H1 x [] v [] Q I1 r1 .nil q1
def qW(pa:PlainAttrs T)(slot:Slot T name id)(Ig:typeOf (.builtin id)=pure (.type "method_descriptor"))(hm:wU X id r)(ho:PE X o to)(ha:PA X (e::es) t)
  (UO:attributeBase o name X.env (eval o X.env)=eval o X.env:=by rfl)
  (Ie:((backTo Xj<|starEach (e::es) X.env).all (λx=>!x.1)&&(backToKw Xj<|keywordEach [] X.env).all (λx=>x.1.isSome)
   && decide ((e::es).length+([]:List Keyword).length+(if ([]:List Keyword).isEmpty then 0 else 1)<30))=true:=by rfl)
  (UN:(apos.endLine == Xj.line)=true:=by rfl)(hs:starEach (e::es) X.env=(false,eval e X.env)::starEach es X.env:=by rfl)(UM:(backTo Xj<|starEach es X.env).any (·.1)=false:=by rfl):
  PE X (.Call (.Attribute o name apos) (e::es) [] Xj) (du X.K T r to t):=by
 intro pins s σ H Q I h;show wpAny_Call_method_late UO Ie UN Z (thn (ho pins s σ H _ I h) λv s1 Xv=>?_);let⟨x,H1,I1,r1,ty,q1⟩:=Xv;let⟨h1,h2⟩:=De I1 r1 ty;exists T,id,pa,slot,Ig,h1,h2,?_;let hA:=ha Xj pins s1 σ H1 _ I1 q1
 rw[hs]at hA ⊢;show Calls.callWith_builtin (by change(false||(backTo Xj<|starEach es X.env).any (·.1))=false;rw[UM]<;>rfl) (Calls.evalArgs_plain ?_)
 show thn hA λus s2 zz=>by let⟨vs,H2,I2,r2,q2⟩:=zz;show hm pins s2 σ H2 x vs v us Q I2 r1 r2 q2
end
def FC(X:Cx)(id:String)(r:V->List V->Hp->VK->Prop):(Prop):=
 ∀(pins:List (Addr×Obj))(s:Shared)(σ:St)(H:Hp)(x:V)(xs:List V)(v:Value)(us:Ag)(Q:VK),Inv X pins σ H s->RelV x v->Vals xs us->r x xs H Q->
  wpAny (model X.prog X.w) X.A (call (.builtin id)<|v::us) (EP X pins σ Q) X.xe s
def Vals.one{x:V}{us:Ag}(r:Vals [x] us):∃u,us=[u]/\RelV x u:=by
 cases r with
 |cons a r=>cases r;exists _,Z,a
def Vals.eraseIdx{xs:List V}{us:Ag}(i:Nat)(h:Vals xs us):Vals (xs.eraseIdx i) (us.eraseIdx i):=by
 induction h generalizing i with
 |nil=>show .nil
 |cons r t ih=>
  cases i with
  |zero=>show t
  |succ i=>show .cons r (ih i)
def Vals.rep(h:Vals xs us):∀k:Nat,Vals (List.replicate k xs).flatten (List.replicate k us).flatten
 |0=>.nil
 |k+1=>by rw[Jg,Jg,MB,MB];show Vals.append h (Vals.rep h k)
def dt{α:Type}:∀(l:List α)(i:Nat),(l.eraseIdx i).length<=l.length
 |[],_=>XN _
 |_::_,0=>Ud _
 |_::r,i+1=>Nat.succ_le_succ (dt r i)
def dq(XX:Ag):∀(k:Nat)(acc:Ag),
  List.foldl (λx1 x2=>x1++x2) acc.toArray (List.replicate k XX.toArray)=(acc++(List.replicate k XX).flatten).toArray
 |0,acc=>B
 |k+1,acc=>by
  let e:acc.toArray++XX.toArray=(acc++XX).toArray:=B;let e2:(acc++XX)++(List.replicate k XX).flatten=acc++(List.replicate (k+1) XX).flatten:=by rw[Jg,MB,Yw]
  rw[<-e2,<-dq XX k (acc++XX),<-e,Jg,Ep]
section
variable{X:Cx}{pins:List (Addr×Obj)}{σ:St}{H:Hp}{s:Shared}{l:Addr}{xs ys:List V}
def Inv.lset{XX its':Ag}{f:Array Value->Array Value}{t':Nat}(I:Inv X pins σ H s)(hH:H l=some (.lst xs))
  (e:s.heap.get? l=some {cls:=.type "list",data:=.seq XX.toArray n})(hf:f XX.toArray=its'.toArray)(hv:Vals ys its')(hz:ys.length<=sizeLine):
  Inv X pins σ (upd H l<|.lst ys) {s with heap:=s.heap.update l<|Obj.mapSeq f,toks:=t'}:=by let q:=PySem.IsL.update e f;rw[hf]at q;show I.write (x:=l) (e:=l) (by rw[hH];show trivial) (.inl Z) (λb' u hb hu=>(YX s.heap (Obj.mapSeq f)<|Xc hb).trans hu) ⟨_,q⟩ ?_;exists hz,its',_,hv,q
def Inv.lnew{t':Nat}(I:Inv X pins σ H s)(hv:Vals ys XX)(hz:ys.length<=sizeLine):
  Inv X pins σ (upd H (~~~s)<|.lst ys) {s with heap:=s.heap.push {cls:=.type "list",data:=.seq XX.toArray},toks:=t'}:=
 I.laid (λ_ _ q=>Xd _ q) (XN _) ⟨hz,XX,0,hv,Yq _ Z⟩
def Inv.fresh(I:Inv X pins σ H s):H (~~~s)=none:=I.hok.fresh (XN _)
def Inv.lstM(I:Inv X pins σ H s)(hH:H l=some (.lst xs)):xs.length<=sizeLine/\∃(XX:Ag)(n:Nat),Vals xs XX/\xs.length=XX.length/\s.heap.get? l=some {cls:=.type "list",data:=.seq XX.toArray n}:=by let⟨z,XX,n,r,e⟩:=I.hok l _ hH;exists z,XX,n,r,r.length,e
def CZ(h:n<=sizeLine):Builtin.List.listTooLong n=false:=by unfold Builtin.List.listTooLong;show Rm J
end
section
variable{X:Cx}
inductive rAppend(x:V)(vs:List V)(H:Hp)(Q:VK):Prop
 |mk (l xs y:_) (_:x=.ref l) (_:vs=[y]) (_:H l=some (.lst xs)) (_:xs.length<sizeLine) (_:Q .non (upd H l<|.lst<|xs++[y]))
def FA:FC X "list.append" rAppend:=by intro pins s σ H x vs v us Q I rx rv h;let⟨l,xs,y,rfl,rfl,hH,hz,q⟩:=h;cases rx;let⟨u,rfl,ru⟩:=rv.one;let⟨z,XX,n,r,hl,e⟩:=I.lstM hH;show FH F.slot_list_append ⟨_,e,Z⟩ F.entry_list_append (F.args_list_append_2 _ _) (PySem.list_append l XX.toArray n u<|by rw[Ya];lia) ⟨e,?_⟩;exists .non,_,I.lset (its':=XX++[u]) hH e B (r.append<|.cons ru .nil) ?_,Z,q;rw[Xw,Yt];lia
def qV:(V->List V->Hp->VK->Prop):=λx vs H Q=>∃l b xs zs,x=.ref l/\vs=[.ref b]/\H l=some (.lst xs)/\H b=some (.lst zs)/\xs.length+zs.length<=sizeLine/\Q .non (upd H l<|.lst<|xs++zs)
def dk:FC X "list.extend" qV:=by
 intro pins s σ H x vs v us Q I rx rv h;let⟨l,b,xs,zs,rfl,rfl,hH,hB,hz,q⟩:=h;cases rx;let⟨u,rfl,ru⟩:=rv.one;cases ru;let⟨z,XX,n,r,hl,e⟩:=I.lstM hH;let⟨z2,Vt,n2,r2,Vj,e2⟩:=I.lstM hB;let hsz:XX.toArray.size+Vt.toArray.size<=sizeLine:=by rw[Ya,Ya];grind
 let OT:¬(!XX.toArray.isEmpty&&Builtin.List.listTooLong (XX.toArray.size+Vt.toArray.size))=true:=by rw[CZ hsz,Bool.and_false];show YE
 show FH F.slot_list_extend ⟨_,e,Z⟩ F.entry_list_extend (F.args_list_extend_2 _ _)
  (AutoSeq1.list_extend_list_list_0 l XX.toArray n b Vt.toArray n2 OT (by rw[Ya];grind) J) ⟨e,e2,?_⟩
 exists .non,_,I.lset (its':=XX++Vt) hH e B (r.append r2) ?_,Z,q;rw[Xw];lia
def qU:(V->List V->Hp->VK->Prop):=λx vs H Q=>∃l xs i k y,x=.ref l/\vs=[.int i]/\H l=some (.lst xs)/\-(2^63)<=i/\i<2^63/\seqIndex? i xs.length=some k/\xs[k]?=some y/\Q y (upd H l<|.lst<|xs.eraseIdx k)
def CY:FC X "list.pop" qU:=by
 intro pins s σ H x vs v us Q I rx rv h;let⟨l,xs,i,k,y,rfl,rfl,hH,h1,h2,hk,hy,q⟩:=h;cases rx;let⟨u,rfl,ru⟩:=rv.one;let⟨t,rfl⟩:=ru;let⟨z,XX,n,r,hl,e⟩:=I.lstM hH;let⟨w,hw,Ih⟩:=r.get hy;show FH F.slot_list_pop ⟨_,e,Z⟩ F.entry_list_pop (F.args_list_pop_2 _ _)
  (MeetsSeq.list_pop_at l XX.toArray n i t k w (fitsIndex_both h1 h2) (by rwa[Ya,<-hl]) (by rwa[<-YI])<|by rw[Ya];lia) ⟨e,?_⟩
 exists y,_,I.lset (its':=XX.eraseIdx k) hH e ?_ (r.eraseIdx k) ?_,Ih,q
 .change XX.toArray.eraseIdxIfInBounds k=(XX.eraseIdx k).toArray;rw[List.eraseIdxIfInBounds_toArray]
 .have:=dt xs k
  lia
inductive rCat(x:V)(y:V)(H:Hp)(Q:VK):Prop
 |mk (l b xs zs:_) (_:x=.ref l) (_:y=.ref b) (_:H l=some (.lst xs)) (_:H b=some (.lst zs)) (_:xs.length+zs.length<=sizeLine) (_:∀p,H p=none->Q ↑p (upd H p<|.lst<|xs++zs))
def OS:Wz X (binaryOp .Add) rCat:=by
 intro pins s σ H x y v u Q I rx ry h;let⟨l,b,xs,zs,rfl,rfl,hH,hB,hz,q⟩:=h;cases rx;cases ry;let⟨z,XX,n,r,hl,e⟩:=I.lstM hH;let⟨z2,Vt,n2,r2,Vj,e2⟩:=I.lstM hB;show PySem.P.add_list e e2 ?_ (by rw[Ya,Ya];omega);let ea:XX.toArray++Vt.toArray=(XX++Vt).toArray:=B
 rw[ea];exists .ref _,_,I.lnew (t':=s.toks) (r.append r2) (by rw[Xw];omega),Z,q _ I.fresh
def qT:(R2):=λx y H Q=>∃l k xs,x=.ref l/\y=.int k/\H l=some (.lst xs)/\-(2^63)<=k/\k<2^63/\xs.length*k.toNat<=sizeLine/\
 ∀p,H p=none->Q ↑p (upd H p<|.lst (List.replicate k.toNat xs).flatten)
def qS{α:Type}(xs:List α)(k:Nat):(List.replicate k xs).flatten.length=k*xs.length:=by
 induction k with
 |zero=>simp
 |succ k ih=>rw[Jg,MB,Xw,ih,Nat.succ_mul,Nat.add_comm]
def CW:Wz X (binaryOp .Mult) qT:=by
 intro pins s σ H x y v u Q I rx ry h;let⟨l,k,xs,rfl,rfl,hH,h1,h2,hz,q⟩:=h;cases rx;let⟨t,rfl⟩:=ry;let⟨z,XX,n,r,hl,e⟩:=I.lstM hH;let hlen:XX.toArray.size*k.toNat<=sizeLine:=by rwa[Ya,<-hl]
 let qR:¬XX.toArray.size*k.toNat>(2^63-1)/8:=by
  have:(sizeLine:Nat)<=(2^63-1)/8:=sZ
  grind
 let qQ:¬(!Builtin.List.listFitsIndex k)=true:=by rw[fitsIndex_both h1 h2];show YE
 let OT:¬Builtin.List.listTooLong (XX.toArray.size*k.toNat)=true:=by rw[CZ hlen];show YE
 let QC:List.foldl (λx1 x2=>x1++x2) #[] (List.replicate (if XX.toArray.isEmpty=true then 0 else k.toNat) XX.toArray)=(List.replicate k.toNat XX).flatten.toArray:=by
  let f0:∀m:Nat,List.foldl (λx1 x2=>x1++x2) #[] (List.replicate m XX.toArray)=(List.replicate m XX).flatten.toArray:=λm=>by
   have:=dq XX m []
   rwa[Pq]at this
  rw[f0];cases XX with
  |nil=>simp
  |cons a r'=>rw[if_neg B]
 show wpAny_binaryOp_repeat_ref (T:="list") (U:="int") sZ ⟨_,e,Z⟩ (λs'=>typeIs_int s' k t) noFill_list_mul F.fills_int_mul F.slot_int_rmul repeat_list F.slot_int_index.lookup
  (FH F.slot_int_rmul (typeIs_int s k t) F.entry_int_rmul (F.args_int_rmul_2 _ _) (int___rmul___int_list k t l XX.toArray n)
   ⟨e,Z,⟨_,e,Z⟩,FH F.slot_list_mul ⟨_,e,Z⟩ F.entry_list_mul (F.args_list_mul_2 _ _) (AutoListH.list___mul___list_int_3 l XX.toArray n k t qQ qR OT) ⟨e,?_⟩⟩)
 rw[QC];exists .ref _,_,I.lnew (t':=s.toks) (r.rep k.toNat) (by rwa[qS,xr]),Z,q _ I.fresh
end
section
variable{κ:Type}[DecidableEq κ]
def Wj(kvs:List (κ×V))(k:κ):(Option V):=(kvs.find? λkv=>decide<|kv.1=k).map (·.2)
def putK(kvs:List (κ×V))(k:κ)(v:V):(List (κ×V)):=
 if (kvs.any λkv=>decide<|kv.1=k)=true then kvs.map (λkv=>if kv.1=k then (kv.1,v) else kv) else kvs++[(k,v)]
def qP{p:κ×V}{r:List (κ×V)}(e:p.1=k):Wj (p::r) k=some p.2:=by simp[Wj,xC,e]
def qO{p:κ×V}(e:¬p.1=k):Wj (p::r) k=Wj r k:=by simp[Wj,xC,e]
def dj(k:κ):∀kvs:List (κ×V),(kvs.any λkv=>decide (kv.1=k))=(Wj kvs k).isSome
 |[]=>rfl
 |p::r=>by
  rw[IY];cases e:p.1=k
  .simp only[qP e,Yv e,Bool.true_or,Option.isSome_some]
  .rw[qO e,Rm e,Bool.false_or];show dj k r
def Zb6(kvs:List (κ×V))(k:κ)(v:V):(putK kvs k v).length<=kvs.length+1:=by
 unfold putK;split
 .rw[Yb];lia
 .rw[Xw,YF,Kv];lia
def qN{kvs:List (κ×V)}{k:κ}(v:V)(h:Wj kvs k=none):putK kvs k v=kvs++[(k,v)]:=by unfold putK;rw[dj,h];show if_neg sZ
def KV.val(r:KV kvs vs)(k:κ):RelO (Wj kvs k) (valueAt vs k):=by
 unfold KV at r
 induction r with
 |nil=>show True.intro
 |@cons p q ps qs h t ih=>
  let⟨h1,h2⟩:=h;cases e:p.1=k
  .let e':q.1=k:=h1.symm.trans e;let b:valueAt (q::qs) k=some q.2:=by simp[valueAt,xC,e']
   rwa[qP e,b]
  .let e':¬q.1=k:=λz=>e (h1.trans z);let b:valueAt (q::qs) k=valueAt qs k:=by simp[valueAt,xC,e']
   rwa[qO e,b]
def KV.any(r:KV kvs vs)(k:κ):(kvs.any λkv=>decide (kv.1=k))=vs.any λkv=>decide (kv.1=k):=by
 unfold KV at r
 induction r with
 |nil=>rfl
 |cons h t ih=>rw[IY,IY,ih,h.1]
def KV.repl(r:KV kvs vs)(k:κ)(ry:RelV y u):
  KV (kvs.map λkv=>if kv.1=k then (kv.1,y) else kv) (vs.map λkv=>if kv.1=k then (kv.1,u) else kv):=by
 unfold KV at r ⊢
 induction r with
 |nil=>show .nil
 |@cons p q ps qs h t ih=>
  rw[TB,TB];show .cons ?_ ih;let⟨h1,h2⟩:=h;cases e:p.1=k
  .rw[if_pos e,if_pos (h1.symm.trans e)];exists h1,ry
  .rw[if_neg e,if_neg λz=>e (h1.trans z)];exists h1,h2
def KV.put(r:KV kvs vs)(k:κ)(ry:RelV y u):KV (putK kvs k y) (stored vs k u):=by
 unfold putK stored;rw[r.any k];cases e:(vs.any λkv=>decide<|kv.1=k)=true
 .rw[if_pos e,if_pos e];show r.repl k ry
 .rw[if_neg e,if_neg e];show Paired.snoc r ⟨Z,ry⟩
def KV.length{kvs:List (κ×V)}{vs:List (κ×Value)}(r:KV kvs vs):kvs.length=vs.length:=Paired.length r
end
def qM(r:RelV (kV k) u):(QE P w).is k u=true:=by
 cases k with
 |inl i=>let⟨t,e⟩:=(show ∃t,u=Value.int i t from r);subst e;show Za6 P w i t
 |inr x=>let⟨t,e⟩:=(show ∃t,u=Value.str x t from r);subst e;show Zaf P w x t
section
variable{P:Program}{w:World}{H:Hp}{h:Heap}{a:Addr}
def qL(ok:HOk P w H h)(e:Rd H a u):ObjOk P w H h a u:=e.ok ok
def qK(ok:HOk P w H h)(e:Rd H a (.dK kvs)):kvs.length<=sizeLine/\(a == sysModules)=false/\∃vs,KV kvs vs/\h.DictOf (QE P w) a vs:=
 show ObjOk P w H h a (.dK kvs) from qL ok e
def OR(ok:HOk P w H h)(e:H a=some (.dK kvs)):kvs.length<=sizeLine/\(a == sysModules)=false/\∃vs,KV kvs vs/\h.DictOf (QE P w) a vs:=qK ok (.inl e)
end
section
variable{X:Cx}{pins:List (Addr×Obj)}{σ:St}{H:Hp}{s:Shared}{a:Addr}
def Inv.big(I:Inv X pins σ H s):sysModules<(~~~s):=by let h:mainGlobals<(~~~s):=(I.mod.glob.keeps I.bk).lt;show Nat.lt_trans sZ h
def qJ{t':Nat}(I:Inv X pins σ H s)(mu:DZ (H a))(hs:Heap.SameBut a s.heap h')(he:∃q,h'.get? a=some q)(new:ObjOk X.prog X.w (upd H a ob) h' a ob):
  Inv X pins σ (upd H a ob) {s with heap:=h',toks:=t'}:=
 I.write (x:=a) (e:=a) mu (.inl Z) (λb q hb z=>(hs.2 b hb).trans z) he new
def qI(z:kvs.length<=sizeLine)(hd:(a == sysModules)=false)(rel:KV kvs vs)(dd:h'.DictOf (QE P w) a vs):
  ObjOk P w H' h' a (.dK kvs):=⟨z,hd,vs,rel,dd⟩
end
def qH(h:Heap)(hb:sysModules<h.objs.size):ObjOk P w H (h.push {cls:=.type "dict",data:=.dict #[]}) h.objs.size (.dK []):=
 ⟨Ym _,EA.mpr<|Xc<|YB hb,[],.nil,Heap.DictOf.new h⟩
def qG:(TE):=λ_ H Q=>∀p,H p=none->Q ↑p (upd H p<|.dK [])
section
variable{X:Cx}{pos:Pos}
def qF:PE X (.Dict [] [] pos) qG:=λpins s σ H Q I h=>
 wpAny_Dict_empty ⟨.ref (~~~s),_,I.laid (a:=(~~~s)) (o:=.dK []) (t':=s.toks) (λ_ _ q=>Xd _ q) (XN _)<|qH s.heap I.big,Z,h _<|I.hok.fresh<|XN _⟩
end
structure M1(X:Cx)(o:Expr)(m:Str)(apos:Pos)(e:Expr)(Xj:Pos):Prop where
 base:attributeBase o m X.env (eval o X.env)=eval o X.env
 few:((backTo Xj<|starEach [e] X.env).all (λx=>!x.1)&&(backToKw Xj<|keywordEach [] X.env).all (λx=>x.1.isSome)
  && decide (([e]:List Expr).length+([]:List Keyword).length+(if ([]:List Keyword).isEmpty then 0 else 1)<30))=true
 line:(apos.endLine == Xj.line)=true
 trees:backTo Xj (starEach [e] X.env)=[(false,eval e X.env)]
structure M2(X:Cx)(o:Expr)(m:Str)(apos:Pos)(e f:Expr)(Xj:Pos):Prop where
 base:attributeBase o m X.env (eval o X.env)=eval o X.env
 few:((backTo Xj<|starEach [e,f] X.env).all (λx=>!x.1)&&(backToKw Xj<|keywordEach [] X.env).all (λx=>x.1.isSome)
  && decide (([e,f]:List Expr).length+([]:List Keyword).length+(if ([]:List Keyword).isEmpty then 0 else 1)<30))=true
 line:(apos.endLine == Xj.line)=true
 trees:backTo Xj (starEach [e,f] X.env)=[(false,eval e X.env),(false,eval f X.env)]
end L2
namespace Att
open PySem PySem.W PySem.Calls PyProof.Rows
def qE:∀(ns:Ac)(vs:Ag),WellAll P h vs (ns.map WData.int)->IntsAre vs ns:=by
 intro ns
 induction ns with
 |nil=>
  intro vs w;rw[List.map_nil]at w;cases w;show .nil
 |cons n ns ih=>
  intro vs w;rw[TB]at w;cases w with
  |cons a b=>
   cases a;show .cons _ _ (ih _ b)
def Zq8{l:OpenLaw}{n:Nat}(hn:l.most=some n) 
  (LX:l.row.toRowW.claim.pre args=true)(Kl:WellAll P h vals args):
  ∃a vs ns,vals=[Value.ref a]/\args=[WData.list (ns.map WData.int)]/\h.get? a=some {cls:=.type "list",data:=.seq vs.toArray}/\IntsAre vs ns/\ns.length<=n:=by
 let hsh:WShape.hasAll [] args [.list .int]=true:=(pre_splitW LX).1;let hc:l.pre.holds [] {args:=args}=true:=(pre_splitW LX).2
 let⟨d,r,rfl,h1,h2⟩:=hasAllW_cons hsh;let rfl:=hasAllW_nil h2;let⟨xs,rfl,h3⟩:=hasW_list h1;let⟨ns,rfl⟩:=items_int h3;let hlen:ns.length<=n:=by
  unfold OpenLaw.pre at hc;let h4:(WTm.not<|.lt (.lit<|.int (n:Int))<|.len<|.arg 0).holds [] {args:=[.list (ns.map .int)]}=true:=by let h4:=(holds_andW hc).1;rwa[hn]at h4
  let h5:=condW_of h4 (w_not<|w_lt w_lit<|w_len_list<|w_arg Z);rw[Yb]at h5;show xH λq=>?_;let q':(n:Int)<((ns.length:Nat):Int):=DW
  first
   | (rw[Yv q']at h5;show absurd h5 sZ)
   | (simp at h5;omega)
 cases Kl with
 |cons w1 w2=>
  cases w2;cases w1 with
  |list ho UL=>exists _,_,ns,Z,Z,ho,qE ns _ UL,hlen
def Zx8(l:OpenLaw)(args:List WData):l.row.toRowW.claim.post args (.bool true) args=true:=
 postW_of (r:=l.row.toRowW) (X:=(true == true))
  (show WShape.has [] (.bool true) .bool=true by first|rfl|decide|simp[WShape.has,WShape.arms,WShape.armsAll])
  (show(WTm.eq .res<|.lit<|.bool true).value [] {args:=args,res:=some<|.bool true,after:=args}=some (.bool<|true == true) from w_eq_bool (w_res Z) w_lit) rfl
def Su{l:OpenLaw}{n:Nat}{XP:Af->Heap->Prop}{YP:World->Heap->Prop} 
  (hn:l.most=some n)(qD:d.params.defaults=[])
  (call:∀(w:World)(s₀ s₁:Shared)(mg mb:Af)(fa:Addr)(o:Obj)(pm cd doc:Value)(a:Addr)(vs:Ag)(ns:Ac),
   Ground q loose [] XP w s₀ mg mb s₁.heap->YP w s₁.heap->
   s₁.heap.get? fa=some o->o.data=.func (docDef d.name d.params d.body d.scope pm cd doc)->s₁.heap.CodeRec cd d.name->mg d.name=some ↑fa->
   s₁.heap.get? a=some {cls:=.type "list",data:=.seq vs.toArray}->IntsAre vs ns->ns.length<=n->s₁.gens=#[]->
   codeAny (model l.prog w) callerA (.call ↑fa ⟨[.ref a],[]⟩) (λr s'=>r=.ok (.ret<|.bool true)/\OldK s₁.heap s'.heap/\s'.os=s₁.os/\AllBare s'.gens) s₁):
  WalkO q loose XP YP l.row.toRowW d [] (λf vs=>PySem.call f vs):=by intro w s₀ s₁ mg mb G Y fa o pm cd doc dV kV ho hd SQ hD CV hg args vals as LX hlay hrd Kl Kk;let rfl:dV=.none:=Dflts.none hD qD;let rfl:kV=.none:=Dflts.noKw hD;let⟨a,vs,ns,rfl,rfl,Ic,hints,hlen⟩:=Zq8 hn LX Kl;show enter_call (Mr (call w s₀ s₁ mg mb fa o pm cd doc a vs ns G Y ho (fd_plain hd) SQ CV Ic hints hlen hg) λr s' hq=>?_);let⟨rfl,h2,h3,h4⟩:=hq;exists .inl ⟨.bool true,.bool true,[],Z,λ_=>rfl,.bool true,Zx8 l _,λ_=>⟨List.Pairwise.nil,λ_ hm=>(nomatch hm)⟩⟩,h2,h3,h4
section
def ZQ15(h:Heap)(L d:Addr):(List (Addr×Obj)):=(List.range h.objs.size).filterMap λa=>if a=L\/a=d then none else (h.get? a).map λo=>(a,o)
end
end Att
namespace L2
open PySem PySem.Spec PyProof.Rows
def Zj8{vs:Ag}{ns:Ac}(h:IntsAre vs ns):Vals (ns.map V.int) vs:=by
 induction h with
 |nil=>show .nil
 |cons n t h ih=>show .cons ⟨t,Z⟩ ih
abbrev Rb{K:Ad}{h:Heap}(_:K.In h):Ad:=K
def di(s:Stmt)(j:Nat):(Stmt):=match s with
 | .ClassDef _ _ _ body _ _ _ _ _ _ _=>body.getD j (.Pass ⟨0,0,0,0⟩)
 |_=>.Pass ⟨0,0,0,0⟩
def Kj(s:Stmt):(Arguments):=match s with
 | .FunctionDef _ a _ _ _ _ _ _ _ _=>a
 |_=>{posonlyargs:=[],args:=[],vararg:=none,kwonlyargs:=[],kw_defaults:=[],kwarg:=none,defaults:=[]}
def ZY(s:Stmt):(List Stmt):=match s with
 | .FunctionDef _ _ b _ _ _ _ _ _ _=>b
 |_=>[]
def Xe(s:Stmt):(Scope):=match s with
 | .FunctionDef _ _ _ _ _ _ sc _ _ _=>sc
 |_=>{kind:=.function,names:=[],isGenerator:=false,isCoroutine:=false}
abbrev Xb:RH:=λ_ _ _ _ _ _=>False
abbrev E0:XK:=λ_ _ _=>False
def ZD:Ko Xb X E0:=λ_ _ _ _ _ _ _ h=>h.elim
structure Fun(K:Ad)(x qual:Str)(st:Stmt)(f:Addr)(fd:FuncData):Prop where
 ex:∃(oc:Value)(od:Option Addr)(kV doc pm:Value)(an:Option Addr)(XC ct:Value)(Ti:Array (Option Value)),
  fd=PySem.W.fnOf x qual (Kj st) (ZY st) (Xe st) .none kV doc pm an XC ct/\K.lookup f=some ⟨oc,od,.func fd,Ti⟩/\PySem.W.codeIn K XC qual=true
 kp:PySem.W.keepIn K ↑f=true
section
variable{P:Program}{w:World}{K:Ad}{mg:Af}{base:Heap}
def Fun.ok{x qual:Str}{st:Stmt}{f:Addr}{fd:FuncData}{N ps:List Str}{k:Nat}{sp:Sp}(F:Fun K x qual st f fd)(S:FnScope N ps (Xe st))(len:∀vs H Q E,sp vs H Q E->vs.length=ps.length)
  (hbody:∀(XC:Value)(A:Around)(outer:List Env)(s:Shared)(H:Hp)(vs:List V)(Q:VK)(E:XK),Room k (A.deeper<|envOfC qual (Xe st) (~~~s) f XC)->sp vs H Q E->
   ∃t,PSs (Wy Xb P w K mg base N qual (Xe st) f XC A outer s H E).nox (ZY st) t/\t {nx:=λ_ H'=>Q .non H',rt:=Q} (start N vs) H):FnOk P w K mg base Xb (k+1) f fd ps sp:=by let⟨oc,od,kV,doc,pm,an,XC,ct,Ti,rfl,lk,SQ⟩:=F.ex;show OV lk SQ S len λA outer s H vs Q E hr Rc=>?_;let⟨t,h,q⟩:=hbody XC A outer s H vs Q E hr Rc;exists t,h.nox,q
def Fun.binds{x qual:Str}{st:Stmt}{f:Addr}{fd:FuncData}{ps:List Str}(F:Fun K x qual st f fd)
  (h:∀(kV doc pm:Value)(an:Option Addr)(XC ct:Value)(us:Ag),us.length=ps.length->bindArgs (PySem.W.fnOf x qual (Kj st) (ZY st) (Xe st) .none kV doc pm an XC ct) ⟨us,[]⟩=pure (ps.zip us)):Binds K fd ps []:=by let⟨oc,od,kV,doc,pm,an,XC,ct,Ti,rfl,lk,SQ⟩:=F.ex;show .all (h kV doc pm an XC ct)
def LW{x qual:Str}{st:Stmt}{f:Addr}{oc:Value}{od an:Option Addr}{Ti:Array (Option Value)}{kV doc pm XC ct:Value}(l:K.lookup f=some ⟨oc,od,.func (PySem.W.fnOf x qual (Kj st) (ZY st) (Xe st) .none kV doc pm an XC ct),Ti⟩)
  (c:PySem.W.codeIn K XC qual=true)(k:PySem.W.keepIn K ↑f=true):Fun K x qual st f (PySem.W.fnOf x qual (Kj st) (ZY st) (Xe st) .none kV doc pm an XC ct):=⟨⟨oc,od,kV,doc,pm,an,XC,ct,Ti,Z,l,c⟩,k⟩
end
section
variable{X:Cx}
def pv(i:Nat){x:Str}{pos:Pos}(hN:X.N[i]?=some x:=by rfl)(hv:sU X.env.scope x:=by first|show Or.inl rfl|show Or.inr (Or.inl rfl)|show Or.inr<|Or.inr rfl)(hd:(x == ("__debug__":Str))=false:=by decide)
  (SQ:(x == ("__classdict__":Str))=false:=by decide):PE X (.Name x pos) (tVar i):=Zak hN hv hd SQ
end
def iteF{A AP:Prop}(h:AP):if false=true then A else AP:=by rwa[if_neg YE]
def Th{A AP:Prop}(h:A):if true=true then A else AP:=by rwa[if_pos Z]
def CU{c A AP:Prop}[Decidable c](h1:c->A)(h2:¬c->AP):if c then A else AP:=by
 cases h:c
 .rw[if_pos h];show h1 h
 .rw[if_neg h];show h2 h
def Same(H H':Hp):(Prop):=∀b o,H b=some o->H' b=some o
def Same.refl(H:Hp):Same H H:=λ_ _ h=>h
def Same.trans{H H1 H2:Hp}(a:Same H H1)(b:Same H1 H2):Same H H2:=λc o h=>b c o (a c o h)
def Same.free(e:Same H H'){l:Addr}(h:H' l=Option.none):H l=Option.none:=by
 cases q:H l with
 |none=>rfl
 |some o=>
  rw[e l o q]at h;cases h
def Same.seq{K:Ad}{H H':Hp}{a:Addr}{xs:List V}(e:Same H H')(h:SqL K H a xs):SqL K H' a xs:=by
 rcases h with (h|⟨o,h⟩)|h
 .show .inl (.inl<|e _ _ h)
 .show .inl (.inr ⟨o,e _ _ h⟩)
 .show .inr h
def CT(X:Cx)(ifs:List Expr)(t:TT):(Prop):=
 ∀pins s σ H Q,Inv X pins σ H s->t σ H Q->
  wpAny (model X.prog X.w) X.A (forIn ifs true λc r=>if r=true then do let ok <-isTrue c X.env (eval c X.env);pure (ForInStep.yield ok) else pure (ForInStep.yield r)) (TP X pins σ Q) X.xe s
def tYes:(TT):=λ_ H Q=>Q true H
def Nh:CT X [] tYes:=λ_ _ _ H _ I h=>wpAny_tests_nil ⟨H,I,h⟩
def VG(hc:PT X c t):CT X [c] t:=λpins s σ H Q I h=>wpAny_tests_one (hc pins s σ H Q I h)
def ZJ4{R:Result->Shared->Prop}{elt target iter:Expr}{scope:Scope}{pos:Pos}{it acc:Value}(sP:Nat->Shared->Prop)
  (turn:∀n s,sP n s->wpAny (model prog w) A (pyNext it) (λr s1=>match r with
   |none=>R (.ok .next) s1
   |some v=>wpAny (model prog w) A (letOwnedTupleGo target it v) (λ_ s2=>wpAny (model prog w) A (assign target env v) (λ_ s3=>
     wpAny (model prog w) A (forIn ifs true λc r=>if r=true then do let ok <-isTrue c env (eval c env);pure (ForInStep.yield ok) else pure (ForInStep.yield r)) (λok s4=>
      if ok=true then wpAny (model prog w) A (eval elt env) (λx s5=>
       wpAny (model prog w) A (call (.builtin "list.append") [acc,x]) (λ_ s6=>∃m,m<n/\sP m s6) (λ_ _=>False) s5) (λ_ _=>False) s4
      else ∃m,m<n/\sP m s4) (λ_ _=>False) s3) (λ_ _=>False) s2) (λ_ _=>False) s1) (λ_ _=>False) s)
  (n:Nat)(h:sP n s):codeAny (model prog w) A (.compLoop (.ListComp elt [⟨target,iter,ifs,0⟩] scope pos) 0 it acc env) R s:=by
 show codeAny_loop Z sP (λn s hI=>?_) n h;change wpAny _ A ((compTurn (.ListComp elt [⟨target,iter,ifs,0⟩] scope pos) 0 it acc env).onRaise λx=>do noteFrame x env;theTreesLotGoes x) _ _ s
 show wpAny_noted ?_;rw[compTurn_list];show XU (wpAny_standAt<|XU<|Uc (turn n s hI) (λr s1 h1=>?_) λ_ _ z=>z.elim);cases r with
 |none=>show Yj h1
 |some v=>
  show XU (Uc h1 (λ_ s2 h2=>?_) λ_ _ z=>z.elim);show XU (Uc h2 (λ_ s3 h3=>XU<|Uc h3 (λok s4 h4=>?_) λ_ _ z=>z.elim) λ_ _ z=>z.elim);cases ok with
  |false=>show Yj ⟨Z,h4⟩
  |true=>
   show XU (XU<|Uc h4 (λx s5 h5=>XU<|Uc h5 (λ_ s6 h6=>Yj<|Yj ⟨Z,h6⟩) λ_ _ z=>z.elim) λ_ _ z=>z.elim)
def Ra(cells:List (Str×Addr)):(List (Str×NameKind)->List (Str×Addr)->List (Str×Addr))
 |[],acc=>acc
 | (n,k)::r,acc=>if k == .free then Ra cells r ((n,(cells.lookup n).getD 0)::acc) else Ra cells r acc
def dh:∀names acc,(∀y∈names,y.2=.free->∃c,env.cells.lookup y.1=some c)->
  (forIn names acc λ(x:Str×NameKind) (cs:List (Str×Addr))=>(if (x.2 == .free)=true then do let a <-cellOf env x.1;pure (ForInStep.yield<|(x.1,a)::cs) else pure (ForInStep.yield cs):Sem (ForInStep<|List<|Str×Addr)))=pure (Ra env.cells names acc)
 |[],acc,_=>rfl
 | (n,k)::r,acc,h=>by
  let ih:=λacc=>dh r acc λy hy=>h y (Ye _ hy);rw[List.forIn_cons];unfold Ra;cases hk:(k == NameKind.free)=true
  .let⟨c,hc⟩:=h (n,k) Yc (by simpa using hk);let e:cellOf env n=pure c:=by unfold cellOf;rw[show env.cells.lookup n=some c from hc]
   simp only[hk,US,e,pure_bind];rw[ih,show env.cells.lookup n=some c from hc];rfl
  .simp only[hk,Rn,Sd,pure_bind];show ih acc
def qC(h:∀y∈scope.names,y.2=.free->∃c,env.cells.lookup y.1=some c):closureFor scope env=pure (Ra env.cells scope.names []):=by let e:=dh scope.names [] h;unfold closureFor;simp only[bind_pure]at e ⊢;show e
def qB{env:Env}:∀names acc,(∀y∈names,y.2=.free->∃c,env.cells.lookup y.1=some c)->(∀x c,acc.lookup x=some c->env.cells.lookup x=some c)->
  ∀x c,(Ra env.cells names acc).lookup x=some c->env.cells.lookup x=some c
 |[],acc,_,ha,x,c,e=>ha x c e
 | (n,k)::r,acc,h,ha,x,c,e=>by
  unfold Ra at e;cases hk:(k == NameKind.free)=true
  .rw[if_pos hk]at e;let⟨d,hd⟩:=h (n,k) Yc (by simpa using hk);show qB r _ (λy hy=>h y<|Ye _ hy) (λy b q=>?_) x c e;rw[Kx]at q;cases hy:(y == n)=true
   .rw[hy]at q;let Ib:y=n:=by simpa using hy
    let SA:env.cells.lookup n=some d:=hd;rw[SA]at q;let q':d=b:=Yi q
    rw[Ib,SA,q']
   .let Ib:(y == n)=false:=by simpa using hy
    rw[Ib]at q;show ha y b q
  .rw[if_neg hk]at e;show qB r acc (λy hy=>h y<|Ye _ hy) ha x c e
def qA:∀names acc x,(acc.lookup x).isSome=true->((Ra cells names acc).lookup x).isSome=true
 |[],_,_,h=>h
 | (n,k)::r,acc,x,h=>by
  unfold Ra;cases hk:(k == NameKind.free)=true
  .rw[if_pos hk];show qA r _ x ?_;rw[Kx];cases hx:(x == n)=true
   .rw[hx];rfl
   .let Xu:(x == n)=false:=by simpa using hx
    rwa[Xu]
  .rw[if_neg hk];show qA r acc x h
def wQ:∀names acc x,(x,NameKind.free)∈names->((Ra cells names acc).lookup x).isSome=true
 |[],_,_,h=>nomatch h
 | (n,k)::r,acc,x,h=>by
  unfold Ra;rcases Yh.mp h with e|h
  .cases e;rw[if_pos Ea];show qA r _ _ ?_;rw[Kx];simp
  .cases hk:(k == NameKind.free)=true
   .rw[if_pos hk];show wQ r _ x h
   .rw[if_neg hk];show wQ r _ x h
def ZZ{env:Env}:∀{names:List (Str×NameKind)}{x:Str}{k:NameKind},(names.map λ(n,k)=>if (k == NameKind.free&&env.scope.kind == .function&&env.kindOf n == some .cell) then (n,NameKind.cell) else (n,k)).lookup x=some k->
  (k=.cell\/k=.free)->(x,NameKind.free)∈names\/(x,NameKind.cell)∈names
 |[],_,_,h,_=>by simp at h
 | (n,q)::r,x,k,h,hk=>by
  let h':List.lookup x ((if (q == NameKind.free&&env.scope.kind == .function&&env.kindOf n == some .cell)=true then (n,NameKind.cell) else (n,q))::r.map λ(n,k)=>if (k == NameKind.free&&env.scope.kind == .function&&env.kindOf n == some .cell) then (n,NameKind.cell) else (n,k))=some k:=h;cases hc:(q == NameKind.free&&env.scope.kind == .function&&env.kindOf n == some .cell)=true
  .rw[if_pos hc,Kx]at h';let hq:q=.free:=by simp only[Kw,RM]at hc;show hc.1.1
   cases hx:(x == n)=true
   .let Xu:x=n:=by simpa using hx
    subst Xu;subst hq;show .inl Yc
   .let Xu:(x == n)=false:=by simpa using hx
    rw[Xu]at h';rcases ZZ (env:=env) h' hk with z|z
    .show .inl (Ye _ z)
    .show .inr (Ye _ z)
  .rw[if_neg hc,Kx]at h';cases hx:(x == n)=true
   .rw[hx]at h';let Xu:x=n:=by simpa using hx
    subst Xu;let e:q=k:=Yi h'
    subst e;rcases hk with rfl|rfl
    .show .inr Yc
    .show .inl Yc
   .let Xu:(x == n)=false:=by simpa using hx
    rw[Xu]at h';rcases ZZ (env:=env) h' hk with z|z
    .show .inl (Ye _ z)
    .show .inr (Ye _ z)
def qz{env:Env}:∀{names:List (Str×NameKind)}{x:Str},names.lookup x=some .free->
  (names.map λ(n,k)=>if (k == NameKind.free&&env.scope.kind == .function&&env.kindOf n == some .cell) then (n,NameKind.cell) else (n,k)).lookup x=some .cell\/
  (names.map λ(n,k)=>if (k == NameKind.free&&env.scope.kind == .function&&env.kindOf n == some .cell) then (n,NameKind.cell) else (n,k)).lookup x=some .free
 |[],_,h=>by simp at h
 | (n,q)::r,x,h=>by
  change List.lookup x ((if (q == NameKind.free&&env.scope.kind == .function&&env.kindOf n == some .cell)=true then (n,NameKind.cell) else (n,q))::_)=_\/List.lookup x ((if (q == NameKind.free&&env.scope.kind == .function&&env.kindOf n == some .cell)=true then (n,NameKind.cell) else (n,q))::_)=_;rw[Kx]at h;cases hc:(q == NameKind.free&&env.scope.kind == .function&&env.kindOf n == some .cell)=true
  .rw[if_pos hc,Kx];cases hx:(x == n)=true
   .rw[hx];show .inl rfl
   .let Xu:(x == n)=false:=by simpa using hx
    rw[Xu]at h ⊢;show qz h
  .rw[if_neg hc,Kx];cases hx:(x == n)=true
   .rw[hx]at h ⊢;show .inr h
   .let Xu:(x == n)=false:=by simpa using hx
    rw[Xu]at h ⊢;show qz h
def TZ(X:Cx)(N':List Str)(scope:Scope)(C:Addr)(s:Shared)(H:Hp)(fp:List Addr):(Cx) where
 prog:=X.prog
 w:=X.w
 K:=X.K
 mg:=X.mg
 base:=X.base
 A:=X.A
 N:=N'
 s₀:=s
 H₀:=H
 env:=compEnvC scope (Ra X.env.cells scope.names []) C X.env
 outer:=X.stack
 stack:=X.stack
 ex:=fp
 fn:=λ_=>false
 calm:=X.calm
 pn:=[]
 xe:=λ_ _=>False
def σC(o:Nat)(fr:List Nat)(σ:St):(St):=List.replicate o none++fr.map λj=>(σ[j]?).join
structure CompScope(sc0:Scope)(N N':List Str)(o:Nat)(fr:List Nat)(scope:Scope):Prop where
 kind:scope.kind=.function
 nocell:(scope.names.all λy=>y.2 != .cell)=true
 loc:(scope.names.all λy=>y.2 != .local||scope.names.lookup y.1 == some .local)=true
 free:(scope.names.all λy=>y.2 != .free||sc0.names.lookup y.1 == some .cell||sc0.names.lookup y.1 == some .free)=true
 len:N'.length=o+fr.length
 sees:((List.range fr.length).all λj=>match fr[j]? with
  |none=>false
  |some y=>match N[y]? with
   |none=>false
   |some x=>N'[o+j]? == some x&&scope.names.lookup x == some .free)=true
def Ki(sP:It)(g:TG)(tt:TT)(te:TE)(o:Nat)(fr:List Nat)(σ:St)(H1:Hp)(Q:VK):(Prop):=∃W:Nat->Nat->List V->Hp->Prop,(∃m,W 0 m [] H1)/\∀i m ys H,W i m ys H->
 (sP.stop i H/\ys.length<=sizeLine/\∀p,H p=none->Q ↑p (upd H p<|.lst ys))\/
 (sP.go i H/\ys.length<sizeLine/\∀x H',sP.yld i H x H'->g x (σC o fr σ) H' λσ2 H2=>tt σ2 H2 λb H3=>if b=true then te σ2 H3 λy H4=>∃m',m'<m/\W (i+1) m' (ys++[y]) H4 else ∃m',m'<m/\W (i+1) m' ys H3)
def qy(wi:TI)(g:TG)(tt:TT)(te:TE)(o:Nat)(fr:List Nat):(TE):=λσ H Q=>wi σ H λsP H1=>Ki sP g tt te o fr σ H1 Q
def OQ(o:Nat)(g:TG):(Prop):=∀x ow fr H Q,ow.length=o->g x (ow++fr) H Q->g x (ow++fr) H λσ2 H2=>(∃CS,CS.length=o/\σ2=CS++fr)/\Q σ2 H2
def ZF(h:i<o):OQ o (Tq i):=λx ow fr H Q hl q=>⟨⟨ow.set i<|some x,by rw[Mz];show hl,by rw[List.set_append_left _ _ J]⟩,q⟩
def LV(o:Nat)(g:IA):(Prop):=∀xs ow fr H Q,ow.length=o->g xs (ow++fr) H Q->g xs (ow++fr) H λσ2 H2=>(∃CS,CS.length=o/\σ2=CS++fr)/\Q σ2 H2
def Ia:LV o gNil:=λ_ ow _ _ _ hl zz=>by let⟨e,q⟩:=zz;exists e,⟨ow,hl,Z⟩,q
def ZQ(h:i<o)(h2:LV o u):LV o (gCons (Tq i) u):=by
 rintro xs ow fr H Q hl ⟨v,r,rfl,q⟩;exists v,r,Z,?_;let q':u r ((ow++fr).set i (some v)) H Q:=q
 change u r ((ow++fr).set i (some v)) H _;rw[List.set_append_left _ _ DW]at q' ⊢;show h2 r (ow.set i<|some v) fr H Q (by rwa[Mz]) q'
def HZ{K:Ad}{o n:Nat}{u:IA}(h:LV o u):OQ o (gTup K n u):=by rintro x ow fr H Q hl ⟨a,xs,rfl,hs,hn,q⟩;exists a,xs,Z,hs,hn,h xs ow fr H Q hl q
section
variable{X:Cx}{pins:List (Addr×Obj)}{σ:St}{H:Hp}{s:Shared}{N':List Str}{o:Nat}{fr:List Nat}{scope:Scope}{fp:List Addr}
abbrev TY(us:Ag):Obj:={cls:=.type "list",data:=.seq us.toArray us.length}
def CompScope.nocell'(S:CompScope sc0 N N' o fr scope):∀y∈scope.names,y.2≠.cell:=λy hy e=>by let q:=Pr.mp S.nocell y hy;rw[e]at q;show absurd q sZ
def CompScope.loc'(S:CompScope sc0 N N' o fr scope):∀y∈scope.names,y.2=.local->scope.names.lookup y.1=some .local:=λy hy e=>by let q:=Pr.mp S.loc y hy;rw[e]at q;simpa using q
def CompScope.free'(S:CompScope sc0 N N' o fr scope)(hs:X.env.scope=sc0):∀y∈scope.names,y.2=.free->X.env.kindOf y.1=some .cell\/X.env.kindOf y.1=some .free:=λy hy e=>by
 let q:=Pr.mp S.free y hy;rw[e]at q;change X.env.scope.names.lookup y.1=_\/X.env.scope.names.lookup y.1=_
 rw[hs];simpa using q
def CompScope.sees'(S:CompScope sc0 N N' o fr scope):∀j y,fr[j]?=some y->∃x,N[y]?=some x/\N'[o+j]?=some x/\scope.names.lookup x=some .free:=λj y e=>by
 let hj:j<fr.length:=(Xy.mp e).1;let q:=Pr.mp S.sees j (YY.mpr hj)
 rw[e]at q;dsimp only at q;cases ex:N[y]? with
 |none=>rw[ex]at q;cases q
 |some x=>
  rw[ex]at q;dsimp only at q;rw[Kw,RM,RM]at q;exists x,Z,q.1,q.2
def CompScope.cells(S:CompScope sc0 N0 N' o fr scope)(hs:X.env.scope=sc0)(I:Inv X pins σ H s):∀y∈scope.names,y.2=.free->∃c,X.env.cells.lookup y.1=some c:=λy hy e=>I.ok.has y.1 (S.free' hs y hy e)
def CompScope.sub(S:CompScope sc0 N0 N' o fr scope)(hs:X.env.scope=sc0)(I:Inv X pins σ H s):∀x c,(Ra X.env.cells scope.names []).lookup x=some c->X.env.cells.lookup x=some c:=
 qB (env:=X.env) scope.names [] (S.cells hs I) (λ_ _ z=>nomatch z)
def Inv.block(S:CompScope sc0 N0 N' o fr scope)(hs:X.env.scope=sc0)(hN:X.N=N0)(I:Inv X pins σ H s)(hf:∀b∈fp,FpOk X pins H b)(QB:∀b∈fp,b<(~~~s)){h1:Heap}{C D:Addr}{m:Af}{t:Nat}
  (hC:(~~~s)<=C)(hD:(~~~s)<=D)(Ng:D≠C)
  (old:∀b ob,s.heap.get? b=some ob->h1.get? b=some ob)(hn:h1.Ns C m)(ha:h1.get? D=some (TY us)):Inv (TZ X N' scope C s H fp) [(D,TY us)] (σC o fr σ) H {s with heap:=h1,toks:=t}:=by
 let sub:=S.sub hs I;let frC:∀b∈VV X.stack,b<(~~~s):=λb hb=>by let⟨_,ob,ho,_⟩:=I.stack.mem hb;show Yo ho
 show⟨⟨I.ok.mod,S.kind,I.ok.glob,I.ok.blt,hC,λx y c h1 h2=>I.ok.inj x y c (sub x c h1)<|sub y c h2,λx hx=>?_,λx c hfx _=>(nomatch hfx),I.ok.hd,I.ok.frames,.inl Z,λb hb=>?_,I.bs,Yr I.ok.bsz I.sz,λb ob e hb=>?_,λb hb OP=>?_,I.stack,I.stkFree⟩,
  rfl,I.bare,Un.kept old,⟨m,hn,λi x v e1 e2 e3=>?_⟩,λx c e=>?_,I.hok.fresh hC,λx c e=>I.freeC x c<|sub x c e,λp hp=>?_,I.hok.kept old,?_⟩
 .let Xu:(relabel scope X.env).names.lookup x=some .cell\/(relabel scope X.env).names.lookup x=some .free:=hx;let key:(x,NameKind.free)∈scope.names:=by
   rcases Xu with z|z
   .rcases ZZ (env:=X.env) z (.inl rfl) with q|q
    .show q
    .show absurd Z (S.nocell' _ q)
   .rcases ZZ (env:=X.env) z (.inr rfl) with q|q
    .show q
    .show absurd Z (S.nocell' _ q)
  show uw.mp (wQ (cells:=X.env.cells) scope.names [] x key)
 .let⟨f0,f1,f2,f3,f4,f5⟩:=hf b hb;exists YB<|Ys (QB b hb) hC,λx c e=>f4 x c<|sub x c e
 .let⟨f0,f1,f2,f3,f4,f5⟩:=hf b hb;rcases f3 with z|z
  .show I.ok.noex b ob e z
  .show absurd (Ys (Yo e)<|Yr I.ok.bsz z) (PZ _)
 .let⟨f0,f1,f2,f3,f4,f5⟩:=hf b hb;rcases Yh.mp (I.stkSub b OP) with z|z
  .show f1 z
  .show f2 z
 .unfold σC at e2;cases hi:i<o
  .rw[Yn (by rwa[YU]),xW,if_pos hi]at e2;cases e2
  .rw[Yk (by rw[YU];show Nat.not_lt.mp hi),YU,Yp]at e2;cases hy:fr[i-o]? with
   |none=>rw[hy]at e2;cases e2
   |some y=>
    rw[hy]at e2;let wO:(σ[y]?).join=some v:=Yi e2
    let e3':σ[y]?=some (some v):=by
     cases q:σ[y]? with
     |none=>rw[q]at wO;cases wO
     |some z=>rw[q]at wO;show QP some wO
    let⟨x',s2,s1,s3⟩:=S.sees' (i-o) y hy;rw[<-hN]at s2;rw[show o+(i-o)=i by grind]at s1;let ex:x=x':=by let e1':N'[i]?=some x:=e1;rw[e1']at s1;show Yi s1
    subst ex;let hmem:=RN s3
    let⟨m0,_,hl⟩:=I.loc;let hk:=S.free' hs (x,.free) hmem rfl
    let⟨u,ru,lk⟩:=hl y x v s2 e3' (by rcases hk with z|z;show .inr (.inl z);show .inr<|.inr z);exists u,ru,.inr ⟨qz (env:=X.env) s3,?_⟩;let⟨c',VU⟩:=uw.mp (wQ (cells:=X.env.cells) scope.names [] x hmem);exists c',VU,?_;rcases lk with ⟨z,_⟩|⟨_,c,e,ob,ho,hd⟩
    .rcases hk with z'|z'
     .rw[z]at z';cases z'
     .rw[z]at z';cases z'
    .let ec:c=c':=by
      have:=sub x c' VU
      rw[e]at this;show Yi this
     subst ec;exists ob,old _ _ ho,hd
 .let⟨v,ob,ho,hd⟩:=I.cell x c (sub x c e);exists v,ob,old _ _ ho,hd
 .let e:p=(D,TY us):=by simpa using (show p∈([]:List (Addr×Obj))++[(D,TY us)] from hp)
  subst e;exists ha,I.hok.fresh hD,Ng,λz=>absurd (Ys (frC D z) hD)<|PZ _,λv z=>nomatch z
 .change(σC o fr σ).length=N'.length;unfold σC;rw[Xw,YU,Yb,S.len]
def Inv.unblock(I:Inv X pins σ H s)(hf:∀b∈fp,FpOk X pins H b){σ':St}{s':Shared}(hC:(~~~s)<=C)(hD:(~~~s)<=D)(Ng:D≠C)
  (I':Inv (TZ X N' scope C s H fp) [(D,TY us)] σ' H' s')(r:Vals ys us)(hz:ys.length<=sizeLine):∃oC m,s'.heap.get? C=some oC/\s'.heap.Ns C m/\Inv X (pins++[(C,oC)]) σ (upd H' D<|.lst ys) s':=by
 let⟨aD,nD,_,_,_⟩:=I'.pin (D,TY us) B;let aD:s'.heap.get? D=some (TY us):=aD
 let nD:H' D=none:=nD;let un:Un (VV X.stack) fp H H' s.heap s'.heap:=I'.base
 let lt:∀b u,H b=some u->b≠D:=λb u e=>YB (Ys (I.hok.lt e) hD);let qx:Un (VV X.stack) fp H (upd H' D<|.lst ys) s.heap s'.heap:=by
  exists un.keep,un.slot,λb ob e n hx=>?_,un.there,λb xs e=>?_,λb ob u e=>?_,λb ps e=>?_
  .rw[XJ (YB<|Ys (Yo e) hD)];show un.free b ob e n hx
  .rw[XJ (lt b _ e)];show un.tups b xs e
  .rw[XJ (lt b _ e)];show un.frzs b ob u e
  .let⟨more,q⟩:=un.tbls b ps e;exists more,by rwa[XJ (lt b _ e)]
 let hok:HOk X.prog X.w (upd H' D<|.lst ys) s'.heap:=λb u e=>by
  cases hb:b=D
  .subst hb;rw[XQ]at e;cases e;exists hz,us,us.length,r,aD
  .rw[XJ hb]at e;show(I'.hok b u e).stay (λc v _ q=>q) (λc q=>by rwa[XJ (Za q nD)]) λc xs q=>by rwa[XJ (Za q nD)]
 let os:s'.os=s.os:=I'.os;let sP:Inv X pins σ (upd H' D<|.lst ys) s':=I.call' (ch:=fp) os qx hok I'.bare λb hb=>by let⟨f0,f1,f2,f3,f4,f5⟩:=hf b hb;exists f3,f1,f4,f5
 let⟨m,hn,_⟩:=I'.loc;let hn:s'.heap.Ns C m:=hn
 let⟨oC,es,ep,qw,hdC,_⟩:=id hn;exists oC,m,qw,hn,sP.pins_of λp hp=>?_;rcases XA.mp hp with z|z
 .show sP.pin p (Yg _ z)
 .let e:p=(C,oC):=by simpa using z
  subst e;let nC:H' C=none:=I'.free
  show⟨qw,by rw[XJ (Xc Ng)];show nC,Vv<|Ys I.lt hC,I.nofs hC,λv z=>?_⟩;let z':oC.data=.cell v:=z
  rw[hdC]at z';cases z'
end
section
variable{X:Cx}{N':List Str}{o:Nat}{fr:List Nat}{scope:Scope}{elt tg iter:Expr}{ifs:List Expr}{pos:Pos}{wi:TI}{g:TG}{tt:TT}{te:TE}
def CQ(hc:X.calm=true)(S:CompScope sc0 N0 N' o fr scope)(hi:PI X tg iter wi)(ho:OQ o g)
  (hg:∀C s H fp,PG (TZ X N' scope C s H fp) tg g)
  (ht:∀C s H fp,CT (TZ X N' scope C s H fp) ifs tt)
  (he:∀C s H fp,PE (TZ X N' scope C s H fp) elt te)
  (hs:∀x,foldedSetIterable iter X.env x=pure x)(PQ:X.env.scope=sc0)(CO:X.N=N0)(I:Inv X pins σ H s)(h:qy wi g tt te o fr σ H Qv)
  {use:Option (Value->Sem Unit)}{Q:Ae}{E:Ae}
  (hE:∀e s',X.xe e s'->E e s')
  (fin:∀C oC D m H' ys s',Inv X (pins++[(C,oC)]) σ (upd H' D<|.lst ys) s'->Qv ↑D (upd H' D<|.lst ys)->s'.heap.Ns C m->H' C=none->C≠D->
   C≠X.env.locals->(~~~X.s₀)<=C->(∀x c,X.env.cells.lookup x=some c->c≠C)->(∀p∈X.pn++pins,p.1≠C)->compPost (model X.prog X.w) X.A E use Q ↑D C (.ok .next) s'):
  wpAny (model X.prog X.w) X.A (comprehension (.ListComp elt [⟨tg,iter,ifs,0⟩] scope pos) scope X.env (firstIterPos [⟨tg,iter,ifs,0⟩] pos) (newList []) false (eval iter X.env) use) Q E s:=by
 show wpAny_comprehension_free (use:=use) Z hs (qC<|S.cells PQ I) S.kind S.loc' (Uc (hi pins s σ H _ I h) (λxv s1 h1=>Uc h1 (λr9 s2 h2=>?_) hE) hE);let⟨it,fp,tn,sP,H2,rfl,I2,T,Xi,f2,W,⟨m0,w0⟩,turn⟩:=h2;let QB:∀b∈fp,b<(~~~s2):=λb hb=>by let⟨ob,e,_⟩:=T.obj 0 _ Xi b hb;show Yo e
 show Tw (wpAny_newFunctionEnv S.nocell' (by intro y hy;simp at hy) (λh1 HY LU=>?_) S.kind);dsimp only at HY LU ⊢;generalize qv:s2.heap.push {cls:=.type "list",dict:=none,data:=.seq ([]:Ag).toArray}=G at HY LU ⊢;let dg:G.objs.size=(~~~s2)+1:=by rw[<-qv,Mw]
 let hC:(~~~s2)<=G.objs.size:=by rw[dg];show Ud _
 let Ng:(~~~s2)≠G.objs.size:=by rw[dg];show YB (Np _)
 let old:∀b ob,s2.heap.get? b=some ob->h1.get? b=some ob:=λb ob e=>
  LU.extBut b ob (YB<|Ys (Yo e) hC) (Xd _<|qv▸Xd _ e)
 let VF:h1.get? (~~~s2)=some (TY []):=LU.extBut _ _ Ng (Xd _<|qv▸Yq _ Z);let RZ:tn 0 h1:=T.keep _ _ _ Xi λb _ ob e=>old b ob e
 let qu:∀{us:Ag}{H':Hp},(∀b∈fp,H' b=none)->∀b∈fp,FpOk (TZ X N' scope G.objs.size s2 H2 fp) [((~~~s2),TY us)] H' b:=λ{us H'} hn b hb=>by
  let⟨f0,f1,f3,f4,f5,f6⟩:=f2 b hb;exists hn b hb,YB<|Ys (QB b hb) hC,λz=>?_,.inl hb,λx c e=>f5 x c<|S.sub PQ I2 x c e,λp hp=>?_
  .rcases Yh.mp (I2.stkSub b z) with q|q
   .show f1 q
   .show f3 q
  .let e:p=((~~~s2),TY us):=by simpa using (show p∈([]:List (Addr×Obj))++[((~~~s2),TY us)] from hp)
   subst e;show Vv (QB b hb)
 let loop:∀s3:Shared,s3={s2 with heap:=h1,toks:=s2.toks+([]:List (Str×Value)).length}->
   codeAny (model X.prog X.w) X.A (.compLoop (.ListComp elt [⟨tg,iter,ifs,0⟩] scope pos) 0 ↑it (.ref (~~~s2))<|compEnvC scope (Ra X.env.cells scope.names []) G.objs.size X.env)
    (compPost (model X.prog X.w) X.A E use Q (.ref (~~~s2)) G.objs.size) s3:=by
  rintro s3 rfl;show ZJ4 (λn s'=>∃i σ' H' ys us,Inv (TZ X N' scope G.objs.size s2 H2 fp) [((~~~s2),TY us)] σ' H' s'/\σ'=σC o fr σ/\Vals ys us/\tn i s'.heap/\(∀b∈fp,H' b=none)/\W i n ys H') ?_ m0
   ⟨0,_,H2,[],[],I2.block S PQ CO f2 QB hC (XN _) Ng old HY VF,Z,.nil,RZ,λb hb=>(f2 b hb).1,w0⟩
  rintro n s' ⟨i,σ',H',ys,us,I',rfl,rv,XR,df,w'⟩;rcases turn i n ys H' w' with ⟨stop,hz,q⟩|⟨go,hz,step⟩
  .show thn (T.done (TZ X N' scope G.objs.size s2 H2 fp) Z Z Z hc i _ s' _ H' _ I' (qu df) XR stop) λr s4 zz=>?_;let⟨hr,I4⟩:=zz;subst hr;let⟨oC,m,qw,hn,J4⟩:=I2.unblock f2 hC (XN _) Ng I4 rv hz;show fin _ oC _ m H' ys s4 J4 (q _ (I4.pin ((~~~s2),TY us) B).2.1) hn I4.free (Xc Ng) (Vv<|Ys I2.lt hC) (Yr I2.sz hC)
    (λx c e=>by let⟨v,z⟩:=I2.cell x c e;show YB<|Ys z.lt hC) λp hp=>YB (Ys (Yo (I2.pin p hp).1) hC)
  .show thn (T.item (TZ X N' scope G.objs.size s2 H2 fp) Z Z Z hc i _ s' _ H' _ I' (qu df) XR go) λr s4 Xv=>?_;let⟨u,hr,h4⟩:=Xv;subst hr;show thn h4 λ_ s5 Xv=>?_;let⟨x,H5,I5,r5,y5,WU,rT⟩:=Xv;let WV:=step x H5 y5
   let qt:=ho x (List.replicate o none) (fr.map λj=>(σ[j]?).join) H5 _ (YU ..) WV;let rS:=I5.pinned (qu (us:=us) rT) (T.obj _ _ WU)
   show thn (hg _ _ _ _ _ s5 _ H5 x u _ rS r5 qt) λ_ s6 Xv=>?_;let⟨σ6,H6,I6,⟨ow,PN,e6⟩,q6⟩:=Xv;subst e6;show thn (ht _ _ _ _ _ s6 _ H6 _ I6 q6) λb s7 Xv=>?_;let⟨H7,I7,q7⟩:=Xv;let back:∀{us':Ag}{σ8:St}{H8:Hp}{s8:Shared},Inv (TZ X N' scope G.objs.size s2 H2 fp) ([((~~~s2),TY us')]++Me fp s5.heap) (ow++fr.map λj=>(σ[j]?).join) H8 s8->
     Inv (TZ X N' scope G.objs.size s2 H2 fp) [((~~~s2),TY us')] (σC o fr σ) H8 s8/\tn (i+1) s8.heap/\∀b∈fp,H8 b=none:=λ{us' σ8 H8 s8} I8=>by
    exists I8.unpinned.weak ?_ λj v e=>?_,T.keep _ _ _ WU λb hb ob e=>(I8.pin (b,ob)<|Yg _<|Yg _<|Md hb e).1,λb hb=>?_
    .unfold σC;rw[Xw,Xw,YU,PN]
    .unfold σC at e;cases hj:j<o
     .rw[Yn (by rwa[YU]),xW,if_pos hj]at e;cases e
     .rw[Yk (by rw[YU];show Nat.not_lt.mp hj),YU]at e;rwa[Yk (by rw[PN];show Nat.not_lt.mp hj),PN]
    .let⟨ob,e,_⟩:=T.obj _ _ WU b hb;show(I8.pin (b,ob)<|Yg _<|Yg _<|Md hb e).2.1
   cases b with
   |false=>
    rw[if_neg YE]at q7 ⊢;let⟨m',hm,w7⟩:=q7;let⟨I8,st8,fr8⟩:=back (us':=us) (σ8:=[]) I7;exists m',hm,i+1,_,H7,ys,us,I8,Z,rv,st8,fr8,w7
   |true=>
    rw[if_pos Z]at q7 ⊢;show thn (he _ _ _ _ _ s7 _ H7 _ I7 q7) λy s8 Xv=>?_;let⟨yv,H8,I8,r8,m',hm,w8⟩:=Xv;let⟨aD,nD,_,_,_⟩:=I8.pin ((~~~s2),TY us) B;let aD:s8.heap.get? (~~~s2)=some (TY us):=aD
    let nD:H8 (~~~s2)=none:=nD;let hul:us.length<=sizeLine:=by rw[<-rv.length];show Nm hz
    show append_at (hsz:=by change us.toArray.size<=sizeLine;rwa[Ya]) aD λh9 hs9 hD9=>?_;let qr:h9.get? (~~~s2)=some (TY<|us++[y]):=by
     rw[hD9];change some ({cls:=.type "list",data:=.seq (us.toArray.push y) (us.length+1)}:Obj)=some {cls:=.type "list",data:=.seq (us++[y]).toArray (us++[y]).length}
     rw[Xw,Yt,List.push_toArray]
    let I9:Inv (TZ X N' scope G.objs.size s2 H2 fp) (Me fp s5.heap) (ow++fr.map λj=>(σ[j]?).join) H8 {s8 with heap:=h9}:=
     (I8.pins_of (pins':=Me fp s5.heap) λp hp=>I8.pin p<|Yg _<|Yg _ hp).turned (t':=s8.toks) (it:=(~~~s2)) (λb ob hb e=>hs9.extBut b ob hb e) nD Ng (.inr<|XN _)
      (λx c e=>by let⟨v,z⟩:=I2.cell x c (S.sub PQ I2 x c e);show YB z.lt)
      λp hp=>by let⟨hb,_⟩:=dM (show p∈Me fp s5.heap from by simpa[TZ] using hp);show YB (QB p.1 hb)
    let I9':Inv (TZ X N' scope G.objs.size s2 H2 fp) ([((~~~s2),TY<|us++[y])]++Me fp s5.heap) (ow++fr.map λj=>(σ[j]?).join) H8 {s8 with heap:=h9}:=
     I9.pins_of λp hp=>by
      rcases XA.mp hp with z|z
      .let e:p=((~~~s2),TY<|us++[y]):=by simpa using z
       subst e;exists qr,nD,Ng,λz=>?_,λv z=>nomatch z;let⟨_,ob,QA,_⟩:=I2.stack.mem z;show PZ _ (Yo QA)
      .show I9.pin p (Yg _ z)
    let⟨I10,qq,qp⟩:=back (us':=us++[y]) (σ8:=[]) I9';exists m',hm,i+1,_,H8,ys++[yv],us++[y],I10,Z,Vals.append rv<|.cons r8 .nil,qq,qp,w8
 show codeAny_compStart_list (loop _ Z) (T.self _ 0 _ _ _ RZ<|loop _ Z)
def Wf(hc:X.calm=true)(S:CompScope sc0 N0 N' o fr scope)(hi:PI X tg iter wi)(ho:OQ o g)
  (hg:∀C s H fp,PG (TZ X N' scope C s H fp) tg g)
  (ht:∀C s H fp,CT (TZ X N' scope C s H fp) ifs tt)
  (he:∀C s H fp,PE (TZ X N' scope C s H fp) elt te)
  (hs:∀x,foldedSetIterable iter X.env x=pure x:=by intro _;rfl)(PQ:X.env.scope=sc0:=by rfl)(CO:X.N=N0:=by rfl):PE X (.ListComp elt [⟨tg,iter,ifs,0⟩] scope pos) (qy wi g tt te o fr):=by intro pins s σ H Q I h;rw[eval_ListComp];show CQ hc S hi ho hg ht he hs PQ CO I h (use:=none) (λ_ _ z=>z) λC oC D m H' ys s' sP q hn nC qo qm ql qk qj=>?_;exists m,hn,λh' We=>⟨.ref D,upd H' D<|.lst ys,?_,Z,q⟩;show sP.unpinned.turned (t':=s'.toks) (it:=C) (λb ob hb e=>We.extBut b ob hb e) (by rwa[XJ qo]) qm (.inr ql) qk qj
def RF{x:Str}{px:Pos}{CN:Pos}(hc:X.calm=true)(hN:X.N.Nodup)(hx:X.N[i]?=some x)(hl:X.env.kindOf x=some .local)(S:CompScope sc0 N0 N' o fr scope)(hi:PI X tg iter wi)(ho:OQ o g)
  (hg:∀C s H fp,PG (TZ X N' scope C s H fp) tg g)
  (ht:∀C s H fp,CT (TZ X N' scope C s H fp) ifs tt)
  (he:∀C s H fp,PE (TZ X N' scope C s H fp) elt te)
  (hs:∀x,foldedSetIterable iter X.env x=pure x:=by intro _;rfl)(PQ:X.env.scope=sc0:=by rfl)(CO:X.N=N0:=by rfl)
  (hsw:swapsWith (.ListComp elt [⟨tg,iter,ifs,0⟩] scope pos) (some<|.Name x px) CN.line X.env=pure true:=by rfl):
  PS X (.Assign [.Name x px] (.ListComp elt [⟨tg,iter,ifs,0⟩] scope pos) CN) (Mg (qy wi g tt te o fr)<|Tq i):=by
 intro pins s σ H D I h;rw[exec_Assign_Name_used _ _ _ _ hsw];show XU (wpAny_standAt<|XU ?_);change wpAny _ X.A (do let _ <-comprehension (.ListComp elt [⟨tg,iter,ifs,0⟩] scope pos) scope X.env (firstIterPos [⟨tg,iter,ifs,0⟩] pos) (newList []) false (eval iter X.env) (some<|assign (.Name x px) X.env)) _ _ s
 show XU (Uc (CQ (Q:=λ_ s'=>SP X pins D .next s') hc S hi ho hg ht he hs PQ CO I h (use:=some<|assign (.Name x px) X.env) (λ_ _ z=>z) λC oC Dd m H' ys s' sP q hn nC qo qm ql qk qj=>?_) (λ_ s' hq=>Yj<|Yj hq) λ_ _ e=>e);change wpAny _ X.A (assign (.Name x px) X.env<|.ref Dd) _ _ _
 show wpAny_assign_Name (sQ sP hN hx (.inl hl) (v:=.ref Dd) Z (λs2 I2=>?_)<|.inr hl);let g1:=(I2.pin (C,oC) B).1
 let g1:s2.heap.get? C=some oC:=g1;let n2:s2.heap.Ns C m:=by
  let⟨oc,es,ep,e,r⟩:=hn;let e0:=(sP.pin (C,oC) B).1
  let e0:s'.heap.get? C=some oC:=e0;rw[e]at e0;cases e0;exists _,es,ep,g1,r
 exists m,n2,λh' We=>⟨_,upd H' Dd<|.lst ys,?_,q⟩;show I2.unpinned.turned (t':=s2.toks) (it:=C) (λb ob hb e=>We.extBut b ob hb e) (by rwa[XJ qo]) qm (.inr ql) qk qj
end
section
variable{X:Cx}
def de{x y:V}{us:Ag}(r:Vals [x,y] us):∃u v,us=[u,v]/\RelV x u/\RelV y v:=by
 cases r with
 |cons a r=>
  cases r with
  |cons b r=>cases r;exists _,_,Z,a,b
def Zz:∀{ns:Ac}{us:Ag},Vals (ns.map V.int) us->IntsAre us ns
 |[],_,.nil=>.nil
 |n::ns,_,.cons r t=>by let⟨tk,rfl⟩:=r;show .cons n tk (Zz t)
def qi:Tp X (.type "range") (λxs H Q=>∃j:Int,xs=[.int j]/\∀p,H p=none->Q ↑p (upd H p (.rng 0 j))):=by intro pins s σ H xs us Q I r h;let⟨j,rfl,q⟩:=h;let⟨u,rfl,t,rfl⟩:=Sy r;show call_range_1 ?_;exists .ref (~~~s),_,I.laid (o:=.rng 0 j) (λb u e=>Xd _ e) (XN _) ⟨_,_,_,Yq _ Z⟩,Z,q _<|I.hok.fresh<|XN _
def Wr(lo hi:Int):(Ac):=(List.range (hi-lo).toNat).map λ(i:Nat)=>lo+(i:Int)
def CM(lo hi:Int):(Wr lo hi).length=(hi-lo).toNat:=by unfold Wr;rw[Yb,Nr]
def dc{lo:Int}:∀{us:Ag},us.length=n->(∀(j:Nat)(v:Value),us[j]?=some v->∃t,v=Value.int (lo+(j:Int)) t)->Vals (((List.range n).map λ(i:Nat)=>lo+(i:Int)).map V.int) us:=by
 induction n generalizing lo with
 |zero=>
  intro us h _;rw[YM.mp h];show .nil
 |succ n ih=>
  intro us h hv;cases us with
  |nil=>cases h
  |cons u us=>
   rw[List.range_succ_eq_map,TB,TB];show .cons ?_ ?_
   .let⟨t,e⟩:=hv 0 u rfl;exists t,e
   .let q:=ih (lo:=lo+1) (us:=us) (Mt h) λj v e=>by let⟨t,e'⟩:=hv (j+1) v (by simpa using e);exists t,?_;rw[e'];congr 1;lia
    let e:(List.range n).map (λ(i:Nat)=>lo+1+(i:Int))=((List.range n).map Nat.succ).map (λ(i:Nat)=>lo+(i:Int)):=by
     rw[Ms];show VL λi _=>?_;change lo+1+(i:Int)=lo+((i+1:Nat):Int)
     lia
    rwa[e]at q
inductive yR1(xs:List V)(H:Hp)(Q:VK):Prop
 |mk (p lo hi:_) (_:xs=[.ref p]) (_:H p=some (.rng lo hi)) (_:(-(2^62)<=lo/\lo<2^62/\-(2^62)<=hi/\hi<2^62)) (_:(hi-lo).toNat<=16777216) (_:∀l,H l=none->Q ↑l (upd H l<|.lst<|(Wr lo hi).map V.int))
def c9(hc:X.calm=true):Tp X (.type "list") (yR1):=by
 intro pins s σ H xs us Q I r h;let⟨p,lo,hi,rfl,hp,⟨b1,b2,b3,b4⟩,hz,q⟩:=h;let⟨u,rfl,ru⟩:=Sy r;let rfl:u=Value.ref p:=ru;let⟨t,u,v,e⟩:=(show ObjOk X.prog X.w H s.heap p (.rng lo hi) from I.hok p _ hp);let hn:Builtin.Range.rangeSize lo hi 1=(((hi-lo).toNat:Nat):Int):=by rw[rangeSize_one];split<;>grind
 show call_list_range (I.ok.hd hc) (t:=t) (u:=u) (v:=v) e (small_one b1 b2 b3 b4) hn hz λh' tk acc c' hk hS ha=>?_;let hl:acc.toList.length=(hi-lo).toNat:=by rw[Yu];show ha.1
 let rv:Vals ((Wr lo hi).map V.int) acc.toList:=dc (lo:=lo) hl λj w ew=>by let⟨t,e⟩:=ha.2 j w (by simpa using ew);exists t,by rw[e,Mq]
 exists .ref (~~~s),_,I.laid (o:=.lst<|(Wr lo hi).map V.int) hk (XN _) ⟨?_,acc.toList,c',rv,?_⟩,Z,q _<|I.hok.fresh<|XN _
 .rw[Yb,CM]
  have:sizeLine=16777216:=Tz
  lia
 .rw[hS]
def seen(ns:Ac):(Ac):=firstMet (λi=>ns.getD i 0) ns.length
def Fz(K:Ad)(a:Addr):(It):=
 ⟨λi H=>∃xs x,SqL K H a xs/\xs[i]?=some x,λi H v H'=>∃T x,H T=none/\v=.ref T/\H'=upd H T (.tup [.int i,x])/\∀xs,SqL K H a xs->xs[i]?=some x,λi H=>∃xs,SqL K H a xs/\xs.length<=i⟩
inductive xEnu(K:Ad)(vs:List V)(H1:Hp)(R:It->Hp->Prop):Prop
 |mk (a:_) (_:vs=[.ref a]) (_:∃xs,SqL K H1 a xs) (_:R (Fz K a) H1)
def CL(K:Ad)(ta:TA):(TI):=λσ H R=>ta σ H λvs H1=>xEnu K vs H1 R
def Zl8{P:Program}{w:World}{K:Ad}{elts:List Expr}{x1:Nat}{pos:Pos}(a e it:Addr)(XM:e≠it):Turn P w K (.Tuple elts x1 pos) (Fz K a) [e,it] e (λi h=>(∃old,IsEnum h e it i old)/\h.IsListIter it a i) where
 mem:=B
 obj:=λi h st b hb=>by
  let⟨⟨old,he⟩,o,eo,c,d⟩:=st;rcases Yh.mp hb with z|hb
  .subst z;exists _,he,λv z=>by let z':Data.fields _=Data.cell v:=z;cases z'
  .let z:b=it:=by simpa using hb
   subst z;exists o,eo,λv z=>by rw[d]at z;cases z
 keep:=λi h h' st k=>by let⟨⟨old,he⟩,hit⟩:=st;exists ⟨old,k e B _ he⟩,hit.at λo x=>k it B o x
 item:=by
  intro X hP hw hK hc i pins s σ H E I hf st hg;subst hP hw hK;let⟨xs,x,hq,hx⟩:=hg;let⟨⟨old,he⟩,hit⟩:=st;let⟨XX,rv,p,hz⟩:=I.list hq;let⟨u,hu,ru⟩:=rv.get hx;let⟨f0,f1,f2,f3,f4,f5⟩:=hf e B;let⟨g0,g1,g2,g3,g4,g5⟩:=hf it B;let qh:H (~~~s)=none:=I.hok.fresh (XN _)
  show wpAny_pyNext_enum_item he hit p.isList (x:=u) (by simpa using hu) XM λh' ho qg hT hsz hk=>?_;let Nf:∀b ob,s.heap.get? b=some ob->b≠(~~~s):=λb ob z=>YB (Yo z)
  let OO:∀b ob,H b=some ob->b≠(~~~s):=λb ob z=>YB (I.hok.lt z);let Nd:∀b ob,H b=some ob->b≠e/\b≠it:=λb ob z=>⟨λq=>(by rw[q,f0]at z;cases z),λq=>(by rw[q,g0]at z;cases z)⟩
  let I1:Inv X pins σ (upd H (~~~s)<|.tup [.int i,x]) {s with heap:=h',toks:=s.toks+1}:=by
   show I.step (g':=s.gens) (d':=s.drawn) (ch:=[e,it]) (λb hb=>?_) (λb o _ _ Wd z _=>hk b o (λq=>Wd<|by simp[q]) (λq=>Wd<|by simp[q]) z) (λb o _ _ Wd z _=>⟨o.slots,hk b o (λq=>Wd<|by simp[q]) (λq=>Wd<|by simp[q]) z⟩)
    (λb o _ z n=>by rwa[XJ (Nf b o z)]) (λb o Wd z=>⟨o,hk b o (λq=>Wd<|by simp[q]) (λq=>Wd<|by simp[q]) z⟩) (λb ys z=>by rwa[XJ (OO b _ z)]) (λb o v z=>by rwa[XJ (OO b _ z)])
    (λb ps z=>⟨#[],by rw[XJ (OO b _ z),z];simp⟩) (λm hm=>?_) (λb v z=>?_) I.bare
   .rcases Yh.mp hb with q|hb
    .rw[q];exists f3,f1,f4,f5
    .let q:b=it:=by simpa using hb
     rw[q];exists g3,g1,g4,g5
   .let⟨o,es,ep,WE,r⟩:=hm;exists o,es,ep,hk _ o (Xc f1) (Xc g1) WE,r
   .cases hb:b=(~~~s)
    .subst hb;rw[XQ]at z;cases z;exists by change 2<=sizeLine;decide,[.int i s.toks,u],.cons ⟨_,Z⟩<|.cons ru .nil,⟨_,hT,Z,_,Z⟩
    .rw[XJ hb]at z;show(I.hok b v z).stay (λc w' VU q=>?_) (λc q=>by rwa[XJ (OO c _ q)]) λc ys q=>by rwa[XJ (OO c _ q)]
     rcases VU with rfl|VU
     .show hk c w' (Nd c _ z).1 (Nd c _ z).2 q
     .show hk c w' (Nd c _ VU).1 (Nd c _ VU).2 q
  exists _,Z,wpAny_letOwnedTupleGo_enum ho λh2 ON Sx=>?_;let fT:e≠(~~~s):=Nf e _ he
  let I2:Inv X pins σ (upd H (~~~s)<|.tup [.int i,x]) {s with heap:=h2,toks:=s.toks+1}:=Inv.turned (s:={s with heap:=h',toks:=s.toks+1}) (h':=h2) (t':=s.toks+1) (it:=e) I1 (λb o hb z=>Sx.extBut b o hb z) (by rwa[XJ fT]) f1 f3 f4 f5;exists .ref (~~~s),_,I2,Z,⟨_,x,qh,Z,Z,λys hy=>by rwa[I.list_inj hy hq]⟩,⟨⟨u,by simpa using ON⟩,qg.at λo z=>Sx.extBut it o (Xc XM) z⟩,λb hb=>?_;rcases Yh.mp hb with q|hb
  .rw[q,XJ fT];show f0
  .let q:b=it:=by simpa using hb
   let⟨o,eo,_⟩:=hit;rwa[q,XJ (Nf it o eo)]
 done:=by
  intro X hP hw hK hc i pins s σ H E I hf st hg;subst hP hw hK;let⟨xs,hq,hx⟩:=hg;let⟨⟨old,he⟩,hit⟩:=st;let⟨XX,rv,p,hz⟩:=I.list hq;let⟨g0,g1,g2,g3,g4,g5⟩:=hf it B;let hl:=rv.length
  show wpAny_pyNext_enum_end (I.ok.hd hc) he hit p.isList (by simp;lia) λh' eb=>⟨Z,I.turned (t':=s.toks) (it:=it) (λb o hb z=>eb b o hb z) g0 g1 g3 g4 g5⟩
 self:=λ_ _ _ _ _ st h=>by let⟨⟨_,he⟩,_⟩:=st;show wpAny_pyIter_enum he h
def qf{elts:List Expr}{x1:Nat}{RI:Pos}{a:Expr}{ta:TA}{p pos:Pos}(hg:Gl X "enumerate")(hm:X.mg "enumerate"=none)(ha:PA X [a] ta)(hs:starEach [a] X.env=[(false,eval a X.env)]:=by rfl):
  PI X (.Tuple elts x1 RI) (.Call (.Name "enumerate" p) [a] [] pos) (CL X.K ta):=by
 intro pins s σ H R I h;show Call_ (PV I hg hm Boot.«enumerate»<|Ji (thn (ha pos pins s σ H _ I h) λus s1 Xv=>?_) hs Z);let⟨vs,H1,I1,r1,q1⟩:=Xv;let⟨b,e,⟨xs,hq⟩,q⟩:=q1;subst e;let⟨u,rfl,ru⟩:=Sy r1;let rfl:u=Value.ref b:=ru;let⟨XX,rv,pl,hz⟩:=I1.list hq;show call_enumerate_list pl.isList λh' he hit hsz hk=>?_;let I2:Inv X pins σ H1 {s1 with heap:=h'}:=I1.kept (t':=s1.toks) hk
 show wpAny_pyIter_enum he ?_;let nn:∀k,(~~~s1)<=k->H1 k=none:=λk hk=>I1.hok.fresh hk
 exists (~~~s1)+1,[(~~~s1)+1,(~~~s1)],_,_,H1,Z,I2,Zl8 b _ _<|Nat.succ_ne_self _,⟨⟨_,he⟩,hit⟩,λc hc=>?_,q;let hle:(~~~s1)<=c:=by
  rcases Yh.mp hc with q|hc
  .rw[q];show Ud _
  .let q:c=(~~~s1):=by simpa using hc
   rw[q];show XN _
 show I1.fpOk hle (nn c hle)
def qd{us:Ag}(r:Vals [kV k,y] us):∃u v,us=[u,v]/\RelV (kV k) u/\RelV y v:=de r
def qc:(V->List V->Hp->VK->Prop):=λx vs H Q=>∃d kvs k y,x=.ref d/\vs=[kV k,y]/\H d=some (.dK kvs)/\kvs.length<sizeLine/\(∀v,Wj kvs k=some v->Q v H)/\(Wj kvs k=none->Q y (upd H d<|.dK<|kvs++[(k,y)]))
def qb:FC X "dict.setdefault" qc:=by
 intro pins s σ H x vs v us Q I rx rv h;let⟨d,kvs,k,y,rfl,rfl,hH,hz,h1,h2⟩:=h;cases rx;let⟨uk,uy,rfl,rk,ry⟩:=qd rv;let⟨z,hd,ws,rel,dd⟩:=OR I.hok hH;show call_meetsIn fh dd.typeIs PySem.F.entry_dict_setdefault (PySem.F.args_dict_setdefault_3 _ _ _) (kt_meets_setdefault (QE X.prog X.w) d (qM rk) hd uy)
  ⟨ws,dd,by rw[<-rel.length];show z,λv' wZ=>?_,λhn h' c8 hs=>?_⟩
 .cases e:Wj kvs k with
  |none=>
   let q:=rel.val k;rw[e,wZ]at q;show False.elim q
  |some w'=>
   let q:=rel.val k;rw[e,wZ]at q;exists w',H,I.tok _,q,h1 w' e
 .let e:Wj kvs k=none:=by
   cases e:Wj kvs k with
   |none=>rfl
   |some w'=>
    let q:=rel.val k;rw[e,hn]at q;show False.elim q
  let he:∃q,h'.get? d=some q:=by let⟨q,_,_,hq,_⟩:=c8;exists q,hq
  exists y,_,qJ (ob:=.dK<|putK kvs k y) I (by rw[hH];show True.intro) hs he<|qI ?_ hd (rel.put k ry) c8,ry,?_
  .have:=Zb6 kvs k y;lia
  .rw[qN y e];show h2 e
def TX(p d:Addr):(HO):=.ext λh=>h.IsValuesView p d
def qa:(V->List V->Hp->VK->Prop):=λx vs H Q=>∃d kvs,x=.ref d/\vs=[]/\H d=some (.dK kvs)/\∀p,H p=none->Q ↑p (upd H p<|TX p d)
def ZE8:FC X "dict.values" qa:=by
 intro pins s σ H x vs v us Q I rx rv h;let⟨d,kvs,rfl,rfl,hH,q⟩:=h;cases rx;cases rv;let⟨z,hd,ws,rel,dd⟩:=OR I.hok hH;show call_meetsIn eM dd.typeIs PySem.F.entry_dict_values (PySem.F.args_dict_values_1 _) (meets_dict_values (QE X.prog X.w) d hd) ⟨⟨ws,dd⟩,?_⟩;exists .ref (~~~s),_,I.laid (o:=TX (~~~s) d) (λb u e=>Xd _ e) (XN _) ?_,Z,q _<|I.hok.fresh<|XN _;let e:=Yq s.heap (o:={cls:=.type "dict_values",data:=.fields #[.ref d]}) rfl
 exists ⟨_,e,Z,Z⟩,⟨_,e⟩,λh1 h2 zz k=>by let⟨o,ho,r⟩:=zz;exists o,k o ho,r
def Ze9{h:Heap}(dd:h.DictOf (QE P w) d ws):∃ep,h.DictAt (QE P w) d ws ep:=by let⟨o,es,ep,r⟩:=dd;exists ep,o,es,r
def p9{κ:Type}{kvs:List (κ×V)}{ws:List (κ×Value)}(h:KV kvs ws):Vals (kvs.map (·.2)) (ws.map (·.2)):=by
 induction h with
 |nil=>show .nil
 |cons r t ih=>show .cons r.2 ih
def ZF3(hc:X.calm=true):Tp X (.type "list") (λxs H Q=>∃p d kvs,xs=[.ref p]/\H p=some (TX p d)/\H d=some (.dK kvs)/\∀l,H l=none->Q ↑l (upd H l (.lst (kvs.map (·.2))))):=by
 intro pins s σ H xs us Q I r h;let⟨p,d,kvs,rfl,hp,hd,q⟩:=h;let⟨u,rfl,ru⟩:=Sy r;let rfl:u=Value.ref p:=ru;let⟨hv,_,_⟩:=(show ObjOk X.prog X.w H s.heap p (TX p d) from I.hok p _ hp);let⟨z,hds,ws,rel,dd⟩:=OR I.hok hd;let⟨ep,da⟩:=Ze9 dd;let hl:ws.length=kvs.length:=rel.length.symm
 show PySem.W.kdl_call (PySem.W.kdl_values (knd:=QE X.prog X.w) (kvs:=ws) (ep:=ep) (r:=p) (d:=d)) (I.ok.hd hc) ⟨hv,da⟩ J λh' tk acc c' hk hS ha=>?_;let ea:acc.toList=ws.map (·.2):=by
  show Nq λi=>?_;cases e:acc.toList[i]? with
  |none=>
   have:ws.length<=i:=by
    have:=uB.mp e
    rwa[Yu,ha.1]at this
   rw[uB.mpr (by rwa[Yb])]
  |some v=>
   let⟨k,ek⟩:=ha.2 i v (by simpa using e);rw[Yp,ek];rfl
 exists .ref (~~~s),_,I.laid (o:=.lst (kvs.map (·.2))) hk (XN _) ⟨by rw[Yb];show z,acc.toList,c',?_,by rw[hS]⟩,Z,q _<|I.hok.fresh<|XN _;rw[ea];show p9 rel
end
inductive EqD(K:Ad)(H:Hp):Nat->V->V->Bool->Prop
 |flat {n:Nat} {x y:V} (fx:Sa x=true) (fy:Sa y=true):EqD K H n x y (Sv x y)
 |lsts {n:Nat} {a b:Addr} {xs ys:List V} {e:Nat->Bool} (ha:SqL K H a xs) (hb:SqL K H b ys) (hl:xs.length=ys.length) (h:∀i x y,xs[i]?=some x->ys[i]?=some y->EqD K H n x y (e i)):EqD K H (n+1) ↑a ↑b ((List.range xs.length).all e)
 |lens {n:Nat} {a b:Addr} {xs ys:List V} (ha:SqL K H a xs) (hb:SqL K H b ys) (hl:xs.length≠ys.length):EqD K H (n+1) ↑a ↑b false
 |tups {n:Nat} {a b:Addr} {xs ys:List V} {e:Nat->Bool} (ha:SqT K H a xs) (hb:SqT K H b ys) (h:∀i x y,xs[i]?=some x->ys[i]?=some y->EqD K H n x y (e i)):
   EqD K H (n+1) ↑a ↑b ((List.range<|min xs.length ys.length).all e&&xs.length == ys.length)
def p8(h:Sa x=true):Sv x x=true:=by cases x<;>first|rfl|(simp[Sv];done)|show absurd (show false=true from h) YE
section
variable{X:Cx}{pins:List (Addr×Obj)}{σ:St}{H:Hp}{s:Shared}
def Vals.at{j:Nat}(r:Vals xs us)(h:j<us.length):∃x,xs[j]?=some x/\RelV x us[j]:=by
 let hl:=r.length;let hx:xs[j]?=some (xs[j]'(by lia)):=Xs DW
 let⟨u,e,ru⟩:=r.get hx;rw[Xs h]at e;cases e;exists _,hx,ru
def EqD.self(q:EqD X.K H n x y b)(I:Inv X pins σ H s):x=y->b=true:=by
 induction q with
 |flat fx fy=>intro e;subst e;show p8 fx
 |@lsts n a b xs ys e ha hb hl h ih=>
  intro z;cases z;let e1:xs=ys:=I.list_inj ha hb
  subst e1;rw[Pr];intro i hi;let hx:xs[i]?=some (xs[i]'(YY.mp hi)):=Xs _
  show ih i _ _ hx hx rfl
 |@lens n a b xs ys ha hb hl=>
  intro z;cases z;show absurd (QP List.length<|I.list_inj ha hb) hl
 |@tups n a b xs ys e ha hb h ih=>
  intro z;cases z;let e1:xs=ys:=I.tuple_inj ha hb
  subst e1;rw[Nat.min_self,Kw,Pr];exists λi hi=>?_,B;let hx:xs[i]?=some (xs[i]'(YY.mp hi)):=Xs _
  show ih i _ _ hx hx rfl
def EqD.at(q:EqD X.K H n x y b)(I:Inv X pins σ H s):∀{A:Around}{u v:Value},A.units+n<cLine->RelV x u->RelV y v->SeqAt.EqAt A s u v b:=by
 induction q with
 |flat fx fy=>intro A u v _ ru rv;show Dh ru rv fx fy
 |@lsts n a b xs ys e ha hb hl h ih=>
  intro A u v hu ru rv;let rfl:u=Value.ref a:=ru;let rfl:v=Value.ref b:=rv;cases Vi:a=b
  .let z:=EqD.self (EqD.lsts ha hb hl h) I (QP V.ref Vi);rw[z,Vi];show SeqAt.EqAt.same _
  let⟨us,rx,px,_⟩:=I.list ha;let⟨vs,ry,py,_⟩:=I.list hb;let l1:=rx.length
  let l2:=ry.length;let z:=SeqAt.RcAt.lists (A:=A) (s:=s) (e:=e) px.isList py.isList (by rw[Ya,Ya];lia) J λj h1 h2=>by let⟨x,ex,OM⟩:=rx.at (j:=j) (by simpa using h1);let⟨y,ey,OL⟩:=ry.at (j:=j) (by simpa using h2);show ih j x y ex ey (A:=A.in1) (by change A.units+1+n<cLine;lia) (by simpa using OM) (by simpa using OL)
  rw[Ya,<-l1]at z;show tQ Vi z
 |@lens n a b xs ys ha hb hl=>
  intro A u v hu ru rv;let rfl:u=Value.ref a:=ru;let rfl:v=Value.ref b:=rv;let⟨us,rx,px,_⟩:=I.list ha;let⟨vs,ry,py,_⟩:=I.list hb;let l1:=rx.length
  let l2:=ry.length;let Vi:a≠b:=λz=>by subst z;show hl (QP List.length<|I.list_inj ha hb)
  show tQ Vi (SeqAt.RcAt.lists_lengths px.isList py.isList (by rw[Ya,Ya];simp;lia) DW)
 |@tups n a b xs ys e ha hb h ih=>
  intro A u v hu ru rv;let rfl:u=Value.ref a:=ru;let rfl:v=Value.ref b:=rv;cases Vi:a=b
  .let z:=EqD.self (EqD.tups ha hb h) I (QP V.ref Vi);rw[z,Vi];show SeqAt.EqAt.same _
  let⟨us,rx,px,_⟩:=I.tuple ha;let⟨vs,ry,py,_⟩:=I.tuple hb;let l1:=rx.length
  let l2:=ry.length;let z:=SeqAt.RcAt.tuples (A:=A) (s:=s) (e:=e) (show s.heap.IsTuple a us.toArray from px) (show s.heap.IsTuple b vs.toArray from py) DW λj h1 h2=>by let⟨x,ex,OM⟩:=rx.at (j:=j) (by simpa using h1);let⟨y,ey,OL⟩:=ry.at (j:=j) (by simpa using h2);show ih j x y ex ey (A:=A.in1) (by change A.units+1+n<cLine;omega) (by simpa using OM) (by simpa using OL)
  rw[Ya,Ya,<-l1,<-l2]at z;show tQ Vi z
end
section
variable{X:Cx}
inductive rEqD(K:Ad)(neg:Bool)(x:V)(y:V)(H:Hp)(Q:VK):Prop
 |mk (n b p q:_) (_:x=.ref p) (_:y=.ref q) (_:n<=6) (_:EqD K H n x y b) (_:Q (.bl<|if neg then !b else b) H)
def p7(hu:X.A.units+8<cLine):Wz X (compareOp .Eq) (rEqD X.K false):=by
 intro pins s σ H x y u v Q I ru rv h;let⟨n,b,p,q,rfl,rfl,hn,d,hq⟩:=h;let rfl:u=Value.ref p:=ru;let rfl:v=Value.ref q:=rv;let fin:EP X pins σ Q (.bool b) s:=⟨.bl b,H,I,Z,hq⟩
 cases d with
 |flat fx fy=>show absurd (show false=true from fx) YE
 |@lsts n _ _ xs ys e ha hb hl h=>
  let⟨us,rx,px,_⟩:=I.list ha;let⟨vs,ry,py,_⟩:=I.list hb;let l1:=rx.length
  let l2:=ry.length;show SeqAt.eq_listAt (e:=e) px.isList py.isList (by rw[Ya,Ya];lia) J (λj h1 h2=>?_) (by rwa[Ya,<-l1]);let⟨x,ex,OM⟩:=rx.at (j:=j) (by simpa using h1);let⟨y,ey,OL⟩:=ry.at (j:=j) (by simpa using h2);show(h j x y ex ey).at I (A:=X.A.in1) (by change X.A.units+1+n<cLine;lia) (by simpa using OM) (by simpa using OL)
 |@lens n _ _ xs ys ha hb hl=>
  let⟨us,rx,px,_⟩:=I.list ha;let⟨vs,ry,py,_⟩:=I.list hb;let l1:=rx.length
  let l2:=ry.length;show SeqAt.eq_list_lengthsAt px.isList py.isList (by rw[Ya,Ya];simp;lia) DW fin
 |@tups n _ _ xs ys e ha hb h=>
  let⟨us,rx,px,_⟩:=I.tuple ha;let⟨vs,ry,py,_⟩:=I.tuple hb;let l1:=rx.length
  let l2:=ry.length;show SeqAt.eq_tupleAt (e:=e) (show s.heap.IsTuple p us.toArray from px) (show s.heap.IsTuple q vs.toArray from py) DW (λj h1 h2=>?_) (by rwa[Ya,Ya,<-l1,<-l2]);let⟨x,ex,OM⟩:=rx.at (j:=j) (by simpa using h1);let⟨y,ey,OL⟩:=ry.at (j:=j) (by simpa using h2);show(h j x y ex ey).at I (A:=X.A.in1) (by change X.A.units+1+n<cLine;omega) (by simpa using OM) (by simpa using OL)
def p6(hu:X.A.units+8<cLine):Wz X (compareOp .NotEq) (rEqD X.K true):=by
 intro pins s σ H x y u v Q I ru rv h;let⟨n,b,p,q,rfl,rfl,hn,d,hq⟩:=h;let rfl:u=Value.ref p:=ru;let rfl:v=Value.ref q:=rv;let fin:EP X pins σ Q (.bool<|!b) s:=⟨.bl<|!b,H,I,Z,hq⟩
 cases d with
 |flat fx fy=>show absurd (show false=true from fx) YE
 |@lsts n _ _ xs ys e ha hb hl h=>
  let⟨us,rx,px,_⟩:=I.list ha;let⟨vs,ry,py,_⟩:=I.list hb;let l1:=rx.length
  let l2:=ry.length;show SeqAt.RcNeAt.lists (e:=e) px.isList py.isList (by rw[Ya,Ya];omega) DW (λj h1 h2=>?_) _ _ _ _ (by rwa[Ya,<-l1]);let⟨x,ex,OM⟩:=rx.at (j:=j) (by simpa using h1);let⟨y,ey,OL⟩:=ry.at (j:=j) (by simpa using h2);show(h j x y ex ey).at I (A:=X.A.in1) (by change X.A.units+1+n<cLine;omega) (by simpa using OM) (by simpa using OL)
 |@lens n _ _ xs ys ha hb hl=>
  let⟨us,rx,px,_⟩:=I.list ha;let⟨vs,ry,py,_⟩:=I.list hb;let l1:=rx.length
  let l2:=ry.length;show SeqAt.RcNeAt.lists_lengths px.isList py.isList (by rw[Ya,Ya];simp;omega) DW _ _ _ _ fin
 |@tups n _ _ xs ys e ha hb h=>
  let⟨us,rx,px,_⟩:=I.tuple ha;let⟨vs,ry,py,_⟩:=I.tuple hb;let l1:=rx.length
  let l2:=ry.length;show SeqAt.RcNeAt.tuples (e:=e) (show s.heap.IsTuple p us.toArray from px) (show s.heap.IsTuple q vs.toArray from py) DW (λj h1 h2=>?_) _ _ _ _ (by rwa[Ya,Ya,<-l1,<-l2]);let⟨x,ex,OM⟩:=rx.at (j:=j) (by simpa using h1);let⟨y,ey,OL⟩:=ry.at (j:=j) (by simpa using h2);show(h j x y ex ey).at I (A:=X.A.in1) (by change X.A.units+1+n<cLine;omega) (by simpa using OM) (by simpa using OL)
end
end L2
namespace My
open PySem L2
abbrev IL(ns:Ac):List V:=ns.map V.int
def Xp(ns:Ac):(IL ns).length=ns.length:=Yb ..
def wN(a b:Ac):IL (a++b)=IL a++IL b:=YQ ..
def ZX(a:Ac)(r:Int):IL (a++[r])=IL a++[.int r]:=YQ ..
def c7(a:Ac)(n:Nat):IL (a.take n)=(IL a).take n:=List.map_take ..
def pZ(a:Ac)(n:Nat):IL (a.drop n)=(IL a).drop n:=List.map_drop ..
def SN{i:Nat}{z:Int}(h:ns[i]?=some z):(IL ns)[i]?=some (.int z):=by rw[Yp,h];rfl
def Um{i:Nat}{x:V}(h:(IL ns)[i]?=some x):∃z,x=.int z/\ns[i]?=some z:=by
 rw[Yp]at h;cases e:ns[i]? with
 |none=>rw[e]at h;cases h
 |some z=>rw[e]at h;exists z,(Yi h).symm,Z
def ZI{a:Addr}(hn:H a=none)(s:Same H H2):Same H (upd H2 a o):=λb u e=>by rw[XJ (Za e hn)];show s b u e
def Zv{p:Addr}(s:Same H H2)(hp:H2 p=none):Same H (upd H2 p o):=ZI (s.free hp) s
def XZ{p:Addr}(hp:H p=none):Same H (upd H p o):=Zv (Same.refl H) hp
def Kh(e:Same H H')(h:SqT K H a xs):SqT K H' a xs:=by
 rcases h with (h|⟨o,h⟩)|h
 .show .inl (.inl<|e _ _ h)
 .show .inl (.inr ⟨o,e _ _ h⟩)
 .show .inr h
def LS{n:Nat}(h:n<=1000000):n<=sizeLine:=Yr h sZ
def Zj{n:Nat}(h:n<=1000000):n<sizeLine:=xO h sZ
def Nc(hr:Room k A):A.units+8<cLine:=xO (Nat.add_le_add_left (by decide:8<=64) _) hr.units
def ZJ{α:Type}{xs:List α}{i:Int}{n:Nat}{x:α}(hi:i=(n:Int))(h:xs[n]?=some x):Wh xs i=some x:=by
 subst hi;let hn:n<xs.length:=(Xy.mp h).1
 unfold Wh OU;rw[if_pos (Int.natCast_nonneg n),if_pos DW];simpa using h
def wM{c A AP:Prop}[Decidable c](hc:c)(h:A):if decide c=true then A else AP:=by rwa[if_pos (Yv hc)]
def HX{c A AP:Prop}[Decidable c](hc:¬c)(h:AP):if decide c=true then A else AP:=by rwa[if_neg (by simp[hc])]
def pW{c A AP:Prop}[Decidable c](hc:c)(h:AP):if (!decide c)=true then A else AP:=by rwa[if_neg (by simp[hc])]
def pV{c A AP:Prop}[Decidable c](hc:¬c)(h:A):if (!decide c)=true then A else AP:=by rwa[if_pos (by simp[hc])]
def WN{c A AP:Prop}[Decidable c](h1:c->A)(h2:¬c->AP):if decide c=true then A else AP:=by
 cases h:c
 .show wM h (h1 h)
 .show HX h (h2 h)
def WH{c A AP:Prop}[Decidable c](h1:c->AP)(h2:¬c->A):if (!decide c)=true then A else AP:=by
 cases h:c
 .show pW h (h1 h)
 .show pV h (h2 h)
def itb{b:Bool}{A AP:Prop}(h1:b=true->A)(h2:b=false->AP):if b=true then A else AP:=by
 cases b with
 |true=>show Th (h1 Z)
 |false=>show iteF (h2 Z)
def HW{b:Bool}{A AP:Prop}(h1:b=true->AP)(h2:b=false->A):if (!b)=true then A else AP:=by
 cases b with
 |true=>show iteF (h1 Z)
 |false=>show Th (h2 Z)
def SqK(k:Bool)(K:Ad)(H:Hp)(a:Addr)(xs:List V):(Prop):=match k with
 |false=>SqL K H a xs
 |true=>SqT K H a xs
def SqK.same(e:Same H H')(h:SqK k K H a xs):SqK k K H' a xs:=by
 cases k with
 |false=>show e.seq h
 |true=>show Kh e h
def SqK.or(h:SqK k K H a xs):SqL K H a xs\/SqT K H a xs:=by
 cases k with
 |false=>show .inl h
 |true=>show .inr h
def CK(K:Ad)(tl:TE):(TI):=λσ H R=>tl σ H λx H1=>∃a,x=.ref a/\(((∃xs,SqL K H1 a xs)/\R (Pa K a) H1)\/((∃xs,SqT K H1 a xs)/\R (OZ K a) H1))
def HV(hl:PE X l tl):PI X tg l (CK X.K tl):=by
 intro pins s σ H R I h;show thn (hl pins s σ H _ I h) λv s1 Xv=>?_;let⟨x,H1,I1,r1,q1⟩:=Xv;let⟨a,e,q⟩:=q1;subst e;cases r1;rcases q with ⟨⟨xs,hq⟩,q⟩|⟨⟨xs,hq⟩,q⟩
 .let⟨XX,rv,p,hz⟩:=I1.list hq;show tH p.isList ?_;exists (~~~s1),[(~~~s1)],_,_,H1,Z,I1.kept (t':=s1.toks) λb o e=>Xd _ e,DJ a _,⟨_,Yq _ Z,Z,Z⟩,λb hb=>?_,q;let e:b=(~~~s1):=by simpa using hb
  subst e;show I1.fpOk (XN _) (I1.hok.fresh<|XN _)
 .let⟨XX,rv,p,hz⟩:=I1.tuple hq;show wpAny_pyIter_tuple (show s1.heap.IsTuple a XX.toArray from p) ?_;exists (~~~s1),[(~~~s1)],_,_,H1,Z,I1.kept (t':=s1.toks) λb o e=>Xd _ e,dN a _,⟨_,Yq _ Z,Z,Z⟩,λb hb=>?_,q;let e:b=(~~~s1):=by simpa using hb
  subst e;show I1.fpOk (XN _) (I1.hok.fresh<|XN _)
def wL{g:TG}{tb:TS}{D:Ends}(Pv:Nat->St->Hp->Prop)(h0:Pv 0 σ H)(hl:∀i σ H,i<=xs.length->Pv i σ H->SqK k K H a xs)
  (hs:∀i x σ H,xs[i]?=some x->Pv i σ H->g x σ H λσ2 H2=>tb {D with nx:=Pv<|i+1,ct:=Pv<|i+1,bk:=D.nx} σ2 H2)(hd:∀σ H,Pv xs.length σ H->D.nx σ H):((∃xs,SqL K H a xs)/\∃W:Nat->Nat->St->Hp->Prop,(∃m,W 0 m σ H)/\∀i m σ H,W i m σ H->
   ((Pa K a).stop i H/\D.nx σ H)\/((Pa K a).go i H/\∃N:St->Hp->Prop,(∀σ' H',N σ' H'->∃m',m'<m/\W (i+1) m' σ' H')/\∀x H',(Pa K a).yld i H x H'->g x σ H' λσ2 H2=>tb {D with nx:=N,ct:=N,bk:=D.nx} σ2 H2))\/
  ((∃xs,SqT K H a xs)/\∃W:Nat->Nat->St->Hp->Prop,(∃m,W 0 m σ H)/\∀i m σ H,W i m σ H->
   ((OZ K a).stop i H/\D.nx σ H)\/((OZ K a).go i H/\∃N:St->Hp->Prop,(∀σ' H',N σ' H'->∃m',m'<m/\W (i+1) m' σ' H')/\∀x H',(OZ K a).yld i H x H'->g x σ H' λσ2 H2=>tb {D with nx:=N,ct:=N,bk:=D.nx} σ2 H2)):=by
 cases k with
 |false=>show .inl ⟨⟨xs,hl 0 σ H (Ym _) h0⟩,w5 (K:=K) (a:=a) (xs:=xs) Pv h0 hl hs hd⟩
 |true=>show .inr ⟨⟨xs,hl 0 σ H (Ym _) h0⟩,rR (K:=K) (a:=a) (xs:=xs) Pv h0 hl hs hd⟩
def PairV(H:Hp)(v:V)(p:Int×Int):(Prop):=∃t,v=.ref t/\H t=some (.tup [.int p.1,.int p.2])
def PairsV(H:Hp)(xs:List V)(ps:Aa):(Prop):=xs.length=ps.length/\∀(i:Nat)(p:Int×Int),ps[i]?=some p->∃v,xs[i]?=some v/\PairV H v p
def PairV.same(s:Same H H')(h:PairV H v p):PairV H' v p:=by let⟨t,e,q⟩:=h;exists t,e,s _ _ q
def PairsV.same(s:Same H H')(h:PairsV H xs ps):PairsV H' xs ps:=⟨h.1,λi p e=>by let⟨v,e1,q⟩:=h.2 i p e;exists v,e1,q.same s⟩
def PairsV.at(h:PairsV H xs ps){i:Nat}{v:V}(e:xs[i]?=some v):∃p,ps[i]?=some p/\PairV H v p:=by
 let hi:i<xs.length:=(Xy.mp e).1;let hp:i<ps.length:=by rwa[<-h.1]
 let⟨v',e1,q⟩:=h.2 i ps[i] (Xs hp);rw[e]at e1;cases e1;exists _,Xs hp,q
def PairsV.nil:PairsV H [] []:=⟨Z,λi p e=>by simp at e⟩
def PairsV.snoc(h:PairsV H xs ps)(q:PairV H v p):PairsV H (xs++[v]) (ps++[p]):=by
 show⟨by rw[Xw,Xw,h.1];rfl,λi p' e=>?_⟩;cases hi:i<ps.length
 .rw[Yn hi]at e;rw[Yn (by rwa[h.1])];show h.2 i p' e
 .let hl:i=ps.length:=by
   have:=(Xy.mp e).1
   rw[Xw,Yt]at this;lia
  subst hl;rw[Yk (XN _),Nn]at e;rw[Yk (by rw[h.1];show XN _),h.1,Nn];let e':p=p':=Yi e
  subst e';exists v,Z,q
def PairsV.app(h:PairsV H xs ps)(h2:PairsV H ys qs):PairsV H (xs++ys) (ps++qs):=by
 show⟨by rw[Xw,Xw,h.1,h2.1],λi p e=>?_⟩;cases hi:i<ps.length
 .rw[Yn hi]at e;rw[Yn (by rwa[h.1])];show h.2 i p e
 .rw[Yk J]at e;rw[Yk (by rw[h.1];omega),h.1];show h2.2 _ p e
def pU:¬(("places":Str)="ties"):=by decide +kernel
def wf(n:Int)(tl:Addr):(List (Str×V)):=XO "ties" ↑tl (XO "places" (.int n) [])
def HU(n:Int)(tl:Addr):(wf n tl).lookup ("places":Str)=some (.int n):=by unfold wf;rw[Dx,if_neg pU,Dx,if_pos Z]
def OK(n:Int)(tl:Addr):(wf n tl).lookup ("ties":Str)=some ↑tl:=by unfold wf;rw[Dx,if_pos Z]
def WebAt(C:Addr)(H:Hp)(w:Addr)(n:Int)(ps:Aa):(Prop):=∃dx tl xs,H w=some (.ins C dx<|wf n tl)/\H tl=some (.lst xs)/\PairsV H xs ps
def WebAt.same(s:Same H H')(h:WebAt C H w n ps):WebAt C H' w n ps:=by let⟨dx,tl,xs,a,b,c⟩:=h;exists dx,tl,xs,s _ _ a,s _ _ b,c.same s
def Zu(n:Int)(ps:Aa):(Prop):=1<=n/\n<=14/\ps.length<=30/\∀p∈ps,0<=p.1/\p.1<n/\0<=p.2/\p.2<n
def c6(K:Ad)(mg:Af)(x qual:Str)(st:Stmt)(fs:List Str):(Prop):=∃C f fd,mg x=some ↑C/\Fun K "__init__" qual st f fd/\Cls K C/\Mk K C f/\∀a∈fs,NoAttr K C a
def CJ{mg:Af}{oc:Value}{od an:Option Addr}{Ti:Array (Option Value)}{kV doc pm XC ct:Value}(X:K.In h)(G:h.Ns mainGlobals mg)
  (aC:PySem.W.nsIn K mainGlobals x=some (some<|.ref C))(a:PySem.W.findIn K ↑C "__init__"=some (some<|.ref f))(i:PySem.W.isFn K ↑f=true)
  (l:K.lookup f=some ⟨oc,od,.func<|PySem.W.fnOf "__init__" qual (Kj st) (ZY st) (Xe st) .none kV doc pm an XC ct,Ti⟩)(c:PySem.W.codeIn K XC qual=true)(k:PySem.W.keepIn K ↑f=true)
  (pg:PySem.W.plainGet K C Str.empty=true)(hd:PySem.W.hasDictIn K C=true)(po:PySem.W.plainOver K C=true)(sa:PySem.W.findIn K ↑C "__setattr__"=some (some<|.builtin "object.__setattr__"))(mk:PySem.W.makesIn K C=true)(kc:PySem.W.keepIn K ↑C=true)
  (na:∀a∈fs,PySem.W.findIn K ↑C a=some none):c6 K mg x qual st fs:=
 ⟨C,f,_,Kt X G aC,LW l c k,⟨pg,hd,po,sa⟩,⟨mk,a,i,kc⟩,na⟩
def Ss{mg:Af}{z:Int}{v:Value}(X:K.In h)(G:h.Ns mainGlobals mg)(a:PySem.W.nsIn K mainGlobals x=some (some v))(e:∃tk,v=.int z tk):∃tk,mg x=some (.int z tk):=by let⟨tk,rfl⟩:=e;exists tk,Kt X G a
def cZ{x:V}{A AP:St->Hp->Prop}(h:A (σ.set i (some x)) H):Tq i x σ H λσ2 H2=>tYes σ2 H2 λb H3=>if b=true then A σ2 H3 else AP σ2 H3:=
 (show if true=true then A (σ.set i<|some x) H else AP (σ.set i<|some x) H from Th h)
def nm{x:V}{Q:St->Hp->Prop}(h:Q (σ.set i (some x)) H):Tq i x σ H Q:=h
section
variable{K:Ad}{a:Addr}{xs:List V}{g:TG}{tt:TT}{te:TE}{o:Nat}{fr:List Nat}{σ:St}{H:Hp}{Q:VK}
abbrev Fy(Pv:Nat->List V->Hp->Prop)(g:TG)(tt:TT)(te:TE)(o:Nat)(fr:List Nat)(σ:St)(i:Nat)(x:V)(ys:List V)(H:Hp):Prop:=
 ∀S:Nat->List V->Hp->Prop,(∀ys H,Pv (i+1) ys H->S (i+1) ys H)->g x (σC o fr σ) H λσ2 H2=>tt σ2 H2 λb H3=>if b=true then te σ2 H3 λy H4=>S (i+1) (ys++[y]) H4 else S (i+1) ys H3
def Nb(Pv:Nat->List V->Hp->Prop)(h0:Pv 0 [] H)(hz:xs.length<sizeLine)(hl:∀i ys H,i<=xs.length->Pv i ys H->SqL K H a xs/\ys.length<=i)
  (hs:∀i x ys H,xs[i]?=some x->Pv i ys H->Fy Pv g tt te o fr σ i x ys H)(hd:∀ys H,Pv xs.length ys H->∀p,H p=none->Q ↑p (upd H p<|.lst ys)):Ki (Pa K a) g tt te o fr σ H Q:=by
 exists λi m ys H=>m=xs.length-i/\i<=xs.length/\Pv i ys H,⟨xs.length,B,Ym _,h0⟩,?_;rintro i m ys H ⟨rfl,hi,p⟩;let⟨q,hy⟩:=hl i ys H hi p;cases Xm:i<xs.length
 .show .inr ⟨⟨xs,xs[i],q,by simp[Xm]⟩,J,λx H' zz=>?_⟩;let⟨e,y⟩:=zz;subst e;let hx:=y xs q
  show hs i x ys _ hx p (λj ys H=>∃m',m'<xs.length-i/\m'=xs.length-j/\j<=xs.length/\Pv j ys H) λys H p'=>⟨xs.length-(i+1),sV,Z,Xm,p'⟩
 .let e:i=xs.length:=J;subst e;show .inl ⟨⟨xs,q,XN _⟩,J,hd ys H p⟩
def wK(Pv:Nat->List V->Hp->Prop)(h0:Pv 0 [] H)(hz:xs.length<sizeLine)(hl:∀i ys H,i<=xs.length->Pv i ys H->SqT K H a xs/\ys.length<=i)
  (hs:∀i x ys H,xs[i]?=some x->Pv i ys H->Fy Pv g tt te o fr σ i x ys H)(hd:∀ys H,Pv xs.length ys H->∀p,H p=none->Q ↑p (upd H p<|.lst ys)):Ki (OZ K a) g tt te o fr σ H Q:=by
 exists λi m ys H=>m=xs.length-i/\i<=xs.length/\Pv i ys H,⟨xs.length,B,Ym _,h0⟩,?_;rintro i m ys H ⟨rfl,hi,p⟩;let⟨q,hy⟩:=hl i ys H hi p;cases Xm:i<xs.length
 .show .inr ⟨⟨xs,xs[i],q,by simp[Xm]⟩,DW,λx H' zz=>?_⟩;let⟨e,y⟩:=zz;subst e;let hx:=y xs q
  show hs i x ys _ hx p (λj ys H=>∃m',m'<xs.length-i/\m'=xs.length-j/\j<=xs.length/\Pv j ys H) λys H p'=>⟨xs.length-(i+1),DW,Z,Xm,p'⟩
 .let e:i=xs.length:=DW;subst e;show .inl ⟨⟨xs,q,XN _⟩,DW,hd ys H p⟩
def wJ(Pv:Nat->List V->Hp->Prop)(h0:Pv 0 [] H)(hz:xs.length<sizeLine)(hl:∀i ys H,i<=xs.length->Pv i ys H->SqK k K H a xs/\ys.length<=i)
  (hs:∀i x ys H,xs[i]?=some x->Pv i ys H->Fy Pv g tt te o fr σ i x ys H)(hd:∀ys H,Pv xs.length ys H->∀p,H p=none->Q ↑p (upd H p<|.lst ys)):
  ((∃xs,SqL K H a xs)/\Ki (Pa K a) g tt te o fr σ H Q)\/((∃xs,SqT K H a xs)/\Ki (OZ K a) g tt te o fr σ H Q):=by
 cases k with
 |false=>show .inl ⟨⟨xs,(hl 0 [] H (Ym _) h0).1⟩,Nb Pv h0 hz hl hs hd⟩
 |true=>show .inr ⟨⟨xs,(hl 0 [] H (Ym _) h0).1⟩,wK Pv h0 hz hl hs hd⟩
def cW(Pv:Nat->List V->Hp->Prop)(h0:Pv 0 [] H)(hz:n<sizeLine)(hl:∀i ys H,i<=n->Pv i ys H->ys.length<=i)
  (hs:∀i ys H,i<n->Pv i ys H->Fy Pv g tt te o fr σ i (.int<|lo+i) ys H)(hd:∀ys H,Pv n ys H->∀p,H p=none->Q ↑p (upd H p<|.lst ys)):Ki (Iy lo n) g tt te o fr σ H Q:=by
 exists λi m ys H=>m=n-i/\i<=n/\Pv i ys H,⟨n,B,Ym _,h0⟩,?_;rintro i m ys H ⟨rfl,hi,p⟩;let hy:=hl i ys H hi p
 cases Xm:i<n
 .show .inr ⟨Xm,J,λx H' zz=>?_⟩;let⟨e,y⟩:=zz;subst e;subst y;show hs i ys _ Xm p (λj ys H=>∃m',m'<n-i/\m'=n-j/\j<=n/\Pv j ys H) λys H p'=>⟨n-(i+1),sV,Z,Xm,p'⟩
 .let e:i=n:=J;subst e;show .inl ⟨XN _,J,hd ys H p⟩
end
def Fx{α:Type}{l:List α}(h:l.Nodup){i j:Nat}{x:α}(a:l[i]?=some x)(b:l[j]?=some x):i=j:=by let⟨h1,e1⟩:=Xy.mp a;let⟨h2,e2⟩:=Xy.mp b;show(List.getElem_inj h).mp (e1.trans e2.symm)
def ZS{α:Type}{l:List α}{x d:α}(h:l[i]?=some x):l.getD i d=x:=by rw[Ws,h];rfl
def cV{α:Type}{l:List α}{x:α}(h:l.Nodup)(hx:x∉l):(l++[x]).Nodup:=by rw[Wg];exists h,B,λa ha b hb=>?_;rw[XG]at hb;subst hb;rintro rfl;show hx ha
def wI{g:TG}{tb:TS}{D:Ends}(Pv:Nat->St->Hp->Prop)(h0:Pv 0 σ H)(hl:∀i σ H,i<=xs.length->Pv i σ H->SqL K H a xs)
  (hs:∀(i:Nat) x σ H (p:Addr),H p=none->xs[i]?=some x->Pv i σ H->g ↑p σ (upd H p<|.tup [.int i,x]) λσ2 H2=>tb {D with nx:=Pv<|i+1,ct:=Pv<|i+1,bk:=D.nx} σ2 H2)(hd:∀σ H,Pv xs.length σ H->D.nx σ H):
  ∃W:Nat->Nat->St->Hp->Prop,(∃m,W 0 m σ H)/\∀i m σ H,W i m σ H->
   ((Fz K a).stop i H/\D.nx σ H)\/((Fz K a).go i H/\∃N:St->Hp->Prop,(∀σ' H',N σ' H'->∃m',m'<m/\W (i+1) m' σ' H')/\∀x H',(Fz K a).yld i H x H'->g x σ H' λσ2 H2=>tb {D with nx:=N,ct:=N,bk:=D.nx} σ2 H2):=by
 exists λi m σ H=>m=xs.length-i/\i<=xs.length/\Pv i σ H,⟨xs.length,B,Ym _,h0⟩,?_;rintro i m σ H ⟨rfl,hi,p⟩;let q:=hl i σ H hi p
 cases Xm:i<xs.length
 .show .inr ⟨⟨xs,xs[i],q,by simp[Xm]⟩,Pv<|i+1,λσ' H' p'=>⟨xs.length-(i+1),DW,Z,Xm,p'⟩,λx H' zz=>?_⟩;let⟨T,y,hT,ex,eH,hy⟩:=zz;subst ex eH;show hs i y σ H T hT (hy xs q) p
 .let e:i=xs.length:=J;subst e;show .inl ⟨⟨xs,q,XN _⟩,hd σ H p⟩
end My
namespace L2
open PySem PySem.Spec PyProof.Rows
section
variable{X:Cx}{a o e:Expr}{es:List Expr}{ta to:TE}{t:TA}{pos:Pos}
def Zd(K:Ad)(h:X.K=K:=by rfl):Dk X (rIxL K):=h▸q8
def ZE(K:Ad)(h:X.K=K:=by rfl):Dk X (rIxT K):=h▸Dj
def LR(K:Ad)(h:X.K=K:=by rfl):q9 X (rSlL K):=h▸qZ
def Kg(K:Ad)(h:X.K=K:=by rfl):Wz X (compareOp .In) (λx y H Q=>∃p xs,y=.ref p/\(SqL K H p xs\/SqT K H p xs)/\Sa x=true/\xs.all Sa=true/\Q (.bl<|FE x xs) H):=h▸ZA8
def HS(K:Ad)(h:X.K=K:=by rfl):Wz X (compareOp .NotIn) (λx y H Q=>∃p xs,y=.ref p/\(SqL K H p xs\/SqT K H p xs)/\Sa x=true/\xs.all Sa=true/\Q (.bl<|!FE x xs) H):=h▸Yz4
def OJ(K:Ad)(hu:X.A.units+8<cLine)(h:X.K=K:=by rfl):Wz X (compareOp .Eq) (rEqD K false):=h▸p7 hu
def wH(K:Ad)(hu:X.A.units+8<cLine)(h:X.K=K:=by rfl):Wz X (compareOp .NotEq) (rEqD K true):=h▸p6 hu
def CI(K:Ad)(h:X.K=K:=by rfl):Wz X (binaryOp .Add) (Dp K):=h▸Dn
def Zl(K:Ad)(he:PE X e ta)(hb:attributeBase e f X.env (eval e X.env)=eval e X.env)(h:X.K=K:=by rfl):PE X (.Attribute e f pos) (Du K ta f):=h▸rC he hb
def Zk(K:Ad)(h:X.K=K:=by rfl):Tp X (.builtin "len") (yR0 K):=h▸ZO4
def Fw(K:Ad)(h:X.K=K:=by rfl):Tp X (.type "list") (λxs H Q=>∃p ys,xs=[.ref p]/\(SqL K H p ys\/SqT K H p ys)/\∀l,H l=none->Q ↑l (upd H l<|.lst ys)):=h▸ZN4
def ZN(K:Ad)(h:X.K=K:=by rfl):Tp X (.type "tuple") (λxs H Q=>∃p ys,xs=[.ref p]/\((SqL K H p ys/\∀l,H l=none->Q ↑l (upd H l<|.tup ys))\/(SqT K H p ys/\Q ↑p H))):=h▸Zh4
def ZU(K:Ad)(hl:PE X l tl)(h:X.K=K:=by rfl):PI X tg l (DI K tl):=h▸r6 hl
def CH(K:Ad)(hl:PE X l tl)(h:X.K=K:=by rfl):PI X tg l (DH K tl):=h▸rZ hl
def Kf(K:Ad)(hl:PE X l tl)(h:X.K=K:=by rfl):PI X tg l (My.CK K tl):=h▸My.HV hl
def LQ(K:Ad){elts:List Expr}{x1:Nat}{RI:Pos}{a:Expr}{ta:TA}{p pos:Pos}(hg:Gl X "enumerate")(hm:X.mg "enumerate"=none)(ha:PA X [a] ta)(hs:starEach [a] X.env=[(false,eval a X.env)]:=by rfl)(h:X.K=K:=by rfl):
  PI X (.Tuple elts x1 RI) (.Call (.Name "enumerate" p) [a] [] pos) (CL K ta):=h▸qf hg hm ha hs
def VE(K:Ad){es:List Expr}{k:Nat}{t:IA}{n:Nat}(hc:X.calm=true)(ht:DN X es t)
  (hn:(assignEach es X.env).length=n:=by rfl)(WV:(assignEach es X.env).findIdx? (·.1)=none:=by rfl)(h:X.K=K:=by rfl):PG X (.Tuple es k pos) (gTup K n t):=h▸sr hc ht hn WV
def OI(K:Ad){name:Str}{apos Xj:Pos}{T id:String}{r:V->List V->Hp->VK->Prop}(pa:PlainAttrs T)(slot:Slot T name id)(Ig:typeOf (.builtin id)=pure (.type "method_descriptor"))(hm:wU X id r)(ho:PE X o to)(ha:PA X (e::es) t)
  (UO:attributeBase o name X.env (eval o X.env)=eval o X.env:=by rfl)
  (Ie:((backTo Xj<|starEach (e::es) X.env).all (λx=>!x.1)&&(backToKw Xj<|keywordEach [] X.env).all (λx=>x.1.isSome)
   && decide ((e::es).length+([]:List Keyword).length+(if ([]:List Keyword).isEmpty then 0 else 1)<30))=true:=by rfl)
  (UN:(apos.endLine == Xj.line)=true:=by rfl)(hs:starEach (e::es) X.env=(false,eval e X.env)::starEach es X.env:=by rfl)(UM:(backTo Xj<|starEach es X.env).any (·.1)=false:=by rfl)(h:X.K=K:=by rfl):
  PE X (.Call (.Attribute o name apos) (e::es) [] Xj) (du K T r to t):=h▸qW pa slot Ig hm ho ha UO Ie UN hs UM
def pT(K:Ad){name:Str}{apos Xj:Pos}{T id:String}{r:V->List V->Hp->VK->Prop}(pa:PlainAttrs T)(slot:Slot T name id)(Ig:typeOf (.builtin id)=pure (.type "method_descriptor"))(hm:wU X id r)(ho:PE X o to)
  (UO:attributeBase o name X.env (eval o X.env)=eval o X.env:=by rfl)(UN:(apos.endLine == Xj.line)=true:=by rfl)(h:X.K=K:=by rfl):PE X (.Call (.Attribute o name apos) [] [] Xj) (Dc K T r to):=h▸qX pa slot Ig hm ho UO UN
end
end L2
namespace My
abbrev mk(m:Ac)(i:Nat):Int:=m.getD i 0
def pm(m:Ac)(a b:Nat):(Ac):=
 if min (mk m a) (mk m b)<max (mk m a) (mk m b) then m.map (λk=>if k=max (mk m a) (mk m b) then min (mk m a) (mk m b) else k) else m
def lm(m:Ac)(a b:Nat):(Ac):=
 if mk m a≠mk m b then m.map (λk=>if k=mk m b then mk m a else k) else m
def SameP(m l:Ac):(Prop):=m.length=l.length/\∀i j,i<m.length->j<m.length->(mk m i=mk m j↔mk l i=mk l j)
def wG(m:Ac)(f:Int->Int)(h:i<m.length):mk (m.map f) i=f (mk m i):=by simp[mk,Ws,Yp,Xs h]
def OH(m:Ac)(a b:Nat):(pm m a b).length=m.length:=by unfold pm;split<;>simp
def wF(m:Ac)(a b:Nat):(lm m a b).length=m.length:=by unfold lm;split<;>simp
def Fv(m:Ac)(a b i j:Nat):(Prop):=mk m i=mk m j\/((mk m i=mk m a\/mk m i=mk m b)/\(mk m j=mk m a\/mk m j=mk m b))
def HR{x y p q:Int}:((if x=q then p else x)=(if y=q then p else y))↔(x=y\/((x=p\/x=q)/\(y=p\/y=q))):=by grind
def cU{x y p:Int}:x=y↔(x=y\/((x=p\/x=p)/\(y=p\/y=p))):=⟨.inl,λh=>h.elim id λh=>(h.1.elim id id).trans (h.2.elim id id).symm⟩
def pS(hi:i<m.length)(hj:j<m.length):mk (pm m a b) i=mk (pm m a b) j↔Fv m a b i j:=by
 unfold pm Fv;split
 .rename_i h;rw[wG _ _ hi,wG _ _ hj];cases wD:mk m a<mk m b
  .rw[tL (IW wD),tS (IW wD)];show HR
  .rw[tT (Eh.mp wD),tK<|Eh.mp wD,Or.comm (a:=mk m i=mk m a),Or.comm (a:=mk m j=mk m a)];show HR
 .rename_i h;let hh:=Eh.mp h
  rw[show mk m a=mk m b from Int.le_antisymm (FK (Int.le_max_left _ _)<|FK hh<|Int.min_le_right _ _) (FK (Int.le_max_right _ _)<|FK hh<|Int.min_le_left _ _)];show cU
def CG(hi:i<m.length)(hj:j<m.length):mk (lm m a b) i=mk (lm m a b) j↔Fv m a b i j:=by
 unfold lm Fv;split
 .rename_i h;rw[wG _ _ hi,wG _ _ hj];show HR
 .rename_i h;rw[show mk m a=mk m b from Classical.not_not.mp h];show cU
def SameP.step{m l:Ac}(s:SameP m l){a b:Nat}(ha:a<m.length)(hb:b<m.length):SameP (pm m a b) (lm l a b):=by let⟨hl,h⟩:=s;show⟨by rw[OH,wF,hl],λi j hi hj=>?_⟩;rw[OH]at hi hj;rw[pS hi hj,CG DW DW];unfold Fv;rw[h i j hi hj,h i a hi ha,h i b hi hb,h j a hj ha,h j b hj hb]
def Xz(n:Nat)(es:List (Nat×Nat)):(Ac):=es.foldl (λm e=>pm m e.1 e.2) ((List.range n).map λ(i:Nat)=>(i:Int))
def WX(n:Nat)(es:List (Nat×Nat)):(Ac):=es.foldl (λm e=>lm m e.1 e.2) ((List.range n).map λ(i:Nat)=>(i:Int))
def Zw(n:Nat)(es:List (Nat×Nat)):(Xz n es).length=n:=by
 have:∀(es:List (Nat×Nat))(m:Ac),(es.foldl (λm e=>pm m e.1 e.2) m).length=m.length:=by
  intro es
  induction es with
  |nil=>intro m;rfl
  |cons e es ih=>intro m;rw[Ep,ih,OH]
 unfold Xz;rw[this];simp
def ZA(n:Nat)(es:List (Nat×Nat)):(WX n es).length=n:=by
 have:∀(es:List (Nat×Nat))(m:Ac),(es.foldl (λm e=>lm m e.1 e.2) m).length=m.length:=by
  intro es
  induction es with
  |nil=>intro m;rfl
  |cons e es ih=>intro m;rw[Ep,ih,wF]
 unfold WX;rw[this];simp
def pR(n:Nat)(es:List (Nat×Nat))(e:Nat×Nat):Xz n (es++[e])=pm (Xz n es) e.1 e.2:=by unfold Xz;rw[xM];rfl
def Na(n:Nat)(es:List (Nat×Nat))(e:Nat×Nat):WX n (es++[e])=lm (WX n es) e.1 e.2:=by unfold WX;rw[xM];rfl
def wC:∀{es:List (Nat×Nat)},(∀e∈es,e.1<n/\e.2<n)->SameP (Xz n es) (WX n es):=by
 intro es;let key:∀(es:List (Nat×Nat))(m l:Ac),SameP m l->m.length=n->(∀e∈es,e.1<n/\e.2<n)->SameP (es.foldl (λm e=>pm m e.1 e.2) m) (es.foldl (λm e=>lm m e.1 e.2) l):=by
  intro es
  induction es with
  |nil=>intro m l s _ _;show s
  |cons e es ih=>
   intro m l s hm he;let h1:=he e Yc
   show ih _ _ (s.step DW DW) (by rwa[OH]) λx hx=>he x (Ye _ hx)
 show key es _ _ ⟨Z,λi j _ _=>Iff.rfl⟩ B
def RE(g:List (Int×Ac))(place k:Int):(List (Int×Ac)):=
 if k∈g.map (·.1) then g.map (λkv=>if kv.1=k then (kv.1,kv.2++[place]) else kv) else g++[(k,[place])]
def Xt(M:Ac):(Nat->List (Int×Ac))
 |0=>[]
 |i+1=>RE (Xt M i) (i:Int) (mk M i)
def HQ(M:Ac):(List (Int×Ac)):=Xt M M.length
def LP(g:List (Int×Ac))(p k:Int):(RE g p k).map (·.1)=if k∈g.map (·.1) then g.map (·.1) else g.map (·.1)++[k]:=by
 unfold RE;split
 .rw[Ms];show VL λkv _=>?_;change(if kv.1=k then (kv.1,kv.2++[p]) else kv).1=kv.1
  split<;>rfl
 .simp
def Zc6(h:(g.map (·.1)).Nodup):((RE g p k).map (·.1)).Nodup:=by
 rw[LP];split
 .show h
 .rename_i hk;rw[Wg];exists h,B,λa ha b hb=>?_;rw[XG]at hb;subst hb;rintro rfl;show hk ha
def pQ(M:Ac):∀i,((Xt M i).map (·.1)).Nodup
 |0=>by simp[Xt]
 |i+1=>Zc6 (pQ M i)
def UK(M:Ac):∀i kv,kv∈Xt M i->∀z:Int,z∈kv.2↔(0<=z/\z<(i:Int)/\mk M z.toNat=kv.1)
 |0,kv,h,z=>by simp[Xt]at h
 |i+1,kv,h,z=>by
  unfold Xt RE at h;split at h
  .rename_i hk;let⟨wB,h0,e⟩:=YN.mp h;let ih:=UK M i wB h0 z
   cases hc:wB.1=mk M i
   .rw[if_pos hc]at e;subst e;rw[XA,ih,XG];constructor
    .rintro(⟨a,b,c⟩|rfl)
     .exists a,J,c
     .exists J,J,by simpa using hc.symm
    .rintro⟨a,b,c⟩;cases hz:z<(i:Int)
     .show .inl ⟨a,hz,c⟩
     .show .inr J
   .rw[if_neg hc]at e;subst e;rw[ih];constructor
    .rintro⟨a,b,c⟩;exists a,DW,c
    .rintro⟨a,b,c⟩;exists a,?_,c;cases hz:z<(i:Int)
     .show hz
     .let e:z.toNat=i:=sV;rw[e]at c;show absurd c.symm hc
  .rename_i hk;rcases XA.mp h with h0|h0
   .let ih:=UK M i kv h0 z;rw[ih];constructor
    .rintro⟨a,b,c⟩;exists a,J,c
    .rintro⟨a,b,c⟩;exists a,?_,c;cases hz:z<(i:Int)
     .show hz
     .let e:z.toNat=i:=sV;rw[e]at c;show absurd (YN.mpr ⟨kv,h0,c.symm⟩) hk
   .rw[XG]at h0;subst h0;simp only[XG];constructor
    .rintro rfl;exists J,J,B
    .rintro⟨a,b,c⟩;cases hz:z<(i:Int)
     .exfalso;let key:=grpA_key M i z.toNat J
      rw[c]at key;show hk key
     .lia
where
 grpA_key (M:Ac):∀i j,j<i->mk M j∈(Xt M i).map (·.1)
  |0,j,h=>absurd h (Sf j)
  |i+1,j,h=>by
   change mk M j∈(RE (Xt M i) (i:Int)<|mk M i).map (·.1);rw[LP];cases hj:j<i
   .have:=grpA_key M i j hj
    split
    .show this
    .show Yf _ this
   .let e:j=i:=J;subst e;split
    .assumption
    .simp
def grpA_key(h:j<i):mk M j∈(Xt M i).map (·.1):=UK.grpA_key M i j h
def wA(M:Ac):∀i k,k∈(Xt M i).map (·.1)->∃j,j<i/\mk M j=k
 |0,k,h=>by simp[Xt]at h
 |i+1,k,h=>by
  let h:k∈(RE (Xt M i) (i:Int)<|mk M i).map (·.1):=h;rw[LP]at h;let old:k∈(Xt M i).map (·.1)->∃j,j<i+1/\mk M j=k:=λq=>by let⟨j,hj,e⟩:=wA M i k q;exists j,J,e
  split at h
  .show old h
  .rcases XA.mp h with q|q
   .show old q
   .rw[XG]at q;exists i,J,q.symm
def cT(hM:1<=M.length):(HQ M).length=1↔∀i j,i<M.length->j<M.length->mk M i=mk M j:=by
 unfold HQ;constructor
 .intro h i j hi hj;let⟨kv,e⟩:=List.length_eq_one_iff.mp h;let h1:=grpA_key (M:=M) hi
  let h2:=grpA_key (M:=M) hj;rw[e]at h1 h2;rw[List.map_singleton,XG]at h1 h2;rw[h1,h2]
 .intro h;let nd:=pQ M M.length
  let h0:=grpA_key (M:=M) (i:=M.length) (j:=0) J;generalize hg:(Xt M M.length)=g at *
  match g,hg with
  |[],_=>simp at h0
  |[kv],_=>rfl
  |a::b::r,hg=>
   exfalso;let⟨i,hi,e1⟩:=wA M M.length a.1 (by rw[hg];simp)
   let⟨j,hj,e2⟩:=wA M M.length b.1 (by rw[hg];simp);let e3:=h i j hi hj
   have:a.1=b.1:=by rw[<-e1,<-e2,e3]
   simp[this]at nd
def SameP.one(s:SameP m l):(∀i j,i<m.length->j<m.length->mk m i=mk m j)↔(∀i j,i<l.length->j<l.length->mk l i=mk l j):=by
 let⟨hl,h⟩:=s;rw[<-hl];constructor
 .intro q i j hi hj;show(h i j hi hj).mp (q i j hi hj)
 .intro q i j hi hj;show(h i j hi hj).mpr (q i j hi hj)
def pP:∀{i:Nat}{kv:Int×Ac},kv∈Xt M i->kv.2.length<=i
 |0,kv,h=>by simp[Xt]at h
 |i+1,kv,h=>by
  unfold Xt RE at h;split at h
  .let⟨wB,h0,e⟩:=YN.mp h;let ih:=pP h0
   cases hc:wB.1=mk M i
   .rw[if_pos hc]at e;subst e;rw[Xw,Yt];lia
   .rw[if_neg hc]at e;subst e;lia
  .rcases XA.mp h with h0|h0
   .let ih:=pP h0;omega
   .rw[XG]at h0;subst h0;simp
end My
namespace My
open PySem L2 PyProof.Rows
def LO(z:Int)(l:Ac):FE (.int z) (IL l)=decide (z∈l):=by
 unfold FE;rw[List.any_map];rw[Pp,xD,YV];constructor
 .rintro⟨y,hy,e⟩;let e':y=z:=by simpa[Sv] using e
  rwa[<-e']
 .intro h;exists z,h,by simp[Sv]
def Tg(l:Ac):(IL l).all Sa=true:=by rw[List.all_map,Pr];intro x _;rfl
def pO{K:Ad}{t:Value}:PySem.W.kitOne K t t=some true:=by unfold PySem.W.kitOne;rw[if_pos (xJ t)]
def Zx:decide (V.int a=V.int b)=decide (a=b):=by
 cases h:a=b
 .subst h;simp
 .let h':¬V.int a=V.int b:=λz=>h (V.int.inj z);rw[Rm h,Rm h']
end My
namespace My
open PySem L2
def IsSet(m:Nat)(ns:Ac):(Prop):=∀i z,ns[i]?=some z->0<=z/\z<(m:Int)/\∀y,i≠0->ns[i-1]?=some y->y<z
def XS(ps:Aa)(ns:Ac):(List (Nat×Nat)):=ns.map λz=>((ps.getD z.toNat (0,0)).1.toNat,(ps.getD z.toNat (0,0)).2.toNat)
def Zh6{ns:Ac}{z:Int}(h:ns[i]?=some z):XS ps (ns.take (i+1))=XS ps (ns.take i)++[((ps.getD z.toNat (0,0)).1.toNat,(ps.getD z.toNat (0,0)).2.toNat)]:=by unfold XS;rw[WB,h];simp
def Qz(h:i<m.length):m[i]?=some (mk m i):=by rw[Xs h];simp[mk,Ws,Xs h]
def CF(n:Int):Wr 0 n=(List.range n.toNat).map λ(i:Nat)=>(i:Int):=by unfold Wr;rw[xp];show VL λi _=>?_;lia
def Ul(g:List (Int×Ac))(as:List Addr):(List (Key×V)):=List.zipWith (λkv a=>((Sum.inl kv.1:Key),V.ref a)) g as
def ZB7(h:as.length=g.length):(Ul g as).length=g.length:=by unfold Ul;rw[Ey];grind
def cS:∀{g:List (Int×Ac)}{as:List Addr},as.length=g.length->(Ul g as).map (·.2)=as.map V.ref
 |[],[],_=>rfl
 |[],_::_,h=>by simp at h
 |_::_,[],h=>by simp at h
 |kv::g,a::as,h=>by change V.ref a::(Ul g as).map (·.2)=V.ref a::as.map V.ref;rw[cS (Mt h)]
def cR:∀{g g':List (Int×Ac)}{as:List Addr},g.map (·.1)=g'.map (·.1)->Ul g as=Ul g' as
 |[],[],_,_=>rfl
 |[],_::_,_,h=>by simp at h
 |_::_,[],_,h=>by simp at h
 |kv::g,wz::g',[],_=>rfl
 |kv::g,wz::g',a::as,h=>by
  rw[TB,TB,List.cons.injEq]at h;change((Sum.inl kv.1:Key),V.ref a)::Ul g as=((Sum.inl wz.1:Key),V.ref a)::Ul g' as
  rw[h.1,cR h.2]
def cQ:∀{g:List (Int×Ac)}{as:List Addr}{kv:Int×Ac}{a:Addr},as.length=g.length->Ul (g++[kv]) (as++[a])=Ul g as++[((Sum.inl kv.1:Key),V.ref a)]
 |[],[],_,_,_=>rfl
 |[],_::_,_,_,h=>by simp at h
 |_::_,[],_,_,h=>by simp at h
 |x::g,y::as,kv,a,h=>by change _::Ul (g++[kv]) (as++[a])=_::(Ul g as++_);rw[cQ (Mt h)]
def pN:∀{g:List (Int×Ac)}{as:List Addr}{k:Int},as.length=g.length->
  (Wj (Ul g as) (Sum.inl k:Key)=none/\k∉g.map (·.1))\/∃(j:Nat)(kv:Int×Ac)(a:Addr),g[j]?=some kv/\as[j]?=some a/\kv.1=k/\Wj (Ul g as) (Sum.inl k:Key)=some ↑a
 |[],[],k,_=>.inl ⟨Z,B⟩
 |[],_::_,_,h=>by simp at h
 |_::_,[],_,h=>by simp at h
 |kv::g,a::as,k,h=>by
  cases e:kv.1=k
  .show .inr ⟨0,kv,a,Z,Z,e,?_⟩;change Wj (((Sum.inl kv.1:Key),V.ref a)::Ul g as) _=_
   rw[qP (by rw[e])]
  .let e':¬((Sum.inl kv.1:Key)=Sum.inl k):=λz=>e (Sum.inl.inj z);let ev:Wj (Ul (kv::g)<|a::as) (Sum.inl k:Key)=Wj (Ul g as) (Sum.inl k:Key):=qO (p:=((Sum.inl kv.1:Key),V.ref a)) e'
   rcases pN (g:=g) (as:=as) (k:=k) (Mt h) with ⟨h1,h2⟩|⟨j,wz,a',h1,h2,h3,h4⟩
   .show .inl ⟨by rw[ev];show h1,?_⟩;rw[TB,Yh];rintro(z|z)
    .show e z.symm
    .show h2 z
   .show .inr ⟨j+1,wz,a',by simpa using h1,by simpa using h2,h3,by rwa[ev]⟩
structure GrpAt(H0 H:Hp)(g:List (Int×Ac))(as:List Addr):Prop where
 len:as.length=g.length
 nd:as.Nodup
 at_:∀(i:Nat)(kv:Int×Ac)(a:Addr),g[i]?=some kv->as[i]?=some a->H a=some (.lst<|IL kv.2)
 new:∀a∈as,H0 a=none
def GrpAt.same(s:Same H H')(h:GrpAt H0 H g as):GrpAt H0 H' g as:=⟨h.len,h.nd,λi kv a e1 e2=>s _ _<|h.at_ i kv a e1 e2,h.new⟩
def GrpAt.mem(h:GrpAt H0 H g as){a:Addr}(ha:a∈as):∃l,H a=some (.lst l):=by
 let⟨i,hi,e⟩:=Ex ha;let hg:i<g.length:=by rwa[<-h.len]
 exists _,h.at_ i g[i] a (Xs hg)<|by rw[Xs hi,e]
def IsSet.all(h:IsSet m ns):∀z∈ns,0<=z/\z<(m:Int):=λz hz=>by let⟨i,hi,e⟩:=Ex hz;let⟨a,b,_⟩:=h i z (by rw[Xs hi,e]);exists a,b
def IsSet.nil(m:Nat):IsSet m []:=λi z e=>by simp at e
def IsSet.up(h:IsSet m ns):IsSet (m+1) ns:=λi z e=>by let⟨a,b,c⟩:=h i z e;exists a,DW,c
def IsSet.snoc(h:IsSet m ns):IsSet (m+1) (ns++[(m:Int)]):=λi z e=>by
 cases hi:i<ns.length
 .rw[Yn hi]at e;let⟨a,b,c⟩:=h i z e;exists a,J,λy h0 ey=>?_;rw[Yn DW]at ey;show c y h0 ey
 .let hl:i=ns.length:=by
   have:=(Xy.mp e).1
   rw[Xw,Yt]at this;lia
  subst hl;rw[Yk (XN _),Nn]at e;let e:(m:Int)=z:=Yi e
  subst e;exists J,J,λy h0 ey=>?_;rw[Yn DW]at ey;show(h _ y ey).2.1
def IsSet.len:∀{ns:Ac},IsSet m ns->ns.length<=m:=λ{ns} h=>by
 let key:∀(i:Nat)(z:Int),ns[i]?=some z->(i:Int)<=z:=by
  intro i
  induction i with
  |zero=>intro z e;show(h 0 z e).1
  |succ i ih=>
   intro z e;let hi:i<ns.length:=by have:=(Xy.mp e).1;lia
   let e2:ns[i]?=some ns[i]:=Xs hi
   have:=ih _ e2
   have:=(h (i+1) z e).2.2 ns[i] J (by rwa[t7])
   lia
 cases h0:ns.length=0
 .lia
 .let e:ns[ns.length-1]?=some (ns[ns.length-1]'(by lia)):=Xs _;let a:=key _ _ e
  let b:=(h _ _ e).2.1;lia
end My
namespace L2
open PySem PySem.Spec PyProof.Rows
section
variable{X:Cx}
def pM(K:Ad):(V->List V->Hp->VK->Prop):=λx vs H Q=>∃(p:Addr)(ns:Ac)(z:Int)(j:Nat),x=.ref p/\vs=[.int z]/\SqL K H p (ns.map V.int)/\ns[j]?=some z/\(∀i,i<j->ns[i]?≠some z)/\Q (.int j) H
def ZF8(K:Ad)(h:X.K=K:=by rfl):FC X "list.index" (pM K):=by
 subst h;intro pins s σ H x vs v us Q I rx rv h;let⟨p,ns,z,j,rfl,rfl,hq,hj,PM,q⟩:=h;cases rx;let⟨u,rfl,t,rfl⟩:=rv.one;let⟨XX,r,⟨o,n,e,hc,hd,HP⟩,hz⟩:=I.list hq;let hl:XX.length=ns.length:=by rw[<-r.length,Yb]
 let Uv:j<ns.length:=(Xy.mp hj).1;let hsz:sizeLine=16777216:=Tz
 rw[Yb]at hz;let⟨oc,od,pL,Ti⟩:=o;let hc:oc=.type "list":=hc
 let HP:pL=.seq XX.toArray n:=HP;subst hc HP;let at_:∀(i:Nat)(hi:i<XX.length),∃tk,XX[i]=.int (ns[i]'(by lia)) tk:=λi hi=>by
  let⟨x,ex,rx⟩:=r.at hi;rw[Yp,Xs DW]at ex;let ex:V.int (ns[i]'(by omega))=x:=Yi ex
  subst ex;show rx
 show FH F.slot_list_index ⟨_,e,Z⟩ F.entry_list_index (F.args_list_index_2 _ _) (SeqAt.list_indexAt p XX.toArray n od Ti (.int z t) (λy=>SO (.int z) y) j (by rw[Ya];lia) J ?_ ?_) ⟨e,λy hy=>?_,?_⟩
 .let⟨tk,e1⟩:=at_ j DW;let e2:ns[j]'(by lia)=z:=by rw[Xs Uv]at hj;show Yi hj
  let e3:XX.toArray[j]'(by rw[Ya];lia)=.int z tk:=by rw[<-e2];simpa using e1
  rw[e3];simp[SO,Sv]
 .intro m hm hmj;let Ke:m<XX.length:=by rwa[Ya]at hm
  let⟨tk,e1⟩:=at_ m Ke;let e3:XX.toArray[m]'hm=.int (ns[m]'(by omega)) tk:=by simpa using e1
  rw[e3];let XM:=PM m hmj
  rw[Xs DW]at XM;let OG:ns[m]'(by omega)≠z:=λw=>XM (QP some w)
  simp[SO,Sv,OG]
 .show Df (x:=.int z) ⟨t,Z⟩ Z r ?_ y (by simpa using hy);rw[List.all_map,Pr];intro _ _;rfl
 .exists .int j,H,I.tok _,⟨_,Z⟩,q
end
end L2
namespace My
open PySem L2
section
variable{K:Ad}{H:Hp}{α:Type}[DecidableEq α]
def Bears(R:V->α->Prop)(xs:List V)(l:List α):(Prop):=xs.length=l.length/\∀(i:Nat)(a:α),l[i]?=some a->∃x,xs[i]?=some x/\R x a
def Bears.at{R:V->α->Prop}(h:Bears R xs l){i:Nat}{x:V}(e:xs[i]?=some x):∃a,l[i]?=some a/\R x a:=by
 let hi:i<xs.length:=(Xy.mp e).1;let hl:i<l.length:=by rwa[<-h.1]
 let⟨x',e1,q⟩:=h.2 i l[i] (Xs hl);rw[e]at e1;cases e1;exists _,Xs hl,q
def CD{l m:List α}(h:l.length=m.length):(List.range l.length).all (λi=>decide (l[i]?=m[i]?))=decide (l=m):=by
 rw[Pp,Pr,YV];constructor
 .intro q;show Nq λi=>?_;cases hi:i<l.length
  .show Yy (q i<|YY.mpr hi)
  .rw[VM J,VM J]
 .rintro rfl i _;simp
def pK{R:V->α->Prop}(hp:SqL K H p xs)(hq:SqL K H q ys)(h1:Bears R xs l)(h2:Bears R ys m)(hR:∀x y a b,R x a->R y b->EqD K H n x y (decide (a=b))):EqD K H (n+1) ↑p ↑q (decide (l=m)):=by
 cases hl:xs.length=ys.length
 .let e:=CD (l:=l) (m:=m) (by rw[<-h1.1,<-h2.1,hl]);rw[<-e,<-h1.1];show EqD.lsts hp hq hl λi x y ex ey=>?_;let⟨a,ea,ra⟩:=h1.at ex;let⟨b,eb,rb⟩:=h2.at ey;rw[ea,eb,show decide (some a=some b)=decide (a=b) by simp];show hR x y a b ra rb
 .let e:decide (l=m)=false:=Rm λz=>hl (by rw[h1.1,h2.1,z]);rw[e];show EqD.lens hp hq hl
def pJ{R:V->α->Prop}(hp:SqT K H p xs)(hq:SqT K H q ys)(h1:Bears R xs l)(h2:Bears R ys m)(hR:∀x y a b,R x a->R y b->EqD K H n x y (decide (a=b))):EqD K H (n+1) ↑p ↑q (decide (l=m)):=by
 let key:=EqD.tups (e:=λi=>decide<|l[i]?=m[i]?) hp hq λi x y ex ey=>by let⟨a,ea,ra⟩:=h1.at ex;let⟨b,eb,rb⟩:=h2.at ey;rw[ea,eb,show decide (some a=some b)=decide (a=b) by simp];show hR x y a b ra rb
 cases hl:xs.length=ys.length
 .let e:=CD (l:=l) (m:=m) (by rw[<-h1.1,<-h2.1,hl]);rwa[<-hl,Nat.min_self,h1.1,e,show(l.length == l.length)=true by simp,Bool.and_true]at key
 .let e:decide (l=m)=false:=Rm λz=>hl (by rw[h1.1,h2.1,z]);rw[show(xs.length == ys.length)=false by simpa using hl,Bool.and_false]at key;rwa[e]
def LN(ns:Ac):Bears (λx (z:Int)=>x=.int z) (IL ns) ns:=⟨Xp ns,λi z e=>⟨_,SN e,Z⟩⟩
def Kd{a b:Int}(hx:x=.int a)(hy:y=.int b):EqD K H n x y (decide (a=b)):=by
 subst hx hy;let e:decide (a=b)=Sv (.int a) (.int b):=by change decide (a=b)=(a == b);rw[dY]
 rw[e];show EqD.flat Z rfl
def cP(hp:SqL K H p (IL ns))(hq:SqL K H q (IL ms)):EqD K H 1 ↑p ↑q (decide (ns=ms)):=
 pK hp hq (LN ns) (LN ms) λ_ _ _ _=>Kd
def OF(hp:SqT K H p (IL ns))(hq:SqT K H q (IL ms)):EqD K H 1 ↑p ↑q (decide (ns=ms)):=
 pJ hp hq (LN ns) (LN ms) λ_ _ _ _=>Kd
def Zc9{bs cs:List Bool}(hp:SqL K H p (bs.map V.bl))(hq:SqL K H q (cs.map V.bl)):EqD K H 1 ↑p ↑q (decide (bs=cs)):=by
 let be:∀bs:List Bool,Bears (λx (b:Bool)=>x=.bl b) (bs.map V.bl) bs:=λbs=>⟨Yb ..,λi b e=>⟨_,by rw[Yp,e];rfl,Z⟩⟩;show pK hp hq (be bs) (be cs) λx y a b hx hy=>?_;subst hx hy;let e:decide (a=b)=Sv (.bl a) (.bl b):=by change decide (a=b)=(a == b);rw[dY]
 rw[e];show EqD.flat Z rfl
def MZ(H:Hp)(v:V)(l:Ac):(Prop):=∃a,v=.ref a/\H a=some (.lst<|IL l)
end
end My
namespace My
def Wc(M:Ac)(p:Nat):(Bool):=(List.range p).all λi=>decide (mk M i≠mk M p)
def Uk(M:Ac)(k:Int)(i:Nat):(Ac):=((List.range i).filter λj=>decide<|mk M j=k).map λ(j:Nat)=>(j:Int)
def Vf(M:Ac)(i:Nat):(List Nat):=(List.range i).filter (Wc M)
def XB:Wc M p=true↔∀i,i<p->mk M i≠mk M p:=by
 unfold Wc;rw[Pr];constructor
 .intro h i hi;show Yy (h i<|YY.mpr hi)
 .intro h i hi;show Yv (h i<|YY.mp hi)
def pI(M:Ac)(k:Int)(i:Nat):Uk M k (i+1)=Uk M k i++(if mk M i=k then [(i:Int)] else []):=by
 unfold Uk;rw[Er,QI,YQ];congr 1;cases h:mk M i=k
 .rw[if_pos h,YZ,if_pos (by simpa using h)];rfl
 .rw[if_neg h,YZ,if_neg (by simpa using h)];rfl
def cO(M:Ac)(i:Nat):Vf M (i+1)=Vf M i++(if Wc M i=true then [i] else []):=by
 unfold Vf;rw[Er,QI];congr 1;cases h:Wc M i=true
 .rw[if_pos h,YZ,if_pos h];rfl
 .rw[if_neg h,YZ,if_neg h];rfl
def cN(M:Ac):∀i,Xt M i=(Vf M i).map λp=>(mk M p,Uk M (mk M p) i)
 |0=>rfl
 |i+1=>by
  let ih:=cN M i;change RE (Xt M i) (i:Int) (mk M i)=_
  let hk:(mk M i∈(Xt M i).map (·.1))↔Wc M i≠true:=by
   constructor
   .intro h q;let⟨j,hj,e⟩:=wA M i _ h;show XB.mp q j hj e
   .intro h;cases q:∃j,j<i/\mk M j=mk M i
    .let⟨j,hj,e⟩:=q;rw[<-e];show grpA_key hj
    .show absurd (XB.mpr λj hj e=>q ⟨j,hj,e⟩) h
  unfold RE;cases h:mk M i∈(Xt M i).map (·.1)
  .let hf:=hk.mp h;rw[if_pos h,cO,if_neg hf,Yx,ih,Ms];show VL λp _=>?_;change(if mk M p=mk M i then (mk M p,Uk M (mk M p) i++[(i:Int)]) else (mk M p,Uk M (mk M p) i))=(mk M p,Uk M (mk M p)<|i+1)
   rw[pI];cases e:mk M p=mk M i
   .rw[if_pos e,if_pos e.symm]
   .rw[if_neg e,if_neg λz=>e z.symm,Yx]
  .let hf:Wc M i=true:=by
    cases q:Wc M i with
    |true=>rfl
    |false=>show absurd (hk.mpr<|by rw[q];show YE) h
   rw[if_neg h,cO,if_pos hf,YQ,ih];congr 1
   .show VL λp hp=>?_;let Qy:p<i:=YY.mp (Yd.mp hp).1
    rw[pI,if_neg λz=>XB.mp hf p Qy z.symm,Yx]
   .change [(mk M i,[(i:Int)])]=[(mk M i,Uk M (mk M i)<|i+1)];rw[pI,if_pos Z];let e0:Uk M (mk M i) i=[]:=by unfold Uk;rw[List.filter_eq_nil_iff.mpr λj hj=>by simpa using XB.mp hf j (YY.mp hj)];rfl
    rw[e0];rfl
end My
namespace My
open PySem L2
def Bears.snoc{α:Type}[DecidableEq α]{R:V->α->Prop}{xs:List V}{l:List α}{x:V}{a:α}(h:Bears R xs l)(hx:R x a):Bears R (xs++[x]) (l++[a]):=by
 show⟨by rw[Xw,Xw,h.1];rfl,λi b e=>?_⟩;cases hi:i<l.length
 .rw[Yn hi]at e;rw[Yn (by rwa[h.1])];show h.2 i b e
 .let hl:i=l.length:=by
   have:=(Xy.mp e).1
   rw[Xw,Yt]at this;lia
  subst hl;rw[Yk (XN _),Nn]at e;rw[Yk (by rw[h.1];show XN _),h.1,Nn];let e':a=b:=Yi e
  subst e';exists x,Z,hx
def Bears.imp{α:Type}[DecidableEq α]{R R':V->α->Prop}{xs:List V}{l:List α}(h:Bears R xs l)(f:∀x a,R x a->R' x a):Bears R' xs l:=⟨h.1,λi a e=>by let⟨x,e1,r⟩:=h.2 i a e;exists x,e1,f x a r⟩
end My
namespace L2
open PySem PySem.Spec PyProof.Rows
def ObjOk.there(x:ObjOk P w H h a o):∃u,h.get? a=some u:=by
 cases o with
 |lst xs=>let⟨_,_,_,_,e⟩:=x;exists _,e
 |tup xs=>let⟨_,_,_,o,e,_⟩:=x;exists _,e
 |dK kvs=>let⟨_,_,_,_,o,_,_,e,_⟩:=x;exists _,e
 |dT kvs=>let⟨_,_,_,_,o,_,_,e,_⟩:=x;exists _,e
 |set S n=>let⟨o,_,_,_,e,_⟩:=x;exists _,e
 |ins C dx fs=>let⟨_,_,_,e,_⟩:=x;exists _,e
 |own y=>show x
 |xd fs=>let⟨_,⟨_,_,_,e,_⟩,_⟩:=x;exists _,e
 |rng lo hi=>let⟨_,_,_,e⟩:=x;exists _,e
 |frz ob u=>let⟨e,_⟩:=x;exists _,e
 |tbl ps=>exists _,x
 |met f y=>exists _,x
 |ext φ=>let⟨_,e,_⟩:=x;show e
structure Fly(h0:Heap)(H:Hp)(e C:Addr)(h:Heap):Prop where
 ex:∃oe vs T oT ts a0,h.get? e=some oe/\oe.cls=.ref C/\oe.data=.fields vs/\vs[0]?=some a0/\vs[1]?=some ↑T/\T≠e/\h.get? T=some oT/\oT.data=.fields ts/\ts[3]?=some .none/\h0.get? T=none/\H T=none
 new:h0.get? e=none
 free:H e=none
def Va(P:Program)(w:World):(RH):=λouter H s E ev s'=>∃e C H',ev=Value.ref e/\s'.os=s.os/\AllBare s'.gens/\Un (VV outer) [] H H' s.heap s'.heap/\HOk P w H' s'.heap/\Fly s.heap H' e C s'.heap/\E ↑C none H'
section
variable{X:Cx}{pins:List (Addr×Obj)}{σ:St}{H:Hp}{s:Shared}{e C:Addr}
abbrev Wm(X:Cx)(h:Heap)(ns:List Addr):Heap:=PySem.W.hideAll h (VV X.stack++ns)
def HN{b:Addr}{o:Obj}(q:h.get? b=some o)(h1:b∉VV X.stack)(h2:b∉ns):(Wm X h ns).get? b=some o:=
 PySem.W.hideAll_get _ q λz=>(XA.mp z).elim h1 h2
def CC:(Wm X h ns).StaysIn h:=λ_ _ q=>PySem.W.of_hideAll _ q
def Inv.was(I:Inv X pins σ H s)(hex:X.ex=[]){b:Addr}(h:s.heap.get? b=none):X.s₀.heap.get? b=none:=by
 cases q:X.s₀.heap.get? b with
 |none=>rfl
 |some o=>
  let⟨o',e⟩:=I.base.there b o q (by rw[hex];simp);rw[h]at e;cases e
def cM(ok:HOk P w H h)(hf:∀b∈VV X.stack,H b=none)(Vs:∀b∈ns,H b=none)(k:(Wm X h ns).StaysIn h'):HOk P w H h':=λa o q=>
 (ok a o q).stay (λb u hb g=>k b u (HN g (λz=>by
  have:=hf b z
  rcases hb with rfl|hb
  .rw[q]at this;cases this
  .rw[hb]at this;cases this) λz=>by
  have:=Vs b z
  rcases hb with rfl|hb
  .rw[q]at this;cases this
  .rw[hb]at this;cases this)) (λ_ z=>z) λ_ _ z=>z
def pH(WV:X.stack=X.env::X.outer)(Qx:X.env.frame=some X.env.locals):VV X.stack=X.env.locals::VV X.outer:=by rw[WV];unfold VV;rw[Ew,Qx]
def Kc(WV:X.stack=X.env::X.outer)(Qx:X.env.frame=some X.env.locals)(hex:X.ex=[])(I:Inv X pins σ H s)(Vs:∀b∈ns,X.s₀.heap.get? b=none/\H b=none) 
  (QB:Heap.FlyingW (Wm X s.heap ns) X.outer e ↑C a0 h')(up:s.heap.UpToSlots h')(ne:X.s₀.heap.get? e=none)(fe:H e=none)(hE:E ↑C none H)(hs:s'.heap=h')(ho:s'.os=s.os)(hg:s'.gens=s.gens):
  Va X.prog X.w X.outer X.H₀ X.s₀ E ↑e s':=by
 subst hs;let fst:=pH (X:=X) WV Qx
 let wy:∀b o,X.s₀.heap.get? b=some o->b≠X.env.locals:=λb o q=>YB (Ys (Yo q) I.ok.above);let CB:∀b o,X.s₀.heap.get? b=some o->b∉ns:=λb o q z=>by rw[(Vs b z).1]at q;cases q
 let Kb:∀b o,X.s₀.heap.get? b=some o->b∉VV X.outer->b∉VV X.stack:=λb o q n z=>by
  rw[fst]at z;rcases Yh.mp z with z|z
  .show wy b o q z
  .show n z
 let RD:∀b,b∉X.ex:=λb z=>by rw[hex]at z;cases z
 let keep:∀b o u,X.s₀.heap.get? b=some o->b∉VV X.outer->s.heap.get? b=some u->s'.heap.get? b=some u:=λb o u q n g=>QB.1 b u (HN g (Kb b o q n)<|CB b o q);let slot:∀b u,b∈VV X.outer->s.heap.get? b=some u->∃sl,s'.heap.get? b=some {u with slots:=sl}:=λb u hb g=>by let⟨_,o',WE,hd⟩:=I.funs.mem hb;rw[g]at WE;cases WE;show up b u g hd
 exists e,C,H,Z,ho.trans I.os,hg▸I.bare,⟨λb o q n hb _=>?_,λb o q n hb _=>?_,λb o q n _=>I.base.free b o q n<|RD b,λb o q _=>?_,I.base.tups,I.base.frzs,I.base.tbls⟩,cM I.hok I.stkFree (λb hb=>(Vs b hb).2) QB.1,⟨?_,ne,fe⟩,hE
 .show keep b o o q hb (I.base.keep b o q n hb<|RD b)
 .let⟨sl,g⟩:=I.base.slot b o q n hb (RD b);let⟨ID,g'⟩:=slot b _ hb g;exists ID,g'
 .let⟨u,g⟩:=I.base.there b o q (RD b);cases hb:b∈VV X.outer
  .let⟨sl,g'⟩:=slot b u hb g;exists _,g'
  .exists u,keep b o u q hb g
 .let⟨f1,f2,f3,oe,vs,T,oT,ts,he,⟨hc,h0⟩,hd,h1,wx,CA,hT,Fu,h3⟩:=QB;exists oe,vs,T,oT,ts,a0,he,hc,hd,h0,h1,CA,hT,Fu,h3,?_,?_
  .cases q:X.s₀.heap.get? T with
   |none=>rfl
   |some o=>
    let⟨u,g⟩:=I.base.there T o q (RD T);cases hb:T∈VV X.outer
    .let⟨_,o',WE,SA⟩:=f3.mem hb;rw[hT]at WE;cases WE;show absurd Fu (SA ts)
    .rw[HN g (Kb T o q hb) (CB T o q)]at wx;cases wx
  .cases q:H T with
   |none=>rfl
   |some ho=>
    let⟨u,g⟩:=(I.hok T ho q).there;rw[HN g (λz=>by rw[I.stkFree T z]at q;cases q) (λz=>by rw[(Vs T z).2]at q;cases q)]at wx;cases wx
def cL(WV:X.stack=X.env::X.outer)(I:Inv X pins σ H s)(F:Fly h0 H e C s.heap):∃T a0,Heap.FlyingW (Wm X s.heap [e,T]) X.stack e ↑C a0 s.heap/\h0.get? T=none/\H T=none:=by let⟨oe,vs,T,oT,ts,a0,he,hc,hd,pG,h1,CA,hT,Fu,h3,nT,fT⟩:=F.ex;exists T,a0,⟨CC,ue _ B,?_,oe,vs,T,oT,ts,he,⟨hc,pG⟩,hd,h1,ue _ B,CA,hT,Fu,h3⟩,nT,fT;show eh I.stack λenv HM a hf=>Yf _ (xN.mpr ⟨env,HM,hf⟩)
def ZN8(WV:X.stack=X.env::X.outer)(Qx:X.env.frame=some X.env.locals)(hex:X.ex=[])(I:Inv X pins σ H s)(F:Fly X.s₀.heap H e C s.heap)(hE:E ↑C none H){E':Ae}:
  wpAny (model X.prog X.w) X.A (leaving X.env<|.ref e) (λ_ Ua=>Va X.prog X.w X.outer X.H₀ X.s₀ E ↑e Ua) E' s:=by
 let⟨T,a0,fl,nT,fT⟩:=cL WV I F;rw[WV]at fl;show wpAny_leaves_onW (by rw[I.ok.frames,WV]) Qx fl λh' fl' up=>?_;show Kc WV Qx hex I (λb hb=>?_) fl' up F.new F.free hE Z Z rfl;rcases Yh.mp hb with rfl|hb
 .exists F.new,F.free
 .rw[XG.mp hb];exists nT,fT
def Zl7(WV:X.stack=X.env::X.outer)(Qx:X.env.frame=some X.env.locals)(hex:X.ex=[])(I:Inv X pins σ H s)(hm:Heap.MadeExcOf s.heap h' e ↑C vs)(hE:E ↑C none H){E':Ae}:
  wpAny (model X.prog X.w) X.A (leaving X.env<|.ref e) (λ_ Ua=>Va X.prog X.w X.outer X.H₀ X.s₀ E ↑e Ua) E' {s with heap:=h'}:=by
 let ff:s.heap.FunFrames (Wm X s.heap []) X.stack:=eh I.stack λenv HM a hf=>Yf _ (xN.mpr ⟨env,HM,hf⟩);rw[WV]at ff;show wpAny_leaves_madeW (base:=Wm X s.heap []) (h:=s.heap) (by rw[I.ok.frames,WV]) Qx CC ff hm λHL t fl _ _ up=>?_;let fe:H e=none:=by
  cases q:H e with
  |none=>rfl
  |some ho=>
   let⟨u,g⟩:=(I.hok e ho q).there;rw[hm.new]at g;cases g
 show Kc (s':={s with heap:=HL}) WV Qx hex I (λb hb=>by cases hb) fl ((Heap.UpToSlots.of_keeps hm.keeps).trans up) (I.was hex hm.new) fe hE Z Z rfl
def Inv.flown(I:Inv X pins σ H s)(h:Va X.prog X.w X.stack H s E ev s'):∃e C H',ev=Value.ref e/\Inv X pins σ H' s'/\Fly s.heap H' e C s'.heap/\E ↑C none H':=by let⟨e,C,H',rfl,ho,hg,u,ok,F,hE⟩:=h;exists e,C,H',Z,I.call' (ch:=[]) ho u ok hg (λ_ z=>nomatch z),F,hE
def Fly.older(F:Fly h0 H e C h)(k:∀b,h0.get? b=none->h1.get? b=none):Fly h1 H e C h:=by let⟨oe,vs,T,oT,ts,a0,he,hc,hd,pG,Ka,CA,hT,Fu,h3,nT,fT⟩:=F.ex;exists ⟨oe,vs,T,oT,ts,a0,he,hc,hd,pG,Ka,CA,hT,Fu,h3,k _ nT,fT⟩,k _ F.new,F.free
end
section
variable{P:Program}{w:World}{K:Ad}{mg:Af}{base:Heap}
def pxs:Ko (Va P w) (Wy (Va P w) P w K mg base N qual scope f cd A outer s H E) E:=by intro pins σ H1 s1 ev s' I h;let⟨e,C,H',rfl,sP,F,hE⟩:=I.flown h;show ZN8 Z Z Z sP (F.older λb hb=>I.was Z hb) hE
def Fun.okX{x qual:Str}{st:Stmt}{f:Addr}{fd:FuncData}{N ps:List Str}{k:Nat}{sp:Sp}(F:Fun K x qual st f fd)(S:FnScope N ps (Xe st))(len:∀vs H Q E,sp vs H Q E->vs.length=ps.length)
  (hbody:∀XC A outer s H vs Q E,Room k (A.deeper<|envOfC qual (Xe st) (~~~s) f XC)->sp vs H Q E->
   ∃t,PSs (Wy (Va P w) P w K mg base N qual (Xe st) f XC A outer s H E) (ZY st) t/\t {nx:=λ_ H'=>Q .non H',rt:=Q} (start N vs) H):FnOk P w K mg base (Va P w) (k+1) f fd ps sp:=by let⟨oc,od,kV,doc,pm,an,XC,ct,Ti,rfl,lk,SQ⟩:=F.ex;show OV lk SQ S len λA outer s H vs Q E hr Rc=>hbody XC A outer s H vs Q E hr Rc
end
structure XCls(K:Ad)(C:Addr):Prop where
 ex:PySem.W.excIn K C [.type "ValueError",.type "Exception",.type "BaseException",.type "object"] "ValueError.__new__"=true
 ga:PySem.W.findIn K ↑C "__getattribute__"=some (some<|.builtin "BaseException.__getattribute__")
 gh:PySem.W.findIn K ↑C "__getattr__"=some none
 cl:PySem.W.findIn K ↑C "__class__"=some (some<|.builtin "object.__class__")
 ob:PySem.W.mroIn K C (.type "object")=some true
 bx:PySem.W.mroIn K C (.type "BaseException")=some true
def XCls.obj{K:Ad}{C:Addr}{h:Heap}(c:XCls K C)(X:K.In h):∃bm N nm q bs hdct sn sub ab col dd k0 k1 k2 k3 k5 mN,h.get? C=some (excClassObj nm q C N bs bm hdct sn sub ab col dd k0 k1 k2 k3 k5 "ValueError.__new__")/\h.Ns N mN/\mN "__init__"=none/\OwnTail h [.type "ValueError",.type "Exception",.type "BaseException",.type "object"] bm:=by
 let q:=c.ex;unfold PySem.W.excIn at q;split at q
 .rename_i dd cd sl ho;split at q
  .rename_i C' bm k0 k1 k2 k3 n k5 hm hs;simp only[Kw,RM,Pm]at q;let⟨⟨⟨⟨⟨rfl,rfl⟩,Cz⟩,ht⟩,hok⟩,wu⟩:=q;let⟨nm,bs,mro,ns,qn,hd,sn,sub,ab,col,del⟩:=cd;dsimp only at hm Cz hok wu;subst hm Cz;let LM:sl=#[k0,k1,k2,k3,some<|.builtin "ValueError.__new__",k5]:=by let⟨l⟩:=sl;simp only at hs;rw[hs]
   subst LM;exists bm,ns,nm,qn,bs,hd,sn,sub,ab,col,dd,k0,k1,k2,k3,k5,_,X _ _ ho,.of_isNs<|PySem.W.isNs_of_in X hok,PySem.W.nsMap_none_of_in X hok wu,PySem.W.tail_of_in X ht
  .cases q
 .cases q
def pF(C:Addr)(E:XK)(t:TA):(TS):=λ_ σ H=>t σ H λvs H1=>vs.length<=sizeLine/\E ↑C none H1
def pE{P:Program}{w:World}{K:Ad}{mg:Af}{base:Heap}{N:List Str}{qual:Str}{scope:Scope}{f:Addr}{cd:Value}{A:Around}{outer:List Env}{s0:Shared}{H0:Hp}{E:XK}{C:Addr}{x:Str}{np Xj pos:Pos}{e₀:Expr}{rest:List Expr}{t:TA}
  (c:XCls K C)(hm:mg x=some ↑C)(ha:PA (Wy (Va P w) P w K mg base N qual scope f cd A outer s0 H0 E) (e₀::rest) t)
  (hg:Gl (Wy (Va P w) P w K mg base N qual scope f cd A outer s0 H0 E) x:=by rfl)(hd:(x == ("__debug__":Str))=false:=by decide)
  (he:starEach (e₀::rest) (Wy (Va P w) P w K mg base N qual scope f cd A outer s0 H0 E).env=(false,eval e₀ (Wy (Va P w) P w K mg base N qual scope f cd A outer s0 H0 E).env)::starEach rest (Wy (Va P w) P w K mg base N qual scope f cd A outer s0 H0 E).env:=by rfl)
  (UM:(backTo Xj<|starEach rest (Wy (Va P w) P w K mg base N qual scope f cd A outer s0 H0 E).env).any (·.1)=false:=by rfl):
  PS (Wy (Va P w) P w K mg base N qual scope f cd A outer s0 H0 E) (.Raise (some<|.Call (.Name x np) (e₀::rest) [] Xj) none pos) (pF C E t):=by
 intro pins s σ H D I h;let⟨tl,NN,nm,q,bs,hdct,sn,sub,ab,col,dd,k0,k1,k2,k3,k5,mN,hC,hN,wu,T⟩:=c.obj I.ok.mod.kin;show wpAny_Raise_call_subT (C:=C) (nm:=nm) (q:=q) (N:=NN) (bs:=bs) (bm:=tl) (hdct:=hdct) (sn:=sn) (sub:=sub) (ab:=ab) (col:=col) (dd:=dd) (k0:=k0) (k1:=k1) (k2:=k2) (k3:=k3) (k5:=k5)
  fc (mN:=mN) (T.hasType fc.hasBase) (I.ok.hd Z) (by rw[he];change(false||(backTo Xj<|starEach rest _).any (·.1))=false;rw[UM];rfl) wu (Pe I hg hm ⟨Z,?_⟩ hd)
 let h:=ha Xj pins s σ H _ I h;rw[he]at h ⊢;show Calls.evalArgs_plain (Uc h (λvs s₂ h₂=>?_) λ_ _ y=>y);let⟨zs,H2,I2,rz,hz,hE⟩:=h₂;show⟨Z,by rw[<-rz.length];show hz,I2.bk _ _ hC,hN.keeps I2.bk,T.keeps I2.bk,λh' e hme=>?_⟩;show Zl7 Z Z Z I2 hme hE
section
variable{X:Cx}{pins:List (Addr×Obj)}{σ:St}{H:Hp}{s:Shared}{e:Addr}
def Inv.held(I:Inv X pins σ H s){tk:Nat}(Vs:∀b∈ns,X.s₀.heap.get? b=none/\H b=none/\(∀p∈X.pn++pins,p.1≠b))(k:(Wm X s.heap ns).StaysIn h')(up:s.heap.UpToSlots h'):Inv X pins σ H {s with heap:=h',toks:=tk}:=by
 let CB:∀b o,X.s₀.heap.get? b=some o->b∉ns:=λb o q z=>by rw[(Vs b z).1]at q;cases q
 let wy:∀b o,X.s₀.heap.get? b=some o->b≠X.env.locals:=λb o q=>YB (Ys (Yo q) I.ok.above);let Kb:∀b,b≠X.env.locals->b∉X.fs->b∉VV X.stack:=λb h1 h2 z=>(Yh.mp<|I.stkSub b z).elim h1 h2
 let slot:∀b u,b∈X.fs->s.heap.get? b=some u->∃sl,h'.get? b=some {u with slots:=sl}:=λb u hb g=>by let⟨_,o',WE,hd⟩:=I.funs.mem hb;rw[g]at WE;cases WE;show up b u g hd
 let cellK:∀c v,s.heap.IsCell c v->h'.IsCell c v:=λc v ⟨o,ho,hd⟩=>by
  let⟨sl,g⟩:=up c o ho λvs q=>by rw[hd]at q;cases q
  exists _,g,hd
 exists I.ok,I.os,I.bare,⟨λb o q n hb hx=>?_,λb o q n hb hx=>?_,I.base.free,λb o q hx=>?_,I.base.tups,I.base.frzs,I.base.tbls⟩,?_,λx c q=>?_,I.free,I.freeC,λp hp=>?_,cM I.hok I.stkFree (λb hb=>(Vs b hb).2.1) k,I.len
 .show k b o (HN (I.base.keep b o q n hb hx) (Kb b (wy b o q) hb)<|CB b o q)
 .let⟨sl,g⟩:=I.base.slot b o q n hb hx;let⟨ID,g'⟩:=slot b _ hb g;exists ID,g'
 .let⟨u,g⟩:=I.base.there b o q hx;cases hb:b∈X.fs
  .let⟨sl,g'⟩:=slot b u hb g;exists _,g'
  .exists u,k b u<|HN g (Kb b (wy b o q) hb)<|CB b o q
 .let⟨m,hn,hl⟩:=I.loc;exists m,up.ns hn,λi x v e1 e2 e3=>?_;let⟨u,r,l⟩:=hl i x v e1 e2 e3;exists u,r,?_;rcases l with l|⟨kk,c,q,z⟩
  .show .inl l
  .show .inr ⟨kk,c,q,cellK c _ z⟩
 .let⟨v,z⟩:=I.cell x c q;exists v,cellK c v z
 .let⟨q,n,ne,nf,d⟩:=I.pin p hp;exists k p.1 p.2<|HN q (Kb p.1 ne nf) λz=>(Vs p.1 z).2.2 p hp Z,n,ne,nf,d
def Inv.gone(I:Inv X pins σ H s)(hN:X.N.Nodup){i:Nat}{n:Str}{tk:Nat}{m:Af}{v:Option Value}(hi:X.N[i]?=some n)(hn:s.heap.Ns X.env.locals m)
  (RJ:h'.Ns X.env.locals λx=>if x=n then v else m x)(hs:Heap.SameBut X.env.locals s.heap h'):Inv X pins (σ.set i none) H {s with heap:=h',toks:=tk}:=by
 let⟨m0,hn0,hl⟩:=id I.loc;let em:m0=m:=by
  funext x
  let⟨o,es,ep,ho,hd,_,hf⟩:=hn0;let⟨o',xh,xg,WE,SA,_,hf'⟩:=hn;rw[ho]at WE;cases WE;rw[hd]at SA;cases SA;rw[<-hf,<-hf']
 subst em;let cne:=I.cne
 let Mj:i<σ.length:=by rw[I.len];show(Xy.mp hi).1
 let⟨oL,_,_,Pf,_⟩:=id hn;exists I.ok,I.os,I.bare,⟨λb o q n hb hx=>?_,λb o q n hb hx=>?_,I.base.free,λb o q hx=>?_,I.base.tups,I.base.frzs,I.base.tbls⟩,⟨_,RJ,λj y v' e1 e2 e3=>?_⟩,λy c q=>?_,I.free,I.freeC,λp hp=>?_,λb ob q=>?_,by simpa using I.len
 .show(hs.2 b<|YB<|Ys (Yo q) I.ok.above).trans (I.base.keep b o q n hb hx)
 .let⟨sl,e1⟩:=I.base.slot b o q n hb hx;exists sl,(hs.2 b<|YB<|Ys (Yo q) I.ok.above).trans e1
 .let⟨o',e1⟩:=I.base.there b o q hx;exists o',(hs.2 b<|YB<|Ys (Yo q) I.ok.above).trans e1
 .cases hj:j=i
  .subst hj;rw[ui Mj]at e2;cases e2
  .rw[t8 (Xc hj)]at e2;let⟨u',r',q⟩:=hl j y v' e1 e2 e3;exists u',r',?_;rcases q with ⟨k,e⟩|⟨k,c,e,z⟩
   .show .inl ⟨k,?_⟩
    have:y≠n:=λe=>hj (sT hN e1<|e▸hi)
    simp[this,e]
   .show .inr ⟨k,c,e,z.sameBut hs<|cne y c e⟩
 .let⟨w',z⟩:=I.cell y c q;exists w',z.sameBut hs<|cne y c q
 .let⟨q,n,ne,nf,d⟩:=I.pin p hp;exists (hs.2 p.1 ne).trans q,n,ne,nf,d
 .show(I.hok b ob q).stay (λc w' hc q'=>(hs.2 c ?_).trans q') (λ_ q=>q) λ_ _ q=>q;rintro rfl;rcases hc with z|hc
  .subst z;rw[I.free]at q;cases q
  .rw[I.free]at hc;cases hc
end
abbrev OE(X:Cx)(pins:List (Addr×Obj))(R:St->XK):Cx:={X with pn:=X.pn++pins,xe:=λev s'=>∃σ H1 s1,Inv X pins σ H1 s1/\Va X.prog X.w X.stack H1 s1 (R σ) ev s'}
abbrev LL(X:Cx)(pins:List (Addr×Obj))(e:Addr)(oe:Obj):Cx:={X with A:=X.A.mark<|some<|.ref e,calm:=false,pn:=X.pn++pins++[(e,oe)],xe:=λ_ _=>False}
section
variable{X:Cx}{pins pins':List (Addr×Obj)}{σ:St}{H:Hp}{s:Shared}{R:St->XK}{e:Addr}{oe:Obj}
def Inv.inTry(I:Inv X pins σ H s):Inv (OE X pins R) [] σ H s:=
 ⟨⟨I.ok.mod,I.ok.kind,I.ok.glob,I.ok.blt,I.ok.above,I.ok.inj,I.ok.has,I.ok.cab,I.ok.hd,I.ok.frames,I.ok.stk,I.ok.exf,I.ok.bs,I.ok.bsz,I.ok.noex,I.ok.exfs,I.ok.funs,I.ok.frf⟩,I.os,I.bare,I.base,I.loc,I.cell,I.free,I.freeC,λp hp=>I.pin p (by simpa using hp),I.hok,I.len⟩
def Inv.outTry(I:Inv (OE X pins R) pins' σ H s):Inv X pins σ H s:=
 ⟨⟨I.ok.mod,I.ok.kind,I.ok.glob,I.ok.blt,I.ok.above,I.ok.inj,I.ok.has,I.ok.cab,I.ok.hd,I.ok.frames,I.ok.stk,I.ok.exf,I.ok.bs,I.ok.bsz,I.ok.noex,I.ok.exfs,I.ok.funs,I.ok.frf⟩,I.os,I.bare,I.base,I.loc,I.cell,I.free,I.freeC,λp hp=>I.pin p<|Yf _ hp,I.hok,I.len⟩
def SP.outTry{f:Flow}(h:SP (OE X pins R) [] D f s):SP X pins D f s:=by
 cases f with
 |next=>let⟨σ',H',I,q⟩:=h;exists σ',H',I.outTry,q
 |brk=>let⟨σ',H',I,q⟩:=h;exists σ',H',I.outTry,q
 |cont=>let⟨σ',H',I,q⟩:=h;exists σ',H',I.outTry,q
 |ret u=>let⟨v,σ',H',I,r,q⟩:=h;exists v,σ',H',I.outTry,r,q
def Inv.inHan(I:Inv X pins σ H s)(h1:s.heap.get? e=some oe)(h2:H e=none)(h3:e≠X.env.locals)(h4:e∉X.fs)(h5:∀v,oe.data≠.cell v):Inv (LL X pins e oe) [] σ H s:=
 ⟨⟨I.ok.mod,I.ok.kind,I.ok.glob,I.ok.blt,I.ok.above,I.ok.inj,I.ok.has,I.ok.cab,(λz=>(nomatch z)),I.ok.frames,I.ok.stk,I.ok.exf,I.ok.bs,I.ok.bsz,I.ok.noex,I.ok.exfs,I.ok.funs,I.ok.frf⟩,I.os,I.bare,I.base,I.loc,I.cell,I.free,I.freeC,λp hp=>by
  rw[Yx]at hp;rcases XA.mp hp with z|z
  .show I.pin p z
  .rw[XG.mp z];show⟨h1,h2,h3,h4,h5⟩,I.hok,I.len⟩
def Inv.outHan(hd:X.calm=true->X.A.handled=none)(fr:X.A.frames=some X.stack)(I:Inv (LL X pins e oe) pins' σ H s):Inv X pins σ H s:=
 ⟨⟨I.ok.mod,I.ok.kind,I.ok.glob,I.ok.blt,I.ok.above,I.ok.inj,I.ok.has,I.ok.cab,hd,fr,I.ok.stk,I.ok.exf,I.ok.bs,I.ok.bsz,I.ok.noex,I.ok.exfs,I.ok.funs,I.ok.frf⟩,I.os,I.bare,I.base,I.loc,I.cell,I.free,I.freeC,λp hp=>I.pin p<|Yf _<|Yf _ hp,I.hok,I.len⟩
end
def pD(CX:RH)(X:Cx)(R:St->XK):(Prop):=∀pins σ H s e s',Inv X pins σ H s->CX X.stack H s (R σ) e s'->X.xe e s'
def pxT{R:St->XK}(hP:P=X.prog:=by rfl)(hw:w=X.w:=by rfl):pD (Va P w) (OE X pins R) R:=by subst hP hw;show λ_ σ H s _ _ I h=>⟨σ,H,s,I.outTry,h⟩
def pC(sp:Sp)(Vc:List V)(R:St->XK)(t:TA):(TE):=λσ H Q=>t σ H λvs H1=>sp (vs++Vc) H1 Q (R σ)
section
variable{X:Cx}{CX:RH}{k:Nat}{f:Addr}{fd:FuncData}{ps:List Str}{sp:Sp}{Vc:List V}{ds:Ag}{R:St->XK}{x:Str}{p pos:Pos}{e:Expr}{es:List Expr}{t:TA}
def pB(F:FnOk X.prog X.w X.K X.mg X.base CX k f fd ps sp)(hr:Room k X.A)(hb:Binds X.K fd ps ds)(hd:Vals Vc ds)(hx:pD CX X R)
  (I:Inv X pins σ H s)(r:Vals vs us)(h:sp (vs++Vc) H Q (R σ)):wpAny (model X.prog X.w) X.A (call ↑f us) (EP X pins σ Q) X.xe s:=by
 let r2:Vals (vs++Vc) (us++ds):=r.append hd;let hl:(us++ds).length=ps.length:=by rw[<-r2.length];show F.len _ _ _ _ h
 show FI (Mr (F.run X.A X.stack s H ⟨us,[]⟩ (us++ds) (vs++Vc) Q (R σ) hr I.env0 (hb s us I.kIn hl) r2 h) λr s' hq=>?_);cases r with
 |error e=>show hx pins σ H s e s' I hq
 |ok fl=>
  cases fl with
  |ret u=>show I.after hq
  |next=>show False.elim hq
  |brk=>show False.elim hq
  |cont=>show False.elim hq
def pq(F:FnOk X.prog X.w X.K X.mg X.base CX k f fd ps sp)(hr:Room k X.A)(hg:Gl X x)(hm:X.mg x=some ↑f)(hk:PySem.W.keepIn X.K ↑f=true)(hb:Binds X.K fd ps ds)(hd:Vals Vc ds)(hx:pD CX X R)
  (ha:PA X (e::es) t)(Tj:(x == ("__debug__":Str))=false:=by decide)(he:starEach (e::es) X.env=(false,eval e X.env)::starEach es X.env:=by rfl)(Vg:(backTo pos<|starEach es X.env).any (·.1)=false:=by rfl):
  PE X (.Call (.Name x p) (e::es) [] pos) (pC sp Vc R t):=by intro pins s σ H Q I h;show Pu (Pe I hg hm ?_ Tj);show IQ (h₀:=X.base) I.ok.mod.kin hk (thn (ha pos pins s σ H _ I h) λus s1 ⟨vs,H1,I1,r,q⟩=>⟨I1.kIn,?_⟩) he Vg;show pB F hr hb hd hx I1 r q
end
def Ends.less(D:Ends)(i:Nat):(Ends):={nx:=λσ H=>D.nx (σ.set i none) H,rt:=D.rt,bk:=λσ H=>D.bk (σ.set i none) H,ct:=λσ H=>D.ct (σ.set i none) H}
def pj(K:Ad)(W:Addr)(i:Nat)(tb:(St->XK)->TS)(th:Addr->Addr->TS):(TS):=λD σ H=>
 tb (λσ' c _ H'=>∃C,c=Value.ref C/\PySem.W.exmOne K ↑C ↑W=some true/\∀e:Addr,H' e=none->th e C (D.less i) (σ'.set i<|some<|.ref e) H') D σ H
def ph{x n:Str}{np LK pos:Pos}{b₀:Stmt}{JZ:List Stmt}{tb:(St->XK)->TS}{th:Addr->Addr->TS}
  (WV:X.stack=X.env::X.outer)(Qx:X.env.frame=some X.env.locals)(hex:X.ex=[])(hN:X.N.Nodup)(hi:X.N[i]?=some n)(hl:X.env.kindOf n=some .local)(hm:X.mg x=some ↑W)(hg:Gl X x)
  (hb:∀R pins,PSs (OE X pins R) body<|tb R)(hs:∀e C oe pins,oe.cls=.ref C->PSs (LL X pins e oe) (b₀::JZ) (th e C))(Tj:(x == ("__debug__":Str))=false:=by decide):
  PS X (.Try body [.ExceptHandler (some<|.Name x np) (some n) (b₀::JZ) LK] [] [] pos) (pj X.K W i tb th):=by
 intro pins s σ H D I h;show wpAny_Try_except (Uc (hb _ pins [] s σ H D I.inTry h) (λf s1 q=>?_) λev s1 q=>?_)
 .let q:=SP.outTry q;cases f with
  |next=>show Em q
  |brk=>show q
  |cont=>show q
  |ret u=>show q
 .let⟨σ1,H1,s0,I0,Wd⟩:=q;let⟨e,C,H',rfl,sP,F,C',eC,hmt,hR⟩:=I0.flown Wd;cases eC;let hR:=hR e F.free
  let⟨T,a0,fl,nT,fT⟩:=cL WV sP F;let Vs:∀b∈[e,T],X.s₀.heap.get? b=none/\H' b=none/\(∀p∈X.pn++pins,p.1≠b):=λb hb=>by
   let key:∀b,s0.heap.get? b=none->H' b=none->X.s₀.heap.get? b=none/\H' b=none/\(∀p∈X.pn++pins,p.1≠b):=λb n0 f0=>⟨I0.was hex n0,f0,λp hp z=>by
    have:=(I0.pin p hp).1
    rw[z,n0]at this;cases this⟩
   rcases Yh.mp hb with rfl|hb
   .show key _ F.new F.free
   .rw[XG.mp hb];show key _ nT fT
  rw[WV]at fl;show wpAny_looks_onW (by rw[sP.ok.frames,WV]) Qx fl λh₄ LJ Cy=>?_;show wpAny_landsW LJ λh₅ OD HK=>?_;let JY:=Cy.trans HK
  let J₅:Inv X pins σ1 H' {s1 with heap:=h₅}:=sP.held (tk:=s1.toks) Vs OD.1 JY;let⟨ob,QA,pf⟩:=OD.there;show wpAny_handleBy_cons (codeAny_handlers_test<|um J₅.ok.kind hg (Calls.loadGlobal_global (by rw[J₅.ok.glob];show J₅.mod.glob.keeps J₅.bk) hm ?_) Tj) (by intro q;cases q);let LT:PySem.W.Looks (model X.prog X.w) h₅ (typeOf<|.ref e) ↑C:=by rw[<-pf];show(PySem.W.Looks.ld QA).andThen .now
  show(PySem.W.exm_one J₅.kIn LT hmt).here ?_;show codeAny_handlers_suite_as ?_;show lands_againW OD λh₆ JX Cw=>?_;let J₆:Inv X pins σ1 H' {s1 with heap:=h₆}:=sP.held (tk:=s1.toks) Vs JX.1 (JY.trans Cw)
  let⟨oe,ws,RY,pd,LI,hoe0⟩:=JX.first;let DV:e≠X.env.locals:=λz=>by
   let⟨m,⟨o',es,ep,WE,SA,_⟩,_⟩:=J₆.loc;rw[<-z]at WE;let OC:h₆.get? e=some oe:=RY
   let Sr:h₆.get? e=some o':=WE;rw[OC]at Sr;cases Sr;rw[LI]at SA;cases SA
  let Kb:e∉X.fs:=λz=>by
   let⟨_,o',WE,hd⟩:=J₆.funs.mem z;let OC:h₆.get? e=some oe:=RY
   let Sr:h₆.get? e=some o':=WE;rw[OC]at Sr;cases Sr;show hd ws LI
  show DT J₆ hN hi (.inl hl) (v:=.ref e) Z (λs7 J₇ wq=>?_) (.inr hl);let⟨a,Cv,ha⟩:=wq;let hea:e≠a:=by
   rcases ha with rfl|ha
   .show DV
   .intro z;let⟨v,o',WE,SA⟩:=J₆.cell _ _ ha;rw[<-z]at WE;let OC:h₆.get? e=some oe:=RY
    let Sr:h₆.get? e=some o':=WE;rw[OC]at Sr;cases Sr;rw[LI]at SA;cases SA
  let o9:s7.heap.get? e=some oe:=(Cv.2 e hea).trans RY;let JH:=J₇.inHan (oe:=oe) o9 F.free DV Kb (λv z=>by rw[LI]at z;cases z)
  show Uc (hs e C oe pins pd [] s7 _ H' (D.less i) JH hR) (λf s8 q=>?_) λ_ _ z=>False.elim z;let hp:(X.env.scope.kind == .class||(X.env.scope.kind == .module&&X.env.locals != X.env.globals))=false:=by rw[sP.ok.kind];rfl
  let fin:∀{σ8:St}{H8:Hp},Inv (LL X pins e oe) [] σ8 H8 s8->∀{Q:Flow->Shared->Prop},(∀s9,Inv X pins (σ8.set i none) H8 s9->Q f s9)->wpAny (model X.prog X.w) X.A (do bindName X.env n .none;unbindBehindTheSuite X.env n LK) (λ_ s9=>Q f s9) X.xe s8:=λ{σ8 H8} J8 {Q} k=>by let J9:=J8.outHan I.ok.hd I.ok.frames;let⟨m,hn,_⟩:=id J9.loc;show wpAny_nameGoes_keeps hl hn hp λh' v RJ Cu=>k _ (J9.gone hN hi hn RJ Cu)
  cases f with
  |next=>let⟨σ8,H8,J8,q⟩:=q;show fin J8 λs9 J9=>⟨_,H8,J9,q⟩
  |brk=>let⟨σ8,H8,J8,q⟩:=q;show fin J8 λs9 J9=>⟨_,H8,J9,q⟩
  |cont=>let⟨σ8,H8,J8,q⟩:=q;show fin J8 λs9 J9=>⟨_,H8,J9,q⟩
  |ret u=>let⟨v,σ8,H8,J8,r,q⟩:=q;show fin J8 λs9 J9=>⟨v,_,H8,J9,r,q⟩
end L2
namespace L2
open PySem PySem.Spec PyProof.Rows PySem.W PySem.Calls Builtin Builtin.ObjectAttr Builtin.Getset_descriptor
section
variable{prog:Program}{w:World}{A:Around}{E:Ae}{K:Ad}{x C:Addr}{ox:Obj}
def o8{R:Result->Shared->Prop}{s:Shared}{tp:Value}(X:K.In s.heap)(hx:s.heap.get? x=some ox)(hc:ox.cls=.ref C)(hm:mroIn K C (.type "object")=some true)
  (h:R (.ok<|.ret<|.ref C) s):codeAny (model prog w) A (.call (.builtin "getset_descriptor.__get__") ⟨[.builtin "object.__class__",.ref x,tp],[]⟩) R s:=by
 let⟨hh,g,dr,t,os⟩:=s;let L0:Looks (model prog w) hh (typeOf<|.ref x) ↑C:=by rw[<-hc];show(Looks.ld hx).andThen .now
 let L1:=looks_mroIn (M:=model prog w) X hm;show xP KF.slot_gs.plain KF.entry_gs (KF.slot_gs.check _ _ _ _ _ _ _ _ KF.type_class (KF.args_gs _ _ _) ?_);unfold Builtin.«getset_descriptor.__get__» descrGet;rw[dga_obj];show XU (Yj ?_);unfold descrGetter descrCheckInstance descrNameAndClass isInstance;simp only[KF.owner_class]
 repeat lk
 exists Pl _ DX,RO KF.entry_class ?_;unfold Builtin.«object.__class__» shownTypeOf
 repeat lk
 show h
def o7{tk:Tok}{Q:Fin->Shared->Prop}(X:K.In s.heap)(hx:s.heap.get? x=some ox)(hc:ox.cls=.ref C)(c:XCls K C)(hq:Q (.done (.ret ↑C)) s):
  wpAny (model prog w) A (Builtin.«object.__getattribute__» ⟨[.ref x,.str "__class__" tk],[]⟩) Q E s:=by
 let⟨hh,g,dr,t,os⟩:=s;let L0:Looks (model prog w) hh (typeOf<|.ref x) ↑C:=by rw[<-hc];show(Looks.ld hx).andThen .now
 let L1:=looks_findIn (M:=model prog w) X c.cl;let wm:(⟨hh,g,dr,t,os⟩:Shared).TypeIs (.builtin "object.__class__") "getset_descriptor":=F.typeOf_object_class
 let f5:=F.typeOf_object_class;let f6:=F.slot_gs_get.lookup
 let f7:=F.slot_gs_set.lookup
 repeat (any_goals (first|assumption|(with_reducible show L0.at ?_)|(with_reducible show L1.at ?_)|wp_step))
 show o8 (s:=⟨hh,g,dr,t,os⟩) X hx hc c.ob ?_;show Yj hq
def o6{JW:Value}{Q:Unit->Shared->Prop}{s:Shared}(X:K.In s.heap)(hx:s.heap.get? x=some ox)(hc:ox.cls=.ref C)(c:XCls K C)(hq:Q () s):
  wpAny M A (checkBuiltinCall "BaseException.__getattribute__" ⟨[.ref x,JW],[]⟩) Q E s:=by
 let⟨hh,g,dr,t,os⟩:=s;let hk:builtinKind "BaseException.__getattribute__"=some .slot:=DX
 let HJ:splitId "BaseException.__getattribute__"=some ("BaseException","__getattribute__"):=DX;let ha:=PySem.F.args_bexc_ga ↑x JW
 let L0:Looks M hh (typeOf<|.ref x) ↑C:=by rw[<-hc];show(Looks.ld hx).andThen .now
 let L1:=looks_mroIn (M:=M) X c.bx;simp only[checkBuiltinCall,hk,HJ];show XU ?_;show XU (L0.at<|L1.at ?_)
 repeat (any_goals (first|assumption|wp_step))
def o5{tk:Tok}{R:Result->Shared->Prop}{s:Shared}(X:K.In s.heap)(hx:s.heap.get? x=some ox)(hc:ox.cls=.ref C)(c:XCls K C)(hq:R (.ok (.ret ↑C)) s):
  codeAny (model prog w) A (.call (.builtin "BaseException.__getattribute__") ⟨[.ref x,.str "__class__" tk],[]⟩) R s:=
 xP eJ.ga.plain PySem.F.entry_bexc_ga (o6 X hx hc c<|o7 X hx hc c hq)
def o4{tk:Tok}{Q:Ae}{s:Shared}(X:K.In s.heap)(hx:s.heap.get? x=some ox)(hc:ox.cls=.ref C)(c:XCls K C)(hq:Q ↑C s):
  wpAny (model prog w) A (getAttrBy ↑x (.str "__class__" tk) false) Q E s:=by
 let⟨hh,g,dr,t,os⟩:=s;let f3:=eJ.ga.bind ↑x
 let o3:(Value.builtin "BaseException.__getattribute__" == Value.builtin "object.__getattribute__")=false:=DX;let cK:(onTheHeap (Value.ref C)&&Value.builtin "BaseException.__getattribute__" == Value.builtin "object.__getattribute__")=false:=by rw[o3];rfl
 let L0:Looks (model prog w) hh (typeOf<|.ref x) ↑C:=by rw[<-hc];show(Looks.ld hx).andThen .now
 let L1:=looks_findIn (M:=model prog w) X c.ga;let L2:=looks_findIn (M:=model prog w) X c.gh
 repeat (any_goals (first|assumption|(with_reducible show L0.at ?_)|(with_reducible show L1.at ?_)|(with_reducible show L2.at ?_)|wp_step))
 show o5 (s:=⟨hh,g,dr,t,os⟩) X hx hc c ?_
 repeat (any_goals (first|assumption|wp_step))
def oZ{Q:Option Value->Shared->Prop}{s:Shared}(X:K.In s.heap)(hx:s.heap.get? x=some ox)(hc:ox.cls=.ref C)(c:XCls K C)(hq:Q (some ↑C) {s with toks:=s.toks+1}):
  wpAny (model prog w) A (getAttr? ↑x "__class__") Q E s:=by
 let⟨hh,g,dr,t,os⟩:=s;unfold getAttr? getAttrBy?
 repeat (any_goals (first|assumption|with_reducible show o4 (s:=⟨hh,g,dr,_,os⟩) X hx hc c ?_|wp_step))
def oY(c:XCls K C)(SM:(clsIn K C).isSome=true)(hc:ox.cls=.ref C):KitX K ↑x ↑C (λh=>h.get? x=some ox) where
 ty:=λ_ _ _ hx=>by rw[<-hc];show(Looks.ld hx).andThen .now
 it:=λ_ _ X _=>by
  unfold clsIn at SM;split at SM
  .rename_i c' d' cd' ID ho;intro A' Q' E' s' k q;unfold isType loadHead;show XU (wpAny_loadPart (k _ _<|X _ _ ho)<|Yj q)
  .cases SM
 ne:=λh tp dd XX n sl X OB=>by
  show tY.mpr λq=>?_;let e:C=tp:=Value.ref.inj (RM.mp q)
  subst e;unfold clsIn at SM;split at SM
  .rename_i c' d' cd' ID ho
   have:=X _ _ ho
   rw[OB]at this;cases this
  .cases SM
 ca:=λ{_ _ _ _ _ s} X hx hq=>oZ X hx hc c hq
end
def XCls.isSome{K:Ad}{C:Addr}(c:XCls K C):(clsIn K C).isSome=true:=by
 let q:=c.ex;unfold excIn at q;unfold clsIn;split at q
 .rename_i dd cd sl ho;rw[ho];rfl
 .cases q
section
variable{X:Cx}
def wk(K:Ad){e C:Addr}{oe:Obj}(hp:(e,oe)∈X.pn)(hc:oe.cls=.ref C)(h:X.K=K:=by rfl):Tp X (.builtin "isinstance") (λxs H Q=>∃d u b,xs=[.ref e,d]/\(∀z,RelV d z->z=u)/\XCls K C/\kitOne K ↑C u=some b/\Q (.bl b) H):=by
 subst h;intro pins s σ H xs us Q I r h;let⟨d,u,b,rfl,hd,c,hk,q⟩:=h;let⟨u1,v,rfl,ru,rv⟩:=de r;let rfl:u1=Value.ref e:=ru;let rfl:=hd v rv;let hx:=(I.pin (e,oe)<|Yf _ hp).1
 show kia_one (oY c c.isSome hc) I.kIn hx hk (λz=>nomatch z) λtk=>⟨.bl b,H,I.tok tk,Z,q⟩
end
end L2
namespace L2
open PySem PySem.Spec PyProof.Rows
def oX:Ko (Va P w) X E0:=λ_ _ _ _ _ _ _ h=>by let⟨_,_,_,_,_,_,_,_,_,z⟩:=h;show z.elim
end L2
namespace My
open PySem L2
def Ct{p1 p2:Addr}(h1:H p1=some (.lst (IL l1)))(h2:H p2=some (.lst (IL l2)))(hl:l1.length+l2.length<=1000000)(k:∀r,H r=none->Q ↑r (upd H r (.lst (IL (l1++l2))))):rCat ↑p1 ↑p2 H Q:=by
 exists p1,p2,_,_,Z,Z,h1,h2,?_,λr hr=>?_
 .rw[Xp,Xp];show LS hl
 .have:=k r hr
  rwa[wN]at this
def LH(ns:Ac)(lo hi:Option Int):(Ac):=(ns.drop<|HT.Vb ns.length 0 lo).take (HT.Vb ns.length ns.length hi-HT.Vb ns.length 0 lo)
def JV(ns:Ac)(lo hi:Option Int):WK (IL ns) lo hi=IL (LH ns lo hi):=by unfold WK LH;rw[c7,pZ,Xp]
def xI{α:Type}{p:α->Prop}{w:α}(h:p w):∃x,p x:=⟨w,h⟩
end My
namespace L2
open PySem PySem.Spec PyProof.Rows
def OA:∀{us:Ag}{ns:Ac},IntsAre us ns->Vals (ns.map V.int) us
 |[],[],_=>.nil
 |_::_,[],h=>by cases h
 |[],_::_,h=>by cases h
 |u::us,n::ns,h=>by
  cases h with
  |cons _ _ t=>show .cons ⟨_,Z⟩ (OA t)
def Vals.rev{xs:List V}{us:Ag}(h:Vals xs us):Vals xs.reverse us.reverse:=by
 induction h with
 |nil=>show .nil
 |cons r t ih=>
  rw[tZ,tZ];show ih.append (.cons r .nil)
section
variable{X:Cx}
inductive yR2(K:Ad)(xs:List V)(H:Hp)(Q:VK):Prop
 |mk (p ns:_) (_:xs=[.ref p]) (_:SqL K H p (ns.map V.int)) (_:ns.length<64) (_:∀ms:Ac,ms.Perm ns->ms.Pairwise (·<=·)->∀l,H l=none->Q ↑l (upd H l<|.lst<|ms.map V.int))
def wj(K:Ad)(hk:X.K=K:=by rfl):Tp X (.builtin "sorted") (yR2 K):=by
 subst hk;intro pins s σ H xs us Q I r h;let⟨p,ns,rfl,hq,hn,q⟩:=h;let⟨u,rfl,ru⟩:=Sy r;let rfl:u=Value.ref p:=ru;let⟨XX,rv,pl,hz⟩:=I.list hq;let hi:=Zz rv
 let hl:XX.length=ns.length:=by rw[<-rv.length,Yb]
 show sorted_ints pl.isList hi J λout ms h1 h2 h3=>?_;let⟨e,he⟩:=sortedAll_at s.heap XX out;let LG:ms.length=ns.length:=h2.length_eq
 exists .ref<|(~~~s)+1,_,I.laid (t':=s.toks) (o:=.lst<|ms.map V.int) (λb o g=>sortedAll_old g) (Ud _) ⟨?_,out.toList,e,OA h1,?_⟩,Z,q ms h2 h3 _<|I.hok.fresh<|Ud _
 .rw[Yb,LG]
  have:sizeLine=16777216:=Tz
  lia
 .show he
def oW:typeLookup (.type "list_reverseiterator") "__length_hint__"=pure (some (.builtin "list_reverseiterator.__length_hint__")):=by rw[QH,FV];kernel_rfl
def ZC8:typeLookup (.type "list_reverseiterator") "__len__"=pure none:=by rw[QH,FV];kernel_rfl
def oV{E:Ae}{s:Shared}{r:Addr}{Q:Bool->Shared->Prop}(hT:s.TypeIs ↑r "list_reverseiterator")(h:Q false s):wpAny (model prog w) A (Builtin.List.listLengthHint ↑r) Q E s:=by
 unfold Builtin.List.listLengthHint;show XU (wpAny_specialOf hT ZC8 ?_);change wpAny _ A (specialOf (Value.ref r) (Str.ofString "__length_hint__") >>= _) _ _ _
 show XU (wpAny_specialOf hT oW ?_);generalize Cs:("list_reverseiterator.__length_hint__":String)=oU
 wp_delta
 rw[show splitId oU=some ("list_reverseiterator","__length_hint__") from by subst Cs;decide +kernel];subst Cs;show XU (Mm (T:="list_reverseiterator") (b:=true) hT (by rw[xu];kernel_rfl) ?_);show Yj h
section
variable{prog:Program}{w:World}{A:Around}{E:Ae}{s:Shared}{it a:Addr}{items:Array Value}
def Zg7{R:Result->Shared->Prop}(hh:A.handled=none)(hi:s.heap.IsRevIter it a ((items.size:Int)-1))(hl:s.heap.IsList a items)(XM:a≠it){S:Addr}(h1:S≠it)(h2:S≠a){c0:Nat}
  (hS:s.heap.get? S=some {cls:=.type "list",data:=.seq #[] c0})(hz:items.size<=sizeLine)
  (k:∀h' tk acc c,(∀b o,b≠S->b≠it->s.heap.get? b=some o->h'.get? b=some o)->h'.get? S=some {cls:=.type "list",dict:=none,data:=.seq acc c,slots:=#[]}->ItemsOf (λi v=>items[items.size-1-i]?=some v) acc items.size->R (.ok<|.ret res) {s with heap:=h',toks:=tk}):
  wpAny (model prog w) A.in1 (Builtin.List.listExtendWith ↑S ↑it res)
   (λfin s'=>match fin with | .done f=>R (.ok f) s' | .again c'=>c'.quiet=true/\codeAny (model prog w) A c' R s') (λe s'=>R (.error e) s') s:=by
 let W:=Walks.listRev (prog:=prog) (w:=w) (A:=A.in1) hh it a XM items;let RC:S∉[it,a]:=by simp only[Yh,tU,or_false,not_or];exists h1,h2
 let Ft:(0<=items.size/\s.heap.IsRevIter it a ((items.size:Int)-1-((0:Nat):Int))/\s.heap.IsList a items):=⟨Ym _,by rw[show((items.size:Int)-1-((0:Nat):Int))=(items.size:Int)-1 by lia];show hi,hl⟩;let hT:s.TypeIs ↑it "list_reverseiterator":=hi.typeIs
 let key:codeAny (model prog w) A (.builtin "list.extend.loop" ⟨[.ref S,.ref it,res],[]⟩) R s:=by
  show codeAny_extend_loopS W.toS hz S RC res items.size 0 _ #[] c0 Z (Ym _) Ft hS (ItemsOf.nil _) λs' acc c hm Uj VF=>?_;rw[Moved.eq_with hm];show k s'.heap s'.toks acc c (λb o hb hbi e=>hm.heap b o (λhmem=>?_) e) Uj VF;rcases Yh.mp hmem with e'|hmem
  .show hb e'
  .show hbi (XG.mp hmem)
 unfold Builtin.List.listExtendWith;show XU (Ei (T:="list_reverseiterator") hT ?_);let e1:Builtin.List.listSameRef ↑S ↑it=false:=by simp[Builtin.List.listSameRef,h1]
 rw[if_neg (by rw[e1];decide)];show XU (wpAny_pyIter_revIter hi ?_);show XU (Se<|oV hT ?_);rw[if_neg sZ];show Yj ⟨Mu eV _,key⟩
def oS{Q:Ae}(hh:A.handled=none)(hi:s.heap.IsRevIter it a ((items.size:Int)-1))(hl:s.heap.IsList a items)(XM:a≠it)(hz:items.size<=sizeLine)
  (k:∀h' tk acc c,(∀b o,b≠it->s.heap.get? b=some o->h'.get? b=some o)->h'.get? (~~~s)=some {cls:=.type "list",dict:=none,data:=.seq acc c,slots:=#[]}->ItemsOf (λi v=>items[items.size-1-i]?=some v) acc items.size->
   Q (.ref (~~~s)) {s with heap:=h',toks:=tk}):wpAny (model prog w) A (call (.type "list") [.ref it]) Q E s:=by
 let⟨oi,hoi,_⟩:=id hi;let⟨ol,PN,_⟩:=id hl;let n1:(~~~s)≠it:=Vv (Yo hoi)
 let n2:(~~~s)≠a:=Vv (Yo PN);show callType_codes (Q₁:=λob s₁=>ob=.ref (~~~s)/\s₁={s with heap:=s.heap.push {cls:=.type "list",data:=.seq #[]} }) PySem.F.called_list (PySem.F.typeCall_list_1 _) PySem.F.entry_list_init (code_list_new _ ⟨Z,Z⟩) λob s₁ z=>?_;let⟨rfl,rfl⟩:=z;let Fs:(s.heap.push {cls:=.type "list",data:=.seq #[]}).get? (~~~s)=some {cls:=.type "list",data:=.seq #[]}:=Yq _ rfl
 exists ⟨_,Fs,Z⟩,PySem.F.args_list_init_2 _ _,?_;change wpAny _ A.in1.in1 (do let old <-Builtin.List.listItems (.ref (~~~s));Builtin.List.listUpdate (.ref (~~~s)) λ_=>#[];letGo old.toList.reverse;Builtin.List.listExtendWith (.ref (~~~s)) ↑it .none) _ _ _
 show XU ?_;unfold Builtin.List.listItems;show XU (IZ Fs Z<|Yj ?_);show XU (xB (a:=(~~~s)) Fs Z ?_);let Cr:=Pw (Obj.mapSeq λ_=>(#[]:Array Value)) Fs rfl
 let HI:∀b o,b≠(~~~s)->s.heap.get? b=some o->((s.heap.push {cls:=.type "list",data:=.seq #[]}).update (~~~s) (Obj.mapSeq λ_=>(#[]:Array Value))).get? b=some o:=
  λb o hb e=>(YX _ _<|Xc hb).trans (Xd _ e)
 show XU (QG ?_);show Zg7 (A:=A.in1) (items:=items) hh (hi.at λo e=>HI it o (Xc n1) e) (hl.at λo e=>HI a o (Xc n2) e) XM n1 n2 Cr hz λh' tk acc c hk Uj VF=>?_;exists Z,k h' tk acc c (λb o hb e=>hk b o (YB<|Yo e) hb<|HI b o (YB<|Yo e) e) Uj VF
end
end
section
variable{X:Cx}{p p2 pos UJ:Pos}{e:Expr}{t:TA}
def oR(K:Ad)(t:TA):(TE):=λσ H Q=>t σ H λvs H1=>∃a ys,vs=[.ref a]/\SqL K H1 a ys/\∀l,H1 l=none->Q ↑l (upd H1 l<|.lst ys.reverse)
def Cq(K:Ad)(hc:X.calm=true)(g1:Gl X "list")(m1:X.mg "list"=none)(g2:Gl X "reversed")(m2:X.mg "reversed"=none)(ha:PA X [e] t)(hk:X.K=K:=by rfl)
  (he:starEach [e] X.env=[(false,eval e X.env)]:=by rfl)
  (ON:starEach [.Call (.Name "reversed" p2) [e] [] UJ] X.env=[(false,eval (.Call (.Name "reversed" p2) [e] [] UJ) X.env)]:=by rfl):
  PE X (.Call (.Name "list" p) [.Call (.Name "reversed" p2) [e] [] UJ] [] pos) (oR K t):=by
 subst hk;intro pins s σ H Q I h;show Pu (PV I g1 m1 Boot.«list» ?_);show Ji ?_ (by rw[ON];rfl) rfl;rw[ON];change wpAny _ _ (spliced<|(false,eval (.Call (.Name "reversed" p2) [e] [] UJ) X.env)::backTo pos []) _ _ s
 show tJ ?_;show Pu (PV I g2 m2 Boot.«reversed» ?_);show Ji (thn (ha UJ pins s σ H _ I h) λus s1 zz=>?_) (by rw[he];rfl) rfl;let⟨vs,H1,I1,r1,q1⟩:=zz;let⟨a,ys,rfl,hq,q⟩:=q1;let⟨u,rfl,ru⟩:=Sy r1;let rfl:u=Value.ref a:=ru;let⟨XX,rv,pl,hz⟩:=I1.list hq;show call_reversed_list pl.isList ?_;show IG ?_;let el:XX.toArray.size=ys.length:=by rw[Ya,<-rv.length]
 let hit:(s1.heap.push<|revObj a<|(XX.toArray.size:Int)-1).IsRevIter (~~~s1) a ((XX.toArray.size:Int)-1):=⟨_,Yq _ Z,Z,Z⟩;let XM:a≠(~~~s1):=YB (by let⟨_,_,e,_⟩:=pl;show Yo e)
 show oS (I.ok.hd hc) hit (pl.isList.push _) XM (by rwa[el]) λh' tk acc c hk hS Fq=>?_;let el2:XX.length=ys.length:=rv.length.symm
 let ea:acc.toList=XX.reverse:=by
  show Nq λi=>?_;let h1:=Fq.1
  cases hi:i<XX.length
  .obtain⟨v,ev⟩:∃v,acc[i]?=some v:=⟨_,YR<|by rwa[h1,Ya]⟩;let h2:=Fq.2 i v ev
   rw[FX hi];let e3:acc.toList[i]?=some v:=by simpa using ev
   rw[e3];let e4:XX[XX.length-1-i]?=some v:=by simpa using h2
   rw[e4]
  .rw[VM (by rw[Yu,h1,Ya];grind),VM (by rw[VX];omega)]
 rw[size_push']at hS ⊢;exists .ref<|(~~~s1)+1,_,I1.laid (o:=.lst ys.reverse) (h':=h') (t':=tk) (λb o e=>hk b o (YB<|Yo e)<|Xd _ e) (Ud _) ⟨?_,acc.toList,c,?_,?_⟩,Z,q _<|I1.hok.fresh<|Ud _
 .rw[VX];show hz
 .rw[ea];show rv.rev
 .rw[hS]
end
end L2
namespace My
open PySem L2
def XW:IsSet m ns↔(∀z∈ns,0<=z/\z<(m:Int))/\ns.Pairwise (·<·):=by
 constructor
 .intro h;exists h.all,?_;rw[UT];intro i j hi hj WM
  induction j with
  |zero=>show absurd WM (Sf i)
  |succ j ih=>
   let RB:j<ns.length:=sV;let key:=(h (j+1) ns[j+1]<|Xs hj).2.2 ns[j] J (by rw[t7];show Xs RB)
   cases e:i=j
   .subst e;show key
   .have:=ih RB J
    lia
 .rintro⟨ha,hp⟩ i z hz;let⟨hi,ei⟩:=Xy.mp hz;let hm:=ha z (Xg hz)
  exists hm.1,hm.2,λy h0 hy=>?_;let⟨UI,ei'⟩:=Xy.mp hy
  have:=UT.mp hp (i-1) i UI hi J
  rwa[ei,ei']at this
def HH{ns:Ac}(h:ns.Pairwise (·<·)):ns.Nodup:=h.imp λVi e=>J
def IsSet.nodup(h:IsSet m ns):ns.Nodup:=HH (XW.mp h).2
end My
namespace My
def LF{α:Type}{P:List α->Prop}(h0:P [])(h1:∀l x,P l->P (l++[x])):∀l,P l:=by
 intro l;rw[<-List.reverse_reverse l]
 induction l.reverse with
 |nil=>show h0
 |cons x r ih=>
  rw[tZ];show h1 _ _ ih
inductive Conn(es:List (Nat×Nat)):Nat->Nat->Prop
 |refl (i:Nat):Conn es i i
 |edge {a b:Nat} (h:(a,b)∈es):Conn es a b
 |symm {i j:Nat}:Conn es i j->Conn es j i
 |trans {i j k:Nat}:Conn es i j->Conn es j k->Conn es i k
def Conn.mono(h:∀e∈es,e∈fs)(c:Conn es i j):Conn fs i j:=by
 induction c with
 |refl i=>show .refl i
 |edge q=>show .edge (h _ q)
 |symm _ ih=>show .symm ih
 |trans _ _ i1 i2=>show .trans i1 i2
def wg{n i:Nat}(h:i<n):mk ((List.range n).map λ(i:Nat)=>(i:Int)) i=(i:Int):=by rw[mk_map' h]
where
 mk_map' {n i:Nat} (h:i<n):mk ((List.range n).map λ(i:Nat)=>(i:Int)) i=(i:Int):=by simp[mk,Ws,Yp,xR h]
def InN(n:Nat)(es:List (Nat×Nat)):(Prop):=∀e∈es,e.1<n/\e.2<n
def InN.snoc{e:Nat×Nat}(h:InN n (es++[e])):InN n es/\e.1<n/\e.2<n:=⟨λx hx=>h x<|Yf _ hx,h e B⟩
def oQ:∀es:List (Nat×Nat),InN n es->∀e∈es,mk (WX n es) e.1=mk (WX n es) e.2:=by
 show LF (λ_ e h=>by cases h) λes x ih hn e he=>?_;let⟨h1,h2,h3⟩:=hn.snoc;let hl:=ZA n es
 let hx:=hn e he;rw[Na];show(CG J J).mpr ?_;rcases XA.mp he with q|q
 .show .inl (ih h1 e q)
 .rw[XG.mp q];show .inr ⟨.inl Z,.inr Z⟩
def oP:∀es:List (Nat×Nat),InN n es->∀i j,i<n->j<n->mk (WX n es) i=mk (WX n es) j->Conn es i j:=by
 show LF (λ_ i j hi hj h=>?_) λes x ih hn i j hi hj h=>?_
 .let h:mk ((List.range n).map λ(i:Nat)=>(i:Int)) i=mk ((List.range n).map λ(i:Nat)=>(i:Int)) j:=h;rw[wg hi,wg hj]at h
  have:i=j:=J
  subst this;show .refl i
 .let⟨h1,h2,h3⟩:=hn.snoc;let hl:=ZA n es
  let up:∀{i j:Nat},Conn es i j->Conn (es++[x]) i j:=λc=>c.mono λe he=>Yf _ he;let ex:Conn (es++[x]) x.1 x.2:=.edge B
  rw[Na]at h;rcases(CG J J).mp h with q|⟨q1,q2⟩
  .show up (ih h1 i j hi hj q)
  .let ci:Conn (es++[x]) i x.1:=by
    rcases q1 with q|q
    .show up (ih h1 i _ hi h2 q)
    .show(up<|ih h1 i _ hi h3 q).trans ex.symm
   let cj:Conn (es++[x]) j x.1:=by
    rcases q2 with q|q
    .show up (ih h1 j _ hj h2 q)
    .show(up<|ih h1 j _ hj h3 q).trans ex.symm
   show ci.trans cj.symm
def oO(hn:InN n es)(c:Conn es i j):i=j\/(i<n/\j<n/\mk (WX n es) i=mk (WX n es) j):=by
 induction c with
 |refl i=>show .inl rfl
 |edge q=>show .inr ⟨(hn _ q).1,(hn _ q).2,oQ es hn _ q⟩
 |symm _ ih=>
  rcases ih with e|⟨a,b,c⟩
  .show .inl e.symm
  .show .inr ⟨b,a,c.symm⟩
 |trans _ _ i1 i2=>
  rcases i1 with e|⟨a,b,c⟩
  .rw[e];show i2
  .rcases i2 with e|⟨a',b',c'⟩
   .rw[<-e];show .inr ⟨a,b,c⟩
   .show .inr ⟨a,b',c.trans c'⟩
def ZT(hn:InN n es)(hi:i<n)(hj:j<n):mk (WX n es) i=mk (WX n es) j↔Conn es i j:=by
 constructor
 .show oP es hn i j hi hj
 .intro c;rcases oO hn c with e|⟨_,_,e⟩
  .rw[e]
  .show e
def Qw(hn:InN n es)(hi:i<n)(hj:j<n):mk (Xz n es) i=mk (Xz n es) j↔Conn es i j:=by
 rw[<-ZT hn hi hj];let s:=wC (n:=n) (es:=es) hn
 show s.2 i j (by rwa[Zw]) (by rwa[Zw])
def cnt(M:Ac):(Nat):=(Vf M M.length).length
def LD(M:Ac):∃p,p<=i/\mk M p=mk M i/\Wc M p=true:=by
 induction i using Nat.strongRecOn with
 |ind i ih=>
  cases h:Wc M i=true
  .exists i,XN _,Z,h
  .have:∃j,j<i/\mk M j=mk M i:=by
    cases q:∃j,j<i/\mk M j=mk M i
    .show q
    .show absurd (XB.mpr λj hj e=>q ⟨j,hj,e⟩) h
   let⟨j,hj,e⟩:=this;let⟨p,h1,h2,h3⟩:=ih j hj;exists p,J,h2.trans e,h3
def oN{p q:Nat->Bool}{x n:Nat}(hx:x<n)(hpx:p x=true)(h:∀y,y<n->q y=(p y && !decide (y=x))):((List.range n).filter q).length+1=((List.range n).filter p).length:=by
 induction n with
 |zero=>show absurd hx (Sf x)
 |succ n ih=>
  rw[Er,QI,QI,Xw,Xw];cases e:x=n
  .subst e;let e1:(List.range x).filter q=(List.range x).filter p:=SF λy hy=>by let hy:=YY.mp hy;rw[h y J,show decide (y=x)=false from Rm J];simp
   let e2:q x=false:=by rw[h x J];simp
   rw[e1];simp[YZ,e2,hpx]
  .let hq:q n=p n:=by rw[h n J,show decide (n=x)=false from Rm λz=>e z.symm];simp
   have:=ih J λy hy=>h y J
   simp only[YZ,tN,hq];lia
def we(hp:Wc M p=true)(hq:Wc M q=true)(e:mk M p=mk M q):p=q:=by
 rcases Nat.lt_trichotomy p q with h|h|h
 .show absurd e (XB.mp hq p h)
 .show h
 .show absurd e.symm (XB.mp hp q h)
def wd(ha:a<m.length)(hb:b<m.length)(XM:mk m a≠mk m b):cnt (lm m a b)+1=cnt m:=by
 let⟨A,PL,RX,Fp⟩:=LD m (i:=a);let⟨AP,Cp,LC,JU⟩:=LD m (i:=b);let hAB:A≠AP:=λe=>XM (by rw[<-RX,<-LC,e])
 unfold cnt Vf;rw[wF];show oN (x:=max A AP) sV ?_ λy hy=>?_
 .rcases Nat.le_total A AP with h|h
  .rw[Nat.max_eq_right h];show JU
  .rw[Nat.max_eq_left h];show Fp
 .rw[Pp,Kw,XB,XB];let key:∀i,i<y->(mk (lm m a b) i=mk (lm m a b) y↔Fv m a b i y):=λi hi=>CG J hy
  let oM:(!decide (y=max A AP))=true↔y≠max A AP:=B;rw[oM];constructor
  .intro q;exists λi hi e=>q i hi<|(key i hi).mpr (.inl e),λe=>?_;rcases Nat.lt_or_gt_of_ne hAB with h|h
   .let ey:y=AP:=J;subst ey;show q A h ((key A h).mpr (.inr ⟨.inl RX,.inr LC⟩))
   .let ey:y=A:=sV;subst ey;show q AP h ((key AP h).mpr (.inr ⟨.inr LC,.inl RX⟩))
  .rintro⟨q1,q2⟩ i hi e;rcases(key i hi).mp e with e|⟨e1,e2⟩
   .show q1 i hi e
   .let fy:Wc m y=true:=XB.mpr q1;rcases e2 with e2|e2
    .let ey:y=A:=we fy Fp (e2.trans RX.symm);rcases e1 with e1|e1
     .show q1 i hi (e1.trans e2.symm)
     .let⟨p,p1,p2,p3⟩:=LD m (i:=i)
      have:p=AP:=we p3 JU (by rw[p2,e1,LC])
      grind
    .let ey:y=AP:=we fy JU (e2.trans LC.symm);rcases e1 with e1|e1
     .let⟨p,p1,p2,p3⟩:=LD m (i:=i)
      have:p=A:=we p3 Fp (by rw[p2,e1,RX])
      grind
     .show q1 i hi (e1.trans e2.symm)
def oK(n:Nat):cnt ((List.range n).map λ(i:Nat)=>(i:Int))=n:=by
 unfold cnt Vf;rw[Yb,Nr];let e:(List.range n).filter (Wc<|(List.range n).map λ(i:Nat)=>(i:Int))=List.range n:=by
  show IS.mpr λp hp=>XB.mpr λi hi e=>?_;let hp:=YY.mp hp
  rw[wg J,wg hp]at e;lia
 rw[e,Nr]
def oJ(hM:1<=M.length):cnt M=1↔∀i j,i<M.length->j<M.length->mk M i=mk M j:=by
 let e:cnt M=(HQ M).length:=by unfold cnt HQ;rw[cN,Yb]
 rw[e];show cT hM
end My
namespace My
open PySem L2
def oH{i:Int}{n:Nat}(h0:0<=i)(h1:i<(n:Int)):seqIndex? i n=some i.toNat:=by let e:(if i<0 then i+(n:Int) else i)=i:=if_neg J;unfold seqIndex?;simp only[e];rw[if_pos (by simp;lia)]
def Zg(n:Int)(ps:Aa)(ns:Ac):(Prop):=IsSet ps.length ns/\ns⁻¹=n-1/\∀i j,i<n.toNat->j<n.toNat->Conn (XS ps ns) i j
def ZL(g:Zu n ps)(h:∀z∈ns,0<=z/\z<ps⁻¹):InN n.toNat (XS ps ns):=λe he=>by
 let⟨z,hz,rfl⟩:=YN.mp he;let⟨z0,z1⟩:=h z hz;let hp:ps[z.toNat]?=some (ps[z.toNat]'(by lia)):=Xs _
 rw[ZS hp];let⟨b1,b2,b3,b4⟩:=g.2.2.2 _ (Xg hp);exists J,J
def ZG(h:∀z∈ns,z∈ms):∀e∈XS ps ns,e∈XS ps ms:=λe he=>by let⟨z,hz,rfl⟩:=YN.mp he;show YN.mpr ⟨z,h z hz,Z⟩
def Co(h:InN n es):(∀i j,i<(WX n es).length->j<(WX n es).length->mk (WX n es) i=mk (WX n es) j)↔∀i j,i<n->j<n->Conn es i j:=by
 rw[ZA];constructor
 .intro q i j hi hj;show(ZT h hi hj).mp (q i j hi hj)
 .intro q i j hi hj;show(ZT h hi hj).mpr (q i j hi hj)
def cJ(hn:1<=n)(h:InN n es):(HQ (Xz n es)).length=1↔∀i j,i<n->j<n->Conn es i j:=by rw[cT (by rwa[Zw]),(wC h).one];show Co h
def Tf(h:∀z,z∈ns↔z∈ms):Conn (XS ps ns) i j↔Conn (XS ps ms) i j:=
 ⟨λc=>c.mono<|ZG λz hz=>(h z).mp hz,λc=>c.mono<|ZG λz hz=>(h z).mpr hz⟩
section
variable{K:Ad}{a:Addr}{xs:List V}{g:TG}{tt:TT}{te:TE}{o:Nat}{fr:List Nat}{σ:St}{H:Hp}{Q:VK}
def Oz(Pv:Nat->List V->Hp->Prop)(h0:Pv 0 [] H)(hz:xs.length<sizeLine)(hl:∀i ys H,i<=xs.length->Pv i ys H->SqL K H a xs/\ys.length<=i)
  (hs:∀(i:Nat) x ys H (p:Addr),H p=none->xs[i]?=some x->Pv i ys H->Fy Pv g tt te o fr σ i ↑p ys (upd H p<|.tup [.int i,x]))(hd:∀ys H,Pv xs.length ys H->∀p,H p=none->Q ↑p (upd H p<|.lst ys)):Ki (Fz K a) g tt te o fr σ H Q:=by
 exists λi m ys H=>m=xs.length-i/\i<=xs.length/\Pv i ys H,⟨xs.length,B,Ym _,h0⟩,?_;rintro i m ys H ⟨rfl,hi,p⟩;let⟨q,hy⟩:=hl i ys H hi p;cases Xm:i<xs.length
 .show .inr ⟨⟨xs,xs[i],q,by simp[Xm]⟩,J,λx H' zz=>?_⟩;let⟨T,y,hT,ex,eH,hyy⟩:=zz;subst ex eH;show hs i y ys H T hT (hyy xs q) p (λj ys H=>∃m',m'<xs.length-i/\m'=xs.length-j/\j<=xs.length/\Pv j ys H) λys H p'=>⟨xs.length-(i+1),sV,Z,Xm,p'⟩
 .let e:i=xs.length:=J;subst e;show .inl ⟨⟨xs,q,XN _⟩,J,hd ys H p⟩
end
def unlike(M:Ac)(ps:Aa)(i:Nat):(Ac):=((List.range i).filter λk=>decide<|mk M (ps.getD k (0,0)).1.toNat≠mk M (ps.getD k (0,0)).2.toNat).map λ(k:Nat)=>(k:Int)
def Cn(M:Ac)(ps:Aa)(i:Nat):unlike M ps (i+1)=unlike M ps i++(if mk M (ps.getD i (0,0)).1.toNat≠mk M (ps.getD i (0,0)).2.toNat then [(i:Int)] else []):=by
 unfold unlike;rw[Er,QI,YQ];congr 1;cases h:mk M (ps.getD i (0,0)).1.toNat≠mk M (ps.getD i (0,0)).2.toNat
 .rw[if_pos h,YZ,if_pos (Yv h)];rfl
 .rw[if_neg h,YZ,if_neg (by simpa using h)];rfl
def Zy6(M:Ac)(ps:Aa)(i:Nat):(unlike M ps i).length<=i:=by unfold unlike;rw[Yb];show Yr (YG _ _) B
def wo(ns:Ac)(z:Int):(Ac):=ns.filter λy=>decide (y≠z)
def Xl{z y:Int}:y∈wo ns z↔y∈ns/\y≠z:=by unfold wo;rw[Yd];simp
def wc(ns:Ac)(z:Int):(wo ns z).length<=ns.length:=YG _ _
def wb{ns:Ac}{y z:Int}(h:ns[i]?=some y):wo (ns.take (i+1)) z=wo (ns.take i) z++(if y≠z then [y] else []):=by
 unfold wo;rw[WB,h,QI];congr 1;cases e:y≠z
 .rw[if_pos e];change List.filter _ [y]=_;rw[YZ,if_pos (Yv e)];rfl
 .rw[if_neg e];change List.filter _ [y]=_;rw[YZ,if_neg (by simpa using e)];rfl
def oG(g:Zu n ps)(hM:M.length=n.toNat)(s:SameP M L):unlike M ps ps.length=unlike L ps ps.length:=by
 unfold unlike;congr 1;show SF λk hk=>?_;let hk:=YY.mp hk
 let hp:ps[k]?=some ps[k]:=Xs hk;rw[ZS hp];let⟨b1,b2,b3,b4⟩:=g.2.2.2 _ (Xg hp)
 have:=s.2 ps[k].1.toNat ps[k].2.toNat sV sV
 rw[Pp,YV,YV];show not_congr this
def Sq(n:Int)(ps:Aa)(ns:Ac)(z:Int)(l:Ac):(Ac):=l.filter λy=>decide (z∈unlike (WX n.toNat<|XS ps<|wo ns y) ps ps.length)
def cI{l:Ac}{y:Int}(h:l[i]?=some y):
  Sq n ps ns z (l.take<|i+1)=Sq n ps ns z (l.take i)++(if z∈unlike (WX n.toNat<|XS ps<|wo ns y) ps ps.length then [y] else []):=by
 unfold Sq;rw[WB,h,QI];congr 1;cases e:z∈unlike (WX n.toNat<|XS ps<|wo ns y) ps ps.length
 .rw[if_pos e];change List.filter _ [y]=_;rw[YZ,if_pos (Yv e)];rfl
 .rw[if_neg e];change List.filter _ [y]=_;rw[YZ,if_neg (by simpa using e)];rfl
def Fo(n:Int)(ps:Aa)(ns:Ac)(z:Int)(l:Ac):(Sq n ps ns z l).length<=l.length:=YG _ _
def Zx6{z:Int}(h0:0<=z)(h1:z<ps⁻¹):z∈unlike M ps ps.length↔mk M (ps.getD z.toNat (0,0)).1.toNat≠mk M (ps.getD z.toNat (0,0)).2.toNat:=by
 unfold unlike;rw[YN];constructor
 .rintro⟨k,hk,rfl⟩
  have:=Yy (Yd.mp hk).2
  rwa[YK]
 .intro h;exists z.toNat,Yd.mpr ⟨YY.mpr sV,Yv h⟩,J
def Cm{a b:Ac}(h:a.Perm b)(h1:a.Pairwise (·<=·))(h2:b.Pairwise (·<=·)):a=b:=by
 induction a generalizing b with
 |nil=>show(List.Perm.nil_eq h)
 |cons x a ih=>
  cases b with
  |nil=>show absurd h.length_eq B
  |cons y b=>
   let⟨hx,ha⟩:=YT.mp h1;let⟨hy,hb⟩:=YT.mp h2;let e:x=y:=by
    let m1:y∈x::a:=h.mem_iff.mpr Yc;let m2:x∈y::b:=h.mem_iff.mp Yc
    rcases Yh.mp m1 with e1|e1
    .show e1.symm
    .rcases Yh.mp m2 with e2|e2
     .show e2
     .have:=hx y e1;have:=hy x e2;lia
   subst e;rw[ih (List.Perm.cons_inv h) ha hb]
end My
namespace L2
open PySem PySem.Spec PyProof.Rows
section
variable{prog:Program}{w:World}{A:Around}{E:Ae}{s:Shared}
def Zi6{tp:Addr}{vs:Ag}{Q:List Value->Shared->Prop}{ot:Obj}(ht:s.heap.get? tp=some ot)(hc:ot.cls=.type "tuple")(hd:ot.data=.seq vs.toArray m)(hz:vs.length<=sizeLine)
  (k:Q vs {s with heap:=(s.heap.push<|seqObj "list" #[] 0).update (~~~s) (Obj.mapSeq (·++vs.toArray))}):wpAny (model prog w) A (collect<|.ref tp) Q E s:=by
 let cH:(s.heap.push<|seqObj "list" #[] 0).get? tp=some ot:=Xd _ ht;let HG:(s.heap.push<|seqObj "list" #[] 0).get? (~~~s)=some (seqObj "list" #[] 0):=Yq _ rfl
 unfold collect;show XU (xA<|RO IF ?_);change wpAny _ _ (do again (.builtin "list.__iadd__" ⟨[<-newList [],.ref tp],[]⟩)) _ _ s
 show XU (Mv<|Yj ⟨Pl _ DX,RO entry_list_iadd' ?_⟩);change wpAny _ _ (Builtin.List.listExtendWith (.ref (~~~s)) ↑tp<|.ref (~~~s)) _ _ {s with heap:=s.heap.push (seqObj "list" #[] 0)}
 unfold Builtin.List.listExtendWith;show XU (Ei (T:="tuple") ⟨ot,cH,hc⟩ ?_);rw[if_pos (by rw[show(Value.type "tuple" == Value.type "tuple")=true from Z];simp)];show XU (Pg cH hd ?_);show XU (Pg (xs:=#[]) (n:=0) HG Z ?_);rw[if_neg B];show XU (Nl (xs:=#[]) (n:=0) HG Z ?_ (Ym _)<|by change(#[]++vs.toArray).size<=sizeLine+1;simp only[Array.size_append,Ya,Kv];lia);show Yj ?_;show XU (Ee (Ph HG _) ?_);change wpAny _ _ (pure ((#[]:Array Value)++vs.toArray).toList) Q E _
 rw[show((#[]:Array Value)++vs.toArray).toList=vs by simp];show Yj k
def oE{tp:Addr}{Q:Ae}{ot:Obj}(ht:s.heap.get? tp=some ot)(hc:ot.cls=.type "tuple")(hd:ot.data=.seq vs.toArray m)(hI:IntsAre vs ns)(PK:vs.length<64)
  (k:∀out ms,IntsAre out.toList ms->ms.Perm ns->ms.Pairwise (·<=·)->Q (.ref<|(~~~s)+1) {s with heap:=sortedAll s.heap vs out}):
  wpAny (model prog w) A (call (.builtin "sorted") [.ref tp]) Q E s:=by
 let LM:sizeLine=16777216:=Tz;let hsz:((s.heap.push<|seqObj "list" #[] 0).update (~~~s) (Obj.mapSeq (·++vs.toArray))).objs.size=(~~~s)+1:=by rw[tw,size_push']
 let Pf:(((s.heap.push<|seqObj "list" #[] 0).update (~~~s) (Obj.mapSeq (·++vs.toArray))).push (seqObj "list" vs.toArray 0)).get? ((~~~s)+1)=some (seqObj "list" vs.toArray 0):=by rw[<-hsz];show Yq _ rfl
 show uf kind_sorted plain_sorted entry_sorted (args_sorted1 _) ?_;unfold Builtin.«sorted»;show XU (m:=checkCount "sorted" 1 1 _) (Yj ?_);show XU (Zi6 ht hc hd J ?_);show XU (Mv ?_);change wpAny _ _ _ _ _ {s with heap:=((s.heap.push<|seqObj "list" #[] 0).update (~~~s) (Obj.mapSeq (·++vs.toArray))).push (seqObj "list" vs.toArray 0)}
 rw[hsz];show XU (Se<|Tu xk ⟨_,Pf,Z⟩ xm (list_sort_tree Pf hI PK λout ms b1 b2 b3=>⟨_,Z,?_⟩)<|args_list_sort _);show Yj ⟨_,Z,k out ms b1 b2 b3⟩
end
section
variable{X:Cx}
def ZM4(K:Ad)(hk:X.K=K:=by rfl):Tp X (.builtin "sorted") (λxs H Q=>∃p ns,xs=[.ref p]/\SqT K H p (ns.map V.int)/\ns.length<64/\
  ∀ms:Ac,ms.Perm ns->ms.Pairwise (·<=·)->∀l,H l=none->Q ↑l (upd H l<|.lst<|ms.map V.int)):=by
 subst hk;intro pins s σ H xs us Q I r h;let⟨p,ns,rfl,hq,hn,q⟩:=h;let⟨u,rfl,ru⟩:=Sy r;let rfl:u=Value.ref p:=ru;let⟨XX,rv,⟨ot,h1,h2,m,h3⟩,hz⟩:=I.tuple hq;let hi:=Zz rv
 let hl:XX.length=ns.length:=by rw[<-rv.length,Yb]
 show oE h1 h2 h3 hi J λout ms b1 b2 b3=>?_;let⟨e,he⟩:=sortedAll_at s.heap XX out;let LG:ms.length=ns.length:=b2.length_eq
 exists .ref<|(~~~s)+1,_,I.laid (t':=s.toks) (o:=.lst<|ms.map V.int) (λb o g=>sortedAll_old g) (Ud _) ⟨?_,out.toList,e,OA b1,he⟩,Z,q ms b2 b3 _<|I.hok.fresh<|Ud _;rw[Yb,LG]
 have:sizeLine=16777216:=Tz
 lia
def HF(K:Ad):(R2):=λx y H Q=>∃a b xs ys,x=.ref a/\y=.ref b/\SqT K H a xs/\SqT K H b ys/\xs.length+ys.length<=sizeLine/\
 (xs=[]->Q ↑b H)/\(xs≠[]->ys=[]->Q ↑a H)/\(xs≠[]->ys≠[]->∀p,H p=none->Q ↑p (upd H p<|.tup<|xs++ys))
def HE(K:Ad)(hk:X.K=K:=by rfl):Wz X (binaryOp .Add) (HF K):=by
 intro pins s σ H x y v u Q I rx ry h;let⟨a,b,xs,ys,e1,e2,ha,hb,hz,q0,q1,q2⟩:=id h;cases hx:xs=[]
 .subst hk e1 e2;cases rx;cases ry;let⟨XX,r1,p1,_⟩:=I.tuple ha;let⟨Vt,r2,p2,_⟩:=I.tuple hb;let hi:XX=[]:=r1.nil_iff.mpr hx
  let⟨⟨cls,dd,data,sl⟩,ho,hc,n,hd⟩:=id p1;let⟨⟨rh,wX,data2,wW⟩,RG,UP,n2,hd2⟩:=id p2;simp only at hc hd UP hd2;subst hc hd UP hd2;show concat_meets ⟨_,ho,Z⟩ ⟨_,RG,Z⟩ tE seq_tuple_add uj uq (uz _ _)
   (tuple_addW0 a b XX.toArray Vt.toArray n n2 dd wX sl wW<|by simp[hi]) ⟨ho,RG,⟨.ref b,H,I,Z,q0 hx⟩⟩
 .show CI K hk pins s σ H x y v u Q I rx ry ⟨a,b,xs,ys,e1,e2,ha,hb,hx,hz,q1 hx,q2 hx⟩
end
end L2
namespace My
open PySem L2
def Ck(h:mk m a=mk m b):lm m a b=m:=by unfold lm;rw[if_neg λz=>z h]
def Cj(ha:a<m.length)(hb:b<m.length):cnt m<=cnt (lm m a b)+1:=by
 cases e:mk m a=mk m b
 .rw[Ck e];lia
 .have:=wd ha hb e;lia
def wa:∀es:List (Nat×Nat),InN n es->n<=cnt (WX n es)+es.length:=by
 show LF (λ_=>?_) λes x ih hn=>?_
 .have:cnt (WX n [])=n:=oK n
  lia
 .let⟨h1,h2,h3⟩:=hn.snoc;let hl:=ZA n es
  have:=Cj (m:=WX n es) (a:=x.1) (b:=x.2) J J
  have:=ih h1
  rw[Na,Xw,YF,Kv];lia
def vZ(h:1<=M.length):1<=cnt M:=by unfold cnt Vf;show xV (a:=0) (Yd.mpr ⟨YY.mpr J,XB.mpr λi hi=>absurd hi<|Sf i⟩)
def MY(hn:1<=n)(h:InN n es):cnt (WX n es)=1↔∀i j,i<n->j<n->Conn es i j:=by rw[oJ (by rwa[ZA])];show Co h
def cG(hn:ts.Nodup)(ho:o∈ts):(wo ts o).length+1=ts.length:=by
 induction ts with
 |nil=>cases ho
 |cons x r ih=>
  let⟨h1,h2⟩:=Qb.mp hn;unfold wo;rw[YZ];cases e:x=o
  .subst e;rw[if_neg B]
   have:r.filter (λy=>decide<|y≠x)=r:=IS.mpr λy hy=>Yv λe=>h1 (e▸hy)
   rw[this];rfl
  .rw[if_pos (Yv e)]
   have:=ih h2 ((Yh.mp ho).resolve_left λz=>e z.symm)
   unfold wo at this;rw[YF,YF];lia
def Zp(ps:Aa)(z:Int):(Nat×Nat):=((ps.getD z.toNat (0,0)).1.toNat,(ps.getD z.toNat (0,0)).2.toNat)
def Te(ps:Aa)(ns:Ac)(z:Int):XS ps (ns++[z])=XS ps ns++[Zp ps z]:=by unfold XS Zp;rw[YQ];rfl
def Td(g:Zu n ps)(z0:0<=z)(z1:z<ps⁻¹):(Zp ps z).1<n.toNat/\(Zp ps z).2<n.toNat:=by
 have:=ZL (ns:=[z]) g (λy hy=>by rw[XG.mp hy];exists z0,z1)
 show this (Zp ps z) (by unfold XS Zp;simp)
def Ci(hT:Zg n ps ts):∀y∈wo ts o,0<=y/\y<ps⁻¹:=λy hy=>hT.1.all y (Xl.mp hy).1
def HD(g:Zu n ps)(hT:Zg n ps ts)(ho:o∈ts)(z0:0<=z)(z1:z<ps⁻¹):
  (∀i j,i<n.toNat->j<n.toNat->Conn (XS ps<|wo ts o++[z]) i j)↔¬Conn (XS ps<|wo ts o) (Zp ps z).1 (Zp ps z).2:=by
 let hn:1<=n.toNat:=by have:=g.1;lia
 let hw:=cG hT.1.nodup ho;let hl:ts⁻¹=n-1:=hT.2.1
 let i0:InN n.toNat (XS ps<|wo ts o):=ZL g (Ci hT);let hz:=Td g z0 z1
 let ob:=hT.1.all o ho;let RY:=Td g ob.1 ob.2
 let i1:InN n.toNat (XS ps (wo ts o)++[Zp ps z]):=λe he=>(XA.mp he).elim (i0 e) λq=>by rwa[XG.mp q]
 let i2:InN n.toNat (XS ps (wo ts o)++[Zp ps o]):=λe he=>(XA.mp he).elim (i0 e) λq=>by rwa[XG.mp q]
 let hL:=ZA n.toNat (XS ps<|wo ts o);let le:(XS ps<|wo ts o).length=(wo ts o).length:=by unfold XS;rw[Yb]
 rw[Te];constructor
 .intro hc c;let h1:cnt (WX n.toNat<|XS ps (wo ts o)++[Zp ps z])=1:=(MY hn i1).mpr hc
  rw[Na,Ck ((ZT i0 hz.1 hz.2).mpr c)]at h1
  have:=wa _ i0
  lia
 .intro hc;let h2:cnt (WX n.toNat<|XS ps (wo ts o)++[Zp ps o])=1:=by
   show(MY hn i2).mpr λi j hi hj=>?_;rw[<-Te];show(Tf λy=>?_).mp (hT.2.2 i j hi hj);rw[XA,Xl,XG];constructor
   .intro hy;cases e:y=o
    .show .inr e
    .show .inl ⟨hy,e⟩
   .rintro(q|q)
    .show q.1
    .rw[q];show ho
  rw[Na]at h2;let h3:=Cj (m:=WX n.toNat<|XS ps<|wo ts o) (a:=(Zp ps o).1) (b:=(Zp ps o).2) J J
  let h4:=wd (m:=WX n.toNat<|XS ps<|wo ts o) (a:=(Zp ps z).1) (b:=(Zp ps z).2) J J λe=>hc ((ZT i0 hz.1 hz.2).mp e);let h5:=vZ (M:=lm (WX n.toNat<|XS ps<|wo ts o) (Zp ps z).1 (Zp ps z).2) (by rw[wF];lia)
  show(MY hn i1).mp ?_;rw[Na];lia
def UH(n:Int)(ps:Aa)(ts:Ac)(o:Int):(Ac):=unlike (WX n.toNat<|XS ps<|wo ts o) ps ps.length
def Yz6{z:Int}(h:z∈unlike M ps i):0<=z/\z<(i:Int):=by
 unfold unlike at h;let⟨k,hk,rfl⟩:=YN.mp h
 have:=YY.mp (Yd.mp hk).1
 lia
def ZW(g:Zu n ps)(hT:Zg n ps ts)(z0:0<=z)(z1:z<ps⁻¹):z∈UH n ps ts o↔¬Conn (XS ps (wo ts o)) (Zp ps z).1 (Zp ps z).2:=by let hz:=Td g z0 z1;unfold UH;rw[Zx6 z0 z1];show not_congr (ZT (ZL g<|Ci hT) hz.1 hz.2)
def exg(n:Int)(ps:Aa)(ts:Ac)(o z:Int):(Prop):=o∈ts/\z≠o/\z∈UH n ps ts o
instance (n:Int) (ps:Aa) (ts:Ac) (o z:Int):Decidable (exg n ps ts o z):=by unfold exg;infer_instance
def Tc(g:Zu n ps)(hT:Zg n ps ts):
  exg n ps ts o z↔o∈ts/\z∉ts/\0<=z/\z<ps⁻¹/\∀i j,i<n.toNat->j<n.toNat->Conn (XS ps<|wo ts o++[z]) i j:=by
 constructor
 .rintro⟨h1,h2,h3⟩;let⟨z0,z1⟩:=Yz6 h3;let hc:=(ZW g hT z0 z1).mp h3
  exists h1,λhz=>hc ?_,z0,z1,(HD g hT h1 z0 z1).mpr hc;show .edge ?_;show YN.mpr ⟨z,Xl.mpr ⟨hz,h2⟩,Z⟩
 .rintro⟨h1,h2,z0,z1,hc⟩;exists h1,λe=>h2<|e▸h1,(ZW g hT z0 z1).mpr ((HD g hT h1 z0 z1).mp hc)
end My
namespace L2
open PySem PySem.Spec PyProof.Rows
section
variable{X:Cx}
def HC(e:Addr->Bool):(V->Bool)
 | .ref a=>e a
 |_=>false
def Cg(K:Ad):(R2):=λx y H Q=>∃n p xs e,y=.ref p/\SqL K H p xs/\n<=6/\(∀v∈xs,∃a,v=.ref a/\EqD K H n v x (e a))/\Q (.bl<|xs.any<|HC e) H
def cF{e:Addr->Bool}:∀{xs:List V}{us:Ag},Vals xs us->(∀v∈xs,∃a,v=.ref a)->(us.any λu=>match u with | .ref a=>e a|_=>false)=xs.any (HC e)
 |_,_,.nil,_=>rfl
 |x::xs,u::us,.cons r t,h=>by let⟨a,rfl⟩:=h x Yc;let rfl:u=Value.ref a:=r;rw[IY,IY,cF t λv hv=>h v (Ye _ hv)];rfl
def Cf{e:Addr->Bool}(I:Inv X pins σ H s)(hu:A.units+n<cLine)(rx:RelV x w){xs:List V}{us:Ag}(h0:Vals xs us)(h:∀v∈xs,∃a,v=.ref a/\EqD X.K H n v x (e a)):∀u∈us,SeqAt.EqAt A s u w (match u with | .ref a=>e a|_=>false):=by
 induction h0 with
 |nil=>intro u hu;cases hu
 |@cons y u xs us r t ih=>
  intro u' oB;rcases Yh.mp oB with rfl|oB
  .let⟨a,rfl,q⟩:=h y Yc;let rfl:u'=Value.ref a:=r;show q.at I hu Z rx
  .show ih (λv hv=>h v<|Ye _ hv) u' oB
def oz(K:Ad)(hu:X.A.units+8<cLine)(hk:X.K=K:=by rfl):Wz X (compareOp .In) (Cg K):=by
 subst hk;intro pins s σ H x y v u Q I rx ry h;let⟨n,p,xs,e,rfl,hq,hn,he,q⟩:=h;cases ry;let⟨XX,r,pl,hz⟩:=I.list hq;show SeqAt.in_listAt (λu=>match u with | .ref a=>e a|_=>false) pl.isList (λw hw=>Cf I (by change X.A.units+1+n<cLine;lia) rx r he w<|by simpa using hw) ⟨.bl _,H,I,Z,?_⟩
 rw[show XX.toArray.any (λu=>match u with | .ref a=>e a|_=>false)=XX.any (λu=>match u with | .ref a=>e a|_=>false) by simp,cF r λv hv=>by let⟨a,ea,_⟩:=he v hv;exists a,ea]
 show q
end
end L2
namespace My
open PySem L2
def Ce{o y:Int}(g:Zu n ps)(hT:Zg n ps ts)(ho:o∈ts)(hy:y∈ts):y∈UH n ps ts o↔y=o:=by
 let yb:=hT.1.all y hy;rw[ZW g hT yb.1 yb.2];constructor
 .intro h;cases e:y=o
  .show e
  .show absurd (.edge<|YN.mpr ⟨y,Xl.mpr ⟨hy,e⟩,Z⟩) h
 .rintro rfl;show(HD g hT hy yb.1 yb.2).mp λi j hi hj=>(Tf λz=>?_).mp (hT.2.2 i j hi hj);rw[XA,Xl,XG];constructor
  .intro hz;cases e:z=y
   .show .inr e
   .show .inl ⟨hz,e⟩
  .rintro(q|q)
   .show q.1
   .rw[q];show hy
def Vr:y∈Sq n ps ts z l↔y∈l/\z∈UH n ps ts y:=by unfold Sq;rw[Yd,YV];show Iff.rfl
def Cd(g:Zu n ps)(hT:Zg n ps ts)(hx:exg n ps ts o z)(UG:ms.Perm (wo ts o++[z]))(Oy:ms.Pairwise (·<=·)):Zg n ps ms:=by
 let⟨ho,hz,z0,z1,hc⟩:=(Tc g hT).mp hx;let nd:(wo ts o++[z]).Nodup:=cV (hT.1.nodup.sublist IT) λh=>hz (Xl.mp h).1
 let ndm:ms.Nodup:=UG.nodup_iff.mpr nd;let hl:=cG hT.1.nodup ho
 let Vj:=UG.length_eq;rw[Xw,Yt]at Vj;show⟨XW.mpr ⟨λy hy=>?_,(List.pairwise_and_iff.mpr ⟨Oy,ndm⟩).imp λ{x y} h=>by have:=h.1;have:=h.2;lia⟩,by rw[Vj,hl];show hT.2.1,λi j hi hj=>(Tf λy=>UG.mem_iff).mpr (hc i j hi hj)⟩;rcases XA.mp (UG.mem_iff.mp hy) with h|h
 .show hT.1.all y (Xl.mp h).1
 .rw[XG.mp h];exists z0,z1
section
variable{n:Int}{ps:Aa}{ts ms:Ac}{o z:Int}(g:Zu n ps)(hT:Zg n ps ts)(hx:exg n ps ts o z)(UG:ms.Perm (wo ts o++[z]))(Oy:ms.Pairwise (·<=·))
include g hT hx UG Oy
def vY{y:Int}:y∈ms↔(y∈ts/\y≠o)\/y=z:=by rw[UG.mem_iff,XA,Xl,XG]
end
def Wm(n:Nat)(ps:Aa):(Nat->Ac)
 |0=>[]
 |k+1=>if mk (WX n<|XS ps<|Wm n ps k) (Zp ps (k:Int)).1=mk (WX n<|XS ps<|Wm n ps k) (Zp ps (k:Int)).2 then Wm n ps k else Wm n ps k++[(k:Int)]
def Cc(n:Nat)(ps:Aa)(k:Nat):Wm n ps (k+1)=if mk (WX n (XS ps (Wm n ps k))) (Zp ps (k:Int)).1=mk (WX n (XS ps (Wm n ps k))) (Zp ps (k:Int)).2 then Wm n ps k else Wm n ps k++[(k:Int)]:=rfl
def Fn:∀k,∀z∈Wm n ps k,0<=z/\z<(k:Int)
 |0,z,h=>by cases h
 |k+1,z,h=>by
  rw[Cc]at h;split at h
  .have:=Fn k z h;lia
  .rcases XA.mp h with h|h
   .have:=Fn k z h;lia
   .rw[XG.mp h];lia
def ou:∀k,(Wm n ps k).Pairwise (·<·)
 |0=>List.Pairwise.nil
 |k+1=>by
  rw[Cc];split
  .show ou k
  .rw[YH];exists ou k,Ky ..,λa ha b hb=>by rw[XG.mp hb];show(Fn k a ha).2
def cE(hk:k<=ps.length):IsSet ps.length (Wm n ps k):=XW.mpr ⟨λz hz=>by have:=Fn k z hz;lia,ou k⟩
def HA(g:Zu n ps)(hk:k<=ps.length):InN n.toNat (XS ps (Wm n.toNat ps k)):=ZL g (cE hk).all
def oq:∀k,j<=k->∀z,z∈Wm n ps j↔z∈Wm n ps k/\z<(j:Int)
 |0,h,z=>by
  have:j=0:=J
  subst this;exists λh=>(by cases h),λh=>h.1
 |k+1,h,z=>by
  cases e:j=k+1
  .subst e;exists λh=>⟨h,(Fn _ z h).2⟩,λh=>h.1
  .let ih:=oq (n:=n) (ps:=ps) (j:=j) k J z;rw[Cc,ih];split
   .show Iff.rfl
   .rw[XA,XG];constructor
    .rintro⟨h1,h2⟩;exists .inl h1,h2
    .rintro⟨h1|h1,h2⟩
     .exists h1,h2
     .lia
def oo(g:Zu n ps)(hk:k<=ps.length)(hj:j<k)(hn:(j:Int)∉Wm n.toNat ps k):Conn (XS ps (Wm n.toNat ps j)) (Zp ps (j:Int)).1 (Zp ps (j:Int)).2:=by
 let he:=Td (z:=(j:Int)) g J J;let h1:(j:Int)∉Wm n.toNat ps (j+1):=λh=>hn ((oq k hj _).mp h).1
 rw[Cc]at h1;split at h1
 .rename_i h;show(ZT (HA g J) he.1 he.2).mp h
 .show absurd (Yg _<|XG.mpr Z) h1
def oj(g:Zu n ps):∀k,k<=ps.length->cnt (WX n.toNat (XS ps (Wm n.toNat ps k)))+(Wm n.toNat ps k).length=n.toNat
 |0,_=>oK n.toNat
 |k+1,hk=>by
  let ih:=oj g k J;let he:=Td (z:=(k:Int)) g J J
  let hl:=ZA n.toNat (XS ps<|Wm n.toNat ps k);rw[Cc];split
  .show ih
  .rename_i h;rw[Te,Na,Xw,Yt]
   have:=wd (m:=WX n.toNat<|XS ps<|Wm n.toNat ps k) J J h
   grind
def oh(g:Zu n ps)(ht:∀z∈ts,0<=z/\z<ps⁻¹)(c:Conn (XS ps ts) i j):Conn (XS ps (Wm n.toNat ps ps.length)) i j:=by
 induction c with
 |refl i=>show .refl i
 |symm _ ih=>show .symm ih
 |trans _ _ i1 i2=>show .trans i1 i2
 |@edge a b h=>
  let⟨z,hz,e⟩:=YN.mp h;let⟨z0,z1⟩:=ht z hz;let ez:z=((z.toNat:Nat):Int):=J
  cases hm:z∈Wm n.toNat ps ps.length
  .show .edge (YN.mpr ⟨z,hm,e⟩)
  .rw[ez]at hm;let c:=oo g (XN _) J hm
   let c2:=c.mono (ZG λy hy=>((oq ps.length J y).mp hy).1);rw[<-ez]at c2;let ea:a=(Zp ps z).1:=(QP Prod.fst e).symm
   let eb:b=(Zp ps z).2:=(QP Prod.snd e).symm;rwa[ea,eb]
def cD(g:Zu n ps)(h:¬((Wm n.toNat ps ps.length).length:Int)<n-1):Zg n ps (Wm n.toNat ps ps.length):=by
 let h2:=oj g ps.length (XN _);let h3:=vZ (M:=WX n.toNat<|XS ps<|Wm n.toNat ps ps.length) (by rw[ZA];have:=g.1;grind)
 exists cE<|XN _,by have:=g.1;grind,(MY (by have:=g.1;grind)<|HA g<|XN _).mp J
def cC:∀{a b:Ac},a.length=b.length->HT.lexLt a b=true->∃p x y r s,a=p++x::r/\b=p++y::s/\x<y
 |[],[],_,h=>by cases h
 |[],_::_,e,_=>by simp at e
 |_::_,[],e,_=>by simp at e
 |x::xs,y::ys,e,h=>by
  rw[HT.Xq]at h;cases q:x=y
  .subst q;rw[if_pos Z]at h;let⟨p,u,v,r,s,e1,e2,e3⟩:=cC (by simpa using e) h;exists x::p,u,v,r,s,by rw[e1];rfl,by rw[e2];rfl,e3
  .rw[if_neg q]at h;exists [],x,y,xs,ys,Z,Z,Yy h
def Xo:∀{a b:Ac},HT.lexLt a b=false->HT.lexLt b a=false->a=b
 |[],[],_,_=>rfl
 |[],_::_,h,_=>by cases h
 |_::_,[],_,h=>by cases h
 |x::xs,y::ys,h1,h2=>by
  rw[HT.Xq]at h1 h2;cases q:x=y
  .subst q;rw[if_pos Z]at h1 h2;rw[Xo h1 h2]
  .rw[if_neg q]at h1;rw[if_neg λe=>q e.symm]at h2
   have:=of_decide_eq_false h1
   have:=of_decide_eq_false h2
   lia
def Wx:∀{a b c:Ac},HT.lexLt a b=true->HT.lexLt b c=true->HT.lexLt a c=true
 |[],[],_,h,_=>by cases h
 |[],_::_,[],_,h=>by cases h
 |[],_::_,_::_,_,_=>rfl
 |_::_,[],_,h,_=>by cases h
 |_::_,_::_,[],_,h=>by cases h
 |x::xs,y::ys,z::zs,h1,h2=>by
  rw[HT.Xq]at h1 h2 ⊢;cases e1:x=y
  .subst e1;rw[if_pos Z]at h1;cases e2:x=z
   .subst e2;rw[if_pos Z]at h2 ⊢;show Wx h1 h2
   .rw[if_neg e2]at h2 ⊢;show h2
  .rw[if_neg e1]at h1;let h1:=Yy h1
   cases e2:y=z
   .subst e2;rw[if_neg e1];show Yv h1
   .rw[if_neg e2]at h2;let h2:=Yy h2
    rw[if_neg J];show Yv DW
def WT:∀a:Ac,HT.lexLt a a=false
 |[]=>rfl
 |x::xs=>by rw[HT.Xq,if_pos Z];show WT xs
def QZ(bt:Nat->Nat->Bool):∀j,argBest bt j<=j
 |0=>XN _
 |j+1=>by
  unfold argBest;split
  .show XN _
  .have:=QZ bt j;lia
def Xa(H:Hp)(v:V)(l:Ac):(Prop):=∃a,v=.ref a/\H a=some (.tup<|IL l)
def TupsV(H:Hp)(xs:List V)(L:Ab):(Prop):=xs.length=L.length/\∀(i:Nat)(l:Ac),L[i]?=some l->∃v,xs[i]?=some v/\Xa H v l
def TupsV.same(s:Same H H')(h:TupsV H xs L):TupsV H' xs L:=⟨h.1,λi l e=>by let⟨v,e1,a,e2,e3⟩:=h.2 i l e;exists v,e1,a,e2,s _ _ e3⟩
def TupsV.at(h:TupsV H xs L){i:Nat}{v:V}(e:xs[i]?=some v):∃l,L[i]?=some l/\Xa H v l:=by
 let hi:i<xs.length:=(Xy.mp e).1;let hp:i<L.length:=by rwa[<-h.1]
 let⟨v',e1,q⟩:=h.2 i L[i] (Xs hp);rw[e]at e1;cases e1;exists _,Xs hp,q
def TupsV.nil:TupsV H [] []:=⟨Z,λi p e=>by simp at e⟩
def TupsV.app(h:TupsV H xs L)(h2:TupsV H ys M):TupsV H (xs++ys) (L++M):=by
 show⟨by rw[Xw,Xw,h.1,h2.1],λi l e=>?_⟩;cases hi:i<L.length
 .rw[Yn hi]at e;let⟨v,e1,q⟩:=h.2 i l e;exists v,by rw[Yn (by rwa[h.1])];show e1,q
 .rw[Yk J]at e;let⟨v,e1,q⟩:=h2.2 _ l e;exists v,by rw[Yk (by rw[h.1];omega),h.1];show e1,q
def TupsV.one(q:Xa H v l):TupsV H [v] [l]:=⟨Z,λi m e=>by
 cases i with
 |zero=>have e:l=m:=(by simpa using e);exists v,Z,e▸q
 |succ i=>simp at e⟩
def TupsV.snoc(h:TupsV H xs L)(q:Xa H v l):TupsV H (xs++[v]) (L++[l]):=h.app (.one q)
def TupsV.mut{d:Addr}{ys zs xs:List V}(hP:TupsV H xs L)(hl:H d=some (.lst ys)):TupsV (upd H d (.lst zs)) xs L:=by exists hP.1,λj p e=>?_;let⟨v,e1,tt,e2,e3⟩:=hP.2 j p e;exists v,e1,tt,e2,by rwa[XJ (PX e3 hl (λz=>nomatch z))]
def cB(hx:Xa H x a)(hy:Xa H y b):EqD K H 1 x y (decide (a=b)):=by let⟨t,rfl,ht⟩:=hx;let⟨u,rfl,hu⟩:=hy;show OF (SqT.of ht) (SqT.of hu)
def cz(hp:SqL K H p xs)(hq:SqL K H q ys)(h1:TupsV H xs L)(h2:TupsV H ys M):EqD K H 2 ↑p ↑q (decide (L=M)):=
 pK (R:=Xa H) hp hq h1 h2 λ_ _ _ _=>cB
def So(s:Ac):(Int):=match s.getLast? with|none=>0|some x=>x+1
def Tb(m:Int)(s:Ac):(Ab):=(List.range (m-So s).toNat).map λ(i:Nat)=>s++[So s+(i:Int)]
def Ox(m:Int):(Nat->Ab)
 |0=>[[]]
 |k+1=>(Ox m k).flatMap (Tb m)
def Cb(s:Ac)(x:Int):So (s++[x])=x+1:=by unfold So;rw[List.getLast?_append];rfl
def Wb{s l:Ac}:l∈Tb m s↔∃t,So s<=t/\t<m/\l=s++[t]:=by
 unfold Tb;rw[YN];constructor
 .rintro⟨i,hi,rfl⟩
  have:=YY.mp hi
  exists _,J,DW,Z
 .rintro⟨t,h1,h2,rfl⟩;exists (t-So s).toNat,YY.mpr J,by rw[show So s+(((t-So s).toNat:Nat):Int)=t by lia]
def Sn{t:Int}:IsSet m (s++[t])↔IsSet m s/\So s<=t/\0<=t/\t<(m:Int):=by
 rw[XW,XW,YH];let last:(∀a∈s,∀b∈[t],a<b)/\s.Pairwise (·<·)->So s<=t\/t<0:=by
  rintro⟨h,_⟩;unfold So;cases e:s.getLast? with
  |none=>by_cases h0:0<=t;show .inl h0;show .inr J
  |some x=>have:=h x (ud e) t B;show .inl (by change x+1<=t;lia)
 constructor
 .rintro⟨h1,h2,_,h3⟩;let ht:=h1 t B
  exists ⟨λz hz=>h1 z<|Yf _ hz,h2⟩,?_,ht;rcases last ⟨h3,h2⟩ with h|h
  .show h
  .omega
 .rintro⟨⟨h1,h2⟩,h3,h4,h5⟩;exists λz hz=>?_,h2,Ky ..,λa ha b hb=>?_
  .rcases XA.mp hz with h|h
   .show h1 z h
   .rw[XG.mp h];exists h4,h5
  .rw[XG.mp hb];let key:∀{s:Ac}{a:Int},s.Pairwise (·<·)->a∈s->a<So s:=by
    show λ{s}=>LF (P:=λs=>∀{a:Int},s.Pairwise (·<·)->a∈s->a<So s) (λ{a} _ h=>by cases h) (λl x ih {a} hp h=>?_) s;rw[Cb];rw[YH]at hp;rcases XA.mp h with h|h
    .have:=hp.2.2 a h x B;lia
    .rw[XG.mp h];lia
   have:=key h2 ha
   lia
def VY{m:Nat}:∀{k:Nat}{l:Ac},l∈Ox (m:Int) k↔l.length=k/\IsSet m l
 |0,l=>by
  change l∈[[]]↔_;rw[XG];constructor
  .rintro rfl;exists Z,λi z e=>by simp at e
  .rintro⟨h,_⟩;show YM.mp h
 |k+1,l=>by
  change l∈(Ox (m:Int) k).flatMap (Tb m)↔_;rw[List.mem_flatMap];constructor
  .rintro⟨s,hs,hl⟩;let⟨t,h1,h2,rfl⟩:=Wb.mp hl;let⟨e,hI⟩:=VY.mp hs;let n0:0<=So s:=by
    unfold So;cases q:s.getLast? with
    |none=>show SD 0
    |some x=>have:=(hI.all x<|ud q).1;change 0<=x+1;lia
   exists by rw[Xw,e];rfl,Sn.mpr ⟨hI,h1,J,h2⟩
  .rintro⟨e,hI⟩;let XM:l≠[]:=λz=>by rw[z]at e;simp at e
   obtain⟨s,t,rfl⟩:∃s t,l=s++[t]:=⟨l.dropLast,l.getLast XM,(fg XM).symm⟩;let⟨h1,h2,h3,h4⟩:=Sn.mp hI;exists s,VY.mpr ⟨by rw[Xw]at e;simpa using e,h1⟩,Wb.mpr ⟨t,h2,h4,Z⟩
def og(h:IsSet m s):(Tb (m:Int) s).length<=m:=by
 unfold Tb;rw[Yb,Nr];let n0:0<=So s:=by
  unfold So;cases q:s.getLast? with
  |none=>show SD 0
  |some x=>have:=(h.all x<|ud q).1;change 0<=x+1;lia
 omega
def cy:∀L:Ab,(∀s∈L,IsSet m s)->(L.flatMap (Tb (m:Int))).length<=m*L.length
 |[],_=>Ym _
 |s::L,h=>by
  have:=cy L λx hx=>h x (Ye _ hx)
  have:=og (h s Yc)
  rw[List.flatMap_cons,Xw,YF,Nat.mul_succ];lia
def Ca:∀{w t:Ac},t.Pairwise (·<·)->w.Pairwise (·<·)->(∀z∈t,z∈w)->t.Sublist w
 |[],[],_,_,_=>List.Sublist.slnil
 |[],x::t,_,_,h=>absurd (h x Yc) B
 |y::w,[],_,_,_=>List.nil_sublist _
 |y::w,x::t,ht,hw,h=>by
  let⟨h1,h2⟩:=YT.mp ht;let⟨h3,h4⟩:=YT.mp hw;cases e:x=y
  .subst e;show List.Sublist.cons₂ _ (Ca h2 h4 λz hz=>?_);rcases Yh.mp (h z<|Ye _ hz) with q|q
   .have:=h1 z hz;lia
   .show q
  .let hx:x∈w:=(Yh.mp<|h x Yc).resolve_left e;show List.Sublist.cons _ (Ca ht h4 λz hz=>?_);rcases Yh.mp (h z hz) with q|q
   .have:=h3 x hx
    rcases Yh.mp hz with q2|q2
    .rw[q2];show hx
    .have:=h1 z q2;lia
   .show q
def MX(M:Ac)(es:List (Nat×Nat)):(Ac):=es.foldl (λm e=>pm m e.1 e.2) M
def n9(M:Ac)(es:List (Nat×Nat))(e:Nat×Nat):MX M (es++[e])=pm (MX M es) e.1 e.2:=by unfold MX;rw[xM];rfl
def n8(M:Ac):∀es:List (Nat×Nat),(MX M es).length=M.length:=by
 intro es;unfold MX
 induction es generalizing M with
 |nil=>rfl
 |cons e l ih=>rw[Ep,ih,OH]
def cx{i:Int}(h0:0<=i):WK xs none (some i)=xs.take i.toNat:=by
 let e:HT.Vb xs.length xs.length (some i)=min i.toNat xs.length:=by change(if i<0 then (i+xs⁻¹).toNat else min i.toNat xs.length)=_;rw[if_neg J]
 unfold WK;rw[e,HT.Sw,Ku,xt];cases h:i.toNat<=xs.length
 .rw[FP h]
 .rw[tV J,YJ<|XN _,YJ DW]
def VS(m:Nat):(Ac):=(List.range m).map λ(i:Nat)=>(i:Int)
def Xx{z:Int}:z∈VS m↔0<=z/\z<(m:Int):=by
 unfold VS;rw[YN];constructor
 .rintro⟨i,hi,rfl⟩
  have:=YY.mp hi
  lia
 .intro h;exists z.toNat,YY.mpr J,J
def ZP(m:Nat):(VS m).length=m:=by unfold VS;simp
def Qu(m:Nat):(VS m).Pairwise (·<·):=by unfold VS;rw[MD];show ED.imp λh=>DW
def Hz(m:Nat):IsSet m (VS m):=XW.mpr ⟨λz hz=>Xx.mp hz,Qu m⟩
def n6(m:Nat):Wr 0 (m:Int)=VS m:=by unfold Wr VS;rw[xp,YK];show VL λi _=>J
def Hy(n:Int)(ps:Aa):(Prop):=∀i j,i<n.toNat->j<n.toNat->Conn (XS ps<|VS ps.length) i j
end My
namespace L2
open PySem PySem.Spec PyProof.Rows
section
variable{prog:Program}{w:World}{A:Around}{E:Ae}{s:Shared}
def Zk6{r:Addr}{a b c:Int}{t u v:Tok}{n:Nat}{Q:List Value->Shared->Prop}(hh:A.handled=none)(hr:IsRange s.heap r a b c t u v)(hm:Builtin.Range.small a b c=true)(hn:Builtin.Range.rangeSize a b c=n)(hl:n<=2^24)
  (k:∀h' tk acc,(∀b o,s.heap.get? b=some o->h'.get? b=some o)->ItemsOf (λi v=>∃t,v=.int (a+i*c) t) acc n->Q acc.toList {s with heap:=h',toks:=tk}):wpAny (model prog w) A (collect<|.ref r) Q E s:=by
 let HG:(s.heap.push<|seqObj "list" #[] 0).get? (~~~s)=some (seqObj "list" #[] 0):=Yq _ rfl;unfold collect;show XU (xA<|RO IF ?_);change wpAny _ A.in1 (do again (.builtin "list.__iadd__" ⟨[<-newList [],.ref r],[]⟩)) _ _ s
 show XU (Mv<|Yj ⟨Pl _ DX,RO entry_list_iadd' ?_⟩);change wpAny _ A.in1 (Builtin.List.listExtendWith (.ref (~~~s)) ↑r<|.ref (~~~s)) _ _ {s with heap:=s.heap.push (seqObj "list" #[] 0)}
 show Uc (wpAny_extend_range (A:=A) (R:=λx s'=>∃h' tk acc c',x=.ok (.ret<|.ref (~~~s))/\s'={s with heap:=h',toks:=tk}/\(∀b o,s.heap.get? b=some o->h'.get? b=some o)/\
   h'.get? (~~~s)=some {cls:=.type "list",dict:=none,data:=.seq acc c',slots:=#[]}/\ItemsOf (λi v=>∃t,v=.int (a+i*c) t) acc n)
  (s:={s with heap:=s.heap.push (seqObj "list" #[] 0)}) hh (Xd _ hr) hm hn hl _ _ 0 HG λh' tk acc c' k1 k2 k3=>⟨h',tk,acc,c',Z,Z,λb o e=>k1 b o (YB<|Yo e)<|Xd _ e,k2,k3⟩) (λfin s' z=>?_) (λe s' z=>?_)
 .cases fin with
  |done f=>
   let⟨h',tk,acc,c',e,rfl,k1,k2,k3⟩:=z;cases e;show XU (Ee k2 ?_);show Yj (k h' tk acc k1 k3)
  |again c'=>
   exists z.1,Mr z.2 λx s2 z=>?_;let⟨h',tk,acc,c',rfl,rfl,k1,k2,k3⟩:=z;show XU (Ee k2 ?_);show Yj (k h' tk acc k1 k3)
 .let⟨h',tk,acc,c',e,_⟩:=z;cases e
def n5{r:Addr}{a b c:Int}{t u v:Tok}{n:Nat}(hm:Builtin.Range.small a b c=true)(hn:Builtin.Range.rangeSize a b c=n)(hl:n<=2^24):
  Meets (Builtin.«tuple.__new__» ⟨[.type "tuple",.ref r],[]⟩) (λA R s=>A.handled=none/\IsRange s.heap r a b c t u v/\∀(h':Heap)(tk:Nat)(acc:Array Value),(∀b o,s.heap.get? b=some o->h'.get? b=some o)->ItemsOf (λi v=>∃t,v=.int (a+i*c) t) acc n->
   R (.ok<|.ret<|.ref h'.objs.size) {s with heap:=h'.push<|seqObj "tuple" acc 0,toks:=tk}):=
 .of_wp λprog w A R s h=>by
  let⟨hh,hr,h⟩:=h;let e1:=sub_tuple_self
  let e2:=init_tuple_lookup;let e3:=madeHere_tuple
  let hT:s.TypeIs ↑r "range":=⟨_,hr,Z⟩;let BZ:A.in1.handled=none:=hh
  wp_walk using Ei hT,Zk6 BZ hr hm hn hl
  intro h' tk acc hk VF;change wpAny _ _ (Builtin.Tuple.tupleExact acc.toList.toArray >>= ret) _ _ _
  unfold Builtin.Tuple.tupleExact;let e:acc.toList.toArray=acc:=B
  rw[e];show XU (Tw ?_<|by change acc.size<=sizeLine;rwa[VF.1,Tz]);show Yj ⟨_,Z,h h' tk acc hk VF⟩
def ZZ2{r:Addr}{a b c:Int}{t u v:Tok}{n:Nat}{Q:Ae}(hh:A.handled=none)(hr:IsRange s.heap r a b c t u v)(hm:Builtin.Range.small a b c=true)(hn:Builtin.Range.rangeSize a b c=n)(hl:n<=2^24)
  (k:∀(h':Heap)(tk:Nat)(acc:Array Value),(∀b o,s.heap.get? b=some o->h'.get? b=some o)->ItemsOf (λi v=>∃t,v=.int (a+i*c) t) acc n->Q (.ref h'.objs.size) {s with heap:=h'.push<|seqObj "tuple" acc 0,toks:=tk}):wpAny (model prog w) A (call (.type "tuple") [.ref r]) Q E s:=
 callType_new F.called_tuple sZ (F.typeCall_tuple_1 _) (F.newCall_tuple_1 _) (λo=>F.args_object_init_2 o _) F.entry_tuple_new (n5 (t:=t) (u:=u) (v:=v) hm hn hl)
  ⟨hh,hr,λh' tk acc hk VF=>⟨⟨_,Yq _ Z,Z⟩,k h' tk acc hk VF⟩⟩
end
section
variable{X:Cx}
def ZC3(hc:X.calm=true):Tp X (.type "tuple") (λxs H Q=>∃p lo hi,xs=[.ref p]/\H p=some (.rng lo hi)/\(-(2^62)<=lo/\lo<2^62/\-(2^62)<=hi/\hi<2^62)/\(hi-lo).toNat<=16777216/\
  ∀l,H l=none->Q ↑l (upd H l<|.tup<|(Wr lo hi).map V.int)):=by
 intro pins s σ H xs us Q I r h;let⟨p,lo,hi,rfl,hp,⟨b1,b2,b3,b4⟩,hz,q⟩:=h;let⟨u,rfl,ru⟩:=Sy r;let rfl:u=Value.ref p:=ru;let⟨t,u,v,e⟩:=(show ObjOk X.prog X.w H s.heap p (.rng lo hi) from I.hok p _ hp);let hn:Builtin.Range.rangeSize lo hi 1=(((hi-lo).toNat:Nat):Int):=by rw[rangeSize_one];split<;>grind
 show ZZ2 (I.ok.hd hc) (t:=t) (u:=u) (v:=v) e (small_one b1 b2 b3 b4) hn hz λh' tk acc hk ha=>?_;let hl:acc.toList.length=(hi-lo).toNat:=by rw[Yu];show ha.1
 let rv:Vals ((Wr lo hi).map V.int) acc.toList:=dc (lo:=lo) hl λj w ew=>by let⟨t,e⟩:=ha.2 j w (by simpa using ew);exists t,by rw[e,Mq]
 let I1:Inv X pins σ H {s with heap:=h',toks:=tk}:=I.kept (t':=tk) hk;let BY:((Wr lo hi).map V.int).length<=sizeLine:=by
  rw[Yb,CM]
  have:sizeLine=16777216:=Tz
  lia
 let I2:Inv X pins σ (upd H h'.objs.size<|.tup<|(Wr lo hi).map V.int) {s with heap:=h'.push<|seqObj "tuple" acc.toList.toArray 0,toks:=tk}:=
  I1.laid (t':=tk) (λb o e=>Xd _ e) (XN _) (show ObjOk X.prog X.w _ _ _ (.tup<|(Wr lo hi).map V.int) from⟨BY,acc.toList,rv,IsTup.new _ _⟩)
 let ea:acc.toList.toArray=acc:=B;rw[ea]at I2;exists .ref h'.objs.size,_,I2,Z,q _<|I1.hok.fresh<|XN _
end
end L2
namespace My
open PySem L2
def RA(n:Nat)(ps:Aa)(G:Ac)(z:Int):(Ac):=if mk (WX n<|XS ps G) (Zp ps z).1=mk (WX n<|XS ps G) (Zp ps z).2 then G else G++[z]
def WJ(n:Nat)(ps:Aa)(zs:Ac):(Ac):=zs.foldl (RA n ps) []
def LB(n:Nat)(ps:Aa)(zs:Ac)(z:Int):WJ n ps (zs++[z])=RA n ps (WJ n ps zs) z:=by unfold WJ;rw[xM];rfl
def vX(n:Nat)(ps:Aa)(zs:Ac):∀ys,∃us,WJ n ps (zs++ys)=WJ n ps zs++us/\us.Sublist ys:=by
 show LF ⟨[],B⟩ λys y ih=>?_;let⟨us,e,s⟩:=ih;rw[<-Yw,LB,e];unfold RA;split
 .exists us,Z,s.trans<|List.sublist_append_left _ _
 .exists us++[y],by rw[Yw],s.append<|List.Sublist.refl _
def BX(n:Nat)(ps:Aa)(zs:Ac):(WJ n ps zs).Sublist zs:=by let⟨us,e,s⟩:=vX n ps [] zs;rw[Pq]at e;rwa[e]
def n4(h:∀z∈zs,0<=z/\z<ps⁻¹):∀z∈WJ n ps zs,0<=z/\z<ps⁻¹:=λz hz=>h z ((BX n ps zs).subset hz)
def Fm(g:Zu n ps)(h:∀z∈zs,0<=z/\z<ps⁻¹):InN n.toNat (XS ps (WJ n.toNat ps zs)):=ZL g (n4 h)
def vW(g:Zu n ps):∀zs:Ac,(∀z∈zs,0<=z/\z<ps⁻¹)->cnt (WX n.toNat (XS ps (WJ n.toNat ps zs)))+(WJ n.toNat ps zs).length=n.toNat:=by
 show LF (λ_=>oK n.toNat) λzs z ih h=>?_;let h1:∀z∈zs,0<=z/\z<ps⁻¹:=λy hy=>h y (Yf _ hy)
 let ih:=ih h1;let⟨z0,z1⟩:=h z (Yg _<|XG.mpr Z);let he:=Td (z:=z) g z0 z1
 let hl:=ZA n.toNat (XS ps<|WJ n.toNat ps zs);rw[LB];unfold RA;split
 .show ih
 .rename_i h;rw[Te,Na,Xw,Yt]
  have:=wd (m:=WX n.toNat<|XS ps<|WJ n.toNat ps zs) J J h
  grind
def cu(g:Zu n ps)(h:∀z∈zs,0<=z/\z<ps⁻¹):(WJ n.toNat ps zs).length<=14:=by
 have:=vW g zs h
 have:=g.2.1
 lia
def nZ(g:Zu n ps):∀zs:Ac,(∀z∈zs,0<=z/\z<ps⁻¹)->∀{i j:Nat},Conn (XS ps zs) i j->Conn (XS ps (WJ n.toNat ps zs)) i j:=by
 show LF (λ_ _ _ c=>c) λzs z IH h i j c=>?_;let h1:∀z∈zs,0<=z/\z<ps⁻¹:=λy hy=>h y (Yf _ hy)
 let⟨z0,z1⟩:=h z (Yg _<|XG.mpr Z);let he:=Td (z:=z) g z0 z1
 let up:∀{a b:Nat},Conn (XS ps<|WJ n.toNat ps zs) a b->Conn (XS ps<|WJ n.toNat ps<|zs++[z]) a b:=λc=>by
  rw[LB];unfold RA;split
  .show c
  .show c.mono (ZG λy hy=>Yf _ hy)
 let own:Conn (XS ps<|WJ n.toNat ps<|zs++[z]) (Zp ps z).1 (Zp ps z).2:=by
  rw[LB];unfold RA;split
  .rename_i e;show(ZT (Fm g h1) he.1 he.2).mp e
  .rw[Te];show .edge (Yg _<|XG.mpr Z)
 induction c with
 |refl i=>show .refl i
 |symm _ ih=>show .symm ih
 |trans _ _ i1 i2=>show .trans i1 i2
 |@edge a b e=>
  rw[Te]at e;rcases XA.mp e with e|e
  .show up (IH h1<|.edge e)
  .let e:=XG.mp e;let ea:a=(Zp ps z).1:=QP Prod.fst e
   let eb:b=(Zp ps z).2:=QP Prod.snd e;rwa[ea,eb]
def Zv7(g:Zu n ps):Hy n ps↔¬((Wm n.toNat ps ps.length).length:Int)<n-1:=by
 constructor
 .intro h;let hc:∀i j,i<n.toNat->j<n.toNat->Conn (XS ps<|Wm n.toNat ps ps.length) i j:=λi j hi hj=>oh g (λz hz=>Xx.mp hz) (h i j hi hj)
  let h1:=(MY (by have:=g.1;lia)<|HA g<|XN _).mpr hc;let h2:=oj g ps.length (XN _)
  have:=g.1
  grind
 .intro h i j hi hj;show((cD g h).2.2 i j hi hj).mono (ZG λz hz=>Xx.mpr (by have:=Fn ps.length z hz;lia))
end My
namespace PyProof.Rows
open PySem
def Qt:(Bool->Keyed->Array Keyed->Nat->Nat->Nat->StateT SortSt Sem (Option Nat)):=sortPriv% PySem.Builtin.gallop
def cq:(Array Keyed->Array Keyed->StateT SortSt Sem (Array Keyed)):=sortPriv% PySem.Builtin.mergeLo
def cn:(Array Keyed->Array Keyed->StateT SortSt Sem (Array Keyed)):=sortPriv% PySem.Builtin.mergeHi
def WA(M:Model)(A:Around)(E:Ae)(s:Shared)(O:KeyOrd)(key:Keyed->O.α)(kd:SortKind)(S:Keyed->Prop):(Prop):=
 ∀x y st Q,S x->S y->kindOf st=kd->Q (some<|O.blt (key x)<|key y) st->wpS M A E s (lt' x y) Q st
abbrev dK:Keyed:=(Value.none,Value.none)
section
variable{M:Model}{A:Around}{E:Ae}{s:Shared}{O:KeyOrd}{key:Keyed->O.α}{kd:SortKind}{S:Keyed->Prop}
def ke(key:Keyed->O.α)(arr:Array Keyed)(i:Nat):(O.α):=key (arr.getD i dK)
def UE{p:Keyed}(h:arr[i]?=some p):ke key arr i=key p:=by unfold ke;rw[Yz,h];rfl
def Zs{p:Keyed}{Q:Keyed->SortSt->Prop}{st:SortSt}(h:arr[i]?=some p)(q:Q p st):wpS M A E s (elem' arr i) Q st:=by rw[elem'_eq,h];show YL q
def beyB(O:KeyOrd)(key:Keyed->O.α)(left:Bool)(kx:Keyed)(arr:Array Keyed)(j:Nat):(Bool):=if left then O.blt (ke key arr j) (key kx) else !O.blt (key kx) (ke key arr j)
def nY(h:O.kle (ke key arr i) (ke key arr j))(hb:beyB O key left kx arr j=true):beyB O key left kx arr i=true:=by
 unfold beyB at *;cases left with
 |true=>
  simp only[US]at *;show KeyOrd.klt_of_kle_of_klt h hb
 |false=>
  simp only[Rn,Sd,Pm]at *;show Wk h hb
def Fl(L:WA M A E s O key kd S){st:SortSt}{Q:Option Nat->SortSt->Prop}(hk:kindOf st=kd)(hS:S kx)(hA:∀i,i<n->∃p,arr[base+i]?=some p/\S p)(hh:hint<n)
  (hm:∀i j,i<=j->j<n->O.kle (ke key arr<|base+i) (ke key arr<|base+j))
  (h:∀k,k<=n->(∀i,i<k->beyB O key left kx arr (base+i)=true)->(∀i,k<=i->i<n->beyB O key left kx arr (base+i)=false)->Q (some k) st):wpS M A E s (Qt left kx arr base n hint) Q st:=by
 let BW:∀i,i<n->∀Q,Q (some<|beyB O key left kx arr<|base+i) st->
   wpS M A E s (do let x <-elem' arr (base+i);if left=true then lt' x kx else do let r <-lt' kx x;pure (Option.map (λx=>!x) r)) Q st:=λi hi Q q=>by
  let⟨p,e,hp⟩:=hA i hi;show YA (Zs e ?_);unfold beyB at q;rw[UE e]at q;cases left with
  |true=>
   rw[if_pos Z];show L _ _ _ _ hp hS hk q
  |false=>
   rw[if_neg B];show YA (L _ _ _ _ hS hp hk<|YL q)
 let dn:∀{i j:Nat},i<=j->j<n->beyB O key left kx arr (base+j)=true->beyB O key left kx arr (base+i)=true:=λWM hj hb=>nY (hm _ _ WM hj) hb;let up:∀{i j:Nat},i<=j->j<n->beyB O key left kx arr (base+i)=false->beyB O key left kx arr (base+j)=false:=λ{i j} WM hj hb=>by
  cases e:beyB O key left kx arr (base+j) with
  |false=>rfl
  |true=>rw[dn WM hj e]at hb;cases hb
 generalize hB:(λj=>beyB O key left kx arr<|base+j)=AP at *;let eB:∀j,beyB O key left kx arr (base+j)=AP j:=λj=>congrFun hB j
 simp only[eB]at BW dn up h;let last:∀lo hi,lo<=hi->hi<=n->(∀i,i<lo->AP i=true)->(∀i,hi<=i->i<n->AP i=false)->∀f,(∀lo hi,f (none,lo,hi)=pure (some hi))->
   wpS M A E s (forIn [0:n] ((none,lo,hi):Option (Option Nat)×Nat×Nat) (λ_ r=>if r.2.1 >= r.2.2 then pure (ForInStep.done (none,r.2.1,r.2.2)) else do
    let x <-(do let x <-elem' arr (base+(r.2.1+(r.2.2-r.2.1)/2));if left=true then lt' x kx else do let r <-lt' kx x;pure (Option.map (λx=>!x) r))
    match x with
    |some more=>if more=true then pure (ForInStep.yield (none,r.2.1+(r.2.2-r.2.1)/2+1,r.2.2)) else pure (ForInStep.yield (none,r.2.1,r.2.1+(r.2.2-r.2.1)/2))
    |_=>pure<|ForInStep.done (some none,r.2.1,r.2.2)) >>= f) Q st:=by
  intro lo hi h1 h2 h3 h4 f hf;show YA (RL (SH (I:=λx c XR=>XR=st/\∃l r,c=(none,l,r)/\l<=r/\r<=n/\r-l<=n-x/\(∀i,i<l->AP i=true)/\(∀i,r<=i->i<n->AP i=false))
   (Q:=λc XR=>XR=st/\∃r,c=(none,r,r)/\r<=n/\(∀i,i<r->AP i=true)/\(∀i,r<=i->i<n->AP i=false)) ?_ ?_ ⟨Z,lo,hi,Z,h1,h2,sV,h3,h4⟩) ?_)
  .rintro x c XR _ hx ⟨rfl,l,r,rfl,a1,a2,a3,a4,a5⟩;dsimp only;cases hc:l >= r
   .rw[if_pos hc]
    have:l=r:=J
    subst this;show YL ⟨Z,l,Z,a2,a4,a5⟩
   .rw[if_neg hc];show YA (BW _ sV _ ?_);dsimp only;cases e:AP (l+(r-l)/2) with
    |true=>
     rw[if_pos Z];show YL ⟨Z,_,_,Z,sV,a2,sV,λi hi=>dn (j:=l+(r-l)/2) J sV e,a5⟩
    |false=>
     rw[if_neg B];show YL ⟨Z,_,_,Z,J,sV,sV,a4,λi hi Wl=>up (i:=l+(r-l)/2) hi Wl e⟩
  .rintro c XR ⟨rfl,l,r,rfl,a1,a2,a3,a4,a5⟩
   have:l=r:=sV
   subst this;exists Z,l,Z,a2,a4,a5
  .rintro c XR ⟨rfl,r,rfl,a2,a4,a5⟩;rw[hf];show YL (h r a2 a4 a5)
 unfold Qt;show YA (BW hint hh _ ?_);dsimp only;cases e0:AP hint with
 |true=>
  rw[if_pos Z];show YA (RL (SH (I:=λx c XR=>XR=st/\∃l o,c=(none,l,o)/\l<o/\hint+l<n/\x+1<=o/\AP (hint+l)=true)
   (Q:=λc XR=>XR=st/\∃l o,c=(none,l,o)/\l<o/\hint+l<n/\AP (hint+l)=true/\(n-hint<=o\/AP (hint+o)=false)) ?_ ?_ ⟨Z,0,1,Z,DW,J,J,e0⟩) ?_)
  .rintro x c XR _ hx ⟨rfl,l,o,rfl,a1,a2,a3,a4⟩;dsimp only;cases hc:o >= n-hint
   .rw[if_pos hc];show YL ⟨Z,l,o,Z,a1,a2,a4,.inl hc⟩
   .rw[if_neg hc];show YA (BW _ sV _ ?_);dsimp only;cases e:AP (hint+o) with
    |false=>
     rw[if_pos sZ];show YL ⟨Z,l,o,Z,a1,a2,a4,.inr e⟩
    |true=>
     rw[if_neg sZ];show YL ⟨Z,o,2*o+1,Z,J,DW,J,e⟩
  .rintro c XR ⟨rfl,l,o,rfl,a1,a2,a3,a4⟩;exists Z,l,o,Z,a1,a2,a4,.inl sV
  .rintro c XR ⟨rfl,l,o,rfl,a1,a2,a4,a5⟩;dsimp only;show last _ _ J J (λi hi=>dn (j:=hint+l) J a2 a4) (λi hi Wl=>?_) _ λ_ _=>rfl;rcases a5 with a5|a5
   .lia
   .cases h9:n-hint<=o
    .omega
    .show up (i:=hint+o) sV Wl a5
 |false=>
  rw[if_neg B];show YA (RL (SH (I:=λx c XR=>XR=st/\∃l o,c=(none,l,o)/\l<o/\l<=hint/\x+1<=o/\AP (hint-l)=false)
   (Q:=λc XR=>XR=st/\∃l o,c=(none,l,o)/\l<o/\l<=hint/\AP (hint-l)=false/\(hint+1<=o\/(o<=hint/\AP (hint-o)=true))) ?_ ?_ ⟨Z,0,1,Z,DW,J,DW,e0⟩) ?_)
  .rintro x c XR _ hx ⟨rfl,l,o,rfl,a1,a2,a3,a4⟩;dsimp only;cases hc:o >= hint+1
   .rw[if_pos hc];show YL ⟨Z,l,o,Z,a1,a2,a4,.inl hc⟩
   .rw[if_neg hc];show YA (BW _ sV _ ?_);dsimp only;cases e:AP (hint-o) with
    |true=>
     rw[if_pos Z];show YL ⟨Z,l,o,Z,a1,a2,a4,.inr ⟨J,e⟩⟩
    |false=>
     rw[if_neg B];show YL ⟨Z,o,2*o+1,Z,DW,DW,DW,e⟩
  .rintro c XR ⟨rfl,l,o,rfl,a1,a2,a3,a4⟩;exists Z,l,o,Z,a1,a2,a4,.inl J
  .rintro c XR ⟨rfl,l,o,rfl,a1,a2,a4,a5⟩;dsimp only;show last _ _ DW sV (λi hi=>?_) (λi hi Wl=>up (i:=hint-l) J Wl a4) _ λ_ _=>rfl;rcases a5 with a5|⟨a5,a6⟩
   .lia
   .show dn (j:=hint-o) sV sV a6
def RK(O:KeyOrd)(key:Keyed->O.α)(x y:Keyed):(Prop):=O.kle (key x) (key y)
structure MI(O:KeyOrd)(key:Keyed->O.α)(la lb:List Keyed)(out:Array Keyed)(ia ib:Nat):Prop where
 so:out.toList.Pairwise (RK O key)
 oa:∀x∈out.toList,∀y∈la.drop ia,RK O key x y
 ob:∀x∈out.toList,∀y∈lb.drop ib,RK O key x y
 pm:(out.toList++la.drop ia++lb.drop ib).Perm (la++lb)
def Vq(O:KeyOrd)(key:Keyed->O.α)(la lb:List Keyed)(r:Array Keyed):(Prop):=r.toList.Pairwise (RK O key)/\r.toList.Perm (la++lb)
def BV{la:List Keyed}(h:la.Pairwise (RK O key))(i k:Nat):((la.drop i).take k).Pairwise (RK O key)/\∀x∈(la.drop i).take k,∀y∈la.drop (i+k),RK O key x y:=by let h1:(la.drop i).Pairwise (RK O key):=h.sublist (Pn i la);rw[<-MJ k (la.drop i),YH,En]at h1;exists h1.1,h1.2.2
def cm{α:Type}{la:List α}{i k:Nat}{y:α}(h:y∈la.drop (i+k)):y∈la.drop i:=by rw[<-En]at h;show MG h
def MI.a(h:MI O key la lb out ia ib)(sa:la.Pairwise (RK O key))(k:Nat)(hx:∀x∈(la.drop ia).take k,∀y∈lb.drop ib,RK O key x y)(e:out'.toList=out.toList++(la.drop ia).take k):MI O key la lb out' (ia+k) ib:=by
 let⟨p1,p2⟩:=BV sa ia k;exists ?_,?_,?_,?_
 .rw[e,YH];exists h.so,p1,λx hx y hy=>h.oa x hx y<|Vw hy
 .intro x Xu y hy;rw[e,XA]at Xu;rcases Xu with Xu|Xu
  .show h.oa x Xu y (cm hy)
  .show p2 x Xu y hy
 .intro x Xu y hy;rw[e,XA]at Xu;rcases Xu with Xu|Xu
  .show h.ob x Xu y hy
  .show hx x Xu y hy
 .rw[e,Yw out.toList,<-En,MJ];show h.pm
def MI.b(h:MI O key la lb out ia ib)(sb:lb.Pairwise (RK O key))(k:Nat)(hx:∀x∈(lb.drop ib).take k,∀y∈la.drop ia,RK O key x y)(e:out'.toList=out.toList++(lb.drop ib).take k):MI O key la lb out' ia (ib+k):=by
 let⟨p1,p2⟩:=BV sb ib k;exists ?_,?_,?_,?_
 .rw[e,YH];exists h.so,p1,λx hx y hy=>h.ob x hx y<|Vw hy
 .intro x Xu y hy;rw[e,XA]at Xu;rcases Xu with Xu|Xu
  .show h.oa x Xu y hy
  .show hx x Xu y hy
 .intro x Xu y hy;rw[e,XA]at Xu;rcases Xu with Xu|Xu
  .show h.ob x Xu y (cm hy)
  .show p2 x Xu y hy
 .show List.Perm.trans ?_ h.pm;rw[e,<-En];show List.Perm.trans (l₂:=out.toList++la.drop ia++((lb.drop ib).take k++(lb.drop ib).drop k)) ?_ (by rw[MJ]);rw[Yw,Yw,Yw];show Nu _ ?_;rw[<-Yw,<-Yw];show EC _ EB
def vV(a:Array Keyed)(i:Nat):(a.extract i a.size).toList=a.toList.drop i:=by rw[FW,Gb];show YJ B
def cg(a:Array Keyed)(i k:Nat):(a.extract i (i+k)).toList=(a.toList.drop i).take k:=by rw[FW,Gb,uo]
def MI.last{a b out:Array Keyed}(h:MI O key a.toList b.toList out ia ib)(sa:a.toList.Pairwise (RK O key))(sb:b.toList.Pairwise (RK O key))(hx:∀x∈b.toList.drop ib,∀y∈a.toList.drop ia,RK O key x y):Vq O key a.toList b.toList (out++b.extract ib b.size++a.extract ia a.size):=by
 let e1:(b.toList.drop ib).take b.size=b.toList.drop ib:=YJ B;let e2:(a.toList.drop ia).take a.size=a.toList.drop ia:=YJ B
 let d1:b.toList.drop (ib+b.size)=[]:=YO B;let d2:a.toList.drop (ia+a.size)=[]:=YO B
 let h1:=h.b sb b.size (by rwa[e1]) (out':=out++b.extract ib b.size) (by rw[Qd,vV,e1]);let h2:=h1.a sa a.size (by rw[d1];intro _ _ _ hy;cases hy) (out':=out++b.extract ib b.size++a.extract ia a.size) (by rw[Qd,vV,e2])
 let p:=h2.pm;rw[d1,d2,Yx,Yx]at p;exists h2.so,p
def MI.done{a b out:Array Keyed}(h:MI O key a.toList b.toList out ia ib)(sa:a.toList.Pairwise (RK O key))(sb:b.toList.Pairwise (RK O key))(hx:b.toList.drop ib=[]\/a.toList.drop ia=[]):Vq O key a.toList b.toList (out++a.extract ia a.size++b.extract ib b.size):=by
 let e1:(b.toList.drop ib).take b.size=b.toList.drop ib:=YJ B;let e2:(a.toList.drop ia).take a.size=a.toList.drop ia:=YJ B
 let d1:b.toList.drop (ib+b.size)=[]:=YO B;let d2:a.toList.drop (ia+a.size)=[]:=YO B
 let h1:=h.a sa a.size (by rw[e2];intro x Xu y hy;rcases hx with hx|hx;(rw[hx]at hy;cases hy);(rw[hx]at Xu;cases Xu)) (out':=out++a.extract ia a.size) (by rw[Qd,vV,e2])
 let h2:=h1.b sb b.size (by rw[d2];intro _ _ _ hy;cases hy) (out':=out++a.extract ia a.size++b.extract ib b.size) (by rw[Qd,vV,e1]);let p:=h2.pm
 rw[d1,d2,Yx,Yx]at p;exists h2.so,p
def Ta{a:Array Keyed}{p:Keyed}(h:a[i]?=some p):(a.toList.drop i).take 1=[p]:=by
 let h':a.toList[i]?=some p:=by simpa using h
 let⟨hi,e⟩:=Xy.mp h';rw[Jh hi,e];rfl
def LA{a:Array Keyed}{p:Keyed}(sa:a.toList.Pairwise (RK O key))(h:a[i]?=some p):∀y∈a.toList.drop i,RK O key p y:=by
 let h':a.toList[i]?=some p:=by simpa using h
 let⟨hi,e⟩:=Xy.mp h';let h1:(a.toList.drop i).Pairwise (RK O key):=sa.sublist (Pn i _)
 rw[Jh hi,e]at h1 ⊢;intro y hy;rcases Yh.mp hy with rfl|hy
 .show Qa _
 .show(YT.mp h1).1 y hy
def BU{a:Array Keyed}{i k:Nat}{x:Keyed}(h:x∈(a.toList.drop i).take k):∃j,j<k/\a[i+j]?=some x:=by
 let⟨j,hj⟩:=YC h;let Uv:=(Xy.mp hj).1
 rw[Yl]at Uv;rw[VW,if_pos sV,MF]at hj;exists j,DW,by simpa using hj
def JT{a:Array Keyed}{x:Keyed}(h:x∈a.toList.drop i):∃j,i<=j/\j<a.size/\a[j]?=some x:=by
 let⟨j,hj⟩:=YC h;rw[MF]at hj;let Uv:=(Xy.mp hj).1
 exists i+j,J,by simpa using Uv,by simpa using hj
def BS(sa:a.toList.Pairwise (RK O key))(WM:i<=j)(hj:j<a.size):O.kle (ke key a i) (ke key a j):=by
 let hi:i<a.size:=J;rw[UE (SS a i hi),UE (SS a j hj)];cases e:i=j
 .subst e;show Qa _
 .have:=UT.mp sa i j (by simpa using hi) (by simpa using hj) J
  simpa[RK] using this
def Ow:(Nat->StateT SortSt Sem Unit):=sortPriv% PySem.Builtin.setMinGallop
def vU{E:Ae}{st:SortSt}{Q:Unit->SortSt->Prop}(h:Q () (SortSt.mk' (kindOf st) (arrOf st) (pendingOf st) g (failedOf st))):wpS M A E s (Ow g) Q st:=Pk h
abbrev JS:=Option (Array Keyed)×Array Keyed×Nat×Nat×Nat×Nat×Nat
def QY(a b out:Array Keyed)(ia ib g ac bc:Nat):(StateT SortSt Sem (ForInStep JS)):=elem' a ia >>= λx=>
 if (ia+1+1 == a.size)=true then pure (.done (some<|out.push x++b.extract ib b.size++a.extract (ia+1) a.size,out.push x,ia+1,ib,g,ac,bc))
 else if (decide (ac<7)&&decide (bc<7))=true then pure (.done (none,out.push x,ia+1,ib,g,ac,bc)) else pure (.yield (none,out.push x,ia+1,ib,g,ac,bc))
def QX(a b out:Array Keyed)(ia ib g ac bc:Nat):(StateT SortSt Sem (ForInStep JS)):=elem' b ib >>= λx=>
 if (ib+1 == b.size)=true then pure (.done (some<|out.push x++a.extract ia a.size++b.extract (ib+1) b.size,out.push x,ia,ib+1,g,ac,bc))
 else elem' a ia >>= λy=>Qt true y b (ib+1) (b.size-(ib+1)) 0 >>= λr=>match r with
  |some k=>if k>0 then
    if (ib+1+k == b.size)=true then pure (.done (some<|out.push x++b.extract (ib+1) (ib+1+k)++a.extract ia a.size++b.extract (ib+1+k) b.size,out.push x++b.extract (ib+1) (ib+1+k),ia,ib+1+k,g,ac,k))
    else QY a b (out.push x++b.extract (ib+1) (ib+1+k)) ia (ib+1+k) g ac k
   else QY a b (out.push x) ia (ib+1) g ac k
  |_=>pure (.done (some<|out.push x++a.extract ia a.size++b.extract (ib+1) b.size,out.push x,ia,ib+1,g,ac,bc))
def Ov(a b out:Array Keyed)(ia ib g ac bc:Nat):(StateT SortSt Sem (ForInStep JS)):=Ow g >>= λ_=>elem' b ib >>= λx=>Qt false x a ia (a.size-ia) 0 >>= λr=>match r with
 |some k=>if k>0 then
   if (ia+k+1 == a.size)=true then pure (.done (some<|out++a.extract ia (ia+k)++b.extract ib b.size++a.extract (ia+k) a.size,out++a.extract ia (ia+k),ia+k,ib,g,k,bc))
   else if (ia+k == a.size)=true then pure (.done (some<|out++a.extract ia (ia+k)++a.extract (ia+k) a.size++b.extract ib b.size,out++a.extract ia (ia+k),ia+k,ib,g,k,bc))
   else QX a b (out++a.extract ia (ia+k)) (ia+k) ib g k bc
  else QX a b out ia ib g k bc
 |_=>pure (.done (some<|out++a.extract ia a.size++b.extract ib b.size,out,ia,ib,g,ac,bc))
def Zt{α σ:Type}{c:Prop}[Decidable c]{x y:StateT σ Sem α}{Q:α->σ->Prop}{st:σ}(hc:c)(h:wpS M A E s x Q st):wpS M A E s (if c then x else y) Q st:=by rwa[if_pos hc]
def ZO{α σ:Type}{c:Prop}[Decidable c]{x y:StateT σ Sem α}{Q:α->σ->Prop}{st:σ}(hc:¬c)(h:wpS M A E s y Q st):wpS M A E s (if c then x else y) Q st:=by rwa[if_neg hc]
section
variable{a b out:Array Keyed}{ia ib:Nat}{st:SortSt}{R:ForInStep JS->SortSt->Prop}
def cf{pa:Keyed}(sa:a.toList.Pairwise (RK O key))(sb:b.toList.Pairwise (RK O key))(h2:∀x∈b.toList,∀y∈a.toList.drop (a.size-1),RK O key x y)(ea:a[ia]?=some pa)(MW:ia+1<a.size)(Ou:ib<b.size)(m:MI O key a.toList b.toList out ia ib)(below:∀y∈b.toList.drop ib,RK O key pa y)
  (hd:∀r z,Vq O key a.toList b.toList r->R (.done (some r,z)) st)(hn:∀o2 i2 j2 g3 a3 b3,MI O key a.toList b.toList o2 i2 j2->i2+1<a.size->j2<b.size->a.size-i2+(b.size-j2)<=a.size-ia+(b.size-ib)->R (.done (none,o2,i2,j2,g3,a3,b3)) st/\R (.yield (none,o2,i2,j2,g3,a3,b3)) st):wpS M A E s (QY a b out ia ib g ac bc) R st:=by
 unfold QY;show YA (Zs ea ?_);let m5:MI O key a.toList b.toList (out.push pa) (ia+1) ib:=m.a sa 1 (by rw[Ta ea];intro x hx y hy;rw[XG.mp hx];show below y hy) (by rw[Ta ea,RQ])
 cases d5:ia+1+1=a.size
 .show Zt (by simpa using d5) (YL<|hd _ _<|m5.last sa sb λx hx y hy=>h2 x (MG hx) y<|by rwa[show a.size-1=ia+1 by lia])
 .show ZO (by simpa using d5) ?_;let z:=λg3 a3 b3=>hn _ _ _ g3 a3 b3 m5 J Ou sV
  split
  .show YL (z _ _ _).1
  .show YL (z _ _ _).2
def cb(L:WA M A E s O key kd S){pb:Keyed}(hk:kindOf st=kd)(Vp:∀x∈a.toList,S x)(Vo:∀x∈b.toList,S x)(sa:a.toList.Pairwise (RK O key))(sb:b.toList.Pairwise (RK O key))(h2:∀x∈b.toList,∀y∈a.toList.drop (a.size-1),RK O key x y)(eb:b[ib]?=some pb)(MW:ia+1<a.size)(Ou:ib<b.size)(m:MI O key a.toList b.toList out ia ib)(above:∀y∈a.toList.drop ia,RK O key pb y)
  (hd:∀r z,Vq O key a.toList b.toList r->R (.done (some r,z)) st)(hn:∀o2 i2 j2 g3 a3 b3,MI O key a.toList b.toList o2 i2 j2->i2+1<a.size->j2<b.size->a.size-i2+(b.size-j2)<=a.size-ia+(b.size-ib)->R (.done (none,o2,i2,j2,g3,a3,b3)) st/\R (.yield (none,o2,i2,j2,g3,a3,b3)) st):wpS M A E s (QX a b out ia ib g ac bc) R st:=by
 let BR:∀{i},i=b.size->b.toList.drop i=[]:=λe=>YO (by simp[e]);unfold QX;show YA (Zs eb ?_);let m3:MI O key a.toList b.toList (out.push pb) ia (ib+1):=m.b sb 1 (by rw[Ta eb];intro x hx y hy;rw[XG.mp hx];show above y hy) (by rw[Ta eb,RQ])
 cases d3:ib+1=b.size
 .show Zt (by simpa using d3) (YL<|hd _ _<|m3.done sa sb<|.inl<|BR d3)
 show ZO (by simpa using d3) ?_;let ea:a[ia]?=some a[ia]:=SS a ia DW
 let Fq:S a[ia]:=Vp _ B;show YA (Zs ea ?_);show YA (Fl L hk Fq (λi hi=>⟨b[ib+1+i],SS b _ DW,Vo _ B⟩) sV (λi j WM hj=>BS sb J sV) λkk Lz Vj Hx=>?_);dsimp only;let below:∀y∈b.toList.drop (ib+1+kk),RK O key a[ia] y:=λy hy=>by
  let⟨j,j1,j2,ey⟩:=JT hy
  have:=Hx (j-(ib+1)) J DW
  unfold beyB at this;rwa[show ib+1+(j-(ib+1))=j by lia,UE ey]at this
 cases Ot:kk>0
 .show Zt Ot ?_;let m4:MI O key a.toList b.toList (out.push pb++b.extract (ib+1) (ib+1+kk)) ia (ib+1+kk):=m3.b sb kk (λx hx y hy=>by
   let⟨j,hj,ex⟩:=BU hx
   have:=Vj j hj
   unfold beyB at this;rw[UE ex]at this;show Wk (Qc this)<|LA sa ea y hy) (by rw[Qd,cg])
  cases d4:ib+1+kk=b.size
  .show Zt (by simpa using d4) (YL<|hd _ _<|m4.done sa sb<|.inl<|BR d4)
  .show ZO (by simpa using d4) (cf sa sb h2 ea MW sV m4 below hd λo2 i2 j2 g3 a3 b3 m' e1 e2 e3=>hn o2 i2 j2 g3 a3 b3 m' e1 e2 sV)
 .show ZO Ot (cf sa sb h2 ea MW J m3 (λy hy=>below y<|by rwa[show kk=0 by lia]) hd λo2 i2 j2 g3 a3 b3 m' e1 e2 e3=>hn o2 i2 j2 g3 a3 b3 m' e1 e2 sV)
def b9(L:WA M A E s O key kd S)(hk:kindOf st=kd)(Vp:∀x∈a.toList,S x)(Vo:∀x∈b.toList,S x)(sa:a.toList.Pairwise (RK O key))(sb:b.toList.Pairwise (RK O key))(h2:∀x∈b.toList,∀y∈a.toList.drop (a.size-1),RK O key x y)(MW:ia+1<a.size)(Ou:ib<b.size)(m:MI O key a.toList b.toList out ia ib)
  (hd:∀r z,Vq O key a.toList b.toList r->R (.done (some r,z)) (SortSt.mk' (kindOf st) (arrOf st) (pendingOf st) g<|failedOf st))(hn:∀o2 i2 j2 g3 a3 b3,MI O key a.toList b.toList o2 i2 j2->i2+1<a.size->j2<b.size->a.size-i2+(b.size-j2)<=a.size-ia+(b.size-ib)->R (.done (none,o2,i2,j2,g3,a3,b3)) (SortSt.mk' (kindOf st) (arrOf st) (pendingOf st) g<|failedOf st)/\R (.yield (none,o2,i2,j2,g3,a3,b3)) (SortSt.mk' (kindOf st) (arrOf st) (pendingOf st) g<|failedOf st)):wpS M A E s (Ov a b out ia ib g ac bc) R st:=by
 unfold Ov;show YA (vU ?_);let eb:b[ib]?=some b[ib]:=SS b ib Ou
 show YA (Zs eb ?_);show YA (Fl L hk (Vo _ B) (λi hi=>⟨a[ia+i],SS a _ DW,Vp _ B⟩) sV (λi j WM hj=>BS sa J J) λk Fj hl UZ=>?_);dsimp only;let above:∀y∈a.toList.drop (ia+k),RK O key b[ib] y:=λy hy=>by
  let⟨j,j1,j2,ey⟩:=JT hy
  have:=UZ (j-ia) J J
  unfold beyB at this;rw[show ia+(j-ia)=j by lia,UE ey]at this;simp only[Rn,Sd,t6]at this;show Qc this
 cases BQ:k>0
 .show Zt BQ ?_;let m2:MI O key a.toList b.toList (out++a.extract ia (ia+k)) (ia+k) ib:=m.a sa k (λx hx y hy=>by
   let⟨j,hj,ex⟩:=BU hx
   have:=hl j hj
   unfold beyB at this;rw[UE ex]at this;simp only[Rn,Sd,Pm]at this;show Wk this<|LA sb eb y hy) (by rw[Qd,cg])
  cases d1:ia+k+1=a.size
  .show Zt (by simpa using d1) (YL<|hd _ _<|m2.last sa sb λx hx y hy=>h2 x (MG hx) y<|by rwa[show a.size-1=ia+k by grind])
  show ZO (by simpa using d1) ?_;cases d2:ia+k=a.size
  .show Zt (by simpa using d2) (YL<|hd _ _<|m2.done sa sb<|.inr<|YO<|by simp[d2])
  .show ZO (by simpa using d2) (cb L hk Vp Vo sa sb h2 eb sV Ou m2 above hd λo2 i2 j2 g3 a3 b3 m' e1 e2 e3=>hn o2 i2 j2 g3 a3 b3 m' e1 e2 sV)
 .show ZO BQ (cb L hk Vp Vo sa sb h2 eb MW Ou m (λy hy=>above y<|by rwa[show k=0 by omega]) hd λo2 i2 j2 g3 a3 b3 m' e1 e2 e3=>hn o2 i2 j2 g3 a3 b3 m' e1 e2 J)
end
abbrev BP:=Option (Array Keyed)×Array Keyed×Nat×Nat×Nat×Nat
def loB1(a b:Array Keyed)(g:Nat)(c:BP):(StateT SortSt Sem (ForInStep BP)):=elem' b c.2.2.2.1 >>= λy=>elem' a c.2.2.1 >>= λx=>lt' y x >>= λr=>match r with
 |some t=>if t=true then elem' b c.2.2.2.1 >>= λy=>
    if (c.2.2.2.1+1 == b.size)=true then pure (.done (some<|c.2.1.push y++a.extract c.2.2.1 a.size++b.extract (c.2.2.2.1+1) b.size,c.2.1.push y,c.2.2.1,c.2.2.2.1+1,0,c.2.2.2.2.2+1))
    else if c.2.2.2.2.2+1 >= g then pure (.done (none,c.2.1.push y,c.2.2.1,c.2.2.2.1+1,0,c.2.2.2.2.2+1)) else pure (.yield (none,c.2.1.push y,c.2.2.1,c.2.2.2.1+1,0,c.2.2.2.2.2+1))
   else elem' a c.2.2.1 >>= λx=>
    if (c.2.2.1+1+1 == a.size)=true then pure (.done (some<|c.2.1.push x++b.extract c.2.2.2.1 b.size++a.extract (c.2.2.1+1) a.size,c.2.1.push x,c.2.2.1+1,c.2.2.2.1,c.2.2.2.2.1+1,0))
    else if c.2.2.2.2.1+1 >= g then pure (.done (none,c.2.1.push x,c.2.2.1+1,c.2.2.2.1,c.2.2.2.2.1+1,0)) else pure (.yield (none,c.2.1.push x,c.2.2.1+1,c.2.2.2.1,c.2.2.2.2.1+1,0))
 |_=>pure (.done (some<|c.2.1++a.extract c.2.2.1 a.size++b.extract c.2.2.2.1 b.size,c.2.1,c.2.2.1,c.2.2.2.1,c.2.2.2.2.1,c.2.2.2.2.2))
abbrev Hw:=Option (Array Keyed)×Array Keyed×Nat×Nat×Nat
def Hv(a b:Array Keyed)(c:JS):(StateT SortSt Sem (ForInStep JS)):=if c.2.2.2.2.1>1 then Ov a b c.2.1 c.2.2.1 c.2.2.2.1 (c.2.2.2.2.1-1) c.2.2.2.2.2.1 c.2.2.2.2.2.2 else Ov a b c.2.1 c.2.2.1 c.2.2.2.1 c.2.2.2.2.1 c.2.2.2.2.2.1 c.2.2.2.2.2.2
def nX(c:JS):(StateT SortSt Sem (ForInStep Hw)):=match c.1 with
 |some r=>pure (.done (some r,c.2.1,c.2.2.1,c.2.2.2.1,c.2.2.2.2.1))
 |none=>Ow (c.2.2.2.2.1+1) >>= λ_=>pure (.yield (none,c.2.1,c.2.2.1,c.2.2.2.1,c.2.2.2.2.1+1))
def BO(a b:Array Keyed)(g:Nat)(c:BP):(StateT SortSt Sem (ForInStep Hw)):=match c.1 with
 |some r=>pure (.done (some r,c.2.1,c.2.2.1,c.2.2.2.1,g))
 |none=>liftM (rule "list.sort.gallop") >>= λ_=>forIn [0:a.size+b.size] ((none,c.2.1,c.2.2.1,c.2.2.2.1,g+1,c.2.2.2.2.1,c.2.2.2.2.2):JS) (λ_ s=>Hv a b s) >>= nX
def vT(a b:Array Keyed)(c:Hw):(StateT SortSt Sem (ForInStep Hw)):=forIn [0:a.size+b.size] ((none,c.2.1,c.2.2.1,c.2.2.2.1,0,0):BP) (λ_ s=>loB1 a b c.2.2.2.2 s) >>= BO a b c.2.2.2.2
def nW(c:Hw):(StateT SortSt Sem (Array Keyed)):=match c.1 with
 |some r=>pure r
 |none=>liftM (unsupported "internal:list.sort.merge-bound":Sem (Array Keyed))
def Hu(a b:Array Keyed):(StateT SortSt Sem (Array Keyed)):=liftM (rule "list.sort.merge-lo") >>= λ_=>elem' b 0 >>= λx=>
 if (1 == b.size)=true then pure (#[x]++a.extract 0 a.size++b.extract 1 b.size) else if (0+1 == a.size)=true then pure (#[x]++b.extract 1 b.size++a.extract 0 a.size)
 else get >>= λst=>forIn [0:a.size+b.size] ((none,#[x],0,1,gallopOf st):Hw) (λ_ c=>vT a b c) >>= nW
def TV{α β γ:Type _}(f:α->β->γ){a a':α}{b b':β}(h:a=a')(k:b=b'):f a b=f a' b':=by subst h k;rfl
def Fi{α:Type _}{c:Prop}[Decidable c]{a a' b b':α}(h:a=a')(k:b=b'):(if c then a else b)=if c then a' else b':=by subst h k;rfl
def nV(a b:Array Keyed):cq a b=Hu a b:=by
 unfold Hu;show QP (Bind.bind _) (funext λ_=>QP (Bind.bind _)<|funext λx=>?_);show Fi Z (Fi Z<|QP (Bind.bind _)<|funext λst=>?_);show TV Bind.bind (QP (forIn _ _)<|funext λ_=>funext λc=>?_) ?_
 .unfold vT;show TV Bind.bind (QP (forIn _ _)<|funext λ_=>funext λc=>?_) ?_
  .unfold loB1;show QP (Bind.bind _) (funext λ_=>QP (Bind.bind _)<|funext λ_=>QP (Bind.bind _)<|funext λr=>?_);cases r with
   |none=>rfl
   |some r=>rfl
  .funext c
   unfold BO;let⟨c1,c2⟩:=c;cases c1 with
   |some r=>rfl
   |none=>
    show QP (Bind.bind _) (funext λ_=>TV Bind.bind (QP (forIn _ _)<|funext λ_=>funext λc=>?_) ?_)
    .unfold Hv;show Fi ?_ ?_
     .unfold Ov;show QP (Bind.bind _) (funext λ_=>QP (Bind.bind _)<|funext λ_=>QP (Bind.bind _)<|funext λr=>?_);cases r with
      |none=>rfl
      |some r=>rfl
     .rfl
    .funext c
     let⟨c1,c2⟩:=c;cases c1<;>rfl
 .funext c
  let⟨c1,c2⟩:=c;cases c1<;>rfl
section
variable{a b:Array Keyed}{st:SortSt}
def nU(L:WA M A E s O key kd S){out:Array Keyed}{ja jb ac bc g:Nat}{R:ForInStep BP->SortSt->Prop}(hk:kindOf st=kd)(Vp:∀x∈a.toList,S x)(Vo:∀x∈b.toList,S x)(sa:a.toList.Pairwise (RK O key))(sb:b.toList.Pairwise (RK O key))(h2:∀x∈b.toList,∀y∈a.toList.drop (a.size-1),RK O key x y)(Rz:ja+1<a.size)(RW:jb<b.size)(m:MI O key a.toList b.toList out ja jb)
  (hd:∀r z,Vq O key a.toList b.toList r->R (.done (some r,z)) st)(hn:∀o2 i2 j2 a3 b3,MI O key a.toList b.toList o2 i2 j2->i2+1<a.size->j2<b.size->i2+j2=ja+jb+1->R (.done (none,o2,i2,j2,a3,b3)) st/\R (.yield (none,o2,i2,j2,a3,b3)) st):wpS M A E s (loB1 a b g (none,out,ja,jb,ac,bc)) R st:=by
 let ea:a[ja]?=some a[ja]:=SS a ja DW;let eb:b[jb]?=some b[jb]:=SS b jb RW
 unfold loB1;show YA (Zs eb<|YA<|Zs ea<|YA<|L _ _ _ _ (Vo _ B) (Vp _ B) hk ?_);dsimp only;cases hc:O.blt (key b[jb]) (key a[ja]) with
 |true=>
  show Zt Z (YA<|Zs eb ?_);let m':MI O key a.toList b.toList (out.push b[jb]) ja (jb+1):=m.b sb 1 (by rw[Ta eb];intro x hx y hy;rw[XG.mp hx];show Wk (Qc hc)<|LA sa ea y hy) (by rw[Ta eb,RQ])
  cases d1:jb+1=b.size
  .show Zt (by simpa using d1) (YL<|hd _ _<|m'.done sa sb<|.inl<|YO<|by simp[d1])
  .show ZO (by simpa using d1) ?_;let z:=λa3 b3=>hn _ _ _ a3 b3 m' Rz J J
   cases d2:bc+1 >= g
   .show Zt d2 (YL (z _ _).1)
   .show ZO d2 (YL (z _ _).2)
 |false=>
  show ZO B (YA<|Zs ea ?_);let m':MI O key a.toList b.toList (out.push a[ja]) (ja+1) jb:=m.a sa 1 (by rw[Ta ea];intro x hx y hy;rw[XG.mp hx];show Wk hc<|LA sb eb y hy) (by rw[Ta ea,RQ])
  cases d1:ja+1+1=a.size
  .show Zt (by simpa using d1) (YL<|hd _ _<|m'.last sa sb λx hx y hy=>h2 x (MG hx) y<|by rwa[show a.size-1=ja+1 by omega])
  .show ZO (by simpa using d1) ?_;let z:=λa3 b3=>hn _ _ _ a3 b3 m' DW RW J
   cases d2:ac+1 >= g
   .show Zt d2 (YL (z _ _).1)
   .show ZO d2 (YL (z _ _).2)
def SK(st XR:SortSt):(Prop):=kindOf XR=kindOf st/\arrOf XR=arrOf st/\pendingOf XR=pendingOf st/\failedOf XR=failedOf st
def Zr6(L:WA M A E s O key kd S){XR:SortSt}{out:Array Keyed}{ia ib g:Nat}{R:ForInStep Hw->SortSt->Prop}(hk:kindOf st=kd)(Vp:∀x∈a.toList,S x)(Vo:∀x∈b.toList,S x)(sa:a.toList.Pairwise (RK O key))(sb:b.toList.Pairwise (RK O key))(h2:∀x∈b.toList,∀y∈a.toList.drop (a.size-1),RK O key x y)(MW:ia+1<a.size)(Ou:ib<b.size)(m:MI O key a.toList b.toList out ia ib)(ks:SK st XR)
  (hd:∀r z Xi,Vq O key a.toList b.toList r->SK st Xi->R (.done (some r,z)) Xi)(hn:∀o2 i2 j2 g3 Xi,MI O key a.toList b.toList o2 i2 j2->i2+1<a.size->j2<b.size->ia+ib+1<=i2+j2->SK st Xi->R (.yield (none,o2,i2,j2,g3)) Xi):wpS M A E s (vT a b (none,out,ia,ib,g)) R XR:=by
 unfold vT;show YA (RL (SH
  (I:=λy c Xi=>Xi=XR/\∃out ja jb ac bc,c=(none,out,ja,jb,ac,bc)/\MI O key a.toList b.toList out ja jb/\ja+1<a.size/\jb<b.size/\ja+jb=ia+ib+y)
  (Q:=λc Xi=>Xi=XR/\((∃r z,c=(some r,z)/\Vq O key a.toList b.toList r)\/∃out ja jb ac bc,c=(none,out,ja,jb,ac,bc)/\MI O key a.toList b.toList out ja jb/\ja+1<a.size/\jb<b.size/\ia+ib+1<=ja+jb)) ?_ ?_ ⟨Z,_,_,_,_,_,Z,m,MW,Ou,Z⟩) ?_)
 .rintro y c Xi _ hy ⟨rfl,out,ja,jb,ac,bc,rfl,m,Rz,RW,hr⟩;show nU L (ks.1.trans hk) Vp Vo sa sb h2 Rz RW m (λr z hr=>⟨Z,.inl ⟨r,z,Z,hr⟩⟩) λo2 i2 j2 a3 b3 m' e1 e2 e3=>⟨⟨Z,.inr ⟨_,_,_,_,_,Z,m',e1,e2,J⟩⟩,⟨Z,_,_,_,_,_,Z,m',e1,e2,J⟩⟩
 .rintro c Xi ⟨rfl,out,ja,jb,ac,bc,rfl,m,Rz,RW,hr⟩;exists Z,.inr ⟨_,_,_,_,_,Z,m,Rz,RW,J⟩
 rintro c Xi ⟨rfl,VD⟩;rcases VD with ⟨r,z,rfl,hr⟩|⟨out,ja,jb,ac,bc,rfl,m,Rz,RW,hr⟩
 .show YL (hd r _ _ hr ks)
 show YA (wpS_lift<|PY ⟨Z,?_⟩);show YA (RL (SH
  (I:=λy c WL=>SK st WL/\∃out MV MU g ac bc,c=(none,out,MV,MU,g,ac,bc)/\MI O key a.toList b.toList out MV MU/\MV+1<a.size/\MU<b.size/\a.size-MV+(b.size-MU)<=a.size-ja+(b.size-jb))
  (Q:=λc WL=>SK st WL/\((∃r z,c=(some r,z)/\Vq O key a.toList b.toList r)\/∃out MV MU g ac bc,c=(none,out,MV,MU,g,ac,bc)/\MI O key a.toList b.toList out MV MU/\MV+1<a.size/\MU<b.size/\a.size-MV+(b.size-MU)<=a.size-ja+(b.size-jb))) ?_ (λc WL z=>⟨z.1,.inr z.2⟩) ⟨ks,_,_,_,_,_,_,Z,m,Rz,RW,XN _⟩) ?_)
 .rintro y c WL _ hy ⟨k1,out,MV,MU,g',ac',bc',rfl,m,BN,BM,Oq⟩;unfold Hv;cases hg:g'>1
  .show Zt hg (b9 L (k1.1.trans hk) Vp Vo sa sb h2 BN BM m (λr z hr=>⟨k1,.inl ⟨r,z,Z,hr⟩⟩) λo2 i2 j2 g3 a3 b3 m3 e1 e2 e3=>⟨⟨k1,.inr ⟨o2,i2,j2,g3,a3,b3,Z,m3,e1,e2,Yr e3 Oq⟩⟩,⟨k1,o2,i2,j2,g3,a3,b3,Z,m3,e1,e2,Yr e3 Oq⟩⟩)
  .show ZO hg (b9 L (k1.1.trans hk) Vp Vo sa sb h2 BN BM m (λr z hr=>⟨k1,.inl ⟨r,z,Z,hr⟩⟩) λo2 i2 j2 g3 a3 b3 m3 e1 e2 e3=>⟨⟨k1,.inr ⟨o2,i2,j2,g3,a3,b3,Z,m3,e1,e2,Yr e3 Oq⟩⟩,⟨k1,o2,i2,j2,g3,a3,b3,Z,m3,e1,e2,Yr e3 Oq⟩⟩)
 .rintro c WL ⟨k1,VD⟩;rcases VD with ⟨r,z,rfl,UY⟩|⟨Ht,ia3,ib3,g3,ac3,bc3,rfl,m3,nS,nR,UY⟩
  .show YL (hd r _ _ UY k1)
  .show YA (vU<|YL<|hn Ht ia3 ib3 (g3+1) _ m3 nS nR sV k1)
def nQ(L:WA M A E s O key kd S){Q:Array Keyed->SortSt->Prop}(hk:kindOf st=kd)(Vp:∀x∈a.toList,S x)(Vo:∀x∈b.toList,S x)(sa:a.toList.Pairwise (RK O key))(sb:b.toList.Pairwise (RK O key))(ha:1<=a.size)(hb:1<=b.size)
  (h1:∀x∈b.toList.take 1,∀y∈a.toList,RK O key x y)(h2:∀x∈b.toList,∀y∈a.toList.drop (a.size-1),RK O key x y)
  (h:∀r g,Vq O key a.toList b.toList r->Q r (SortSt.mk' (kindOf st) (arrOf st) (pendingOf st) g<|failedOf st)):wpS M A E s (cq a b) Q st:=by
 let bump:∀XR,SK st XR->∀r,Vq O key a.toList b.toList r->Q r XR:=λXR ⟨e1,e2,e3,e4⟩ r hr=>by
  have:=h r (gallopOf XR) hr
  rwa[<-e1,<-e2,<-e3,<-e4]at this
 let k0:SK st st:=⟨Z,Z,Z,Z⟩;let e0:b[0]?=some b[0]:=SS b 0 hb
 let m0:MI O key a.toList b.toList #[] 0 0:=⟨List.Pairwise.nil,λ_ h=>(by cases h),λ_ h=>(by cases h),B⟩;let m1:MI O key a.toList b.toList #[b[0]] 0 1:=m0.b sb 1 (by rwa[Ku,Ku]) (by rw[Ta e0];rfl)
 rw[nV];unfold Hu;show YA (wpS_lift<|PY ⟨Z,?_⟩);show YA (Zs e0 ?_);cases c1:1=b.size
 .show Zt (by simpa using c1) (YL<|bump st k0 _<|m1.done sa sb<|.inl<|YO<|by simp[<-c1])
 show ZO (by simpa using c1) ?_;cases c2:0+1=a.size
 .show Zt (by simpa using c2) (YL<|bump st k0 _<|m1.last sa sb λx hx y hy=>h2 x (MG hx) y<|by rwa[show a.size-1=0 by lia])
 show ZO (by simpa using c2) (YA<|QF ?_);show YA (RL (SH
  (I:=λx c XR=>SK st XR/\∃out ia ib g,c=(none,out,ia,ib,g)/\MI O key a.toList b.toList out ia ib/\ia+1<a.size/\ib<b.size/\x<=ia+ib)
  (Q:=λc XR=>SK st XR/\∃r,c.1=some r/\Vq O key a.toList b.toList r) ?_ ?_ ⟨k0,_,_,_,_,Z,m1,J,J,J⟩) ?_)
 .rintro x c XR _ hx ⟨k1,out,ia,ib,g,rfl,m,MW,Ou,Hs⟩;show Zr6 L hk Vp Vo sa sb h2 MW Ou m k1 (λr z Xi hr k2=>⟨k2,r,Z,hr⟩) λo2 i2 j2 g3 Xi m' e1 e2 e3 k2=>⟨k2,_,_,_,_,Z,m',e1,e2,J⟩
 .rintro c XR ⟨k1,out,ia,ib,g,rfl,m,MW,Ou,Hs⟩;lia
 .rintro⟨c1,c2⟩ XR ⟨k1,r,hc,hr⟩;cases hc;show YL (bump XR k1 r hr)
end
end
section
variable{M:Model}{A:Around}{E:Ae}{s:Shared}{O:KeyOrd}{key:Keyed->O.α}{kd:SortKind}{S:Keyed->Prop}
structure MH(O:KeyOrd)(key:Keyed->O.α)(la lb:List Keyed)(out:Array Keyed)(na nb:Nat):Prop where
 so:out.toList.Pairwise λx y=>RK O key y x
 oa:∀x∈la.take na,∀y∈out.toList,RK O key x y
 ob:∀x∈lb.take nb,∀y∈out.toList,RK O key x y
 pm:(la.take na++lb.take nb++out.toList).Perm (la++lb)
def BL{α:Type}{la:List α}(hi:i<=n){y:α}(h:y∈la.take i):y∈la.take n:=by rw[show i=min i n by lia,<-IM]at h;show Vw h
def nP{la:List Keyed}(hi:i<=n):la.take n=la.take i++(la.take n).drop i:=by let e:=(MJ i<|la.take n).symm;rwa[IM,show min i n=i by lia]at e
def b8{la:List Keyed}(h:la.Pairwise (RK O key))(hi:i<=n):((la.take n).drop i).Pairwise (RK O key)/\∀x∈la.take i,∀y∈(la.take n).drop i,RK O key x y:=by let h1:(la.take n).Pairwise (RK O key):=h.sublist (ME n la);rw[nP hi,YH]at h1;exists h1.2.1,h1.2.2
def MH.a(h:MH O key la lb out na nb)(sa:la.Pairwise (RK O key))(hi:i<=na)(hx:∀x∈lb.take nb,∀y∈(la.take na).drop i,RK O key x y)(e:out'.toList=out.toList++((la.take na).drop i).reverse):MH O key la lb out' i nb:=by
 let⟨p1,p2⟩:=b8 sa hi;exists ?_,?_,?_,?_
 .rw[e,YH];exists h.so,Mo.mpr p1,λx hx y hy=>h.oa y (MG<|RP.mp hy) x hx
 .intro x Xu y hy;rw[e,XA,RP]at hy;rcases hy with hy|hy
  .show h.oa x (BL hi Xu) y hy
  .show p2 x Xu y hy
 .intro x Xu y hy;rw[e,XA,RP]at hy;rcases hy with hy|hy
  .show h.ob x Xu y hy
  .show hx x Xu y hy
 .show List.Perm.trans ?_ h.pm;rw[e]
  conv=>rhs;rw[nP hi]
  rw[Yw,Yw,Yw];show Nu _ ?_;show List.Perm.trans (l₂:=lb.take nb++(((la.take na).drop i)++out.toList)) ?_ ?_
  .show Nu _ (EB.trans<|(FT _).append_right _)
  .rw[<-Yw,<-Yw];show EC _ EB
def MH.b(h:MH O key la lb out na nb)(sb:lb.Pairwise (RK O key))(hi:i<=nb)(hx:∀x∈la.take na,∀y∈(lb.take nb).drop i,RK O key x y)(e:out'.toList=out.toList++((lb.take nb).drop i).reverse):MH O key la lb out' na i:=by
 let⟨p1,p2⟩:=b8 sb hi;exists ?_,?_,?_,?_
 .rw[e,YH];exists h.so,Mo.mpr p1,λx hx y hy=>h.ob y (MG<|RP.mp hy) x hx
 .intro x Xu y hy;rw[e,XA,RP]at hy;rcases hy with hy|hy
  .show h.oa x Xu y hy
  .show hx x Xu y hy
 .intro x Xu y hy;rw[e,XA,RP]at hy;rcases hy with hy|hy
  .show h.ob x (BL hi Xu) y hy
  .show p2 x Xu y hy
 .show List.Perm.trans ?_ h.pm;rw[e]
  conv=>rhs;rw[nP hi]
  rw[Yw,Yw,Yw];show Nu _ (Nu _ ?_);show EB.trans ((FT _).append_right _)
def Ly(a:Array Keyed)(n:Nat):(a.extract 0 n).toList=a.toList.take n:=by rw[FW,Gb,Ku,xt]
def b7(a:Array Keyed)(i n:Nat):((a.extract i n).reverse).toList=((a.toList.take n).drop i).reverse:=by rw[IU,FW,Gb,IK]
def MH.ab{a b out:Array Keyed}(h:MH O key a.toList b.toList out na nb)(sa:a.toList.Pairwise (RK O key))(sb:b.toList.Pairwise (RK O key))(hx:∀x∈a.toList.take na,∀y∈b.toList.take nb,RK O key x y):Vq O key a.toList b.toList (a.extract 0 na++b.extract 0 nb++out.reverse):=by
 unfold Vq;rw[Qd,Qd,Ly,Ly,IU];exists ?_,(Nu _<|FT _).trans h.pm;rw[YH,YH];exists ⟨sa.sublist<|ME _ _,sb.sublist<|ME _ _,hx⟩,Mo.mpr h.so,λx Xu y hy=>?_;rw[XA]at Xu;rcases Xu with Xu|Xu
 .show h.oa x Xu y (RP.mp hy)
 .show h.ob x Xu y (RP.mp hy)
def MH.ba{a b out:Array Keyed}(h:MH O key a.toList b.toList out na nb)(sa:a.toList.Pairwise (RK O key))(sb:b.toList.Pairwise (RK O key))(hx:∀x∈b.toList.take nb,∀y∈a.toList.take na,RK O key x y):Vq O key a.toList b.toList (b.extract 0 nb++a.extract 0 na++out.reverse):=by
 unfold Vq;rw[Qd,Qd,Ly,Ly,IU];exists ?_,((Nu _<|FT _).trans (EC _ EB)).trans h.pm;rw[YH,YH];exists ⟨sb.sublist<|ME _ _,sa.sublist<|ME _ _,hx⟩,Mo.mpr h.so,λx Xu y hy=>?_;rw[XA]at Xu;rcases Xu with Xu|Xu
 .show h.ob x Xu y (RP.mp hy)
 .show h.oa x Xu y (RP.mp hy)
def TU{a:Array Keyed}{i n:Nat}{p:Keyed}(hn:n=i+1)(h:a[i]?=some p):((a.toList.take n).drop i).reverse=[p]:=by
 subst hn;let h':a.toList[i]?=some p:=by simpa using h
 rw[IK,uo];let⟨hi,e⟩:=Xy.mp h';rw[Jh hi,e];rfl
def vS{a:Array Keyed}{i n:Nat}{p y:Keyed}(hn:n=i+1)(h:a[i]?=some p)(hy:y∈(a.toList.take n).drop i):y=p:=by
 have:=TU hn h
 rw[<-RP,this]at hy;show XG.mp hy
def nO{a:Array Keyed}{x:Keyed}(h:x∈a.toList.take n):∃j,j<n/\j<a.size/\a[j]?=some x:=by
 let⟨j,hj⟩:=YC h;let Uv:=(Xy.mp hj).1
 rw[Yl]at Uv;rw[VW,if_pos sV]at hj;exists j,DW,by simp at Uv;grind,by simpa using hj
def BK{a:Array Keyed}{i n:Nat}{x:Keyed}(h:x∈(a.toList.take n).drop i):∃j,i<=j/\j<n/\j<a.size/\a[j]?=some x:=by
 let⟨j,hj⟩:=YC h;let Uv:=(Xy.mp hj).1
 rw[YW,Yl]at Uv;rw[MF,VW,if_pos sV]at hj;exists i+j,J,DW,by simp at Uv;grind,by simpa using hj
def QW{a:Array Keyed}{i n:Nat}{p:Keyed}(sa:a.toList.Pairwise (RK O key))(hn:n=i+1)(h:a[i]?=some p):∀x∈a.toList.take n,RK O key x p:=λx hx=>by
 let⟨j,j1,j2,ej⟩:=nO hx;let hi:i<a.size:=(eW.mp h).1
 have:=BS sa (i:=j) (j:=i) J hi
 rwa[UE ej,UE h]at this
abbrev JR:=Option (Array Keyed)×Nat×Nat×Array Keyed×Nat×Nat×Nat
def Lx(a b out:Array Keyed)(na nb g ac bc:Nat):(StateT SortSt Sem (ForInStep JR)):=elem' a (na-1) >>= λx=>
 if (na-1 == 0)=true then pure (.done (some<|a.extract 0 (na-1)++b.extract 0 nb++(out.push x).reverse,na-1,nb,out.push x,g,ac,bc))
 else if (decide (ac<7)&&decide (bc<7))=true then pure (.done (none,na-1,nb,out.push x,g,ac,bc)) else pure (.yield (none,na-1,nb,out.push x,g,ac,bc))
def Lw(a b out:Array Keyed)(na nb g ac bc:Nat):(StateT SortSt Sem (ForInStep JR)):=elem' b (nb-1) >>= λx=>
 if (nb-1 == 1)=true then pure (.done (some<|b.extract 0 (nb-1)++a.extract 0 na++(out.push x).reverse,na,nb-1,out.push x,g,ac,bc))
 else elem' a (na-1) >>= λy=>Qt true y b 0 (nb-1) (nb-1-1) >>= λr=>match r with
  |some k=>if nb-1-k>0 then
    if (k == 1)=true then pure (.done (some<|b.extract 0 k++a.extract 0 na++(out.push x++(b.extract k<|nb-1).reverse).reverse,na,k,out.push x++(b.extract k<|nb-1).reverse,g,ac,nb-1-k))
    else if (k == 0)=true then pure (.done (some<|a.extract 0 na++b.extract 0 k++(out.push x++(b.extract k<|nb-1).reverse).reverse,na,k,out.push x++(b.extract k<|nb-1).reverse,g,ac,nb-1-k))
    else Lx a b (out.push x++(b.extract k<|nb-1).reverse) na k g ac (nb-1-k)
   else Lx a b (out.push x) na (nb-1) g ac (nb-1-k)
  |_=>pure (.done (some<|a.extract 0 na++b.extract 0 (nb-1)++(out.push x).reverse,na,nb-1,out.push x,g,ac,bc))
def Oo(a b out:Array Keyed)(na nb g ac bc:Nat):(StateT SortSt Sem (ForInStep JR)):=Ow g >>= λ_=>elem' b (nb-1) >>= λx=>Qt false x a 0 na (na-1) >>= λr=>match r with
 |some k=>if na-k>0 then
   if (k == 0)=true then pure (.done (some<|a.extract 0 k++b.extract 0 nb++(out++(a.extract k na).reverse).reverse,k,nb,out++(a.extract k na).reverse,g,na-k,bc))
   else Lw a b (out++(a.extract k na).reverse) k nb g (na-k) bc
  else Lw a b out na nb g (na-k) bc
 |_=>pure (.done (some<|a.extract 0 na++b.extract 0 nb++out.reverse,na,nb,out,g,ac,bc))
section
variable{a b out:Array Keyed}{na nb:Nat}{st:SortSt}{R:ForInStep JR->SortSt->Prop}
def bZ{pa:Keyed}(sa:a.toList.Pairwise (RK O key))(sb:b.toList.Pairwise (RK O key))(ea:a[na-1]?=some pa)(Hr:1<=na)(Ry:na<=a.size)(Lv:2<=nb)(Rx:nb<=b.size)(m:MH O key a.toList b.toList out na nb)(below:∀x∈b.toList.take nb,RK O key x pa)
  (hd:∀r z,Vq O key a.toList b.toList r->R (.done (some r,z)) st)(hn:∀i2 j2 o2 g3 a3 b3,MH O key a.toList b.toList o2 i2 j2->1<=i2->i2<=a.size->2<=j2->j2<=b.size->i2+j2<=na+nb->R (.done (none,i2,j2,o2,g3,a3,b3)) st/\R (.yield (none,i2,j2,o2,g3,a3,b3)) st):wpS M A E s (Lx a b out na nb g ac bc) R st:=by
 let en:na=na-1+1:=sV;unfold Lx;show YA (Zs ea ?_);let m5:MH O key a.toList b.toList (out.push pa) (na-1) nb:=m.a sa J (λx hx y hy=>by rw[vS en ea hy];show below x hx) (by rw[TU en ea,RQ])
 cases d5:na-1=0
 .show Zt (by simpa using d5) (YL<|hd _ _<|m5.ab sa sb<|by rw[d5];intro _ h;cases h)
 .show ZO (by simpa using d5) ?_;let z:=λg3 a3 b3=>hn _ _ _ g3 a3 b3 m5 J J Lv Rx J
  split
  .show YL (z _ _ _).1
  .show YL (z _ _ _).2
def bY(L:WA M A E s O key kd S){pb:Keyed}(hk:kindOf st=kd)(Vp:∀x∈a.toList,S x)(Vo:∀x∈b.toList,S x)(sa:a.toList.Pairwise (RK O key))(sb:b.toList.Pairwise (RK O key))(h1:∀x∈b.toList.take 1,∀y∈a.toList,RK O key x y)(eb:b[nb-1]?=some pb)(Hr:1<=na)(Ry:na<=a.size)(Lv:2<=nb)(Rx:nb<=b.size)(m:MH O key a.toList b.toList out na nb)(above:∀x∈a.toList.take na,RK O key x pb)
  (hd:∀r z,Vq O key a.toList b.toList r->R (.done (some r,z)) st)(hn:∀i2 j2 o2 g3 a3 b3,MH O key a.toList b.toList o2 i2 j2->1<=i2->i2<=a.size->2<=j2->j2<=b.size->i2+j2<=na+nb->R (.done (none,i2,j2,o2,g3,a3,b3)) st/\R (.yield (none,i2,j2,o2,g3,a3,b3)) st):wpS M A E s (Lw a b out na nb g ac bc) R st:=by
 let Om:∀{i j},i=1->∀x∈b.toList.take i,∀y∈a.toList.take j,RK O key x y:=λ{i j} e x hx y hy=>h1 x (by rwa[e]at hx) y (Vw hy);let en:nb=nb-1+1:=sV
 unfold Lw;show YA (Zs eb ?_);let m3:MH O key a.toList b.toList (out.push pb) na (nb-1):=m.b sb J (λx hx y hy=>by rw[vS en eb hy];show above x hx) (by rw[TU en eb,RQ])
 cases d3:nb-1=1
 .show Zt (by simpa using d3) (YL<|hd _ _<|m3.ba sa sb<|Om d3)
 show ZO (by simpa using d3) ?_;let ha:na-1<a.size:=sV
 let ea:a[na-1]?=some a[na-1]:=SS a _ ha;let BJ:na=na-1+1:=DW
 show YA (Zs ea ?_);show YA (Fl L hk (Vp _ B) (λi hi=>⟨b[0+i],SS b _ DW,Vo _ B⟩) J (λi j WM hj=>BS sb J J) λkk Lz Vj Hx=>?_);dsimp only;let below:∀x∈b.toList.take kk,RK O key x a[na-1]:=λx hx=>by
  let⟨j,j1,j2,ex⟩:=nO hx
  have:=Vj j j1
  unfold beyB at this;rw[SR,UE ex]at this;show Qc this
 cases Ot:nb-1-kk>0
 .show Zt Ot ?_;let m4:MH O key a.toList b.toList (out.push pb++(b.extract kk<|nb-1).reverse) na kk:=m3.b sb Lz (λx hx y hy=>by
   let⟨j,j1,j2,j3,ey⟩:=BK hy
   have:=Hx j j1 j2
   unfold beyB at this;rw[SR,UE ey]at this;show Wk (QW sa BJ ea x hx) this) (by rw[Qd,b7])
  cases d4:kk=1
  .show Zt (by simpa using d4) (YL<|hd _ _<|m4.ba sa sb<|Om d4)
  show ZO (by simpa using d4) ?_;cases d6:kk=0
  .show Zt (by simpa using d6) (YL<|hd _ _<|m4.ab sa sb<|by rw[d6];intro _ _ _ h;cases h)
  .show ZO (by simpa using d6) (bZ sa sb ea Hr Ry J J m4 below hd λi2 j2 o2 g3 a3 b3 m' e1 e2 e3 e4 e5=>hn i2 j2 o2 g3 a3 b3 m' e1 e2 e3 e4 J)
 .let ekk:kk=nb-1:=J;show ZO Ot (bZ sa sb ea Hr Ry J J m3 (λx hx=>below x<|by rwa[ekk]) hd λi2 j2 o2 g3 a3 b3 m' e1 e2 e3 e4 e5=>hn i2 j2 o2 g3 a3 b3 m' e1 e2 e3 e4 J)
def bX(L:WA M A E s O key kd S)(hk:kindOf st=kd)(Vp:∀x∈a.toList,S x)(Vo:∀x∈b.toList,S x)(sa:a.toList.Pairwise (RK O key))(sb:b.toList.Pairwise (RK O key))(h1:∀x∈b.toList.take 1,∀y∈a.toList,RK O key x y)(Hr:1<=na)(Ry:na<=a.size)(Lv:2<=nb)(Rx:nb<=b.size)(m:MH O key a.toList b.toList out na nb)
  (hd:∀r z,Vq O key a.toList b.toList r->R (.done (some r,z)) (SortSt.mk' (kindOf st) (arrOf st) (pendingOf st) g<|failedOf st))(hn:∀i2 j2 o2 g3 a3 b3,MH O key a.toList b.toList o2 i2 j2->1<=i2->i2<=a.size->2<=j2->j2<=b.size->i2+j2<=na+nb->R (.done (none,i2,j2,o2,g3,a3,b3)) (SortSt.mk' (kindOf st) (arrOf st) (pendingOf st) g<|failedOf st)/\R (.yield (none,i2,j2,o2,g3,a3,b3)) (SortSt.mk' (kindOf st) (arrOf st) (pendingOf st) g<|failedOf st)):wpS M A E s (Oo a b out na nb g ac bc) R st:=by
 unfold Oo;show YA (vU ?_);let hb:nb-1<b.size:=sV
 let eb:b[nb-1]?=some b[nb-1]:=SS b _ hb;let en:nb=nb-1+1:=DW
 show YA (Zs eb ?_);show YA (Fl L hk (Vo _ B) (λi hi=>⟨a[0+i],SS a _ DW,Vp _ B⟩) DW (λi j WM hj=>BS sa DW J) λk Fj hl UZ=>?_);dsimp only;let above:∀x∈a.toList.take k,RK O key x b[nb-1]:=λx hx=>by
  let⟨j,j1,j2,ex⟩:=nO hx
  have:=hl j j1
  unfold beyB at this;rw[SR,UE ex]at this;simp only[Rn,Sd,Pm]at this;show this
 cases BQ:na-k>0
 .show Zt BQ ?_;let m2:MH O key a.toList b.toList (out++(a.extract k na).reverse) k nb:=m.a sa Fj (λx hx y hy=>by
   let⟨j,j1,j2,j3,ey⟩:=BK hy
   have:=UZ j j1 j2
   unfold beyB at this;rw[SR,UE ey]at this;simp only[Rn,Sd,t6]at this;show Wk (QW sb en eb x hx)<|Qc this) (by rw[Qd,b7])
  cases d1:k=0
  .show Zt (by simpa using d1) (YL<|hd _ _<|m2.ab sa sb<|by rw[d1];intro _ h;cases h)
  .show ZO (by simpa using d1) (bY L hk Vp Vo sa sb h1 eb J J Lv Rx m2 above hd λi2 j2 o2 g3 a3 b3 m' e1 e2 e3 e4 e5=>hn i2 j2 o2 g3 a3 b3 m' e1 e2 e3 e4 J)
 .let ek:k=na:=sV;show ZO BQ (bY L hk Vp Vo sa sb h1 eb Hr Ry Lv Rx m (λx hx=>above x<|by rwa[ek]) hd hn)
end
abbrev BI:=Option (Array Keyed)×Nat×Nat×Array Keyed×Nat×Nat
def hiB1(a b:Array Keyed)(g:Nat)(c:BI):(StateT SortSt Sem (ForInStep BI)):=elem' b (c.2.2.1-1) >>= λy=>elem' a (c.2.1-1) >>= λx=>lt' y x >>= λr=>match r with
 |some t=>if t=true then elem' a (c.2.1-1) >>= λx=>
    if (c.2.1-1 == 0)=true then pure (.done (some<|a.extract 0 (c.2.1-1)++b.extract 0 c.2.2.1++(c.2.2.2.1.push x).reverse,c.2.1-1,c.2.2.1,c.2.2.2.1.push x,c.2.2.2.2.1+1,0))
    else if c.2.2.2.2.1+1 >= g then pure (.done (none,c.2.1-1,c.2.2.1,c.2.2.2.1.push x,c.2.2.2.2.1+1,0)) else pure (.yield (none,c.2.1-1,c.2.2.1,c.2.2.2.1.push x,c.2.2.2.2.1+1,0))
   else elem' b (c.2.2.1-1) >>= λy=>
    if (c.2.2.1-1 == 1)=true then pure (.done (some<|b.extract 0 (c.2.2.1-1)++a.extract 0 c.2.1++(c.2.2.2.1.push y).reverse,c.2.1,c.2.2.1-1,c.2.2.2.1.push y,0,c.2.2.2.2.2+1))
    else if c.2.2.2.2.2+1 >= g then pure (.done (none,c.2.1,c.2.2.1-1,c.2.2.2.1.push y,0,c.2.2.2.2.2+1)) else pure (.yield (none,c.2.1,c.2.2.1-1,c.2.2.2.1.push y,0,c.2.2.2.2.2+1))
 |_=>pure (.done (some<|a.extract 0 c.2.1++b.extract 0 c.2.2.1++c.2.2.2.1.reverse,c.2.1,c.2.2.1,c.2.2.2.1,c.2.2.2.2.1,c.2.2.2.2.2))
abbrev Hq:=Option (Array Keyed)×Nat×Nat×Array Keyed×Nat
def Ho(a b:Array Keyed)(c:JR):(StateT SortSt Sem (ForInStep JR)):=if c.2.2.2.2.1>1 then Oo a b c.2.2.2.1 c.2.1 c.2.2.1 (c.2.2.2.2.1-1) c.2.2.2.2.2.1 c.2.2.2.2.2.2 else Oo a b c.2.2.2.1 c.2.1 c.2.2.1 c.2.2.2.2.1 c.2.2.2.2.2.1 c.2.2.2.2.2.2
def nN(c:JR):(StateT SortSt Sem (ForInStep Hq)):=match c.1 with
 |some r=>pure (.done (some r,c.2.1,c.2.2.1,c.2.2.2.1,c.2.2.2.2.1))
 |none=>Ow (c.2.2.2.2.1+1) >>= λ_=>pure (.yield (none,c.2.1,c.2.2.1,c.2.2.2.1,c.2.2.2.2.1+1))
def BH(a b:Array Keyed)(g:Nat)(c:BI):(StateT SortSt Sem (ForInStep Hq)):=match c.1 with
 |some r=>pure (.done (some r,c.2.1,c.2.2.1,c.2.2.2.1,g))
 |none=>liftM (rule "list.sort.gallop") >>= λ_=>forIn [0:a.size+b.size] ((none,c.2.1,c.2.2.1,c.2.2.2.1,g+1,c.2.2.2.2.1,c.2.2.2.2.2):JR) (λ_ s=>Ho a b s) >>= nN
def Lu(a b:Array Keyed)(c:Hq):(StateT SortSt Sem (ForInStep Hq)):=forIn [0:a.size+b.size] ((none,c.2.1,c.2.2.1,c.2.2.2.1,0,0):BI) (λ_ s=>hiB1 a b c.2.2.2.2 s) >>= BH a b c.2.2.2.2
def nM(c:Hq):(StateT SortSt Sem (Array Keyed)):=match c.1 with
 |some r=>pure r
 |none=>liftM (unsupported "internal:list.sort.merge-bound":Sem (Array Keyed))
def Ol(a b:Array Keyed):(StateT SortSt Sem (Array Keyed)):=liftM (rule "list.sort.merge-hi") >>= λ_=>elem' a (a.size-1) >>= λx=>
 if (a.size-1 == 0)=true then pure (a.extract 0 (a.size-1)++b.extract 0 b.size++(#[x]:Array Keyed).reverse) else if (b.size == 1)=true then pure (b.extract 0 b.size++a.extract 0 (a.size-1)++(#[x]:Array Keyed).reverse)
 else get >>= λst=>forIn [0:a.size+b.size] ((none,a.size-1,b.size,#[x],gallopOf st):Hq) (λ_ c=>Lu a b c) >>= nM
def nL(a b:Array Keyed):cn a b=Ol a b:=by
 unfold Ol;show QP (Bind.bind _) (funext λ_=>QP (Bind.bind _)<|funext λx=>?_);show Fi Z (Fi Z<|QP (Bind.bind _)<|funext λst=>?_);show TV Bind.bind (QP (forIn _ _)<|funext λ_=>funext λc=>?_) ?_
 .unfold Lu;show TV Bind.bind (QP (forIn _ _)<|funext λ_=>funext λc=>?_) ?_
  .unfold hiB1;show QP (Bind.bind _) (funext λ_=>QP (Bind.bind _)<|funext λ_=>QP (Bind.bind _)<|funext λr=>?_);cases r with
   |none=>rfl
   |some r=>rfl
  .funext c
   unfold BH;let⟨c1,c2⟩:=c;cases c1 with
   |some r=>rfl
   |none=>
    show QP (Bind.bind _) (funext λ_=>TV Bind.bind (QP (forIn _ _)<|funext λ_=>funext λc=>?_) ?_)
    .unfold Ho;show Fi ?_ ?_
     .unfold Oo;show QP (Bind.bind _) (funext λ_=>QP (Bind.bind _)<|funext λ_=>QP (Bind.bind _)<|funext λr=>?_);cases r with
      |none=>rfl
      |some r=>rfl
     .rfl
    .funext c
     let⟨c1,c2⟩:=c;cases c1<;>rfl
 .funext c
  let⟨c1,c2⟩:=c;cases c1<;>rfl
section
variable{a b:Array Keyed}{st:SortSt}
def nK(L:WA M A E s O key kd S){out:Array Keyed}{ja jb ac bc g:Nat}{R:ForInStep BI->SortSt->Prop}(hk:kindOf st=kd)(Vp:∀x∈a.toList,S x)(Vo:∀x∈b.toList,S x)(sa:a.toList.Pairwise (RK O key))(sb:b.toList.Pairwise (RK O key))(h1:∀x∈b.toList.take 1,∀y∈a.toList,RK O key x y)(Rz:1<=ja)(Rw:ja<=a.size)(RW:2<=jb)(Rv:jb<=b.size)(m:MH O key a.toList b.toList out ja jb)
  (hd:∀r z,Vq O key a.toList b.toList r->R (.done (some r,z)) st)(hn:∀i2 j2 o2 a3 b3,MH O key a.toList b.toList o2 i2 j2->1<=i2->i2<=a.size->2<=j2->j2<=b.size->i2+j2+1=ja+jb->R (.done (none,i2,j2,o2,a3,b3)) st/\R (.yield (none,i2,j2,o2,a3,b3)) st):wpS M A E s (hiB1 a b g (none,ja,jb,out,ac,bc)) R st:=by
 let ha:ja-1<a.size:=DW;let hb:jb-1<b.size:=DW
 let ea:a[ja-1]?=some a[ja-1]:=SS a _ ha;let eb:b[jb-1]?=some b[jb-1]:=SS b _ hb
 let en:ja=ja-1+1:=sV;let BJ:jb=jb-1+1:=DW
 unfold hiB1;show YA (Zs eb<|YA<|Zs ea<|YA<|L _ _ _ _ (Vo _ B) (Vp _ B) hk ?_);dsimp only;cases hc:O.blt (key b[jb-1]) (key a[ja-1]) with
 |true=>
  show Zt Z (YA<|Zs ea ?_);let m':MH O key a.toList b.toList (out.push a[ja-1]) (ja-1) jb:=m.a sa DW (λx hx y hy=>by rw[vS en ea hy];show Wk (QW sb BJ eb x hx)<|Qc hc) (by rw[TU en ea,RQ])
  cases d1:ja-1=0
  .show Zt (by simpa using d1) (YL<|hd _ _<|m'.ab sa sb<|by rw[d1];intro _ h;cases h)
  .show ZO (by simpa using d1) ?_;let z:=λa3 b3=>hn _ _ _ a3 b3 m' J DW RW Rv J
   cases d2:ac+1 >= g
   .show Zt d2 (YL (z _ _).1)
   .show ZO d2 (YL (z _ _).2)
 |false=>
  show ZO B (YA<|Zs eb ?_);let m':MH O key a.toList b.toList (out.push b[jb-1]) ja (jb-1):=m.b sb DW (λx hx y hy=>by rw[vS BJ eb hy];show Wk (QW sa en ea x hx) hc) (by rw[TU BJ eb,RQ])
  cases d1:jb-1=1
  .show Zt (by simpa using d1) (YL<|hd _ _<|m'.ba sa sb λx hx y hy=>h1 x (by rwa[d1]at hx) y<|Vw hy)
  .show ZO (by simpa using d1) ?_;let z:=λa3 b3=>hn _ _ _ a3 b3 m' Rz Rw J sV J
   cases d2:bc+1 >= g
   .show Zt d2 (YL (z _ _).1)
   .show ZO d2 (YL (z _ _).2)
def Zs6(L:WA M A E s O key kd S){XR:SortSt}{out:Array Keyed}{na nb g:Nat}{R:ForInStep Hq->SortSt->Prop}(hk:kindOf st=kd)(Vp:∀x∈a.toList,S x)(Vo:∀x∈b.toList,S x)(sa:a.toList.Pairwise (RK O key))(sb:b.toList.Pairwise (RK O key))(h1:∀x∈b.toList.take 1,∀y∈a.toList,RK O key x y)(Hr:1<=na)(Ry:na<=a.size)(Lv:2<=nb)(Rx:nb<=b.size)(m:MH O key a.toList b.toList out na nb)(ks:SK st XR)
  (hd:∀r z Xi,Vq O key a.toList b.toList r->SK st Xi->R (.done (some r,z)) Xi)(hn:∀i2 j2 o2 g3 Xi,MH O key a.toList b.toList o2 i2 j2->1<=i2->i2<=a.size->2<=j2->j2<=b.size->i2+j2+1<=na+nb->SK st Xi->R (.yield (none,i2,j2,o2,g3)) Xi):wpS M A E s (Lu a b (none,na,nb,out,g)) R XR:=by
 unfold Lu;show YA (RL (SH
  (I:=λy c Xi=>Xi=XR/\∃ja jb out ac bc,c=(none,ja,jb,out,ac,bc)/\MH O key a.toList b.toList out ja jb/\1<=ja/\ja<=a.size/\2<=jb/\jb<=b.size/\ja+jb+y=na+nb)
  (Q:=λc Xi=>Xi=XR/\((∃r z,c=(some r,z)/\Vq O key a.toList b.toList r)\/∃ja jb out ac bc,c=(none,ja,jb,out,ac,bc)/\MH O key a.toList b.toList out ja jb/\1<=ja/\ja<=a.size/\2<=jb/\jb<=b.size/\ja+jb+1<=na+nb)) ?_ ?_ ⟨Z,_,_,_,_,_,Z,m,Hr,Ry,Lv,Rx,Z⟩) ?_)
 .rintro y c Xi _ hy ⟨rfl,ja,jb,out,ac,bc,rfl,m,Rz,Rw,RW,Rv,hr⟩;show nK L (ks.1.trans hk) Vp Vo sa sb h1 Rz Rw RW Rv m (λr z hr=>⟨Z,.inl ⟨r,z,Z,hr⟩⟩) λi2 j2 o2 a3 b3 m' e1 e2 e3 e4 e5=>⟨⟨Z,.inr ⟨_,_,_,_,_,Z,m',e1,e2,e3,e4,J⟩⟩,⟨Z,_,_,_,_,_,Z,m',e1,e2,e3,e4,J⟩⟩
 .rintro c Xi ⟨rfl,ja,jb,out,ac,bc,rfl,m,Rz,Rw,RW,Rv,hr⟩;exists Z,.inr ⟨_,_,_,_,_,Z,m,Rz,Rw,RW,Rv,J⟩
 rintro c Xi ⟨rfl,VD⟩;rcases VD with ⟨r,z,rfl,hr⟩|⟨ja,jb,out,ac,bc,rfl,m,Rz,Rw,RW,Rv,hr⟩
 .show YL (hd r _ _ hr ks)
 show YA (wpS_lift<|PY ⟨Z,?_⟩);show YA (RL (SH
  (I:=λy c WL=>SK st WL/\∃PJ PH out g ac bc,c=(none,PJ,PH,out,g,ac,bc)/\MH O key a.toList b.toList out PJ PH/\1<=PJ/\PJ<=a.size/\2<=PH/\PH<=b.size/\PJ+PH<=ja+jb)
  (Q:=λc WL=>SK st WL/\((∃r z,c=(some r,z)/\Vq O key a.toList b.toList r)\/∃PJ PH out g ac bc,c=(none,PJ,PH,out,g,ac,bc)/\MH O key a.toList b.toList out PJ PH/\1<=PJ/\PJ<=a.size/\2<=PH/\PH<=b.size/\PJ+PH<=ja+jb)) ?_ (λc WL z=>⟨z.1,.inr z.2⟩) ⟨ks,_,_,_,_,_,_,Z,m,Rz,Rw,RW,Rv,XN _⟩) ?_)
 .rintro y c WL _ hy ⟨k1,PJ,PH,out,g',ac',bc',rfl,m,BG,JQ,BF,JP,Oq⟩;unfold Ho;cases hg:g'>1
  .show Zt hg (bX L (k1.1.trans hk) Vp Vo sa sb h1 BG JQ BF JP m (λr z hr=>⟨k1,.inl ⟨r,z,Z,hr⟩⟩) λi2 j2 o2 g3 a3 b3 m3 e1 e2 e3 e4 e5=>⟨⟨k1,.inr ⟨i2,j2,o2,g3,a3,b3,Z,m3,e1,e2,e3,e4,Yr e5 Oq⟩⟩,⟨k1,i2,j2,o2,g3,a3,b3,Z,m3,e1,e2,e3,e4,Yr e5 Oq⟩⟩)
  .show ZO hg (bX L (k1.1.trans hk) Vp Vo sa sb h1 BG JQ BF JP m (λr z hr=>⟨k1,.inl ⟨r,z,Z,hr⟩⟩) λi2 j2 o2 g3 a3 b3 m3 e1 e2 e3 e4 e5=>⟨⟨k1,.inr ⟨i2,j2,o2,g3,a3,b3,Z,m3,e1,e2,e3,e4,Yr e5 Oq⟩⟩,⟨k1,i2,j2,o2,g3,a3,b3,Z,m3,e1,e2,e3,e4,Yr e5 Oq⟩⟩)
 .rintro c WL ⟨k1,VD⟩;rcases VD with ⟨r,z,rfl,UY⟩|⟨na3,nb3,Ht,g3,ac3,bc3,rfl,m3,e1,e2,e3,e4,UY⟩
  .show YL (hd r _ _ UY k1)
  .show YA (vU<|YL<|hn na3 nb3 Ht (g3+1) _ m3 e1 e2 e3 e4 J k1)
def nJ(L:WA M A E s O key kd S){Q:Array Keyed->SortSt->Prop}(hk:kindOf st=kd)(Vp:∀x∈a.toList,S x)(Vo:∀x∈b.toList,S x)(sa:a.toList.Pairwise (RK O key))(sb:b.toList.Pairwise (RK O key))(ha:1<=a.size)(hb:1<=b.size)
  (h1:∀x∈b.toList.take 1,∀y∈a.toList,RK O key x y)(h2:∀x∈b.toList,∀y∈a.toList.drop (a.size-1),RK O key x y)
  (h:∀r g,Vq O key a.toList b.toList r->Q r (SortSt.mk' (kindOf st) (arrOf st) (pendingOf st) g<|failedOf st)):wpS M A E s (cn a b) Q st:=by
 let bump:∀XR,SK st XR->∀r,Vq O key a.toList b.toList r->Q r XR:=λXR ⟨e1,e2,e3,e4⟩ r hr=>by
  have:=h r (gallopOf XR) hr
  rwa[<-e1,<-e2,<-e3,<-e4]at this
 let k0:SK st st:=⟨Z,Z,Z,Z⟩;let hl:a.size-1<a.size:=DW
 let e0:a[a.size-1]?=some a[a.size-1]:=SS a _ hl;let ta:a.toList.take a.size=a.toList:=YJ B
 let tb:b.toList.take b.size=b.toList:=YJ B;let m0:MH O key a.toList b.toList #[] a.size b.size:=⟨List.Pairwise.nil,λ_ _ _ h=>(by cases h),λ_ _ _ h=>(by cases h),by rw[ta,tb];simp⟩
 let m1:MH O key a.toList b.toList #[a[a.size-1]] (a.size-1) b.size:=m0.a sa J (by rwa[ta,tb]) (by rw[TU sV e0];rfl);rw[nL];unfold Ol;show YA (wpS_lift<|PY ⟨Z,?_⟩);show YA (Zs e0 ?_);cases c1:a.size-1=0
 .show Zt (by simpa using c1) (YL<|bump st k0 _<|m1.ab sa sb<|by rw[c1];intro _ h;cases h)
 show ZO (by simpa using c1) ?_;cases c2:b.size=1
 .show Zt (by simpa using c2) (YL<|bump st k0 _<|m1.ba sa sb λx hx y hy=>h1 x (by rwa[c2]at hx) y<|Vw hy)
 show ZO (by simpa using c2) (YA<|QF ?_);show YA (RL (SH
  (I:=λx c XR=>SK st XR/\∃na nb out g,c=(none,na,nb,out,g)/\MH O key a.toList b.toList out na nb/\1<=na/\na<=a.size/\2<=nb/\nb<=b.size/\na+nb+x<=a.size+b.size)
  (Q:=λc XR=>SK st XR/\∃r,c.1=some r/\Vq O key a.toList b.toList r) ?_ ?_ ⟨k0,_,_,_,_,Z,m1,J,DW,J,XN _,J⟩) ?_)
 .rintro x c XR _ hx ⟨k1,na,nb,out,g,rfl,m,e1,e2,e3,e4,Hs⟩;show Zs6 L hk Vp Vo sa sb h1 e1 e2 e3 e4 m k1 (λr z Xi hr k2=>⟨k2,r,Z,hr⟩) λi2 j2 o2 g3 Xi m' f1 f2 f3 f4 f5 k2=>⟨k2,_,_,_,_,Z,m',f1,f2,f3,f4,J⟩
 .rintro c XR ⟨k1,na,nb,out,g,rfl,m,e1,e2,e3,e4,Hs⟩;lia
 .rintro⟨c1,c2⟩ XR ⟨k1,r,hc,hr⟩;cases hc;show YL (bump XR k1 r hr)
end
end
section
variable{M:Model}{A:Around}{E:Ae}{s:Shared}{O:KeyOrd}{key:Keyed->O.α}{kd:SortKind}{S:Keyed->Prop}
def nI{σ:Type}{st x:σ}{Q:PUnit->σ->Prop}(h:Q ⟨⟩ x):wpS M A E s (set x:StateT σ Sem PUnit) Q st:=by unfold wpS;rw[StateT.run_set];show Yj ⟨Z,h⟩
def bW:∀(r:List Keyed)(o k:Nat)(arr:Array Keyed),o+k+r.length<=arr.size->
  ((r.zipIdx k).foldl (λa x=>match x with|(p,j)=>a.setIfInBounds (o+j) p) arr).toList=arr.toList.take (o+k)++r++arr.toList.drop (o+k+r.length)
 |[],o,k,arr,h=>B
 |p::r,o,k,arr,h=>by
  rw[YF]at h;let ih:=bW r o (k+1) (arr.setIfInBounds (o+k) p) (by rw[Array.size_setIfInBounds];lia)
  rw[List.zipIdx_cons,Ep];show ih.trans ?_;rw[eZ,YF];let hl:o+k<arr.toList.length:=by simp;lia
  rw[List.drop_set_of_lt J,show o+(k+1)=o+k+1 by lia,List.take_set,List.take_succ_eq_append_getElem hl,d8 _ _ (by rw[Yl];grind)];simp[show o+k+1+r.length=o+k+(r.length+1) by lia,FP (by simpa using Nm hl:o+k<=arr.size)]
def nH(L:WA M A E s O key kd S){st:SortSt}{i sa na sb nb pw BE:Nat}{P X Y T:List Keyed}{PA PB:List (Nat×Nat×Nat)}{Q:Bool->SortSt->Prop}(hk:kindOf st=kd)(hf:failedOf st=none)(ea:(arrOf st).toList=P++X++Y++T)(hS:∀x∈(arrOf st).toList,S x)
  (ep:(pendingOf st).toList=PA++(sa,na,pw)::(sb,nb,BE)::PB)(hi:PA.length=i)(h1:P.length=sa)(h2:X.length=na)(h3:sb=sa+na)(h4:Y.length=nb)(h5:1<=na)(h6:1<=nb)(sX:X.Pairwise (RK O key))(sY:Y.Pairwise (RK O key))
  (h:∀sO XR,sO.Pairwise (RK O key)->sO.Perm (X++Y)->(arrOf XR).toList=P++sO++T->(pendingOf XR).toList=PA++(sa,na+nb,pw)::PB->kindOf XR=kd->failedOf XR=none->Q true XR):wpS M A E s (mergeAt' i) Q st:=by
 let hsz:(arrOf st).size=P.length+X.length+Y.length+T.length:=by rw[<-Yu,ea];simp;lia
 let BD:∀j,j<na->∃p,(arrOf st)[sa+j]?=some p/\X[j]?=some p/\S p:=λj hj=>by let e:X[j]?=some X[j]:=Xs DW;show⟨X[j],?_,e,hS _<|by rw[ea];simp⟩;rw[<-YI,ea,Yw,Yw,Yk J,Yn sV,show sa+j-P.length=j by lia,e]
 let BC:∀j,j<nb->∃p,(arrOf st)[sb+j]?=some p/\Y[j]?=some p/\S p:=λj hj=>by let e:Y[j]?=some Y[j]:=Xs DW;show⟨Y[j],?_,e,hS _<|by rw[ea];simp⟩;rw[<-YI,ea,Yw,Yk (by simp;lia),Yn (by simp;lia),show sb+j-(P++X).length=j by simp;lia,e]
 let Ls:∀{l:List Keyed}(_:l.Pairwise (RK O key)){i j:Nat}{p q:Keyed},i<=j->l[i]?=some p->l[j]?=some q->RK O key p q:=λ{l} sl {i j p q} WM ei ej=>by
  let⟨h1,rfl⟩:=Xy.mp ei;let⟨h2,rfl⟩:=Xy.mp ej;cases e:i=j
  .subst e;show Qa _
  .show UT.mp sl i j h1 h2 J
 let bV:∀{j p},X[j]?=some p->j<na->ke key (arrOf st) (sa+j)=key p:=λ{j p} e hj=>by let⟨q,e1,e2,_⟩:=BD j hj;rw[e]at e2;cases e2;show UE e1
 let bU:∀{j p},Y[j]?=some p->j<nb->ke key (arrOf st) (sb+j)=key p:=λ{j p} e hj=>by let⟨q,e1,e2,_⟩:=BC j hj;rw[e]at e2;cases e2;show UE e1
 let pe:((((pendingOf st).setIfInBounds i (sa,na+nb,pw)).eraseIdxIfInBounds (i+1)).toList)=PA++(sa,na+nb,pw)::PB:=by
  let e1:((pendingOf st).setIfInBounds i (sa,na+nb,pw)).toList=PA++(sa,na+nb,pw)::(sb,nb,BE)::PB:=by rw[eZ,ep,d8 _ _ J,hi,Nn];rfl
  unfold Array.eraseIdxIfInBounds;let Xm:i+1<((pendingOf st).setIfInBounds i (sa,na+nb,pw)).size:=by rw[<-Yu,e1];simp;lia
  rw[dif_pos Xm,Array.toList_eraseIdx,e1,List.eraseIdx_append_of_length_le J,show i+1-PA.length=1 by grind];rfl
 let gi:(pendingOf st)[i]?=some (sa,na,pw):=by rw[<-YI,ep,Yk DW,show i-PA.length=0 by grind];rfl
 let gi1:(pendingOf st)[i+1]?=some (sb,nb,BE):=by rw[<-YI,ep,Yk J,show i+1-PA.length=1 by grind];rfl
 let⟨p0,q1,q2,q3⟩:=BC 0 h6;let fY:∀y∈Y,RK O key p0 y:=λy hy=>by let⟨j,ej⟩:=YC hy;show Ls sY (Ym j) q2 ej
 unfold mergeAt';show YA (QF ?_);rw[gi,gi1];dsimp only;show YA (nI ?_);show YA (Zs q1 ?_);show YA (Fl L hk q3 (λj hj=>by let⟨p,a,_,b⟩:=BD j hj;exists p,a,b) J (λj l Uv hl=>?_) λk Fj hl hr=>?_)
 .let⟨p,e1,e2,_⟩:=BD j J;let⟨q,e3,e4,_⟩:=BD l hl;rw[UE e1,UE e3];show Ls sX Uv e2 e4
 dsimp only;let BB:∀x∈X.take k,RK O key x p0:=λx hx=>by
  let⟨j,ej⟩:=YC hx;let hj:=(Xy.mp ej).1
  rw[Yl]at hj;rw[VW,if_pos J]at ej
  have:=hl j DW
  unfold beyB at this;rw[bV ej sV]at this;simp only[Rn,Sd,Pm]at this;show this
 let BA:∀x∈X.drop k,RK O key p0 x:=λx hx=>by
  let⟨j,ej⟩:=YC hx;let hj:=(Xy.mp ej).1
  rw[YW]at hj;rw[MF]at ej
  have:=hr (k+j) J sV
  unfold beyB at this;rw[bV ej DW]at this;simp only[Rn,Sd,t6]at this;show Qc this
 cases c1:na-k=0
 .rw[if_pos (by simpa using c1)];show YL (h (X++Y) _ ?_ (IJ _) (by change(arrOf st).toList=_;rw[ea];simp) pe hk hf);rw[YH];exists sX,sY,λx hx y hy=>Wk (BB x<|by rwa[YJ sV])<|fY y hy
 rw[if_neg (by simpa using c1)];let⟨pz,z1,z2,z3⟩:=BD (na-1) sV;rw[show sa+(na-1)=sa+k+(na-k)-1 by lia]at z1;show YA (Zs z1 ?_);show YA (Fl L hk z3 (λj hj=>by let⟨p,a,_,b⟩:=BC j hj;exists p,a,b) sV (λj l Uv hl=>?_) λkb hkb Vj UZ=>?_)
 .let⟨p,e1,e2,_⟩:=BC j J;let⟨q,e3,e4,_⟩:=BC l hl;rw[UE e1,UE e3];show Ls sY Uv e2 e4
 dsimp only;let Oj:∀x∈X,RK O key x pz:=λx hx=>by
  let⟨j,ej⟩:=YC hx;let hj:=(Xy.mp ej).1
  show Ls sX sV ej z2
 let nG:∀y∈Y.take kb,RK O key y pz:=λy hy=>by
  let⟨j,ej⟩:=YC hy;let hj:=(Xy.mp ej).1
  rw[Yl]at hj;rw[VW,if_pos J]at ej
  have:=Vj j DW
  unfold beyB at this;rw[bU ej sV]at this;show Qc this
 let Oi:∀y∈Y.drop kb,RK O key pz y:=λy hy=>by
  let⟨j,ej⟩:=YC hy;let hj:=(Xy.mp ej).1
  rw[YW]at hj;rw[MF]at ej
  have:=UZ (kb+j) J sV
  unfold beyB at this;rwa[bU ej DW]at this
 cases c2:kb=0
 .rw[if_pos (by simpa using c2)];show YL (h (X++Y) _ ?_ (IJ _) (by change(arrOf st).toList=_;rw[ea];simp) pe hk hf);rw[YH];exists sX,sY,λx hx y hy=>Wk (Oj x hx)<|Oi y<|by rwa[c2,Ku]
 rw[if_neg (by simpa using c2)];let eX:((arrOf st).extract (sa+k) sb).toList=X.drop k:=by rw[FW,Gb,ea,Yw,Yw,xE,YO J,Pq,EE J,Gd (by rw[YW];grind),show sa+k-P.length=k by grind];show YJ (by rw[YW];omega)
 let eY:((arrOf st).extract sb (sb+kb)).toList=Y.take kb:=by rw[FW,Gb,ea,Yw,xE,YO (by simp;omega),Pq,show sb-(P++X).length=0 by simp;omega,Ku,Gd DW,uo]
 let zX:((arrOf st).extract (sa+k) sb).size=na-k:=by rw[<-Yu,eX,YW];omega
 let zY:((arrOf st).extract sb (sb+kb)).size=kb:=by rw[<-Yu,eY,Yl];omega
 let pX:=MJ k X;let pY:=MJ kb Y
 let sX2:(X.drop k).Pairwise (RK O key):=sX.sublist (Pn _ _);let sY1:(Y.take kb).Pairwise (RK O key):=sY.sublist (ME _ _)
 let cX:∀x∈X.take k,∀y∈X.drop k,RK O key x y:=by
  have:=sX
  rw[<-pX,YH]at this;show this.2.2
 let cY:∀x∈Y.take kb,∀y∈Y.drop kb,RK O key x y:=by
  have:=sY
  rw[<-pY,YH]at this;show this.2.2
 let bT:∀x∈((arrOf st).extract sb (sb+kb)).toList.take 1,∀y∈((arrOf st).extract (sa+k) sb).toList,RK O key x y:=λx hx y hy=>by
  rw[eY,IM,show min 1 kb=1 by omega]at hx;rw[eX]at hy
  have:x=p0:=by
   obtain⟨y0,l,e⟩:∃y0 l,Y=y0::l:=by
    cases hY:Y with
    |nil=>rw[hY]at h4;simp at h4;omega
    |cons y0 l=>exists y0,l,Z
   rw[e]at hx q2;simp at hx q2;rw[hx,q2]
  rw[this];show BA y hy
 let hd2:∀x∈((arrOf st).extract sb (sb+kb)).toList,∀y∈((arrOf st).extract (sa+k) sb).toList.drop (((arrOf st).extract (sa+k) sb).size-1),RK O key x y:=λx hx y hy=>by
  rw[eY]at hx;rw[eX,zX,En,show k+(na-k-1)=na-1 by omega]at hy
  have:y=pz:=by let⟨Xm,ez⟩:=Xy.mp z2;rw[Jh Xm,ez,YO DW]at hy;show XG.mp hy
  rw[this];show nG x hx
 let fin:∀(r:Array Keyed)(g:Nat)(ar:Array Keyed),ar=arrOf st->Vq O key ((arrOf st).extract (sa+k) sb).toList ((arrOf st).extract sb (sb+kb)).toList r->
   Q true (SortSt.mk' (kindOf st) (List.foldl (λa x=>match x with|(p,j)=>a.setIfInBounds (sa+k+j) p) ar r.toList.zipIdx) (((pendingOf st).setIfInBounds i (sa,na+nb,pw)).eraseIdxIfInBounds (i+1)) g<|failedOf st):=by
  rintro r g _ rfl ⟨gs,gp⟩;rw[eX,eY]at gp;let rl:r.toList.length=na-k+kb:=by rw[gp.length_eq,Xw,YW,Yl];omega
  show h (X.take k++r.toList++Y.drop kb) _ ?_ ?_ ?_ pe hk hf
  .rw[YH,YH];exists ⟨sX.sublist<|ME _ _,gs,λx hx y hy=>?_⟩,sY.sublist<|Pn _ _,λx hx y hy=>?_
   .rcases XA.mp (gp.mem_iff.mp hy) with hy|hy
    .show cX x hx y hy
    .show Wk (BB x hx) (fY y<|Vw hy)
   .rcases XA.mp hx with hx|hx
    .show Wk (Oj x<|Vw hx) (Oi y hy)
    .rcases XA.mp (gp.mem_iff.mp hx) with hx|hx
     .show Wk (Oj x<|MG hx) (Oi y hy)
     .show cY x hx y hy
  .let p1:(X.take k++r.toList++Y.drop kb).Perm (X.take k++(X.drop k++Y.take kb)++Y.drop kb):=EC _ (Nu _ gp);show p1.trans (List.Perm.of_eq ?_);rw[<-Yw,pX,Yw,pY]
  .let e:=bW r.toList (sa+k) 0 (arrOf st) (by rw[rl];omega);show e.trans ?_;rw[Nat.add_zero,rl,ea];let t1:(P++X++Y++T).take (sa+k)=P++X.take k:=by rw[Yw,Yw,List.take_append,YJ DW,Gd DW,show sa+k-P.length=k by omega]
   let t2:(P++X++Y++T).drop (sa+k+(na-k+kb))=Y.drop kb++T:=by rw[Yw,xE,YO (by simp;omega),Pq,show sa+k+(na-k+kb)-(P++X).length=kb by simp;omega,EE DW]
   rw[t1,t2];simp
 let bS:∀x∈((arrOf st).extract (sa+k) sb).toList,S x:=λx hx=>hS x (by rw[eX]at hx;rw[ea];simp[MG hx]);let bR:∀x∈((arrOf st).extract sb (sb+kb)).toList,S x:=λx hx=>hS x (by rw[eY]at hx;rw[ea];simp[Vw hx])
 let sx:((arrOf st).extract (sa+k) sb).toList.Pairwise (RK O key):=by rwa[eX]
 let sy:((arrOf st).extract sb (sb+kb)).toList.Pairwise (RK O key):=by rwa[eY]
 split
 .show YA (nQ L hk bS bR sx sy (by rw[zX];omega) (by rw[zY];omega) bT hd2 λr g hg=>?_);show YA (Pk<|YA<|QF<|YL ?_);change Q (failedOf st).isNone _
  rw[hf]
  have:=fin r g _ Z hg
  rwa[hf]at this
 .show YA (nJ L hk bS bR sx sy (by rw[zX];omega) (by rw[zY];omega) bT hd2 λr g hg=>?_);show YA (Pk<|YA<|QF<|YL ?_);change Q (failedOf st).isNone _
  rw[hf]
  have:=fin r g _ Z hg
  rwa[hf]at this
def Stp(lo:Nat)(st XR:SortSt):(Prop):=kindOf XR=kindOf st/\failedOf XR=failedOf st/\pendingOf XR=pendingOf st/\(arrOf XR).Perm (arrOf st)/\∀i,i<lo->(arrOf XR)[i]?=(arrOf st)[i]?
def Stp.refl(lo:Nat)(st:SortSt):Stp lo st st:=⟨Z,Z,Z,Eo _,λ_ _=>rfl⟩
def Stp.trans{lo:Nat}{a b c:SortSt}(h:Stp lo a b)(k:Stp lo b c):Stp lo a c:=⟨k.1.trans h.1,k.2.1.trans h.2.1,k.2.2.1.trans h.2.2.1,k.2.2.2.1.trans h.2.2.2.1,λi hi=>(k.2.2.2.2 i hi).trans (h.2.2.2.2 i hi)⟩
def Stp.size{lo:Nat}{a b:SortSt}(h:Stp lo a b):(arrOf b).size=(arrOf a).size:=h.2.2.2.1.size_eq
def Stp.all{lo:Nat}{a b:SortSt}(h:Stp lo a b)(hS:∀x∈(arrOf a).toList,S x):∀x∈(arrOf b).toList,S x:=λx hx=>hS x ((Up.mp h.2.2.2.1).mem_iff.mp hx)
def Stp.mirror{lo i j:Nat}{st:SortSt}(hi:lo<=i)(hj:j<=(arrOf st).size):Stp lo st (setArr st (PyProof.Rows.mirror (arrOf st) i j ((j-i)/2))):=
 ⟨Z,Z,Z,mirror_perm _ _ _ _,λk hk=>by change(PyProof.Rows.mirror (arrOf st) i j<|(j-i)/2)[k]?=_;rw[tu hj,if_neg J]⟩
def Stp.bubble{lo src d:Nat}{st:SortSt}(hs:src<(arrOf st).size)(hd:d<=src)(Kk:lo<=src-d):Stp lo st (setArr st (PyProof.Rows.bubble (arrOf st) src d)):=
 ⟨Z,Z,Z,bubble_perm _ _ _,λk hk=>by change(PyProof.Rows.bubble (arrOf st) src d)[k]?=_;rw[getElem?_bubble hs d hd,if_neg J,if_neg J]⟩
def Bz(h:xs[i]?=ys[j]?):ke key xs i=ke key ys j:=by unfold ke;rw[Yz,Yz,h]
def SY(hj:j<=xs.size)(k:Nat):ke key (mirror xs i j ((j-i)/2)) k=if i<=k/\k<j then ke key xs (i+j-1-k) else ke key xs k:=by
 let e:=tu (i:=i) hj k;split
 .rename_i h;rw[if_pos h]at e;show Bz e
 .rename_i h;rw[if_neg h]at e;show Bz e
def bQ(hs:src<xs.size)(hd:d<=src)(k:Nat):ke key (bubble xs src d) k=if k=src-d then ke key xs src else if src-d<k/\k<=src then ke key xs (k-1) else ke key xs k:=by
 let e:=getElem?_bubble hs d hd k;split
 .rename_i h;rw[if_pos h]at e;show Bz e
 .rename_i h;rw[if_neg h]at e;split
  .rename_i h;rw[if_pos h]at e;show Bz e
  .rename_i h;rw[if_neg h]at e;show Bz e
def By(L:WA M A E s O key kd S){st:SortSt}{Q:Option Bool->SortSt->Prop}(hk:kindOf st=kd)(hS:∀x∈(arrOf st).toList,S x)(hi:i<(arrOf st).size)(hj:j<(arrOf st).size)
  (h:Q (some<|O.blt (ke key (arrOf st) i)<|ke key (arrOf st) j) st):wpS M A E s (ltAt' i j) Q st:=by
 let e1:=SS (arrOf st) i hi;let e2:=SS (arrOf st) j hj
 rw[UE e1,UE e2]at h;rw[ltAt'_eq];show YA (QF ?_);show YA (Zs e1<|YA<|Zs e2 ?_);show L _ _ _ _ (hS _ B) (hS _ B) hk h
def JO{st:SortSt}{Q:Unit->SortSt->Prop}(h:Q () (setArr st (mirror (arrOf st) i j ((j-i)/2)))):wpS M A E s (reverseSlice' i j) Q st:=by rw[reverseSlice'_eq];show Pk h
def UD(O:KeyOrd)(key:Keyed->O.α)(arr:Array Keyed)(lo k:Nat):(Prop):=∀i j,i<=j->j<k->O.kle (ke key arr<|lo+i) (ke key arr<|lo+j)
def Ve(O:KeyOrd)(key:Keyed->O.α)(arr:Array Keyed)(lo k:Nat):(Prop):=∀i j,i<=j->j<k->O.kle (ke key arr<|lo+j) (ke key arr<|lo+i)
def Bx(lo a WQ:Nat):(StateT SortSt Sem (Option (Option Nat)×Nat)):=forIn [a:WQ] ((none,a):Option (Option Nat)×Nat) λ_ r=>do
 let x <-ltAt' (lo+r.2) (lo+r.2-1)
 match x with
 |some b=>if b=true then pure (.done (none,r.2)) else pure (.yield (none,r.2+1))
 |_=>pure (.done (some none,r.2))
def Bw(L:WA M A E s O key kd S){st:SortSt}{lo a WQ:Nat}{Q:Option (Option Nat)×Nat->SortSt->Prop}(hk:kindOf st=kd)(hS:∀x∈(arrOf st).toList,S x)(hn:lo+WQ<=(arrOf st).size)(ha:1<=a)(han:a<=WQ)(hs:UD O key (arrOf st) lo a)
  (h:∀n,a<=n->n<=WQ->UD O key (arrOf st) lo n->(n=WQ\/O.klt (ke key (arrOf st)<|lo+n) (ke key (arrOf st)<|lo+n-1))->Q (none,n) st):wpS M A E s (Bx lo a WQ) Q st:=by
 unfold Bx;show SH (I:=λx c XR=>XR=st/\c=(none,x)/\UD O key (arrOf st) lo x) ?_ ?_ ⟨Z,Z,hs⟩
 .rintro x c XR nF hxn ⟨rfl,rfl,We⟩;show YA (By L hk hS J J ?_);dsimp only;cases e:O.blt (ke key (arrOf XR)<|lo+x) (ke key (arrOf XR)<|lo+x-1) with
  |true=>
   rw[if_pos Z];show YL (h x nF J We<|.inr e)
  |false=>
   rw[if_neg B];show YL ⟨Z,Z,λi j WM hj=>?_⟩;cases Bv:j<x
   .show We i j WM Bv
   .let RB:j=x:=J;subst RB;cases UI:i=j
    .subst UI;show Qa _
    .have:=We i (j-1) J J
     rw[show lo+(j-1)=lo+j-1 by lia]at this;show Wk this e
 .rintro c XR ⟨rfl,rfl,We⟩;rw[show max a WQ=WQ by lia]at We ⊢;show h WQ han (XN _) We (.inl Z)
def Bu(lo n WQ:Nat):(StateT SortSt Sem (Option (Option Nat)×Nat×Nat)):=forIn [n:WQ] ((none,n,0):Option (Option Nat)×Nat×Nat) λ_ r=>do
 let x <-ltAt' (lo+r.2.1) (lo+r.2.1-1)
 match x with
 |some b=>
  if b=true then
   if r.2.2>0 then do
    reverseSlice' (lo+r.2.1-(r.2.2+1)) (lo+r.2.1)
    pure (.yield (none,r.2.1+1,0))
   else pure (.yield (none,r.2.1+1,0))
  else do
   let y <-ltAt' (lo+r.2.1-1) (lo+r.2.1)
   match y with
   |some c=>if c=true then pure (.done (none,r.2.1,r.2.2)) else pure (.yield (none,r.2.1+1,r.2.2+1))
   |_=>pure (.done (some none,r.2.1,r.2.2))
 |_=>pure (.done (some none,r.2.1,r.2.2))
def Zy(hj:j<=xs.size)(he:∀k,i<=k->k<j->ke key xs k=ke key xs (j-1))(k:Nat):ke key (mirror xs i j ((j-i)/2)) k=ke key xs k:=by
 rw[SY hj];split
 .rw[he _ DW DW,he k J J]
 .rfl
def bP(L:WA M A E s O key kd S){st:SortSt}{lo n WQ:Nat}{Q:Option (Option Nat)×Nat×Nat->SortSt->Prop}(hk:kindOf st=kd)(hS:∀x∈(arrOf st).toList,S x)(hn:lo+WQ<=(arrOf st).size)(h1:1<=n)(hnn:n<=WQ)(hs:Ve O key (arrOf st) lo n)
  (h:∀m VC XR,Stp lo st XR->n<=m->m<=WQ->Ve O key (arrOf XR) lo m->VC+1<=m->(∀i,lo+m-(VC+1)<=i->i<lo+m->ke key (arrOf XR) i=ke key (arrOf XR) (lo+m-1))->Q (none,m,VC) XR):wpS M A E s (Bu lo n WQ) Q st:=by
 unfold Bu;show SH (I:=λx c XR=>∃VC,c=(none,x,VC)/\Stp lo st XR/\Ve O key (arrOf XR) lo x/\VC+1<=x/\(∀i,lo+x-(VC+1)<=i->i<lo+x->ke key (arrOf XR) i=ke key (arrOf XR) (lo+x-1))) ?_ ?_ ⟨0,Z,Stp.refl _ _,hs,J,λi h1 h2=>by congr 1;lia⟩
 .rintro x c XR nF hxn ⟨VC,rfl,WV,We,hq,he⟩;let Uu:=WV.1.trans hk
  let Uj:=WV.all hS;let hz:=WV.size
  dsimp only;show YA (By L Uu Uj J J ?_);dsimp only;cases e:O.blt (ke key (arrOf XR)<|lo+x) (ke key (arrOf XR)<|lo+x-1) with
  |true=>
   rw[if_pos Z];let non:∀ar,(∀k,k<=lo+x->ke key ar k=ke key (arrOf XR) k)->Ve O key ar lo (x+1):=λar bO i j WM hj=>by
    rw[bO _ J,bO _ J];cases Bv:j<x
    .show We i j WM Bv
    .let RB:j=x:=J;subst RB;cases UI:i=j
     .subst UI;show Qa _
     .have:=We i (j-1) J J
      rw[show lo+(j-1)=lo+j-1 by lia]at this;show Wk (Qc e) this
   cases c:VC>0
   .rw[if_pos c];show YA (JO<|YL ⟨0,Z,WV.trans<|Stp.mirror J J,?_,J,λi h1 h2=>by congr 1;lia⟩);show non _ λk hk=>Zy J he k
   .rw[if_neg c];show YL ⟨0,Z,WV,non _ λ_ _=>rfl,DW,λi h1 h2=>by congr 1;omega⟩
  |false=>
   rw[if_neg B];show YA (By L Uu Uj DW DW ?_);dsimp only;cases e2:O.blt (ke key (arrOf XR)<|lo+x-1) (ke key (arrOf XR)<|lo+x) with
   |true=>
    rw[if_pos Z];show YL (h x VC XR WV nF J We hq he)
   |false=>
    rw[if_neg B];let eq:ke key (arrOf XR) (lo+x-1)=ke key (arrOf XR) (lo+x):=O.total _ _ e2 e
    show YL ⟨VC+1,Z,WV,λi j WM hj=>?_,J,λi h1 h2=>?_⟩
    .cases Bv:j<x
     .show We i j WM Bv
     .let RB:j=x:=DW;subst RB;cases UI:i=j
      .subst UI;show Qa _
      .have:=We i (j-1) DW DW
       rwa[show lo+(j-1)=lo+j-1 by omega,eq]at this
    .rw[show lo+(x+1)-1=lo+x by lia,<-eq];cases hi:i<lo+x
     .show he i J hi
     .rw[show i=lo+x by lia,eq]
 .rintro c XR ⟨VC,rfl,WV,We,hq,he⟩;rw[show max n WQ=WQ by lia]at *;show h WQ VC XR WV hnn (XN _) We hq he
def Zt6(L:WA M A E s O key kd S){st:SortSt}{lo WQ:Nat}{Q:Option Nat->SortSt->Prop}(hk:kindOf st=kd)(hS:∀x∈(arrOf st).toList,S x)(hn:lo+WQ<=(arrOf st).size)(h1:1<=WQ)
  (h:∀m XR,Stp lo st XR->1<=m->m<=WQ->UD O key (arrOf XR) lo m->Q (some m) XR):wpS M A E s (countRun' lo WQ) Q st:=by
 rw[countRun'_eq];let one:UD O key (arrOf st) lo 1:=λi j WM hj=>by
  have:i=j:=J
  subst this;show Qa _
 show YA (Bw L hk hS hn (XN _) h1 one λn Fh OX hs hx=>?_);dsimp only;cases c1:n=WQ
 .rw[if_pos (by simpa using c1)];show YL (h n st (Stp.refl _ _) Fh OX hs)
 rw[if_neg (by simpa using c1)];let Xm:O.klt (ke key (arrOf st)<|lo+n) (ke key (arrOf st)<|lo+n-1):=hx.resolve_left c1
 cases c2:n>1
 .rw[if_pos c2];show YA (By L hk hS J J ?_);dsimp only;cases e:O.blt (ke key (arrOf st) lo) (ke key (arrOf st)<|lo+n-1) with
  |true=>
   rw[if_pos Z];show YL (h n st (Stp.refl _ _) Fh OX hs)
  |false=>
   rw[if_neg B];show YA (JO ?_);let t1:Stp lo st (setArr st<|mirror (arrOf st) lo (lo+n)<|(lo+n-lo)/2):=Stp.mirror (XN _) J
   let eqs:∀k,lo<=k->k<lo+n->ke key (arrOf st) k=ke key (arrOf st) (lo+n-1):=λk k1 k2=>by
    let a1:=hs (k-lo) (n-1) sV J;let a2:=hs 0 (k-lo) J sV
    rw[show lo+(k-lo)=k by grind,show lo+(n-1)=lo+n-1 by lia]at a1;rw[show lo+(k-lo)=k by omega,Nat.add_zero]at a2;show KeyOrd.kle_antisymm a1 (Wk e a2)
   let Ru:Ve O key (mirror (arrOf st) lo (lo+n)<|(lo+n-lo)/2) lo (n+1):=λi j WM hj=>by
    rw[Zy J eqs,Zy DW eqs];cases hjn:j<n
    .rw[eqs (lo+i) J J,eqs (lo+j) J J];show Qa _
    .let RB:j=n:=J;subst RB;cases UI:i=j
     .subst UI;show Qa _
     .rw[eqs (lo+i) J J];show Qc Xm
   obtain⟨RZ,e1⟩:∃RZ,RZ=setArr st (mirror (arrOf st) lo (lo+n)<|(lo+n-lo)/2):=⟨_,Z⟩;let Ru:Ve O key (arrOf RZ) lo (n+1):=by rwa[e1]
   rw[<-e1]at t1 ⊢;show YA (wpS_lift<|PY ⟨Z,?_⟩);show YA (bP L (t1.1.trans hk) (t1.all hS) (by have:=t1.size;lia) J J Ru λm VC Xi nE TR Wi Oh nB heq=>?_);dsimp only;let t2:=t1.trans nE
   cases c3:VC>0
   .rw[if_pos c3];show YA (JO ?_);let t3:Stp lo st (setArr Xi<|mirror (arrOf Xi) (lo+m-(VC+1)) (lo+m)<|(lo+m-(lo+m-(VC+1)))/2):=t2.trans (Stp.mirror J (by have:=t2.size;lia))
    let Vn:Ve O key (mirror (arrOf Xi) (lo+m-(VC+1)) (lo+m)<|(lo+m-(lo+m-(VC+1)))/2) lo m:=λi j WM hj=>by rw[Zy (by have:=t2.size;lia) heq,Zy (by have:=t2.size;omega) heq];show Oh i j WM hj
    obtain⟨WL,e3⟩:∃WL,WL=setArr Xi (mirror (arrOf Xi) (lo+m-(VC+1)) (lo+m)<|(lo+m-(lo+m-(VC+1)))/2):=⟨_,Z⟩;let Vn:Ve O key (arrOf WL) lo m:=by rwa[e3]
    rw[<-e3]at t3 ⊢;show YA (JO ?_);let t4:Stp lo st (setArr WL<|mirror (arrOf WL) lo (lo+m)<|(lo+m-lo)/2):=t3.trans (Stp.mirror (XN _) (by have:=t3.size;lia))
    show YA (Bw L (t4.1.trans hk) (t4.all hS) (by have:=t4.size;lia) J Wi ?_ λq Fg RV Og _=>?_)
    .intro i j WM hj;change O.kle (ke key (mirror (arrOf WL) lo (lo+m)<|(lo+m-lo)/2)<|lo+i) (ke key (mirror (arrOf WL) lo (lo+m)<|(lo+m-lo)/2)<|lo+j)
     rw[SY (by have:=t3.size;lia),SY (by have:=t3.size;omega),if_pos J,if_pos J,show lo+(lo+m)-1-(lo+i)=lo+(m-1-i) by lia,show lo+(lo+m)-1-(lo+j)=lo+(m-1-j) by lia];show Vn _ _ sV sV
    .show YL (h q _ t4 J RV Og)
   .rw[if_neg c3];let t3:=t2
    let Vn:=Oh;obtain⟨WL,e3⟩:∃WL,WL=Xi:=⟨_,Z⟩;rw[<-e3]at t3 Vn ⊢;show YA (JO ?_);let t4:Stp lo st (setArr WL<|mirror (arrOf WL) lo (lo+m)<|(lo+m-lo)/2):=t3.trans (Stp.mirror (XN _) (by have:=t3.size;omega))
    show YA (Bw L (t4.1.trans hk) (t4.all hS) (by have:=t4.size;omega) J Wi ?_ λq Fg RV Og _=>?_)
    .intro i j WM hj;change O.kle (ke key (mirror (arrOf WL) lo (lo+m)<|(lo+m-lo)/2)<|lo+i) (ke key (mirror (arrOf WL) lo (lo+m)<|(lo+m-lo)/2)<|lo+j)
     rw[SY (by have:=t3.size;omega),SY (by have:=t3.size;omega),if_pos DW,if_pos DW,show lo+(lo+m)-1-(lo+i)=lo+(m-1-i) by omega,show lo+(lo+m)-1-(lo+j)=lo+(m-1-j) by omega];show Vn _ _ DW DW
    .show YL (h q _ t4 J RV Og)
 .rw[if_neg c2];let t1:=Stp.refl lo st
  let Ru:Ve O key (arrOf st) lo (n+1):=λi j WM hj=>by
   cases UI:i=j
   .subst UI;show Qa _
   .let h3:i=0:=J;let h4:j=n:=J
    subst h3 h4;rw[show lo+0=lo+j-1 by lia];show Qc Xm
  obtain⟨RZ,e1⟩:∃RZ,RZ=st:=⟨_,Z⟩;let Ru:Ve O key (arrOf RZ) lo (n+1):=by rwa[e1]
  let t1:Stp lo st RZ:=by rwa[e1]
  rw[<-e1];show YA (wpS_lift<|PY ⟨Z,?_⟩);show YA (bP L (t1.1.trans hk) (t1.all hS) (by have:=t1.size;omega) J J Ru λm VC Xi nE TR Wi Oh nB heq=>?_);dsimp only;let t2:=t1.trans nE
  cases c3:VC>0
  .rw[if_pos c3];show YA (JO ?_);let t3:Stp lo st (setArr Xi<|mirror (arrOf Xi) (lo+m-(VC+1)) (lo+m)<|(lo+m-(lo+m-(VC+1)))/2):=t2.trans (Stp.mirror DW (by have:=t2.size;omega))
   let Vn:Ve O key (mirror (arrOf Xi) (lo+m-(VC+1)) (lo+m)<|(lo+m-(lo+m-(VC+1)))/2) lo m:=λi j WM hj=>by rw[Zy (by have:=t2.size;omega) heq,Zy (by have:=t2.size;omega) heq];show Oh i j WM hj
   obtain⟨WL,e3⟩:∃WL,WL=setArr Xi (mirror (arrOf Xi) (lo+m-(VC+1)) (lo+m)<|(lo+m-(lo+m-(VC+1)))/2):=⟨_,Z⟩;let Vn:Ve O key (arrOf WL) lo m:=by rwa[e3]
   rw[<-e3]at t3 ⊢;show YA (JO ?_);let t4:Stp lo st (setArr WL<|mirror (arrOf WL) lo (lo+m)<|(lo+m-lo)/2):=t3.trans (Stp.mirror (XN _) (by have:=t3.size;omega))
   show YA (Bw L (t4.1.trans hk) (t4.all hS) (by have:=t4.size;omega) J Wi ?_ λq Fg RV Og _=>?_)
   .intro i j WM hj;change O.kle (ke key (mirror (arrOf WL) lo (lo+m)<|(lo+m-lo)/2)<|lo+i) (ke key (mirror (arrOf WL) lo (lo+m)<|(lo+m-lo)/2)<|lo+j)
    rw[SY (by have:=t3.size;omega),SY (by have:=t3.size;omega),if_pos DW,if_pos DW,show lo+(lo+m)-1-(lo+i)=lo+(m-1-i) by omega,show lo+(lo+m)-1-(lo+j)=lo+(m-1-j) by omega];show Vn _ _ DW DW
   .show YL (h q _ t4 DW RV Og)
  .rw[if_neg c3];let t3:=t2
   let Vn:=Oh;obtain⟨WL,e3⟩:∃WL,WL=Xi:=⟨_,Z⟩;rw[<-e3]at t3 Vn ⊢;show YA (JO ?_);let t4:Stp lo st (setArr WL<|mirror (arrOf WL) lo (lo+m)<|(lo+m-lo)/2):=t3.trans (Stp.mirror (XN _) (by have:=t3.size;omega))
   show YA (Bw L (t4.1.trans hk) (t4.all hS) (by have:=t4.size;omega) DW Wi ?_ λq Fg RV Og _=>?_)
   .intro i j WM hj;change O.kle (ke key (mirror (arrOf WL) lo (lo+m)<|(lo+m-lo)/2)<|lo+i) (ke key (mirror (arrOf WL) lo (lo+m)<|(lo+m-lo)/2)<|lo+j)
    rw[SY (by have:=t3.size;omega),SY (by have:=t3.size;omega),if_pos DW,if_pos DW,show lo+(lo+m)-1-(lo+i)=lo+(m-1-i) by omega,show lo+(lo+m)-1-(lo+j)=lo+(m-1-j) by omega];show Vn _ _ DW DW
   .show YL (h q _ t4 DW RV Og)
def nz(L:WA M A E s O key kd S){st:SortSt}{lo n ok:Nat}{Q:Bool->SortSt->Prop}(hk:kindOf st=kd)(hS:∀x∈(arrOf st).toList,S x)(hn:lo+n<=(arrOf st).size)(hok:ok<=n)(hs:UD O key (arrOf st) lo ok)
  (h:∀XR,Stp lo st XR->UD O key (arrOf XR) lo n->Q true XR):wpS M A E s (binarySort' lo n ok) Q st:=by
 rw[binarySort'_eq];show YA (RL (SH (I:=λk c XR=>c=(none,())/\Stp lo st XR/\UD O key (arrOf XR) lo (min k n))
  (Q:=λc XR=>c=(none,())/\Stp lo st XR/\UD O key (arrOf XR) lo n) ?_ ?_ ?_) ?_)
 .rintro k c XR Of Fj ⟨rfl,WV,We⟩;rw[show min k n=k by lia]at We;let hz:=WV.size
  let Uu:=WV.1.trans hk;let Uj:=WV.all hS
  show YA (RL (SH (I:=λx c UC=>UC=XR/\∃l r,c=(none,l,r)/\l<=r/\r<=k/\r-l<=k-x/\
    (∀i,i<l->O.kle (ke key (arrOf XR)<|lo+i) (ke key (arrOf XR)<|lo+k))/\(∀i,r<=i->i<k->O.klt (ke key (arrOf XR)<|lo+k) (ke key (arrOf XR)<|lo+i)))
   (Q:=λc UC=>UC=XR/\∃l r,c=(none,l,r)/\l<=k/\
    (∀i,i<l->O.kle (ke key (arrOf XR)<|lo+i) (ke key (arrOf XR)<|lo+k))/\(∀i,l<=i->i<k->O.klt (ke key (arrOf XR)<|lo+k) (ke key (arrOf XR)<|lo+i))) ?_ ?_ ⟨Z,0,k,Z,J,J,J,λi hi=>J,λi h1 h2=>J⟩) ?_)
  .rintro x c UC _ hxk ⟨rfl,l,r,rfl,hlr,nu,hm,Kk,Ff⟩;dsimp only;cases QV:l >= r
   .rw[if_pos QV]
    have:l=r:=J
    subst this;show YL ⟨Z,l,l,Z,nu,Kk,Ff⟩
   .rw[if_neg QV];show YA (By L Uu Uj J J ?_);dsimp only;cases JN:O.blt (ke key (arrOf UC)<|lo+k) (ke key (arrOf UC)<|lo+(l+r)/2) with
    |true=>
     rw[if_pos Z];show YL ⟨Z,l,(l+r)/2,Z,J,J,sV,Kk,λi h1 h2=>?_⟩;show KeyOrd.klt_of_klt_of_kle JN (We _ _ h1 h2)
    |false=>
     rw[if_neg B];show YL ⟨Z,(l+r)/2+1,r,Z,J,J,sV,λi h1=>?_,Ff⟩;show Wk (We i ((l+r)/2) J J) (show O.kle _ _ from JN)
  .rintro c UC ⟨rfl,l,r,rfl,hlr,nu,hm,Kk,Ff⟩
   have:l=r:=sV
   subst this;exists Z,l,l,Z,nu,Kk,Ff
  .rintro c UC ⟨rfl,l,r,rfl,hlk,Kk,Ff⟩;dsimp only;rw[moveDown'_eq];show YA (Pk<|YL ⟨Z,WV.trans<|Stp.bubble J sV J,?_⟩);rw[show min (k+1) n=k+1 by lia];let bM:lo+k<(arrOf UC).size:=DW
   intro i j WM hj;change O.kle (ke key (bubble (arrOf UC) (lo+k)<|lo+k-(lo+l))<|lo+i) (ke key (bubble (arrOf UC) (lo+k)<|lo+k-(lo+l))<|lo+j)
   rw[bQ bM sV,bQ bM DW,show lo+k-(lo+k-(lo+l))=lo+l by grind];let Bt:∀i,l<i->lo+i-1=lo+(i-1):=λi hi=>J
   repeat' split
   all_goals first
    | (exfalso;omega)
    |show Qa _
    |show Kk _ DW
    |show We _ _ DW DW
    | (rw[Bt j sV];show Qc<|Ff _ J J)
    | (rw[Bt j DW];show We _ _ DW DW)
    | (rw[Bt i sV,Bt j sV];show We _ _ J J)
    | (rw[Bt i DW];show We _ _ DW DW)
 .rintro c XR ⟨hc,WV,We⟩;exists hc,WV,?_
  rwa[show min (max (max ok 1) n) n=n by lia]at We
 .exists Z,Stp.refl _ _,λi j WM hj=>?_;cases h1:ok=0
  .have:i=j:=J
   subst this;show Qa _
  .show hs i j WM J
 .rintro c XR ⟨rfl,WV,We⟩;show YL (h XR WV We)
def VQ:(List (List Keyed)->Nat->List (Nat×Nat))
 |[],_=>[]
 |g::gs,o=>(o,g.length)::VQ gs (o+g.length)
def Hn:∀a b o,VQ (a++b) o=VQ a o++VQ b (o+a.flatten.length)
 |[],b,o=>by simp[VQ]
 |g::gs,b,o=>by simp[VQ,Hn gs b,Nat.add_assoc]
def nt:∀a o,(VQ a o).length=a.length
 |[],o=>rfl
 |g::gs,o=>by simp[VQ,nt gs]
structure PI(O:KeyOrd)(key:Keyed->O.α)(kd:SortKind)(a₀:Array Keyed)(st:SortSt)(segs:List (List Keyed))(rest:List Keyed):Prop where
 kind:kindOf st=kd
 fail:failedOf st=none
 perm:(arrOf st).Perm a₀
 arr:(arrOf st).toList=segs.flatten++rest
 srt:∀g∈segs,1<=g.length/\g.Pairwise (RK O key)
 pend:(pendingOf st).toList.map (λp=>(p.1,p.2.1))=VQ segs 0
def PI.psize{st:SortSt}(h:PI O key kd a₀ st segs rest):(pendingOf st).size=segs.length:=by
 have:=QP List.length h.pend
 rwa[Yb,nt,Yu]at this
def PI.size{st:SortSt}(h:PI O key kd a₀ st segs rest):a₀.size=segs.flatten.length+rest.length:=by rw[<-h.perm.size_eq,<-Yu,h.arr,Xw]
def bL:∀{segs:List (List Keyed)},(∀g∈segs,1<=g.length/\g.Pairwise (RK O key))->segs.length<=segs.flatten.length
 |[],_=>XN _
 |g::gs,h=>by
  have:=bL (segs:=gs) λx hx=>h x (Ye _ hx)
  have:=(h g Yc).1
  simp;simp at *
  lia
def Hm(L:WA M A E s O key kd S)(hS:∀x∈a₀.toList,S x){st:SortSt}{Q:Bool->SortSt->Prop}(h:PI O key kd a₀ st segs rest)(hi:i+1<segs.length)
  (q:∀XR Oe,PI O key kd a₀ XR Oe rest->Oe.length+1=segs.length->Oe.flatten.length=segs.flatten.length->Q true XR):wpS M A E s (mergeAt' i) Q st:=by
 obtain⟨S1,X,Y,S2,e,hl⟩:∃S1 X Y S2,segs=S1++X::Y::S2/\S1.length=i:=by show⟨segs.take i,segs[i],segs[i+1],segs.drop<|i+2,?_,by rw[Yl];lia⟩;rw[<-Jh (i:=i+1) J,<-Jh (i:=i) DW,MJ]
 subst e;let hp:=h.pend
 rw[Hn,SR]at hp;let⟨PA,PR,e1,e2,e3⟩:=List.map_eq_append_iff.mp hp;simp only[VQ]at e3;let⟨p1,PR1,e4,e5,e6⟩:=List.map_eq_cons_iff.mp e3;let⟨p2,PB,e7,e8,e9⟩:=List.map_eq_cons_iff.mp e6;let⟨sa,na,pw⟩:=p1;let⟨sb,nb,BE⟩:=p2;cases e5;cases e8;let hPA:PA.length=i:=by
  have:=QP List.length e2
  rw[Yb,nt]at this;lia
 let hX:=h.srt X B;let hY:=h.srt Y B
 let ep:(pendingOf st).toList=PA++(S1.flatten.length,X.length,pw)::(S1.flatten.length+X.length,Y.length,BE)::PB:=by rw[e1,e4,e7];rfl
 show nH (P:=S1.flatten) (X:=X) (Y:=Y) (T:=S2.flatten++rest) L h.kind h.fail (by rw[h.arr];simp) (λx hx=>hS x<|(Up.mp h.perm).mem_iff.mp hx) ep hPA Z Z Z Z hX.1 hY.1 hX.2 hY.2 λsO XR z1 z2 z3 z4 z5 z6=>?_;let zl:sO.length=X.length+Y.length:=by rw[z2.length_eq,Xw]
 show q XR (S1++sO::S2) ⟨z5,z6,?_,by rw[z3];simp,?_,?_⟩ (by simp;omega) (by simp;omega)
 .show Up.mpr (List.Perm.trans ?_<|Up.mp h.perm);rw[z3,h.arr];let e:(S1++X::Y::S2).flatten++rest=S1.flatten++(X++Y)++(S2.flatten++rest):=B
  rw[e];show EC _ (Nu _ z2)
 .intro g hg;rcases XA.mp hg with hg|hg
  .show h.srt g (by simp[hg])
  .rcases Yh.mp hg with rfl|hg
   .exists by have:=hX.1;omega,z1
   .show h.srt g (by simp[hg])
 .rw[z4,YQ,TB,e2,e9,Hn,SR];simp only[VQ];rw[zl,Nat.add_assoc]
def nr{arr:Array Keyed}{lo n:Nat}(h:UD O key arr lo n):((arr.toList.drop lo).take n).Pairwise (RK O key):=by
 rw[UT];intro i j hi hj WM;rw[Yl,YW]at hi hj;let a1:arr[lo+i]?=some ((arr.toList.drop lo).take n)[i]:=by rw[<-YI];simp
 let a2:arr[lo+j]?=some ((arr.toList.drop lo).take n)[j]:=by rw[<-YI];simp
 have:=h i j J sV
 rwa[UE a1,UE a2]at this
def PI.push{st XR:SortSt}(h:PI O key kd a₀ st segs rest)(hr:n<=rest.length)(t:Stp segs.flatten.length st XR)(hs:UD O key (arrOf XR) segs.flatten.length n):
  ∃run WD,run.length=n/\WD.length+n=rest.length/\PI O key kd a₀ XR segs (run++WD)/\run.Pairwise (RK O key):=by
 let hz:=t.size;let BY:(arrOf st).size=segs.flatten.length+rest.length:=by rw[<-Yu,h.arr,Xw]
 let e0:(arrOf XR).toList.take segs.flatten.length=segs.flatten:=by
  apply Nq;intro i;cases hi:i<segs.flatten.length
  .rw[VW,if_pos hi,YI,t.2.2.2.2 i hi,<-YI,h.arr,Yn hi]
  .rw[VM (by rw[Yl];grind),VM J]
 let e1:=MJ segs.flatten.length (arrOf XR).toList;let e2:=MJ n ((arrOf XR).toList.drop segs.flatten.length)
 exists ((arrOf XR).toList.drop segs.flatten.length).take n,((arrOf XR).toList.drop segs.flatten.length).drop n,?_,?_,⟨t.1.trans h.kind,t.2.1.trans h.fail,t.2.2.2.1.trans h.perm,?_,h.srt,?_⟩,nr hs
 .rw[Yl,YW,Yu];lia
 .rw[YW,YW,Yu];lia
 .rw[e2];rw[e0]at e1;show e1.symm
 .rw[t.2.2.1];show h.pend
def nq(L:WA M A E s O key kd S){a₀:Array Keyed}(hS:∀x∈a₀.toList,S x){st:SortSt}{Q:Unit->SortSt->Prop}(hk:kindOf st=kd)(hf:failedOf st=none)(ha:arrOf st=a₀)(hp:pendingOf st=#[])
  (h:∀XR,(arrOf XR).Perm a₀->failedOf XR=none->(arrOf XR).toList.Pairwise (RK O key)->Q () XR):wpS M A E s sortRuns' Q st:=by
 rw[sortRuns'_eq];show YA (QF ?_);dsimp only;rw[ha];let pi0:PI O key kd a₀ st [] a₀.toList:=⟨hk,hf,ha▸Eo _,by rw[ha];rfl,λ_ h=>(by cases h),by rw[hp];rfl⟩
 show YA (RL (SH
  (I:=λx c XR=>∃lo,c=(none,lo)/\∃segs rest,lo=segs.flatten.length/\PI O key kd a₀ XR segs rest/\(x<=lo\/a₀.size<=lo))
  (Q:=λc XR=>∃lo,c=(none,lo)/\∃segs rest,lo=segs.flatten.length/\PI O key kd a₀ XR segs rest/\a₀.size<=lo) ?_ ?_ ⟨0,Z,[],a₀.toList,Z,pi0,.inl<|XN _⟩) ?_)
 .rintro x c XR _ hx ⟨lo,rfl,segs,rest,rfl,pi,MT⟩;dsimp only;cases c1:segs.flatten.length >= a₀.size
  .rw[if_pos c1];show YL ⟨_,Z,segs,rest,Z,pi,c1⟩
  rw[if_neg c1];let hz:=pi.size
  let JM:∀x∈(arrOf XR).toList,S x:=λx hx=>hS x ((Up.mp pi.perm).mem_iff.mp hx);let hsz:=pi.perm.size_eq
  show YA (Zt6 L pi.kind JM sV sV λm Xi t2 TR Wi Sx=>?_);dsimp only;let BY:=t2.size
  cases c2:m<minRun' a₀.size a₀.size 0
  .rw[if_pos c2];show YA (wpS_lift<|PY ⟨Z,?_⟩);show YA (nz L (t2.1.trans pi.kind) (t2.all JM) sV sV Sx λWL t3 hs3=>?_);rw[if_neg B];let n1:1<=min (a₀.size-segs.flatten.length) (minRun' a₀.size a₀.size 0):=sV
   let n2:min (a₀.size-segs.flatten.length) (minRun' a₀.size a₀.size 0)<=rest.length:=sV;let⟨run,WD,Fe,Bs,Hl,Od⟩:=pi.push n2 (t2.trans t3) hs3;generalize min (a₀.size-segs.flatten.length) (minRun' a₀.size a₀.size 0)=n at *;obtain⟨Lr,e4⟩:∃Lr,Lr=WL:=⟨_,Z⟩;rw[<-e4]at Hl ⊢;show YA (QF ?_);cases Br:(pendingOf Lr).back? with
   |none=>
    dsimp only;let Ww:=Hl
    let Wq:segs.flatten.length=segs.flatten.length:=rfl;obtain⟨XF,e5⟩:∃XF,XF=segs:=⟨_,Z⟩;obtain⟨WU,Bq⟩:∃WU,WU=Lr:=⟨_,Z⟩;rw[<-e5,<-Bq]at Ww;let Wq:XF.flatten.length=segs.flatten.length:=by rw[e5]
    rw[<-Bq];show YA (Pk<|YL ?_);exists _,Z,XF++[run],WD,by rw[xQ,Xw,MB,xG,Yx];lia,⟨Ww.kind,Ww.fail,Ww.perm,?_,?_,?_⟩,sV
    .change(arrOf WU).toList=_;rw[Ww.arr];simp
    .intro g hg;rcases XA.mp hg with hg|hg
     .show Ww.srt g hg
     .rw[XG.mp hg];exists J,Od
    .change((pendingOf WU).push _).toList.map _=_;rw[RQ,YQ,Ww.pend,Hn,SR,Wq];simp[VQ,Fe]
   |some p=>
    let⟨s1,n1,p1⟩:=p;dsimp only;show YA (RL (SH (I:=λ_ c WU=>c=(none,())/\∃XF,PI O key kd a₀ WU XF (run++WD)/\XF.flatten.length=segs.flatten.length)
     (Q:=λc WU=>c=(none,())/\∃XF,PI O key kd a₀ WU XF (run++WD)/\XF.flatten.length=segs.flatten.length) ?_ (λ_ _ z=>z) ⟨Z,segs,Hl,Z⟩) ?_)
    .rintro y c WU _ _ ⟨rfl,XF,Ww,Wq⟩;show YA (QF ?_);cases c5:(pendingOf WU).size>1
     .rw[if_pos c5];cases hp:(pendingOf WU)[(pendingOf WU).size-2]? with
      |none=>show YL ⟨Z,XF,Ww,Wq⟩
      |some pp=>
       let⟨w1,w2,w3⟩:=pp;dsimp only;split
       .show YL ⟨Z,XF,Ww,Wq⟩
       .show YA (Hm L hS Ww (by rw[<-Ww.psize];lia) λst6 Oc nj l6 f6=>?_);rw[if_neg B];show YL ⟨Z,Oc,nj,f6.trans Wq⟩
     .rw[if_neg c5];show YL ⟨Z,XF,Ww,Wq⟩
    .rintro c WU ⟨rfl,XF,Vm,Wq⟩;dsimp only;show YA (Pk ?_);let Ww:PI O key kd a₀ (setPending WU<|(pendingOf WU).modify ((pendingOf WU).size-1) λx=>(x.1,x.2.1,power' a₀.size (2*s1+n1) (2*s1+n1+n1+n) a₀.size)) XF (run++WD):=by
      exists Vm.kind,Vm.fail,Vm.perm,Vm.arr,Vm.srt,?_;change((pendingOf WU).modify _ _).toList.map _=_
      rw[<-Vm.pend,Array.toList_modify];apply Nq;intro i;rw[Yp,Yp,List.getElem?_modify];cases (pendingOf WU).toList[i]? with
      |none=>rfl
      |some x=>
       simp only[Es];split<;>rfl
     generalize setPending WU ((pendingOf WU).modify ((pendingOf WU).size-1) λx=>(x.1,x.2.1,power' a₀.size (2*s1+n1) (2*s1+n1+n1+n) a₀.size))=WU at *;show YA (Pk<|YL ?_);exists _,Z,XF++[run],WD,by rw[xQ,Xw,MB,xG,Yx];omega,⟨Ww.kind,Ww.fail,Ww.perm,?_,?_,?_⟩,DW
     .change(arrOf WU).toList=_;rw[Ww.arr];simp
     .intro g hg;rcases XA.mp hg with hg|hg
      .show Ww.srt g hg
      .rw[XG.mp hg];exists DW,Od
     .change((pendingOf WU).push _).toList.map _=_;rw[RQ,YQ,Ww.pend,Hn,SR,Wq];simp[VQ,Fe]
  .rw[if_neg c2];let⟨run,WD,Fe,Bs,Hl,Od⟩:=pi.push sV t2 Sx;obtain⟨n,en⟩:∃n,n=m:=⟨_,Z⟩;rw[<-en]at Fe Bs ⊢;obtain⟨Lr,e4⟩:∃Lr,Lr=Xi:=⟨_,Z⟩;rw[<-e4]at Hl ⊢;show YA (QF ?_);cases Br:(pendingOf Lr).back? with
   |none=>
    dsimp only;let Ww:=Hl
    let Wq:segs.flatten.length=segs.flatten.length:=rfl;obtain⟨XF,e5⟩:∃XF,XF=segs:=⟨_,Z⟩;obtain⟨WU,Bq⟩:∃WU,WU=Lr:=⟨_,Z⟩;rw[<-e5,<-Bq]at Ww;let Wq:XF.flatten.length=segs.flatten.length:=by rw[e5]
    rw[<-Bq];show YA (Pk<|YL ?_);exists _,Z,XF++[run],WD,by rw[xQ,Xw,MB,xG,Yx];lia,⟨Ww.kind,Ww.fail,Ww.perm,?_,?_,?_⟩,sV
    .change(arrOf WU).toList=_;rw[Ww.arr];simp
    .intro g hg;rcases XA.mp hg with hg|hg
     .show Ww.srt g hg
     .rw[XG.mp hg];exists J,Od
    .change((pendingOf WU).push _).toList.map _=_;rw[RQ,YQ,Ww.pend,Hn,SR,Wq];simp[VQ,Fe]
   |some p=>
    let⟨s1,n1,p1⟩:=p;dsimp only;show YA (RL (SH (I:=λ_ c WU=>c=(none,())/\∃XF,PI O key kd a₀ WU XF (run++WD)/\XF.flatten.length=segs.flatten.length)
     (Q:=λc WU=>c=(none,())/\∃XF,PI O key kd a₀ WU XF (run++WD)/\XF.flatten.length=segs.flatten.length) ?_ (λ_ _ z=>z) ⟨Z,segs,Hl,Z⟩) ?_)
    .rintro y c WU _ _ ⟨rfl,XF,Ww,Wq⟩;show YA (QF ?_);cases c5:(pendingOf WU).size>1
     .rw[if_pos c5];cases hp:(pendingOf WU)[(pendingOf WU).size-2]? with
      |none=>show YL ⟨Z,XF,Ww,Wq⟩
      |some pp=>
       let⟨w1,w2,w3⟩:=pp;dsimp only;split
       .show YL ⟨Z,XF,Ww,Wq⟩
       .show YA (Hm L hS Ww (by rw[<-Ww.psize];omega) λst6 Oc nj l6 f6=>?_);rw[if_neg B];show YL ⟨Z,Oc,nj,f6.trans Wq⟩
     .rw[if_neg c5];show YL ⟨Z,XF,Ww,Wq⟩
    .rintro c WU ⟨rfl,XF,Vm,Wq⟩;dsimp only;show YA (Pk ?_);let Ww:PI O key kd a₀ (setPending WU<|(pendingOf WU).modify ((pendingOf WU).size-1) λx=>(x.1,x.2.1,power' a₀.size (2*s1+n1) (2*s1+n1+n1+n) a₀.size)) XF (run++WD):=by
      exists Vm.kind,Vm.fail,Vm.perm,Vm.arr,Vm.srt,?_;change((pendingOf WU).modify _ _).toList.map _=_
      rw[<-Vm.pend,Array.toList_modify];apply Nq;intro i;rw[Yp,Yp,List.getElem?_modify];cases (pendingOf WU).toList[i]? with
      |none=>rfl
      |some x=>
       simp only[Es];split<;>rfl
     generalize setPending WU ((pendingOf WU).modify ((pendingOf WU).size-1) λx=>(x.1,x.2.1,power' a₀.size (2*s1+n1) (2*s1+n1+n1+n) a₀.size))=WU at *;show YA (Pk<|YL ?_);exists _,Z,XF++[run],WD,by rw[xQ,Xw,MB,xG,Yx];omega,⟨Ww.kind,Ww.fail,Ww.perm,?_,?_,?_⟩,DW
     .change(arrOf WU).toList=_;rw[Ww.arr];simp
     .intro g hg;rcases XA.mp hg with hg|hg
      .show Ww.srt g hg
      .rw[XG.mp hg];exists DW,Od
     .change((pendingOf WU).push _).toList.map _=_;rw[RQ,YQ,Ww.pend,Hn,SR,Wq];simp[VQ,Fe]
 .rintro c XR ⟨lo,rfl,segs,rest,e,pi,MT⟩;exists lo,Z,segs,rest,e,pi,J
 .rintro c XR ⟨lo,rfl,segs,rest,e,pi,MT⟩;dsimp only;show YA (RL (SH
   (I:=λx c Xi=>c=(none,())/\∃segs,PI O key kd a₀ Xi segs rest/\a₀.size<=segs.flatten.length/\(segs.length+x<=a₀.size\/segs.length<=1))
   (Q:=λc Xi=>c=(none,())/\∃segs,PI O key kd a₀ Xi segs rest/\a₀.size<=segs.flatten.length/\segs.length<=1) ?_ ?_ ⟨Z,segs,pi,J,.inl (by have:=bL pi.srt;have:=pi.size;lia)⟩) ?_)
  .rintro x c Xi _ hx ⟨rfl,TQ,PF,Vj,hc⟩;show YA (QF ?_);cases c1:(pendingOf Xi).size<=1
   .rw[if_pos c1];show YL ⟨Z,TQ,PF,Vj,by rwa[<-PF.psize]⟩
   .rw[if_neg c1];let hps:=PF.psize
    show YA (Hm L hS PF ?_ λWL Bp pi3 l3 f3=>?_)
    .let two:∀bb:Bool,(if bb=true then (pendingOf Xi).size-2-1 else (pendingOf Xi).size-2)+1<TQ.length:=λbb=>by cases bb<;>simp<;>lia
     show two _
    .rw[if_neg B];show YL ⟨Z,Bp,pi3,J,sV⟩
  .rintro c Xi ⟨rfl,TQ,PF,Vj,hc⟩;exists Z,TQ,PF,Vj,?_;rcases hc with hc|hc
   .lia
   .show hc
  .rintro c Xi ⟨rfl,TQ,PF,Vj,hc⟩;show YL (h Xi PF.perm PF.fail ?_);let hr:rest=[]:=by have:=PF.size;show YM.mp J
   rw[PF.arr,hr,Yx]
   match TQ,hc,PF.srt with
   |[],_,_=>show List.Pairwise.nil
   |[g],_,hg=>simpa using (hg g Yc).2
end
end PyProof.Rows
namespace L2
open PySem PySem.Spec PyProof.Rows
section
variable{prog:Program}{w:World}{A:Around}{E:Ae}{s:Shared}
def ni{α:Type}{R:α->α->Prop}:∀{l:List α},l.length<2->l.Pairwise R
 |[],_=>List.Pairwise.nil
 |[_],_=>Ky ..
 |_::_::_,h=>absurd h B
def sameBut(a:Addr)(h h':Heap):(Prop):=∀b o,b≠a->h.get? b=some o->h'.get? b=some o
def nh{key:Keyed->O.α}{kd:SortKind}{P:Fin->Shared->Prop}(ho:s.heap.get? a=some (seqObj "list" vs.toArray n))(hz:vs.length<=1000000)
  (Lz:∀h':Heap,sameBut a s.heap h'->2<=vs.length->∀Q:SortKind->Shared->Prop,Q kd {s with heap:=h'}->wpAny (model prog w) A (keyKind' vs.toArray) Q E {s with heap:=h'})
  (L:∀h':Heap,sameBut a s.heap h'->WA (model prog w) A E {s with heap:=h'} O key kd λx=>x∈(pairsOf vs).toList)
  (h:∀out:Array Keyed,out.Perm (pairsOf vs)->out.toList.Pairwise (RK O key)->P (.done<|.ret .none) {s with heap:=sortedHeap s.heap a vs (out.map (·.2))}):wpAny (model prog w) A (Builtin.«list.sort» ⟨[.ref a],[]⟩) P E s:=by
 let LM:sizeLine=16777216:=Tz;let ha:a<(~~~s):=Yo ho
 obtain⟨e1,Bo⟩:∃e1,(s.heap.update a<|Obj.mapSeq λ_=>(#[]:Array Value)).get? a=some (seqObj "list" #[] e1):=⟨_,Ph ho λ_=>#[]⟩;rw[list_sort_plain];show XU (Pg ho Z<|XU<|Nl ho Z ?_ (by rw[Ya];lia)<|Ym _);show XU (seqEpoch_at Bo Z<|XU<|wpAny_newTuple ?_<|by simp;omega);show XU (Mv<|Se ?_);let sm:sameBut a s.heap (((s.heap.update a<|Obj.mapSeq λ_=>#[]).push (seqObj "tuple" vs.toArray 0)).push (seqObj "list" #[] 0)):=λb o hb e=>Xd _ (Xd _<|(YX _ _<|Xc hb).trans e)
 let JL:(((s.heap.update a<|Obj.mapSeq λ_=>#[]).push (seqObj "tuple" vs.toArray 0)).push (seqObj "list" #[] 0)).get? a=some (seqObj "list" #[] e1):=Xd _ (Xd _ Bo);change wpAny (model prog w) A _ P E {s with heap:=((s.heap.update a<|Obj.mapSeq λ_=>#[]).push (seqObj "tuple" vs.toArray 0)).push (seqObj "list" #[] 0)}
 dsimp only;let Sx:vs.toArray.size=vs.length:=B
 cases h2:vs.toArray.size<2
 .rw[if_pos h2,if_pos h2];show XU (Yj ?_);rw[StateT.run_pure];show XU (Yj ?_);dsimp only;show XU (seqEpoch_at JL Z<|XU<|Nl JL Z ?_ (Ym _)<|by rw[Array.size_map];change(pairsOf vs).size<=sizeLine+1;rw[pairsOf_size];lia);simp only[t5,Rn,Sd];show Yj (h (pairsOf vs) (Eo _) ?_);show ni (by rw[Yu,pairsOf_size];lia)
 .rw[if_neg h2,if_neg h2];show XU (Lz _ sm J _ ?_);show XU (Uc (nq (L _ sm) (a₀:=pairsOf vs) (λx hx=>hx) (st:=SortSt.mk' kd (vs.toArray.zip vs.toArray) #[] 7 none)
   (Q:=λ_ XR=>(arrOf XR).Perm (pairsOf vs)/\failedOf XR=none/\(arrOf XR).toList.Pairwise (RK O key)) Z Z Z Z λXR a1 a2 a3=>⟨a1,a2,a3⟩) ?_ λ_ _ e=>e)
  rintro⟨⟨⟩,XR⟩ s' ⟨rfl,hp,hf,hs⟩;dsimp only;let hsz:(arrOf XR).size=vs.length:=hp.size_eq.trans (pairsOf_size _)
  show XU (seqEpoch_at JL Z<|XU<|Nl JL Z ?_ (Ym _)<|by show Yr (xq<|(Array.size_map ..).trans hsz) ?_;lia);rw[hf];simp only[t5,Rn,Sd];show Yj (h _ hp hs)
def ZM6{key:Keyed->O.α}{kd:SortKind}{Q:Ae}(hl:s.heap.IsList l vs.toArray)(hz:vs.length<=1000000)
  (Lz:∀A h',(∀b o,s.heap.get? b=some o->h'.get? b=some o)->2<=vs.length->∀E Q,Q kd {s with heap:=h'}->wpAny (model prog w) A (keyKind' vs.toArray) Q E {s with heap:=h'})
  (L:∀A' h' E,A'.units<=A.units+4->(∀b o,s.heap.get? b=some o->h'.get? b=some o)->WA (model prog w) A' E {s with heap:=h'} O key kd λx=>x∈(pairsOf vs).toList)
  (h:∀out:Array Keyed,out.Perm (pairsOf vs)->out.toList.Pairwise (RK O key)->Q (.ref<|(~~~s)+1) {s with heap:=sortedAll s.heap vs (out.map (·.2))}):wpAny (model prog w) A (call (.builtin "sorted") [.ref l]) Q E s:=by
 let hsz:((s.heap.push<|seqObj "list" #[] 0).update (~~~s) (Obj.mapSeq (·++vs.toArray))).objs.size=(~~~s)+1:=by rw[tw,size_push']
 let Pf:(((s.heap.push<|seqObj "list" #[] 0).update (~~~s) (Obj.mapSeq (·++vs.toArray))).push (seqObj "list" vs.toArray 0)).get? ((~~~s)+1)=some (seqObj "list" vs.toArray 0):=hsz▸Yq _ rfl;let LM:sizeLine=16777216:=Tz
 show uf kind_sorted plain_sorted entry_sorted (args_sorted1 _) ?_;unfold Builtin.«sorted»;show XU (m:=checkCount "sorted" 1 1 _) (Yj<|XU<|collect_list hl ?_ J);show XU (Mv ?_ DW);change wpAny _ _ _ _ _ {s with heap:=((s.heap.push<|seqObj "list" #[] 0).update (~~~s) (Obj.mapSeq (·++vs.toArray))).push (seqObj "list" vs.toArray 0)}
 rw[hsz];let old:∀b o,s.heap.get? b=some o->(((s.heap.push<|seqObj "list" #[] 0).update (~~~s) (Obj.mapSeq (·++vs.toArray))).push (seqObj "list" vs.toArray 0)).get? b=some o:=λb o e=>
  Xd _ ((YX _ _<|Xc<|YB<|Yo e).trans (Xd _ e))
 let ne:∀b o,s.heap.get? b=some o->b≠(~~~s)+1:=λb o e=>YB (Jd<|Yo e);show XU (Se<|Tu xk ⟨_,Pf,rfl⟩ xm (nh (O:=O) (key:=key) (kd:=kd) Pf hz (λh' k h2 Q q=>Lz _ h' (λb o e=>k b o (ne b o e)<|old b o e) h2 _ Q q) (λh' k=>L _ h' _ (by first|(show A.units+1<=A.units+4;omega)|(show A.units+1+1<=A.units+4;lia)|(show A.units<=A.units+4;omega)) λb o e=>k b o (ne b o e)<|old b o e) λout a1 a2=>⟨_,rfl,?_⟩)<|args_list_sort _)
 show Yj ⟨_,Z,h out a1 a2⟩
def ng:(KeyOrd) where
 α:=Ac
 blt:=HT.lexLt
 irrefl:=My.WT
 trans a b c:=My.Wx
 negTrans a b c h:=by
  cases e:HT.lexLt a b with
  |true=>show .inl rfl
  |false=>
   show .inr ?_;cases e2:HT.lexLt b a with
   |true=>show My.Wx e2 h
   |false=>
    have:=My.Xo e e2
    subst this;show h
 total a b h1 h2:=My.Xo h1 h2
def bK{Q:Bool->Shared->Prop}:∀{vs ws:Ag}{ns ms:Ac}(i:Nat),IntsAre vs ns->IntsAre ws ms->(fin=true↔vs.length<ws.length)->Q (HT.lexLt ns ms) s->W.KatLex prog w A b fin Q (vs.zip ws) i s
 |_,_,_,_,i,.nil,.nil,hf,h=>by
  have:fin=false:=by cases fin with|false=>rfl|true=>show absurd (hf.mp rfl) B
  subst this;show W.kat_nil h
 |_,_,_,_,i,.nil,.cons c u hw,hf,h=>by
  have:fin=true:=hf.mpr B
  subst this;show W.kat_nil h
 |_,_,_,_,i,.cons a t hv,.nil,hf,h=>by
  have:fin=false:=by cases fin with|false=>rfl|true=>show absurd (hf.mp rfl) B
  subst this;show W.kat_nil h
 |_,_,_,_,i,.cons a t hv,.cons c u hw,hf,h=>by
  rw[HT.Xq]at h;rw[List.zip_cons_cons];show W.kat_cons (wpAny_eqBool_int<|W.kat_go (λe=>?_) λe=>?_)
  .rw[if_pos (eq_of_beq e)]at h;show W.kat_yes (bK (i+1) hv hw (by rw[hf];simp) h)
  .rw[if_neg (λq=>by rw[q]at e;simp at e)]at h;show W.kat_no ?_;cases (b&&i == 0) with
   |true=>show oneLt_int h
   |false=>show W.kat_one _ _ (lt_int h)
end
end L2
namespace L2
open PySem PySem.Spec PyProof.Rows My
def bJ:∀{vs:Ag}{ns ms:Ac},IntsAre vs ns->IntsAre vs ms->ns=ms
 |_,_,_,.nil,.nil=>rfl
 |_,_,_,.cons n t h,.cons _ _ k=>by rw[bJ h k]
def bI{f:Value->Ac}:∀{vs:Ag},(∀v∈vs,∃a o xs n,v=.ref a/\h.get? a=some o/\o.cls=.type "tuple"/\o.data=.seq xs n/\IntsAre xs.toList (f v)/\f v≠[])->∃fs,W.KatTups h vs fs/\fs.length=vs.length/\∀v∈fs,∃n t,v=Value.int n t
 |[],_=>⟨[],W.KatTups.nil,Z,λ_ h=>(by cases h)⟩
 |v::vs,H=>by
  let⟨a,o,xs,n,e,h1,h2,h3,h4,h5⟩:=H v Yc;let⟨fs,t,l,k⟩:=bI (vs:=vs) λy hy=>H y (Ye _ hy);obtain⟨z,u,hz⟩:∃z u,xs[0]?=some (Value.int z u):=by
   cases hx:xs.toList with
   |nil=>
    rw[hx]at h4;generalize f v=g at h4 h5;cases h4;show absurd Z h5
   |cons x r=>
    rw[hx]at h4;generalize f v=g at h4 h5;cases h4 with
    |cons z u _=>exists z,u,by rw[<-YI,hx];rfl
  subst e;show⟨.int z u::fs,W.KatTups.cons h1 h2 h3 hz t,by simp[l],λy hy=>?_⟩;rcases Yh.mp hy with rfl|hy
  .exists z,u,Z
  .show k y hy
section
variable{X:Cx}
def bH(K:Ad)(hk:X.K=K:=by rfl):Tp X (.builtin "sorted") (λxs H Q=>∃(p:Addr)(ys:List V)(L:Ab)(R:V->Ac->Prop),xs=[.ref p]/\SqL K H p ys/\Bears R ys L/\(∀v l,R v l->∃a,v=.ref a/\SqT K H a (l.map V.int))/\(ys.length<2\/∀l∈L,l≠[])/\ys.length<=1000000/\
  ∀(zs:List V)(M:Ab),Bears R zs M->M.Perm L->M.Pairwise (λa b=>HT.lexLt b a=false)->∀l,H l=none->Q ↑l (upd H l<|.lst zs)):=by
 subst hk;intro pins s σ H xs us Q I r h;let⟨p,ys,L,R,rfl,hq,hb,hR,XM,hz,q⟩:=h;let⟨u,rfl,ru⟩:=Sy r;let rfl:u=Value.ref p:=ru;let⟨XX,rv,pl,vR⟩:=I.list hq;let Lq:ys.length=XX.length:=rv.length
 let uniq:∀{a:Addr}{l m:Ac},R ↑a l->R ↑a m->l=m:=λ{a l m} h1 h2=>by
  let⟨a1,e1,t1⟩:=hR _ _ h1;let⟨a2,e2,t2⟩:=hR _ _ h2;cases e1;cases e2;let⟨i1,r1,⟨o1,g1,c1,n1,d1⟩,_⟩:=I.tuple t1;let⟨i2,r2,⟨o2,g2,c2,n2,d2⟩,_⟩:=I.tuple t2;rw[g1]at g2;cases g2;rw[d1]at d2;let e:i1.toArray=i2.toArray:=by injection d2
  let e:i1=i2:=by simpa using QP Array.toList e
  subst e;show bJ (Zz r1) (Zz r2)
 classical
 obtain⟨f,hf⟩:∃f:Value->Ac,∀(a:Addr)(l:Ac),R ↑a l->f ↑a=l:=by
  exists λv=>if h:∃l,∃a,v=Value.ref a/\R ↑a l then Classical.choose h else [],λa l hl=>?_;let ex:∃l,∃b,Value.ref a=Value.ref b/\R ↑b l:=⟨l,a,Z,hl⟩
  change(if h:∃l,∃b,Value.ref a=Value.ref b/\R ↑b l then Classical.choose h else [])=l;rw[dif_pos ex];let⟨b,e,hb⟩:=dZ ex;cases e;show uniq hb hl
 let each:∀(i:Nat)(v:Value),XX[i]?=some v->∃a,v=.ref a/\ys[i]?=some ↑a/\R ↑a (f v)/\L[i]?=some (f v):=λi v e=>by
  let⟨hi,hv⟩:=Xy.mp e;let⟨y,ey,ry⟩:=rv.at hi;rw[hv]at ry;let⟨l,el,hl⟩:=hb.at ey;let⟨a,ea,_⟩:=hR _ _ hl;subst ea;let rfl:v=Value.ref a:=ry
  have:=hf a l hl
  exists a,Z,ey,by rw[this];show hl,by rwa[this]
 let eL:L=XX.map f:=by
  apply Nq;intro i;rw[Yp];cases e:XX[i]? with
  |none=>
   have:XX.length<=i:=uB.mp e
   show VM (by have:=hb.1;grind)
  |some v=>
   let⟨_,_,_,_,el⟩:=each i v e;rw[el];rfl
 let tup:∀v∈XX,∃a o xs n,v=Value.ref a/\s.heap.get? a=some o/\o.cls=.type "tuple"/\o.data=.seq xs n/\IntsAre xs.toList (f v):=λv hv=>by let⟨i,e⟩:=YC hv;let⟨a,rfl,_,hr,_⟩:=each i v e;let⟨a1,e1,t1⟩:=hR _ _ hr;cases e1;let⟨i1,r1,⟨o1,g1,c1,n1,d1⟩,_⟩:=I.tuple t1;exists a,o1,_,n1,Z,g1,c1,d1,by simpa using Zz r1
 let Lp:∀x∈(pairsOf XX).toList,x.1∈XX/\x.2=x.1:=λx hx=>by
  let hx:x∈(XX.toArray.zip XX.toArray).toList:=hx;rw[Array.toList_zip]at hx;let⟨i,e⟩:=YC hx;rw[eR]at e;let e1:XX[i]?=some x.1:=by simpa using e.1
  let e2:XX[i]?=some x.2:=by simpa using e.2
  rw[e1]at e2;cases x;cases e2;exists Xg e1,Z
 show ZM6 (O:=ng) (key:=λk=>f k.1) (kd:=tuples'<|Value.type "int" != Value.type "tuple") pl.isList J (λA' h' keep h2 E' Q' q'=>?_) (λA' h' E' _ keep x y st Q' hx hy hkd q'=>?_) λout a1 a2=>?_
 .let OG:∀v∈XX,f v≠[]:=λv hv=>by
   rcases XM with XM|XM
   .lia
   .show XM _ (by rw[eL];show List.mem_map_of_mem hv)
  let⟨fs,t,l,k⟩:=bI (h:=h') (f:=f) (vs:=XX) λv hv=>by let⟨a,o,xs,n,e1,e2,e3,e4,e5⟩:=tup v hv;exists a,o,xs,n,e1,keep a o e2,e3,e4,e5,OG v hv
  show W.kat_kind (T:=.type "int") t J (λv hv=>?_) Z q';let⟨n,t,rfl⟩:=k v hv;show W.Looks.now
 .let⟨ax,ox,xx,nx,e1,e2,e3,e4,e5⟩:=tup x.1 (Lp x hx).1;let⟨ay,oy,xy,ny,g1,g2,g3,g4,g5⟩:=tup y.1 (Lp y hy).1;rw[lt'_eq];show YA (QF ?_);rw[hkd,e1,g1];show YA (wpS_lift<|FJ<|W.kat_lt (keep ax ox e2) e4 (keep ay oy g2) g4<|bK 0 e5 g5 B ⟨Z,?_⟩);show YL q'
 .let⟨e,he⟩:=sortedAll_at s.heap XX (out.map (·.2));let po:out.toList.Perm (pairsOf XX).toList:=Up.mp a1
  let zip2:((pairsOf XX).toList.map (·.2))=XX:=by change((XX.toArray.zip XX.toArray).toList.map (·.2))=XX;rw[Array.toList_zip];show List.map_snd_zip B
  let pv:(out.map (·.2)).toList.Perm XX:=by rw[Array.toList_map];show zip2▸po.map (·.2)
  let mo:∀v∈(out.map (·.2)).toList,∃a,v=Value.ref a/\R ↑a (f v):=λv hv=>by let⟨i,e⟩:=YC (pv.mem_iff.mp hv);let⟨a,e1,_,e3,_⟩:=each i v e;exists a,e1,e3
  obtain⟨zs,vz,bz⟩:∃zs:List V,Vals zs (out.map (·.2)).toList/\Bears R zs ((out.map (·.2)).toList.map f):=by
   clear he pv;generalize (out.map (·.2)).toList=os at mo
   induction os with
   |nil=>exists [],.nil,Z,λi a e=>by simp at e
   |cons v os ih=>
    let⟨zs,vz,bz⟩:=ih λy hy=>mo y (Ye _ hy);let⟨a,rfl,hr⟩:=mo v Yc;show⟨.ref a::zs,.cons Z vz,by simp[bz.1],λi l e=>?_⟩;cases i with
    |zero=>
     have:f ↑a=l:=by simpa using e
     exists .ref a,Z,this▸hr
    |succ i=>show bz.2 i l (by simpa using e)
  let vQ:zs.length=XX.length:=by rw[vz.length,pv.length_eq]
  exists .ref<|(~~~s)+1,_,I.laid (t':=s.toks) (o:=.lst zs) (λb o g=>sortedAll_old g) (Ud _) ⟨?_,(out.map (·.2)).toList,e,vz,?_⟩,Z,q zs _ bz ?_ ?_ _<|I.hok.fresh<|Ud _
  .have:sizeLine=16777216:=Tz
   lia
  .show he
  .rw[eL];show pv.map f
  .rw[Array.toList_map,Ms,MD];show ur (λ{x y} hx hy Lo=>?_) a2;let h1:=(Lp x<|po.mem_iff.mp hx).2
   let h2:=(Lp y<|po.mem_iff.mp hy).2;change HT.lexLt (f y.2) (f x.2)=false
   rwa[h1,h2]
end
end L2
namespace My
open PySem L2
open Classical in
def nc(hx:Xa H x z)(hP:TupsV H xs L):∃e:Addr->Bool,(∀v∈xs,∃a,v=.ref a/\EqD K H 1 v x (e a))/\xs.any (HC e)=decide (z∈L):=by
 let key:∀{a:Addr}{w:Ac},Xa H ↑a w->(Xa H ↑a z↔w=z):=by
  rintro a w ⟨t,e,h⟩;cases e;constructor
  .rintro⟨t,e,h2⟩;cases e;rw[h]at h2;injection h2 with h2
   injection h2 with h2;show(List.map_inj_right λ_ _ h=>by injection h).mp h2
  .rintro rfl;exists _,Z,h
 exists λa=>decide<|Xa H ↑a z,λv hv=>?_,?_
 .let⟨i,hi⟩:=YC hv;let⟨w,hw,t,rfl,ht⟩:=hP.at hi;exists t,Z,?_;let k:=key ⟨t,Z,ht⟩
  change EqD K H 1 (V.ref t) x (decide<|Xa H (V.ref t) z);rw[show decide (Xa H ↑t z)=decide (w=z) by rw[tW];show k];show cB ⟨t,Z,ht⟩ hx
 .rw[Pp,xD,YV];constructor
  .rintro⟨v,hv,hb⟩;let⟨i,hi⟩:=YC hv;let⟨w,hw,t,rfl,ht⟩:=hP.at hi;let hb:decide (Xa H ↑t z)=true:=hb
   rw[YV,key ⟨t,Z,ht⟩]at hb;rw[<-hb];show Xg hw
  .intro hz;let⟨i,hi⟩:=YC hz;let⟨v,hv,t,rfl,ht⟩:=hP.2 i z hi;exists _,Xg hv,Yv ⟨t,Z,ht⟩
def m9(hx:Xa H x z)(hp:SqL K H p xs)(hP:TupsV H xs L)(q:Q (.bl (decide (z∈L))) H):Cg K x ↑p H Q:=by let⟨e,h1,h2⟩:=nc (K:=K) hx hP;exists 1,p,xs,e,Z,hp,sZ,h1,by rwa[h2]
abbrev VB(a b:Ac):Prop:=HT.lexLt a b=true
def bG:∀p a b,HT.lexLt (p++a) (p++b)=HT.lexLt a b
 |[],a,b=>rfl
 |x::p,a,b=>by rw[Et,Et,HT.Xq,if_pos Z,bG p]
def bF:∀{s t:Ac}(a b:Ac),s.length=t.length->HT.lexLt s t=true->HT.lexLt (s++a) (t++b)=true
 |[],[],a,b,_,h=>by cases h
 |[],_::_,a,b,e,_=>by simp at e
 |_::_,[],a,b,e,_=>by simp at e
 |x::s,y::t,a,b,e,h=>by
  rw[HT.Xq]at h;rw[Et,Et,HT.Xq];split
  .rename_i q;rw[if_pos q]at h;show bF a b (by simpa using e) h
  .rename_i q;rwa[if_neg q]at h
def vP(h:VB a b):a≠b:=λe=>by subst e;have:=WT a;rw[h]at this;cases this
def bE(h:VB a b)(k:VB b a):False:=vP (Wx h k) rfl
def bD:∀{a b:Ab},a.Pairwise VB->b.Pairwise VB->(∀z,z∈a↔z∈b)->a=b
 |[],[],_,_,_=>rfl
 |[],y::b,_,_,h=>absurd ((h y).mpr Yc) B
 |x::a,[],_,_,h=>absurd ((h x).mp Yc) B
 |x::a,y::b,ha,hb,h=>by
  let⟨h1,h2⟩:=YT.mp ha;let⟨h3,h4⟩:=YT.mp hb;let e:x=y:=by
   rcases Yh.mp ((h x).mp Yc) with e|hx
   .show e
   .rcases Yh.mp ((h y).mpr Yc) with e|hy
    .show e.symm
    .show(bE (h3 x hx)<|h1 y hy).elim
  subst e;rw[bD h2 h4 λz=>?_];constructor
  .intro hz;show(Yh.mp<|(h z).mp (Ye _ hz)).resolve_left λe=>vP (h1 z hz) e.symm
  .intro hz;show(Yh.mp<|(h z).mpr (Ye _ hz)).resolve_left λe=>vP (h3 z hz) e.symm
def bC{a:Ab}(h:a.Pairwise λx y=>HT.lexLt y x=false)(hn:a.Nodup):a.Pairwise VB:=by
 show(h.and hn).imp ?_;rintro x y ⟨h1,h2⟩;change HT.lexLt x y=true
 cases e:HT.lexLt x y with
 |true=>rfl
 |false=>show absurd (Xo e h1) h2
def Zk7{a:Ab}(h:a.Pairwise VB):a.Nodup:=h.imp λh=>vP h
def m8(m:Int):∀k,∀l∈Ox m k,l.length=k
 |0,l,h=>by rw[XG.mp h];rfl
 |k+1,l,h=>by let⟨s,hs,hl⟩:=List.mem_flatMap.mp h;let⟨t,_,_,rfl⟩:=Wb.mp hl;rw[Xw,m8 m k s hs];rfl
def Bn(m:Int):∀k,(Ox m k).Pairwise VB
 |0=>Ky ..
 |k+1=>by
  change((Ox m k).flatMap (Tb m)).Pairwise VB;rw[List.pairwise_flatMap];exists λs _=>?_,ur (λ{s t} hs ht WV=>?_)<|Bn m k
  .unfold Tb;rw[MD];show ED.imp λ{i j} WM=>?_;change HT.lexLt _ _=true
   rw[bG,HT.Xq,if_neg J];show Yv J
  .intro x hx y hy;let⟨u,_,_,rfl⟩:=Wb.mp hx;let⟨v,_,_,rfl⟩:=Wb.mp hy;show bF _ _ (by rw[m8 m k s hs,m8 m k t ht]) WV
def Hk{α:Type}[DecidableEq α]:∀{l m:List α},l.Nodup->(∀x∈l,x∈m)->l.length<=m.length
 |[],m,_,_=>Ym _
 |x::l,m,h,hs=>by
  let⟨h1,h2⟩:=Qb.mp h;let hx:=hs x Yc
  have:=Hk (l:=l) (m:=m.erase x) h2 λy hy=>(uc λ(e:y=x)=>h1<|e▸hy).mpr (hs y<|Ye _ hy)
  rw[uu hx]at this
  have:=xV hx
  rw[YF];grind
end My
namespace L2
open PySem PySem.Spec PyProof.Rows
def Bm(i j:Int):(Prop):=(-(10^200)<i/\i<10^200)/\(-(10^200)<j/\j<10^200)
def bB(h1:-(10^200)<a)(h2:a<10^200):Builtin.Int.intBits a<=1000:=by let h:a.natAbs<10^200:=DW;show PySem.intBits_le_iff.mpr (Nat.lt_trans h sZ)
section
variable{X:Cx}
def Ob:Wz X (binaryOp .Mult) (rI Bm λi j=>.int (i*j)):=Iu λ_ _ _ _ _ _ _ hc q=>mul_int q (.of_bits (Yr (bB hc.1.1 hc.1.2) sZ)<|Yr (bB hc.2.1 hc.2.2) sZ)
end
end L2
namespace My
open PySem L2
def Bl(g:Zu n ps)(hT:Zg n ps T)(z0:0<=z)(z1:z<ps⁻¹):Conn (XS ps (Sq n ps T z T)) (Zp ps z).1 (Zp ps z).2:=by
 let he:=Td (z:=z) g z0 z1;let key:∀D:Ac,(∀o∈D,o∈T/\z∉UH n ps T o)->Conn (XS ps<|T.filter λy=>decide<|y∉D) (Zp ps z).1 (Zp ps z).2:=by
  intro D
  induction D with
  |nil=>
   intro _;let e:(T.filter λy=>decide<|y∉([]:Ac))=T:=IS.mpr λy _=>B
   rw[e];show hT.2.2 _ _ he.1 he.2
  |cons o D ih=>
   intro hD;let c:=ih λy hy=>hD y (Ye _ hy)
   let⟨vN,xf⟩:=hD o Yc;cases wY:o∈D
   .show c.mono (ZG λy hy=>?_);let⟨h1,h2⟩:=Yd.mp hy;let h2:=Yy h2
    show Yd.mpr ⟨h1,Yv λh=>(Yh.mp h).elim (λe=>h2<|e▸wY) h2⟩
   .show YD λPM=>?_;let Bk:∀y,y∈(T.filter λy=>decide<|y∉o::D)->y∈wo T o:=λy hy=>by
     let⟨h1,h2⟩:=Yd.mp hy;let h2:=Yy h2
     show Xl.mpr ⟨h1,λe=>h2<|by rw[e];show Yc⟩
    let c2:Conn (XS ps<|(T.filter λy=>decide<|y∉o::D)++[o]) (Zp ps z).1 (Zp ps z).2:=(Tf λy=>by
     rw[XA,Yd,Yd,XG];simp only[Je,Yh,not_or];constructor
     .rintro⟨h1,h2⟩;cases e:y=o
      .show .inr e
      .show .inl ⟨h1,e,h2⟩
     .rintro(⟨h1,_,h2⟩|e)
      .exists h1,h2
      .rw[e];exists vN,wY).mp c
    let UL:∀y∈(T.filter λy=>decide<|y∉o::D),0<=y/\y<ps⁻¹:=λy hy=>hT.1.all y (Yd.mp hy).1;let⟨o0,o1⟩:=hT.1.all o vN;let Wl:InN n.toNat (XS ps<|T.filter λy=>decide<|y∉o::D):=ZL g UL
    let m7:InN n.toNat (XS ps<|(T.filter λy=>decide<|y∉o::D)++[o]):=ZL g λy hy=>by
     rcases XA.mp hy with h|h
     .show UL y h
     .rw[XG.mp h];exists o0,o1
    let RY:=Td (z:=o) g o0 o1;let hl:=ZA n.toNat (XS ps<|T.filter λy=>decide<|y∉o::D)
    let own:¬Conn (XS ps<|wo T o) (Zp ps o).1 (Zp ps o).2:=(ZW g hT o0 o1).mp ((Ce g hT vN vN).mpr Z);let cw:Conn (XS ps<|wo T o) (Zp ps z).1 (Zp ps z).2:=YD λh=>xf ((ZW g hT z0 z1).mpr h)
    let up:∀{i j:Nat},i<n.toNat->j<n.toNat->mk (WX n.toNat<|XS ps<|T.filter λy=>decide<|y∉o::D) i=mk (WX n.toNat<|XS ps<|T.filter λy=>decide<|y∉o::D) j->Conn (XS ps<|wo T o) i j:=λhi hj e=>((ZT Wl hi hj).mp e).mono (ZG Bk);let m:=(ZT m7 he.1 he.2).mpr c2
    rw[Te,Na,CG J J]at m;rcases m with m|⟨m1,m2⟩
    .show PM ((ZT Wl he.1 he.2).mp m)
    .rcases m1 with m1|m1<;>rcases m2 with m2|m2
     .show PM ((ZT Wl he.1 he.2).mp (m1.trans m2.symm))
     .show own (((up he.1 RY.1 m1).symm.trans cw).trans (up he.2 RY.2 m2))
     .show own (((up he.2 RY.1 m2).symm.trans cw.symm).trans (up he.1 RY.2 m1))
     .show PM ((ZT Wl he.1 he.2).mp (m1.trans m2.symm))
 let c:=key (T.filter λy=>decide<|z∉UH n ps T y) λo ho=>by let⟨h1,h2⟩:=Yd.mp ho;exists h1,Yy h2
 show c.mono (ZG λy hy=>?_);let⟨h1,h2⟩:=Yd.mp hy;let h2:=Yy h2
 show Vr.mpr ⟨h1,YD λh=>h2<|Yd.mpr ⟨h1,Yv h⟩⟩
def m6{a b:Ac}(ha:a.Pairwise (·<·))(hb:b.Pairwise (·<·))(h:∀z,z∈a↔z∈b):a=b:=
 (Ca ha hb λz hz=>(h z).mp hz).eq_of_length (tP (Ca ha hb λz hz=>(h z).mp hz).length_le (Ca hb ha λz hz=>(h z).mpr hz).length_le)
def mZ{i:Int}(h0:0<=i):WK xs (some i) none=xs.drop i.toNat:=by
 let e:HT.Vb xs.length 0 (some i)=min i.toNat xs.length:=by change(if i<0 then (i+xs⁻¹).toNat else min i.toNat xs.length)=_;rw[if_neg J]
 unfold WK;rw[e,HT.Sw,YJ (by rw[YW];show XN _)];cases h:i.toNat<=xs.length
 .rw[FP h]
 .rw[tV J,YO<|XN _,YO DW]
def cutz{α:Type}(l:List α)(z:Int):(List α):=l.take z.toNat++l.drop (z.toNat+1)
def mY{z:Int}(h0:0<=z):WK xs none (some z)++WK xs (some (z+1)) none=cutz xs z:=by rw[cx h0,mZ J,show(z+1).toNat=z.toNat+1 by lia];rfl
def mX{α:Type}(l:List α)(z:Int):(cutz l z).length<=l.length:=by unfold cutz;rw[Xw,Yl,YW];grind
def dn(lo hi i:Int):(Int):=if i=hi then lo else if i<hi then i else i-1
def bA(i:Nat):VS (i+1)=VS i++[(i:Int)]:=by unfold VS;rw[Er,YQ];rfl
end My
namespace L2
open PySem PySem.Spec PyProof.Rows
def Ln{N a b:St->Hp->Prop}{r:VK}{σ:St}{H:Hp}(h:N σ H):Ends.nx {nx:=N,rt:=r,bk:=a,ct:=b} σ H:=h
end L2
namespace My
def Bj{α:Type}{l:List α}(h:l.length=1):∃a,l=[a]:=by
 cases l with
 |nil=>cases h
 |cons a l=>cases l with
  |nil=>exists a,Z
  |cons b l=>simp at h
def Bi{α:Type}{l:List α}(h:l.length=2):∃a b,l=[a,b]:=by
 cases l with
 |nil=>cases h
 |cons a l=>
  let⟨b,rfl⟩:=Bj (Mt h);exists a,b,Z
def Bh{α:Type}{l:List α}(h:l.length=3):∃a b c,l=[a,b,c]:=by
 cases l with
 |nil=>cases h
 |cons a l=>
  let⟨b,c,rfl⟩:=Bi (Mt h);exists a,b,c,Z
def Bg{α:Type}{l:List α}(h:l.length=4):∃a b c d,l=[a,b,c,d]:=by
 cases l with
 |nil=>cases h
 |cons a l=>
  let⟨b,c,d,rfl⟩:=Bh (Mt h);exists a,b,c,d,Z
end My
namespace My
open PySem L2
def ZR{l:Ac}{f:Int->Bool}{y:Int}(h:l[i]?=some y):(l.take (i+1)).filter f=(l.take i).filter f++(if f y=true then [y] else []):=by
 rw[WB,h,QI];congr 1;cases e:f y=true
 .rw[if_pos e];change List.filter _ [y]=_;rw[YZ,if_pos e];rfl
 .rw[if_neg e];change List.filter _ [y]=_;rw[YZ,if_neg e];rfl
end My
namespace L2
open PySem PySem.Spec PyProof.Rows
section
variable{X:Cx}
def mW:(R2):=λx y H Q=>∃a b xs ys,x=.ref a/\y=.ref b/\H a=some (.tup xs)/\H b=some (.tup ys)/\xs.length+ys.length<=sizeLine/\∀r H',Same H H'->H' r=some (.tup<|xs++ys)->Q ↑r H'
def Bf(K:Ad)(hk:X.K=K:=by rfl):Wz X (binaryOp .Add) mW:=by
 intro pins s σ H x y v u Q I rx ry h;let⟨a,b,xs,ys,e1,e2,ha,hb,hz,q⟩:=h;show HE K hk pins s σ H x y v u Q I rx ry ⟨a,b,xs,ys,e1,e2,SqT.of ha,SqT.of hb,hz,λhx=>?_,λ_ hy=>?_,λ_ _ p hp=>q p _ (My.XZ hp) XQ⟩
 .subst hx;show q b H (Same.refl H) hb
 .subst hy;show q a H (Same.refl H) (by rwa[Yx])
end
end L2
namespace My
open PySem L2
def Conn.lift(h:∀e∈es,Conn fs e.1 e.2)(c:Conn es i j):Conn fs i j:=by
 induction c with
 |refl i=>show .refl i
 |edge e=>show h _ e
 |symm _ ih=>show ih.symm
 |trans _ _ Oa RU=>show Oa.trans RU
def mV(g:Zu n ps)(hT:Zg n ps T)(hW:Zg n ps W)(hz:z∈T)(hzW:z∉W):∃y,exg n ps T z y/\exg n ps W y z:=by
 let⟨z0,z1⟩:=hT.1.all z hz;show YD λPM=>?_;show(ZW g hT z0 z1).mp ((Ce g hT hz hz).mpr Z) ((Bl g hW z0 z1).lift λe he=>?_);unfold XS at he;let⟨y,hy,rfl⟩:=YN.mp he;let⟨mU,hyc⟩:=Vr.mp hy;let⟨y0,y1⟩:=hW.1.all y mU;let bw:y≠z:=λe=>hzW (e▸mU)
 have:=(ZW (o:=z) g hT y0 y1)
 show YD λh=>PM ⟨y,⟨hz,bw,this.mpr h⟩,⟨mU,Xc bw,hyc⟩⟩
def Zg6(g:Zu n ps)(hT:Zg n ps T)(UG:ms.Perm (wo T o++[z]))(hM:Zg n ps ms)(ho:o∈T)(hz:z∉T)(z0:0<=z)(z1:z<ps⁻¹):exg n ps T o z:=
 (Tc g hT).mpr ⟨ho,hz,z0,z1,λi j hi hj=>(Tf λy=>UG.mem_iff).mp (hM.2.2 i j hi hj)⟩
def mT(l:Ac):∃m:Ac,m.Perm l/\m.Pairwise (·<=·):=by
 induction l with
 |nil=>exists [],.refl _,.nil
 |cons x l ih=>
  let⟨m,h1,h2⟩:=ih;let key:∀m:Ac,m.Pairwise (·<=·)->∃k:Ac,k.Perm (x::m)/\k.Pairwise (·<=·):=by
   intro m
   induction m with
   |nil=>intro _;exists [x],.refl _,Ky _ _
   |cons y m RU=>
    intro hp;let⟨hy,hm⟩:=YT.mp hp;cases Lo:x<=y
    .exists x::y::m,.refl _,YT.mpr ⟨λz hz=>?_,hp⟩;rcases Yh.mp hz with e|e
     .rw[e];show Lo
     .show FK Lo (hy z e)
    .let⟨k,k1,k2⟩:=RU hm;exists y::k,(k1.cons y).trans (List.Perm.swap x y m),YT.mpr ⟨λz hz=>?_,k2⟩;rcases Yh.mp (k1.mem_iff.mp hz) with e|e
     .rw[e];lia
     .show hy z e
  let⟨k,k1,k2⟩:=key m h2;exists k,k1.trans<|h1.cons x,k2
def mS(s:SameP M N):cnt M=cnt N:=by
 unfold cnt Vf;rw[<-s.1];show QP List.length (SF λp hp=>?_);let hp:=YY.mp hp
 rw[Pp,XB,XB];constructor
 .intro h i hi e;show h i hi ((s.2 i p J hp).mpr e)
 .intro h i hi e;show h i hi ((s.2 i p J hp).mp e)
def bu(g:Zu n ps)(hU:Zg n ps U):∀V:Ac,V.Nodup->(∀z∈V,z∈U)->WJ n.toNat ps V=V:=by
 show LF (λ_ _=>rfl) λV z ih hn hs=>?_;let RJ:=Wg.mp hn
 let hV:∀y∈V,y∈U:=λy hy=>hs y (Yf _ hy);let hz:z∈U:=hs z (Yg _<|XG.mpr Z)
 let hzV:z∉V:=λh=>RJ.2.2 z h z (XG.mpr Z) rfl;let⟨z0,z1⟩:=hU.1.all z hz;let he:=Td (z:=z) g z0 z1
 rw[LB,ih RJ.1 hV];unfold RA;rw[if_neg];intro e;let c:=(ZT (ZL g λy hy=>hU.1.all y<|hV y hy) he.1 he.2).mp e
 show(ZW g hU z0 z1).mp ((Ce g hU hz hz).mpr Z) (c.mono<|ZG λy hy=>Xl.mpr ⟨hV y hy,λe'=>hzV<|by rwa[<-e']⟩)
def mR{as bs:Ac}(g:Zu n ps)(h:∀y∈as,0<=y/\y<ps⁻¹)(z0:0<=z)(z1:z<ps⁻¹)(hz:z∉WJ n.toNat ps (as++z::bs)):Conn (XS ps (WJ n.toNat ps as)) (Zp ps z).1 (Zp ps z).2:=by
 let⟨us,e,_⟩:=vX n.toNat ps (as++[z]) bs;rw[Yw]at e;let e:WJ n.toNat ps (as++z::bs)=WJ n.toNat ps (as++[z])++us:=e
 rw[e,LB]at hz;let he:=Td (z:=z) g z0 z1
 show(ZT (Fm g h) he.1 he.2).mp (YD λXM=>hz ?_);unfold RA;rw[if_neg XM];show Yf _ (Yg _<|XG.mpr Z)
def mQ{as bs:Ac}{y:Int}(h:y∈WJ n ps as):y∈WJ n ps (as++bs):=by let⟨us,e,_⟩:=vX n ps as bs;rw[e];show Yf _ h
def br{α:Type}(p:α->Bool)(l:List α):(l.filter p).length+(l.filter λx=>!p x).length=l.length:=by
 induction l with
 |nil=>rfl
 |cons x l ih=>
  rw[YZ,YZ];cases p x with
  |true=>simp only[US,Bool.not_true,Rn,Sd,YF];lia
  |false=>simp only[Bool.not_false,US,Rn,Sd,YF];lia
def Fr(n:Nat)(ps:Aa)(l:Ac):(Bool):=decide (WJ n ps l=l)
def Fr.nil(n:Nat)(ps:Aa):Fr n ps []=true:=Yv rfl
def QU:Fr n ps (l++[z])=true↔Fr n ps l=true/\mk (WX n (XS ps l)) (Zp ps z).1≠mk (WX n (XS ps l)) (Zp ps z).2:=by
 unfold Fr;rw[YV,YV,LB];constructor
 .intro h;unfold RA at h;split at h
  .have:=(BX n ps l).length_le
   rw[h,Xw]at this;let h1:[z].length=1:=rfl
   lia
  .rename_i XM;let e:=(List.append_inj' h Z).1
   rw[e]at XM;exists e,XM
 .rintro⟨e,XM⟩;rw[e];unfold RA;rw[if_neg XM]
def VV(n:Nat)(ps:Aa)(k:Nat):(Ab):=(Ox ps⁻¹ k).filter (Fr n ps)
def bq(g:Zu n ps):l∈VV n.toNat ps (n-1).toNat↔Zg n ps l:=by
 unfold VV;rw[Yd,VY];let g1:=g.1
 constructor
 .rintro⟨⟨h1,h2⟩,h3⟩;let e:WJ n.toNat ps l=l:=Yy h3
  let c:=vW g l h2.all;rw[e]at c;exists h2,J,(MY sV<|ZL g h2.all).mp sV
 .intro h;exists ⟨by have:=h.2.1;lia,h.1⟩,Yv<|bu g h l h.1.nodup λz hz=>hz
def vM(hT:Zg n ps T):T.Pairwise (·<·):=(XW.mp hT.1).2
def UB{a:Ac}(h:a.Pairwise (·<=·))(hn:a.Nodup):a.Pairwise (·<·):=(h.and hn).imp λh=>by have:=h.1;have:=h.2;lia
def mP(g:Zu n ps):∀zs:Ac,(∀z∈zs,0<=z/\z<ps⁻¹)->(WJ n.toNat ps zs).Nodup:=by
 show LF (λ_=>List.Pairwise.nil) λzs z ih hb=>?_;let OP:∀y∈zs,0<=y/\y<ps⁻¹:=λy hy=>hb y (Yf _ hy)
 let⟨z0,z1⟩:=hb z (Yg _<|XG.mpr Z);let he:=Td (z:=z) g z0 z1
 rw[LB];unfold RA;split
 .show ih OP
 .next XM=>
  show Wg.mpr ⟨ih OP,B,λa ha b mO e=>?_⟩;rw[XG.mp mO]at e;subst e;show XM ((ZT (Fm g OP) he.1 he.2).mpr (.edge ?_));show YN.mpr ⟨a,ha,Z⟩
def Zd6(g:Zu n ps)(hb:∀z∈zs,0<=z/\z<ps⁻¹)(hl:¬((WJ n.toNat ps zs).length:Int)<n-1)(UG:ms.Perm (WJ n.toNat ps zs))(Oy:ms.Pairwise (·<=·)):Zg n ps ms:=by
 let g1:=g.1;let h2:=vW g zs hb
 let h3:=vZ (M:=WX n.toNat<|XS ps<|WJ n.toNat ps zs) (by rw[ZA];grind);let NZ:=(MY sV<|Fm g hb).mp sV
 show⟨XW.mpr ⟨λz hz=>hb z<|(BX _ _ _).subset (UG.mem_iff.mp hz),UB Oy<|UG.nodup_iff.mpr<|mP g zs hb⟩,by rw[UG.length_eq];grind,λi j hi hj=>?_⟩;show(Tf λy=>UG.mem_iff).mpr (NZ i j hi hj)
def mM{I os U:Ac}(g:Zu n ps)(hU:Zg n ps U)(hI:I.Nodup)(mL:∀z∈I,z∈U)(mK:∀z∈U,z∈I++os)(hb:∀z∈I++os,0<=z/\z<ps⁻¹):(WJ n.toNat ps (I++os)).take I.length=I/\¬((WJ n.toNat ps (I++os)).length:Int)<n-1:=by
 let g1:=g.1;let⟨us,e,_⟩:=vX n.toNat ps I os;rw[bu g hU I hI mL]at e;show⟨by rw[e,List.take_left],?_⟩;let NZ:∀i j,i<n.toNat->j<n.toNat->Conn (XS ps<|WJ n.toNat ps<|I++os) i j:=λi j hi hj=>nZ g _ hb ((hU.2.2 i j hi hj).mono (ZG mK))
 let h1:=(MY J<|Fm g hb).mpr NZ;let h2:=vW g (I++os) hb
 grind
def vL{p r:Ac}{x:Int}(h:(p++x::r).Pairwise (·<·)):(∀z∈p,z<x)/\∀z∈x::r,x<=z:=by
 let a:=YH.mp h;exists λz hz=>a.2.2 z hz x Yc,λz hz=>?_;rcases Yh.mp hz with h|h
 .rw[h];show SD _
 .show IW ((YT.mp a.2.1).1 z h)
def Zt7{I os U F:Ac}(g:Zu n ps)(hU:Zg n ps U)(mL:∀z∈I,z∈U)(mK:∀z∈U,z∈I++os)(hb:∀z∈I++os,0<=z/\z<ps⁻¹)(ho:os.Pairwise (·<·))(hF:Zg n ps F)(hf:F.Perm (WJ n.toNat ps (I++os)))(hIF:∀z∈I,z∈F):HT.lexLt U F=false:=by
 cases RT:HT.lexLt U F with
 |false=>rfl
 |true=>
  exfalso;let⟨p,x,y,r,s,eU,ef,Lo⟩:=cC (by have:=hF.2.1;have:=hU.2.1;lia) RT
  let Hj:x∈U:=by rw[eU];show Yg _ Yc
  let⟨x0,x1⟩:=hU.1.all x Hj;let aU:=vL (eU▸vM hU)
  let aF:=vL (ef▸vM hF);let mJ:x∉F:=λh=>by
   rw[ef]at h;rcases XA.mp h with h|h
   .have:=aU.1 x h
    lia
   .have:=aF.2 x h
    lia
  let hxI:x∉I:=λh=>mJ (hIF x h);let hxo:x∈os:=(XA.mp<|mK x Hj).resolve_left hxI
  let⟨as,bs,eo⟩:=List.append_of_mem hxo;let ao:=vL (eo▸ho)
  let OP:∀z∈I++as,0<=z/\z<ps⁻¹:=λz hz=>hb z ((XA.mp hz).elim (λh=>Yf _ h) λh=>Yg _<|by rw[eo];show Yf _ h);let hxG:x∉WJ n.toNat ps ((I++as)++x::bs):=by rw[Yw,<-eo];show λh=>mJ (hf.mem_iff.mpr h)
  let c:=mR g OP x0 x1 hxG;show(ZW g hU x0 x1).mp ((Ce g hU Hj Hj).mpr Z) (c.mono<|ZG λz hz=>?_);let Fd:z∈F:=hf.mem_iff.mpr (by
   have:=mQ (bs:=x::bs) hz
   rwa[Yw,<-eo]at this)
  let hzx:z≠x:=λe=>mJ (e▸Fd);show Xl.mpr ⟨?_,hzx⟩;rcases XA.mp ((BX _ _ _).subset hz) with h|h
  .show mL z h
  .let h1:=ao.1 z h;rw[ef]at Fd;rcases XA.mp Fd with h|h
   .rw[eU];show Yf _ h
   .have:=aF.2 z h
    lia
def With(n:Int)(ps:Aa)(I O U:Ac):(Prop):=Zg n ps U/\(∀z∈I,z∈U)/\∀z∈O,z∉U
def With.sub{I O U os:Ac}(h:With n ps I O U)(ho:∀z,z∈os↔(0<=z/\z<ps⁻¹)/\z∉O):∀z∈U,z∈I++os:=λz hz=>Yg _ ((ho z).mpr ⟨h.1.1.all z hz,λh2=>h.2.2 z h2 hz⟩)
def mI{L:Ab}(h:L.Pairwise VB){i j:Nat}{a b:Ac}(hi:L[i]?=some a)(hj:L[j]?=some b)(WM:i<j):VB a b:=by
 let⟨h1,e1⟩:=Xy.mp hi;let⟨h2,e2⟩:=Xy.mp hj
 have:=UT.mp h i j h1 h2 WM
 rwa[e1,e2]at this
def TC(n:Int)(ps:Aa)(c:Nat):(Prop):=∃L:Ab,L.Nodup/\(∀l,l∈L↔Zg n ps l)/\L.length=c
def TC.uniq(h1:TC n ps c)(h2:TC n ps d):c=d:=by let⟨L,a1,a2,rfl⟩:=h1;let⟨M,b1,b2,rfl⟩:=h2;show((Kz a1 b1).mpr λl=>by rw[a2,b2]).length_eq
def NY:IsSet (m+1) (T++[(m:Int)])↔IsSet m T:=by
 constructor
 .intro h;let a:=XW.mp h
  let b:=YH.mp a.2;show XW.mpr ⟨λz hz=>?_,b.1⟩;let c:=a.1 z (Yf _ hz)
  let d:=b.2.2 z hz m (XG.mpr Z);omega
 .show λh=>h.snoc
def mH(h:IsSet (m+1) T):IsSet m T\/∃T',T=T'++[(m:Int)]/\IsSet m T':=by
 let a:=XW.mp h;cases hm:(m:Int)∈T
 .let⟨p,r,e⟩:=List.append_of_mem hm;let b:=vL (e▸a.2)
  cases r with
  |nil=>show .inr ⟨p,e,NY.mp<|e▸h⟩
  |cons y r=>
   let h1:=a.1 y (by rw[e];simp);let h2:=(YT.mp (YH.mp<|e▸a.2).2.1).1 y Yc
   omega
 .show .inl (XW.mpr ⟨λz hz=>?_,a.2⟩);let h1:=a.1 z hz
  let h2:z≠(m:Int):=λe=>hm (e▸hz);lia
def bp{es:List (Nat×Nat)}{a b i j:Nat}(c:Conn (es++[(a,b)]) i j):Conn (es++[(b,a)]) i j:=c.lift λe he=>by
 rcases XA.mp he with q|q
 .show .edge (Yf _ q)
 .rw[XG.mp q];show .symm (.edge B)
def UA(n:Nat)(ps:Aa):(Nat->Ab)
 |0=>[[]]
 |i+1=>UA n ps i++((UA n ps i).map (·++[(i:Int)])).filter (Fr n ps)
def Wo:∀{i:Nat},l∈UA n ps i↔IsSet i l/\Fr n ps l=true
 |0=>by
  change l∈[[]]↔_;rw[XG];constructor
  .rintro rfl;exists IsSet.nil 0,Fr.nil n ps
  .rintro⟨h,_⟩;show YM.mp (by have:=h.len;lia)
 |i+1=>by
  change l∈UA n ps i++_↔_;rw[XA,Wo,Yd,YN];constructor
  .rintro(⟨h1,h2⟩|⟨⟨s,hs,rfl⟩,h2⟩)
   .exists h1.up,h2
   .exists (Wo.mp hs).1.snoc,h2
  .rintro⟨h1,h2⟩;rcases mH h1 with e|⟨s,rfl,e2⟩
   .show .inl ⟨e,h2⟩
   .show .inr ⟨⟨s,Wo.mpr ⟨e2,(QU.mp h2).1⟩,Z⟩,h2⟩
def mG(n:Nat)(ps:Aa):∀i:Nat,(UA n ps i).Nodup
 |0=>Ky ..
 |i+1=>by
  show Wg.mpr ⟨mG n ps i,Mn IT<|List.Pairwise.map _ (λa b h e=>h<|Ef e)<|mG n ps i,λx hx y hy e=>?_⟩;let⟨s,_,e2⟩:=YN.mp (Yd.mp hy).1;let h1:=(Wo.mp hx).1.all (i:Int) (by rw[e,<-e2];simp)
  lia
def bo(n:Nat)(ps:Aa):∀i:Nat,(UA n ps i).length<=2^i
 |0=>XN 1
 |i+1=>by
  change(UA n ps i++_).length<=_;rw[Xw,Nat.pow_succ];let h1:=bo n ps i
  let h2:(((UA n ps i).map (·++[(i:Int)])).filter (Fr n ps)).length<=(UA n ps i).length:=Yr (YG ..) (by rw[Yb];show XN _);grind
def Be(n:Nat)(ps:Aa)(h:i<=10):(UA n ps i).length<=1024:=Yr (bo n ps i) (xT sZ h)
def mF(g:Zu n ps):(l∈UA n.toNat ps ps.length/\l⁻¹=n-1)↔Zg n ps l:=by
 rw[<-bq g,Wo];unfold VV;let g1:=g.1
 rw[Yd,VY];constructor
 .rintro⟨⟨a,b⟩,c⟩;exists ⟨J,a⟩,b
 .rintro⟨⟨a,b⟩,c⟩;exists ⟨b,c⟩,DW
def PhL(n:Nat)(ps:Aa)(H:Hp)(x:V)(l:Ac):(Prop):=∃t p h,x=.ref t/\H t=some (.tup [.ref p,.ref h])/\H p=some (.tup<|IL l)/\H h=some (.lst<|IL<|WX n<|XS ps l)
def PhM(n:Nat)(ps:Aa)(d:Addr)(H:Hp)(x:V)(l:Ac):(Prop):=∃t p h,x=.ref t/\H t=some (.tup [.ref p,.ref h])/\H p=some (.tup<|IL l)/\H h=some (.lst<|IL<|WX n<|XS ps l)/\h≠d
def PhL.same(s:Same H H')(h:PhL n ps H x l):PhL n ps H' x l:=by let⟨t,p,q,e,h1,h2,h3⟩:=h;exists t,p,q,e,s _ _ h1,s _ _ h2,s _ _ h3
def PhM.same(s:Same H H')(h:PhM n ps d H x l):PhM n ps d H' x l:=by let⟨t,p,q,e,h1,h2,h3,h4⟩:=h;exists t,p,q,e,s _ _ h1,s _ _ h2,s _ _ h3,h4
def PhM.low(h:PhM n ps d H x l):PhL n ps H x l:=by let⟨t,p,q,e,h1,h2,h3,h4⟩:=h;exists t,p,q,e,h1,h2,h3
def PhM.mut{ys zs:List V}(h:PhM n ps d H x l)(hd:H d=some (.lst ys)):PhM n ps d (upd H d (.lst zs)) x l:=by let⟨t,p,q,e,h1,h2,h3,h4⟩:=h;exists t,p,q,e,by rw[XJ (PX h1 hd (λz=>nomatch z))];show h1,by rw[XJ (PX h2 hd (λz=>nomatch z))];show h2,by rw[XJ h4];show h3,h4
def Bears.app{α:Type}[DecidableEq α]{R:V->α->Prop}{xs ys:List V}{l m:List α}(h:Bears R xs l)(h2:Bears R ys m):Bears R (xs++ys) (l++m):=by
 show⟨by rw[Xw,Xw,h.1,h2.1],λi a e=>?_⟩;let hl:=h.1
 cases c:i<l.length
 .rw[Yn c]at e;let⟨x,e1,r⟩:=h.2 i a e;exists x,by rw[Yn J];show e1,r
 .rw[Yk J]at e;let⟨x,e1,r⟩:=h2.2 _ a e;exists x,by rw[Yk J,hl];show e1,r
def Hi{a b M N:Int}(a0:0<=a)(aM:a<M)(b0:0<=b)(bN:b<N):0<=a*b/\a*b<M*N:=⟨Int.mul_nonneg a0 b0,Int.lt_of_le_of_lt (Int.mul_le_mul_of_nonneg_left (IW bN) a0)<|Int.mul_lt_mul_of_pos_right aM J⟩
def PairsV.set(h:PairsV H xs ps)(i:Nat)(q:PairV H v p):PairsV H (xs.set i v) (ps.set i p):=by
 show⟨by rw[Mz,Mz];show h.1,λj x e=>?_⟩;let hl:=h.1
 cases c:i=j
 .subst c;rw[MC]at e;rw[if_pos Z]at e;cases Xm:i<ps.length
  .rw[if_pos Xm]at e;let rfl:=Yi e;exists v,by rw[MC,if_pos Z,if_pos J],q
  .rw[if_neg Xm]at e;cases e
 .rw[MC,if_neg c]at e;let⟨w,e1,r⟩:=h.2 j x e;exists w,by rw[MC,if_neg c];show e1,r
end My
namespace L2
open PySem PySem.Spec PyProof.Rows
def Fc(K:Ad)(a b:Addr):(It):=
 ⟨λi H=>∃xs ys x y,SqL K H a xs/\SqL K H b ys/\xs[i]?=some x/\ys[i]?=some y,λi H v H'=>∃T x y,H T=none/\v=.ref T/\H'=upd H T (.tup [x,y])/\(∀xs,SqL K H a xs->xs[i]?=some x)/\∀ys,SqL K H b ys->ys[i]?=some y,
  λi H=>∃xs ys,SqL K H a xs/\SqL K H b ys/\(xs.length<=i\/ys.length<=i)⟩
def mE{P:Program}{w:World}{K:Ad}{elts:List Expr}{x1:Nat}{pos:Pos}(a b z TI TO i1 i2:Addr)(D:ZipApart z TI TO i1 i2 a b):
  Turn P w K (.Tuple elts x1 pos) (Fc K a b) [z,TI,TO,i1,i2] z (λi h=>IsZip h z TI TO .none/\IsPair h TI ↑i1 ↑i2/\(∃c d,IsPair h TO c d)/\h.IsListIter i1 a i/\h.IsListIter i2 b i) where
 mem:=B
 obj:=λi h st c hc=>by
  let⟨hz,NX,⟨u,v,MS⟩,⟨o1,e1,_,d1⟩,⟨o2,e2,_,d2⟩⟩:=st;let VU:c=z\/c=TI\/c=TO\/c=i1\/c=i2:=by simpa using hc
  rcases VU with rfl|rfl|rfl|rfl|rfl
  .exists _,hz,λv q=>by let q':Data.fields _=Data.cell v:=q;cases q'
  .exists _,NX,λv q=>by let q':Data.seq _ _=Data.cell v:=q;cases q'
  .exists _,MS,λv q=>by let q':Data.seq _ _=Data.cell v:=q;cases q'
  .exists o1,e1,λv q=>by rw[d1]at q;cases q
  .exists o2,e2,λv q=>by rw[d2]at q;cases q
 keep:=λi h h' st k=>by let⟨hz,NX,⟨u,v,MS⟩,h1,h2⟩:=st;exists k z B _ hz,k TI B _ NX,⟨u,v,k TO B _ MS⟩,h1.at λo e=>k i1 B o e,h2.at λo e=>k i2 B o e
 item:=by
  intro X hP hw hK hc i pins s σ H E I hf st hg;subst hP hw hK;let⟨xs,ys,x,y,hq,RV,hx,hy⟩:=hg;let⟨hz,NX,⟨u0,v0,MS⟩,h1,h2⟩:=st;let⟨XX,rv,p,_⟩:=I.list hq;let⟨u,hu,ru⟩:=rv.get hx;let⟨Vt,vK,p2,_⟩:=I.list RV;let⟨v,hv,mD⟩:=vK.get hy;let fz:=hf z B
  let Qs:=hf TO B;let Qr:=hf i1 B
  let Qq:=hf i2 B;let qh:H (~~~s)=none:=I.hok.fresh (XN _)
  show wpAny_pyNext_zip_item D hz NX MS h1 h2 p.isList p2.isList (x:=u) (y:=v) (by simpa using hu) (by simpa using hv) λh' a1 a2 a3 a4 a5 hsz hk=>?_;let Nf:∀b ob,s.heap.get? b=some ob->b≠(~~~s):=λb ob z=>YB (Yo z)
  let OO:∀b ob,H b=some ob->b≠(~~~s):=λb ob z=>YB (I.hok.lt z);let Nd:∀c ob,H c=some ob->c≠z/\c≠TO/\c≠i1/\c≠i2:=λc ob q=>⟨λe=>(by rw[e,fz.1]at q;cases q),λe=>(by rw[e,Qs.1]at q;cases q),λe=>(by rw[e,Qr.1]at q;cases q),λe=>(by rw[e,Qq.1]at q;cases q)⟩
  let JK:∀c o,c∉[z,TO,i1,i2]->s.heap.get? c=some o->h'.get? c=some o:=λc o Wd q=>hk c o (λe=>Wd<|by simp[e]) (λe=>Wd<|by simp[e]) (λe=>Wd<|by simp[e]) (λe=>Wd<|by simp[e]) q;let I1:Inv X pins σ (upd H (~~~s)<|.tup [x,y]) {s with heap:=h'}:=by
   show I.step (g':=s.gens) (d':=s.drawn) (t':=s.toks) (ch:=[z,TO,i1,i2]) (λc hb=>?_) (λc o _ _ Wd q _=>JK c o Wd q) (λc o _ _ Wd q _=>⟨o.slots,JK c o Wd q⟩)
    (λc o _ q n=>by rwa[XJ (Nf c o q)]) (λc o Wd q=>⟨o,JK c o Wd q⟩) (λc ys q=>by rwa[XJ (OO c _ q)]) (λc o v q=>by rwa[XJ (OO c _ q)])
    (λc ps q=>⟨#[],by rw[XJ (OO c _ q),q];simp⟩) (λm hm=>?_) (λc v' q=>?_) I.bare
   .let VU:c=z\/c=TO\/c=i1\/c=i2:=by simpa using hb
    rcases VU with rfl|rfl|rfl|rfl
    .exists fz.2.2.2.1,fz.2.1,fz.2.2.2.2.1,fz.2.2.2.2.2
    .exists Qs.2.2.2.1,Qs.2.1,Qs.2.2.2.2.1,Qs.2.2.2.2.2
    .exists Qr.2.2.2.1,Qr.2.1,Qr.2.2.2.2.1,Qr.2.2.2.2.2
    .exists Qq.2.2.2.1,Qq.2.1,Qq.2.2.2.2.1,Qq.2.2.2.2.2
   .let⟨o,es,ep,WE,r⟩:=hm;exists o,es,ep,hk _ o (Xc fz.2.1) (Xc Qs.2.1) (Xc Qr.2.1) (Xc Qq.2.1) WE,r
   .cases hb:c=(~~~s)
    .subst hb;rw[XQ]at q;cases q;exists by change 2<=sizeLine;decide,[u,v],.cons ru<|.cons mD .nil,⟨_,a5,Z,_,Z⟩
    .rw[XJ hb]at q;show(I.hok c v' q).stay (λe w' VU q'=>?_) (λe q=>by rwa[XJ (OO e _ q)]) λe ys q=>by rwa[XJ (OO e _ q)]
     rcases VU with rfl|VU
     .have:=Nd e _ q
      show hk e w' this.1 this.2.1 this.2.2.1 this.2.2.2 q'
     .have:=Nd e _ VU
      show hk e w' this.1 this.2.1 this.2.2.1 this.2.2.2 q'
  exists _,Z,wpAny_letOwnedTupleGo_zip a1 λh2 BY Sx=>?_;let fT:z≠(~~~s):=Nf z _ hz
  let I2:Inv X pins σ (upd H (~~~s)<|.tup [x,y]) {s with heap:=h2}:=Inv.turned (s:={s with heap:=h'}) (h':=h2) (t':=s.toks) (it:=z) I1 (λb o hb q=>Sx.extBut b o hb q) (by rw[XJ fT];show fz.1) fz.2.1 fz.2.2.2.1 fz.2.2.2.2.1 fz.2.2.2.2.2;show⟨.ref (~~~s),_,I2,Z,⟨_,x,y,qh,Z,Z,λys Ib=>by rw[I.list_inj Ib hq];show hx,λys Ib=>by rwa[I.list_inj Ib RV]⟩,
   ⟨BY,Sx.extBut _ _ D.TIz (JK _ _ (by have:=D.TIz;have:=D.TITO;have:=D.TIi1;have:=D.TIi2;simp;exists D.TIz,D.TITO,D.TIi1,D.TIi2) NX),⟨u,v,Sx.extBut _ _ D.TOz a2⟩,a3.at λo q=>Sx.extBut i1 o D.i1z q,a4.at λo q=>Sx.extBut i2 o D.i2z q⟩,λc hc=>?_⟩
  let VU:c=z\/c=TI\/c=TO\/c=i1\/c=i2:=by simpa using hc
  let hn:=(hf c hc).1;rcases VU with rfl|rfl|rfl|rfl|rfl
  .rw[XJ fT];show hn
  .rw[XJ (Nf _ _ NX)];show hn
  .rw[XJ (Nf _ _ MS)];show hn
  .let⟨o,eo,_⟩:=h1;rwa[XJ (Nf _ o eo)]
  .let⟨o,eo,_⟩:=h2;rwa[XJ (Nf _ o eo)]
 done:=by
  intro X hP hw hK hc i pins s σ H E I hf st hg;subst hP hw hK;let⟨xs,ys,hq,RV,mC⟩:=hg;let⟨hz,NX,⟨u0,v0,MS⟩,h1,h2⟩:=st;let⟨XX,rv,p,_⟩:=I.list hq;let⟨Vt,vK,p2,_⟩:=I.list RV;let l1:=rv.length
  let l2:=vK.length;let fz:=hf z B
  let Qs:=hf TO B;let Qr:=hf i1 B
  let Qq:=hf i2 B;show wpAny_pyNext_zip_end (I.ok.hd hc) D hz NX MS h1 h2 p.isList p2.isList (by
   rcases mC with e|e
   .show .inl (by simp;lia)
   .show .inr<|by simp;lia) λh' hk=>⟨Z,?_⟩
  let JK:∀c o,c∉[z,TO,i1,i2]->s.heap.get? c=some o->h'.get? c=some o:=λc o Wd q=>hk c o (λe=>Wd<|by simp[e]) (λe=>Wd<|by simp[e]) (λe=>Wd<|by simp[e]) (λe=>Wd<|by simp[e]) q;let Nd:∀c ob,H c=some ob->c≠z/\c≠TO/\c≠i1/\c≠i2:=λc ob q=>⟨λe=>(by rw[e,fz.1]at q;cases q),λe=>(by rw[e,Qs.1]at q;cases q),λe=>(by rw[e,Qr.1]at q;cases q),λe=>(by rw[e,Qq.1]at q;cases q)⟩
  show I.step (g':=s.gens) (d':=s.drawn) (t':=s.toks) (ch:=[z,TO,i1,i2]) (λc hb=>?_) (λc o _ _ Wd q _=>JK c o Wd q) (λc o _ _ Wd q _=>⟨o.slots,JK c o Wd q⟩)
   (λc o _ q n=>n) (λc o Wd q=>⟨o,JK c o Wd q⟩) (λc ys q=>q) (λc o v q=>q)
   (λc ps q=>⟨#[],by rw[q];simp⟩) (λm hm=>?_) (λc v' q=>?_) I.bare
  .let VU:c=z\/c=TO\/c=i1\/c=i2:=by simpa using hb
   rcases VU with rfl|rfl|rfl|rfl
   .exists fz.2.2.2.1,fz.2.1,fz.2.2.2.2.1,fz.2.2.2.2.2
   .exists Qs.2.2.2.1,Qs.2.1,Qs.2.2.2.2.1,Qs.2.2.2.2.2
   .exists Qr.2.2.2.1,Qr.2.1,Qr.2.2.2.2.1,Qr.2.2.2.2.2
   .exists Qq.2.2.2.1,Qq.2.1,Qq.2.2.2.2.1,Qq.2.2.2.2.2
  .let⟨o,es,ep,WE,r⟩:=hm;exists o,es,ep,hk _ o (Xc fz.2.1) (Xc Qs.2.1) (Xc Qr.2.1) (Xc Qq.2.1) WE,r
  .show(I.hok c v' q).stay (λe w' VU q'=>?_) (λe q=>q) λe ys q=>q;rcases VU with rfl|VU
   .have:=Nd e _ q
    show hk e w' this.1 this.2.1 this.2.2.1 this.2.2.2 q'
   .have:=Nd e _ VU
    show hk e w' this.1 this.2.1 this.2.2.1 this.2.2.2 q'
 self:=λ_ _ _ _ _ st h=>wpAny_pyIter_zip st.1 h
def mB(K:Ad)(ta:TA):(TI):=λσ H R=>ta σ H λvs H1=>∃a b,vs=[.ref a,.ref b]/\(∃xs ys,SqL K H1 a xs/\SqL K H1 b ys)/\R (Fc K a b) H1
section
variable{X:Cx}
def Hh(K:Ad){elts:List Expr}{x1:Nat}{RI:Pos}{e f:Expr}{ta:TA}{p pos:Pos}(hg:Gl X "zip")(hm:X.mg "zip"=none)(ha:PA X [e,f] ta)(hs:starEach [e,f] X.env=(false,eval e X.env)::starEach [f] X.env:=by rfl)(Vg:(backTo pos<|starEach [f] X.env).any (·.1)=false:=by rfl)(hk:X.K=K:=by rfl):
  PI X (.Tuple elts x1 RI) (.Call (.Name "zip" p) [e,f] [] pos) (mB K ta):=by
 subst hk;intro pins s σ H R I h;show Call_ (PV I hg hm Boot.«zip»<|Ji (thn (ha pos pins s σ H _ I h) λus s1 Xv=>?_) hs Vg);let⟨vs,H1,I1,r1,q1⟩:=Xv;let⟨a,b,ev,⟨xs,ys,hq,RV⟩,q⟩:=q1;subst ev;let⟨u,u',rfl,ru,ru'⟩:=Im r1;let rfl:u=Value.ref a:=ru;let rfl:u'=Value.ref b:=ru';let⟨XX,rv,pl,_⟩:=I1.list hq;let⟨Vt,vK,bj,_⟩:=I1.list RV;let lt1:a<(~~~s1):=by let⟨_,_,e,_⟩:=pl;show Yo e
 let lt2:b<(~~~s1):=by let⟨_,_,e,_⟩:=bj;show Yo e
 let D:ZipApart ((~~~s1)+4) ((~~~s1)+2) ((~~~s1)+3) (~~~s1) ((~~~s1)+1) a b:=by
  let key:∀n x y:Nat,x<n->y<n->ZipApart (n+4) (n+2) (n+3) n (n+1) x y:=λn x y h1 h2=>by constructor<;>(intro q;let q':(_:Nat)=_:=q;lia)
  show key _ _ _ lt1 lt2
 show call_zip_2 pl.isList bj.isList λh' hz NX MS mz Uz hsz hk=>?_;show wpAny_pyIter_zip (s:={s1 with heap:=h'}) hz ?_;exists (~~~s1)+4,[(~~~s1)+4,(~~~s1)+2,(~~~s1)+3,(~~~s1),(~~~s1)+1],_,_,H1,Z,I1.kept (t':=s1.toks) hk,mE a b _ _ _ _ _ D,⟨hz,NX,⟨_,_,MS⟩,mz,Uz⟩,λc hc=>?_,q;let hle:(~~~s1)<=c:=by
  let VU:c=(~~~s1)+4\/c=(~~~s1)+2\/c=(~~~s1)+3\/c=(~~~s1)\/c=(~~~s1)+1:=by simpa using hc
  rcases VU with e|e|e|e|e<;>rw[e]<;>first|show XN _|show Nat.le_add_right _ _
 show I1.fpOk hle (I1.hok.fresh hle)
end
end L2
namespace My
open PySem L2
section
variable{K:Ad}{a b:Addr}{xs ys:List V}{g:TG}{tt:TT}{te:TE}{o:Nat}{fr:List Nat}{σ:St}{H:Hp}{Q:VK}
def my(Pv:Nat->List V->Hp->Prop)(h0:Pv 0 [] H)(Lo:xs.length=ys.length)(hz:xs.length<sizeLine)(hl:∀i zs H,i<=xs.length->Pv i zs H->SqL K H a xs/\SqL K H b ys/\zs.length<=i)
  (hs:∀(i:Nat) x y zs H (p:Addr),H p=none->xs[i]?=some x->ys[i]?=some y->Pv i zs H->Fy Pv g tt te o fr σ i ↑p zs (upd H p<|.tup [x,y]))(hd:∀zs H,Pv xs.length zs H->∀p,H p=none->Q ↑p (upd H p<|.lst zs)):Ki (Fc K a b) g tt te o fr σ H Q:=by
 exists λi m zs H=>m=xs.length-i/\i<=xs.length/\Pv i zs H,⟨xs.length,B,Ym _,h0⟩,?_;rintro i m zs H ⟨rfl,hi,p⟩;let⟨q,q2,hy⟩:=hl i zs H hi p;cases Xm:i<xs.length
 .show .inr ⟨⟨xs,ys,xs[i],ys[i]'(by lia),q,q2,by simp[Xm],Xs DW⟩,J,λx H' ⟨T,u,v,hT,ex,eH,hu,hv⟩=>?_⟩;subst ex eH;show hs i u v zs H T hT (hu xs q) (hv ys q2) p (λj zs H=>∃m',m'<xs.length-i/\m'=xs.length-j/\j<=xs.length/\Pv j zs H) λzs H p'=>⟨xs.length-(i+1),sV,Z,Xm,p'⟩
 .let e:i=xs.length:=J;subst e;show .inl ⟨⟨xs,ys,q,q2,.inl<|XN _⟩,J,hd zs H p⟩
end
end My
namespace My
abbrev Mx:=Nat->Nat->Int
def sm:(Nat->(Nat->Int)->Int)
 |0,_=>0
 |n+1,f=>sm n f+f n
def ZC{f g:Nat->Int}:∀{n:Nat},(∀i,i<n->f i=g i)->sm n f=sm n g
 |0,_=>rfl
 |n+1,h=>by change sm n f+f n=sm n g+g n;rw[ZC λi hi=>h i J,h n J]
def Hg{f g:Nat->Int}:∀{n:Nat},sm n (λi=>f i+g i)=sm n f+sm n g
 |0=>rfl
 |n+1=>by change sm n (λi=>f i+g i)+(f n+g n)=sm n f+f n+(sm n g+g n);rw[Hg];lia
def Qp{c:Int}{f:Nat->Int}:∀{n:Nat},sm n (λi=>c*f i)=c*sm n f
 |0=>(Rk c).symm
 |n+1=>by change sm n (λi=>c*f i)+c*f n=c*(sm n f+f n);rw[Qp,IV]
def SX:∀{n:Nat},sm n (λ_=>0)=0
 |0=>rfl
 |n+1=>by change sm n (λ_=>0)+0=0;rw[SX];rfl
def Hf{f:Nat->Int}(h:∀i,i<n->f i=0):sm n f=0:=by rw[ZC h];show SX
def Bc{f:Nat->Int}:∀{n:Nat},sm (n+1) f=f 0+sm n (λi=>f (i+1))
 |0=>by change 0+f 0=f 0+0;lia
 |n+1=>by change sm (n+1) f+f (n+1)=f 0+(sm n (λi=>f<|i+1)+f (n+1));rw[Bc];lia
def mx{f:Nat->Nat->Int}:∀{n:Nat},sm n (λi=>sm m (f i))=sm m (λj=>sm n λi=>f i j)
 |0=>SX.symm
 |n+1=>by change sm n (λi=>sm m<|f i)+sm m (f n)=sm m λj=>sm n (λi=>f i j)+f n j;rw[mx,Hg]
def sk(j k:Nat):(Nat):=if k<j then k else k+1
def mn(A:Mx)(j:Nat):(Mx):=λi k=>A (i+1) (sk j k)
def sg(j:Nat):(Int):=if j%2=0 then 1 else -1
def Lm(j:Nat):sg (j+1)=- sg j:=by
 unfold sg;cases h:j%2=0
 .rw[if_pos h,if_neg DW]
 .rw[if_neg h,if_pos J];rfl
def det:(Nat->Mx->Int)
 |0,_=>1
 |n+1,A=>sm (n+1) λj=>sg j*A 0 j*det n (mn A j)
def NW{j k n:Nat}(h:k<n):sk j k<n+1:=by unfold sk;split<;>lia
def Zi:∀{n:Nat}{A AP:Mx},(∀i j,i<n->j<n->A i j=AP i j)->det n A=det n AP
 |0,_,_,_=>rfl
 |n+1,A,AP,h=>ZC λj hj=>by rw[h 0 j J hj,Zi (A:=mn A j) (AP:=mn AP j) λi k hi hk=>h (i+1) (sk j k) J (NW hk)]
def He:∀{n:Nat}{A AP C:Mx}{c:Int}{i:Nat},i<n->(∀r j,r<n->j<n->r≠i->A r j=AP r j/\A r j=C r j)->(∀j,j<n->A i j=c*AP i j+C i j)->det n A=c*det n AP+det n C
 |0,_,_,_,_,_,hi,_,_=>absurd hi (Sf _)
 |n+1,A,AP,C,c,i,hi,h1,h2=>by
  change sm (n+1) (λj=>sg j*A 0 j*det n (mn A j))=c*sm (n+1) (λj=>sg j*AP 0 j*det n (mn AP j))+sm (n+1) λj=>sg j*C 0 j*det n (mn C j);rw[<-Qp,<-Hg];show ZC λj hj=>?_;cases i with
  |zero=>
   let e1:det n (mn AP j)=det n (mn A j):=Zi λr k hr hk=>(h1 (r+1) (sk j k) DW (NW hk) J).1.symm;let e2:det n (mn C j)=det n (mn A j):=Zi λr k hr hk=>(h1 (r+1) (sk j k) J (NW hk) J).2.symm
   rw[e1,e2,h2 j hj];generalize det n (mn A j)=d;generalize sg j=s;rw[IV,xn,<-Rl s c,Po s c,Rl c s,Rl c]
  |succ i=>
   let e:=He (n:=n) (A:=mn A j) (AP:=mn AP j) (C:=mn C j) (c:=c) (i:=i) J (λr k hr hk XM=>h1 (r+1) (sk j k) J (NW hk) J) λk hk=>h2 (sk j k) (NW hk);let e0:=h1 0 j J hj J
   rw[e,<-e0.1,<-e0.2];generalize det n (mn AP j)=d;generalize det n (mn C j)=d';generalize sg j*A 0 j=s;rw[IV,<-Rl,<-Rl,Po s c]
def mw(h:j<=k):mn (mn A j) k i l=mn (mn A (k+1)) j i l:=by
 change A (i+1+1) (sk j<|sk k l)=A (i+1+1) (sk (k+1)<|sk j l);show QP _ ?_;unfold sk;cases h1:l<j
 .rw[if_pos (show l<k by lia),if_pos h1,if_pos (show l<k+1 by lia)]
 .rw[if_neg h1];cases h2:l<k
  .rw[if_pos h2,if_neg h1,if_pos (show l+1<k+1 by lia)]
  .rw[if_neg h2,if_neg (show ¬l+1<j by lia),if_neg (show ¬l+1<k+1 by lia)]
def mv:∀{n:Nat}{A:Mx}{i:Nat},i+1<n->(∀j,j<n->A i j=A (i+1) j)->det n A=0
 |0,_,_,hi,_=>absurd hi (Sf _)
 |n+1,A,i+1,hi,h=>Hf λj hj=>by rw[mv (A:=mn A j) (i:=i) J λk hk=>h (sk j k)<|NW hk,Rk]
 |1,_,0,hi,_=>absurd hi DW
 |n+2,A,0,_,h=>by
  obtain⟨t,ht⟩:∃t:Nat->Nat->Int,t=λj k=>sg j*A 0 j*(sg k*A 1 (sk j k)*det n (mn (mn A j) k)):=⟨_,Z⟩;let e1:det (n+2) A=sm (n+2) λj=>sm (n+1) (t j):=ZC λj hj=>by rw[ht,Qp];rfl
  let e2:∀j k,j<=k->k<n+1->t (k+1) j=- t j k:=λj k hjk hk=>by
   rw[ht];change sg (k+1)*A 0 (k+1)*(sg j*A 1 (sk (k+1) j)*det n (mn (mn A<|k+1) j))=- (sg j*A 0 j*(sg k*A 1 (sk j k)*det n (mn (mn A j) k)))
   let f1:sk (k+1) j=j:=by unfold sk;rw[if_pos J]
   let f2:sk j k=k+1:=by unfold sk;rw[if_neg J]
   let f3:det n (mn (mn A<|k+1) j)=det n (mn (mn A j) k):=Zi λi l _ _=>(mw hjk).symm;rw[f1,f2,f3,Lm,<-h j J,<-h (k+1) J];generalize det n (mn (mn A j) k)=d;generalize A 0 j=x;generalize A 0 (k+1)=y;generalize sg j=s;generalize sg k=u;simp only[xo,Int.neg_inj];simp only[Po,xK,Rl]
  let e3:sm (n+2) (λj=>sm (n+1)<|t j)=sm (n+2) (λj=>sm (n+1) λk=>if k<j then t j k else 0)+sm (n+2) (λj=>sm (n+1) λk=>if k<j then 0 else t j k):=by rw[<-Hg];show ZC λj _=>?_;rw[<-Hg];show ZC λk _=>?_;split<;>lia
  let e4:sm (n+2) (λj=>sm (n+1) λk=>if k<j then t j k else 0)=sm (n+1) (λk=>sm (n+1) λj=>if k<=j then t (j+1) k else 0):=by
   rw[mx];show ZC λk _=>?_;rw[Bc,if_neg J,FL];show ZC λj _=>?_;cases c:k<=j
   .rw[if_pos c,if_pos DW]
   .rw[if_neg c,if_neg J]
  let e5:sm (n+2) (λj=>sm (n+1) λk=>if k<j then 0 else t j k)=sm (n+1) (λj=>sm (n+1) λk=>if j<=k then t j k else 0):=by
   change sm (n+1) (λj=>sm (n+1) λk=>if k<j then 0 else t j k)+sm (n+1) (λk=>if k<n+1 then 0 else t (n+1) k)=_;rw[Hf (f:=λk=>if k<n+1 then 0 else t (n+1) k) λk hk=>if_pos hk,Vu];show ZC λj _=>ZC λk _=>?_;cases c:j<=k
   .rw[if_pos c,if_neg J]
   .rw[if_neg c,if_pos J]
  rw[e1,e3,e4,e5,<-Hg];show Hf λj hj=>?_;rw[<-Hg];show Hf λk hk=>?_;cases c:j<=k
  .rw[if_pos c,if_pos c,e2 j k c hk];lia
  .rw[if_neg c,if_neg c];rfl
def put2(A:Mx)(i:Nat)(x y:Nat->Int):(Mx):=λr=>if r=i then x else if r=i+1 then y else A r
def mr{x x' y:Nat->Int}(hi:i+1<n):det n (put2 A i (λj=>x j+x' j) y)=det n (put2 A i x y)+det n (put2 A i x' y):=by
 have:=He (n:=n) (A:=put2 A i (λj=>x j+x' j) y) (AP:=put2 A i x y) (C:=put2 A i x' y) (c:=1) (i:=i) J (λr j _ _ XM=>by unfold put2;rw[if_neg XM,if_neg XM,if_neg XM];exists Z,Z) (λj _=>by unfold put2;rw[if_pos Z,if_pos Z,if_pos Z,VR])
 rw[this,VR]
def bh{x y y':Nat->Int}(hi:i+1<n):det n (put2 A i x λj=>y j+y' j)=det n (put2 A i x y)+det n (put2 A i x y'):=by
 let ne:¬i+1=i:=J
 have:=He (n:=n) (A:=put2 A i x λj=>y j+y' j) (AP:=put2 A i x y) (C:=put2 A i x y') (c:=1) (i:=i+1) J (λr j _ _ XM=>by unfold put2;rw[if_neg XM,if_neg XM,if_neg XM];exists Z,Z) (λj _=>by unfold put2;rw[if_neg ne,if_neg ne,if_neg ne,if_pos Z,if_pos Z,if_pos Z,VR])
 rw[this,VR]
def mq{x:Nat->Int}(hi:i+1<n):det n (put2 A i x x)=0:=mv hi λj _=>by unfold put2;rw[if_pos Z,if_neg J,if_pos Z]
def ml{x y:Nat->Int}(hi:i+1<n):det n (put2 A i y x)=- det n (put2 A i x y):=by let h:=mq (A:=A) (x:=λj=>x j+y j) hi;rw[mr hi,bh hi,bh hi,mq hi,mq hi]at h;lia
def mj:put2 A i (A i) (A (i+1))=A:=by
 funext r
 unfold put2;cases h:r=i
 .rw[if_pos h,h]
 .rw[if_neg h];cases h2:r=i+1
  .rw[if_pos h2,h2]
  .rw[if_neg h2]
def bg(hi:i+1<n):det n (put2 A i (A (i+1)) (A i))=- det n A:=by
 have:=ml (A:=A) (x:=A i) (y:=A<|i+1) hi
 rwa[mj]at this
def vJ:∀{d:Nat}{A:Mx},a+d+1<n->(∀j,j<n->A a j=A (a+d+1) j)->det n A=0
 |0,A,hn,h=>mv hn h
 |d+1,A,hn,h=>by
  let e:=bg (n:=n) (A:=A) (i:=a+d+1) J;let z:det n (put2 A (a+d+1) (A<|a+d+1+1)<|A<|a+d+1)=0:=by show vJ (a:=a) (d:=d) J λj hj=>?_;unfold put2;rw[if_neg J,if_neg J,if_pos Z];show h j hj
  lia
def rotN(k t i:Nat):(Nat):=if i<k then i else if i=k then k+t else if i<=k+t then i-1 else i
def Zt8(k i:Nat):rotN k 0 i=i:=by
 unfold rotN;cases h:i<k
 .rw[if_pos h]
 .rw[if_neg h];cases h2:i=k
  .rw[if_pos h2,h2];rfl
  .rw[if_neg h2,if_neg J]
def mi:∀{t:Nat}{A:Mx},k+t<n->det n (λi=>A (rotN k t i))=sg t*det n A
 |0,A,_=>by rw[show sg 0=1 from Z,VR];show Zi λi j _ _=>by rw[Zt8]
 |t+1,A,h=>by
  let e:=mi (n:=n) (k:=k) (t:=t) (A:=put2 A (k+t) (A<|k+t+1)<|A<|k+t) J;rw[bg J]at e;let f:det n (λi=>A<|rotN k (t+1) i)=det n (λi=>put2 A (k+t) (A<|k+t+1) (A<|k+t)<|rotN k t i):=Zi λi j _ _=>by
   show congrFun ?_ j;let r1:rotN k (t+1) i=if i<k then i else if i=k then k+(t+1) else if i<=k+(t+1) then i-1 else i:=rfl
   let r2:rotN k t i=if i<k then i else if i=k then k+t else if i<=k+t then i-1 else i:=rfl
   unfold put2;cases h1:i<k
   .rw[if_pos h1]at r1 r2;rw[r1,r2,if_neg J,if_neg J]
   .rw[if_neg h1]at r1 r2;cases h2:i=k
    .rw[if_pos h2]at r1 r2;rw[r1,r2,if_pos Z];rfl
    .rw[if_neg h2]at r1 r2;cases h3:i<=k+t
     .rw[if_pos J]at r1;rw[if_pos h3]at r2;rw[r1,r2,if_neg J,if_neg J]
     .rw[if_neg h3]at r2;cases h4:i=k+t+1
      .rw[if_pos J]at r1;rw[r1,r2,if_neg sV,if_pos h4];show QP A J
      .rw[if_neg J]at r1;rw[r1,r2,if_neg J,if_neg h4]
  rw[f,e,Lm,Int.mul_neg,xo]
def mh:∀{n:Nat}{A:Mx},(∀i,i<n+1->A i 0=0)->det (n+1) A=0
 |0,A,h=>by change 0+sg 0*A 0 0*1=0;rw[h 0 DW,Rk];rfl
 |n+1,A,h=>Hf λj hj=>by
  cases j with
  |zero=>rw[h 0 J,Rk,Ej]
  |succ j=>
   rw[mh (A:=mn A<|j+1) λi hi=>?_,Rk];change A (i+1) (sk (j+1) 0)=0
   rw[show sk (j+1) 0=0 from Z];show h (i+1) J
def Zg9(h:∀i,i<n->A (i+1) 0=0):det (n+1) A=A 0 0*det n (λi j=>A (i+1) (j+1)):=by
 change sm (n+1) (λj=>sg j*A 0 j*det n (mn A j))=_;rw[Bc,Hf λj hj=>?_]
 .rw[Vu,show sg 0=1 from Z,VR];show QP (A 0 0 * ·) (Zi λi j _ _=>?_);rfl
 .cases n with
  |zero=>show absurd hj (Sf _)
  |succ n=>
   rw[mh (A:=mn A<|j+1) λi hi=>?_,Rk];show h i hi
def aZ{i:Nat}(hi:i<n)(h:∀j,j<n->A i j=0):det n A=0:=by
 have:=He (A:=A) (AP:=A) (C:=A) (c:=1) hi (λr j _ _ _=>⟨Z,Z⟩) (λj hj=>by rw[h j hj];rfl)
 grind
def aY{c:Int}:∀{n:Nat}{A:Mx},det n (λi j=>c*A i j)=c^n*det n A
 |0,_=>by change(1:Int)=c^0*1;rw[IX];rfl
 |n+1,A=>by
  change sm (n+1) (λj=>sg j*(c*A 0 j)*det n (mn (λi j=>c*A i j) j))=c^(n+1)*sm (n+1) λj=>sg j*A 0 j*det n (mn A j);rw[<-Qp];show ZC λj _=>?_;let e:det n (mn (λi j=>c*A i j) j)=c^n*det n (mn A j):=aY (A:=mn A j)
  rw[e,Pj];generalize det n (mn A j)=d;generalize c^n=p;generalize sg j=s;generalize A 0 j=x;simp only[Po,xK,Rl]
def offN(R:Mx):(Mx):=λi j=>R 0 0*R (i+1) (j+1)-R (i+1) 0*R 0 (j+1)
def WG(R:Mx)(k:Nat):(Mx):=λr j=>if r=0 then R 0 j else if r<=k then R 0 0*R r j-R r 0*R 0 j else R r j
def aX{m:Nat}:∀{k:Nat},k<m+1->det (m+1) (WG R k)=R 0 0^k*det (m+1) R
 |0,_=>by
  rw[IX,VR];show Zi λi j _ _=>?_;unfold WG;cases h:i=0
  .rw[if_pos h,h]
  .rw[if_neg h,if_neg J]
 |k+1,hk=>by
  let ih:=aX (m:=m) (R:=R) (k:=k) J;obtain⟨C,hC⟩:∃C:Mx,C=λr j=>if r=k+1 then-R (k+1) 0*R 0 j else WG R k r j:=⟨_,Z⟩
  obtain⟨AP,hB⟩:∃AP:Mx,AP=λr j=>if r=k+1 then R 0 j else WG R k r j:=⟨_,Z⟩
  obtain⟨sO,hZ⟩:∃sO:Mx,sO=λr j=>if r=k+1 then 0 else WG R k r j:=⟨_,Z⟩
  let hBz:det (m+1) AP=0:=vJ (n:=m+1) (a:=0) (d:=k) J λj hj=>by
   rw[hB];change(if 0=k+1 then _ else WG R k 0 j)=if 0+k+1=k+1 then _ else _
   rw[if_neg J,if_pos J];rfl
  let hZz:det (m+1) sO=0:=aZ (i:=k+1) hk λj hj=>by rw[hZ];show if_pos rfl
  let hCz:det (m+1) C=0:=by
   have:=He (A:=C) (AP:=AP) (C:=sO) (c:=- R (k+1) 0) hk (λr j _ _ XM=>by
    rw[hC,hB,hZ];change(if r=k+1 then _ else WG R k r j)=(if r=k+1 then _ else WG R k r j)/\(if r=k+1 then _ else WG R k r j)=(if r=k+1 then _ else WG R k r j)
    rw[if_neg XM,if_neg XM,if_neg XM];exists Z,Z) (λj _=>by
    rw[hC,hB,hZ];change(if k+1=k+1 then _ else _)=_*(if k+1=k+1 then _ else _)+(if k+1=k+1 then _ else _)
    rw[if_pos Z,if_pos Z,if_pos Z,Vu])
   rw[this,hBz,hZz,Rk];rfl
  have:=He (A:=WG R<|k+1) (AP:=WG R k) (C:=C) (c:=R 0 0) hk (λr j _ _ XM=>by
   let e1:WG R (k+1) r j=WG R k r j:=by
    unfold WG;cases h0:r=0
    .rw[if_pos h0,if_pos h0]
    .rw[if_neg h0,if_neg h0];cases h1:r<=k
     .rw[if_pos h1,if_pos J]
     .rw[if_neg h1,if_neg J]
   exists e1,?_;rw[hC,e1];change _=if r=k+1 then _ else _
   rw[if_neg XM]) (λj _=>by
   let e1:WG R (k+1) (k+1) j=R 0 0*R (k+1) j-R (k+1) 0*R 0 j:=by unfold WG;rw[if_neg J,if_pos J]
   let e2:WG R k (k+1) j=R (k+1) j:=by unfold WG;rw[if_neg DW,if_neg J]
   rw[e1,e2,hC];change _=_+(if k+1=k+1 then-R (k+1) 0*R 0 j else _)
   rw[if_pos Z,xo]
   rfl)
  rw[this,hCz,ih,Vu,Pj];rw[<-Rl,Po (R 0 0)]
def mf:R 0 0*det m (offN R)=R 0 0^m*det (m+1) R:=by
 rw[<-aX (k:=m) J,Zg9 λi hi=>?_]
 .let e0:WG R m 0 0=R 0 0:=if_pos rfl;rw[e0];show QP (R 0 0 * ·) (Zi λi j hi hj=>?_);unfold WG offN;rw[if_neg J,if_pos J]
 .unfold WG;rw[if_neg J,if_pos J,Po];lia
def ex(k:Nat)(r:Nat->Nat)(i:Nat):(Nat):=if i<k then i else k+r (i-k)
def QT(A:Mx)(k M:Nat)(R:Mx)(last:Int):(Prop):=last≠0/\∀m r c,(∀i,i<m+1->r i<M/\c i<M)->
 det (m+1) (λi j=>R (r i)<|c j)=det (k+m+1) (λi j=>A (ex k r i)<|ex k c j)*last^m
def Zj9(A:Mx)(n:Nat):QT A 0 n A 1:=⟨sZ,λm r c _=>by rw[Int.one_pow,Mq,SR];show Zi λi j _ _=>?_;unfold ex;rw[if_neg (Sf _),if_neg<|Sf _,SR,SR,xt,xt]⟩
def Hd{p:Int}(h:p≠0):∀n:Nat,p^n≠0
 |0=>by rw[IX];decide
 |n+1=>by rw[Pj];show Int.mul_ne_zero (Hd h n) h
def NV(r:Nat->Nat):(Nat->Nat)
 |0=>0
 |i+1=>r i+1
def Bb(k:Nat)(r:Nat->Nat)(i:Nat):ex k (NV r) i=ex (k+1) r i:=by
 unfold ex;cases h:i<k
 .rw[if_pos h,if_pos J]
 .rw[if_neg h];cases h2:i=k
  .rw[if_pos J,h2,Nn];rfl
  .rw[if_neg J];obtain⟨d,rfl⟩:∃d,i=k+d+1:=⟨i-k-1,sV⟩;rw[show k+d+1-k=d+1 by lia,show k+d+1-(k+1)=d by lia];change k+(r d+1)=k+1+r d
   lia
def Ba{k M:Nat}(h:QT A k (M+1) R last)(hp:R 0 0≠0){m:Nat}{r c:Nat->Nat}(hb:∀i,i<m+1->r i<M/\c i<M):
  det (m+1) (λi j=>offN R (r i)<|c j)=R 0 0^m*(last^(m+1)*det (k+1+m+1) λi j=>A (ex (k+1) r i)<|ex (k+1) c j):=by
 let e1:=mf (m:=m+1) (R:=λi j=>R (NV r i)<|NV c j);let e2:=h.2 (m+1) (NV r) (NV c) λi hi=>by
  cases i with
  |zero=>exists Nat.succ_pos _,Nat.succ_pos _
  |succ i=>have:=hb i J;exists Nat.succ_lt_succ this.1,Nat.succ_lt_succ this.2
 let e3:det (m+1) (offN λi j=>R (NV r i)<|NV c j)=det (m+1) (λi j=>offN R (r i)<|c j):=rfl;let e4:det (k+(m+1)+1) (λi j=>A (ex k (NV r) i)<|ex k (NV c) j)=det (k+1+m+1) (λi j=>A (ex (k+1) r i)<|ex (k+1) c j):=by rw[show k+(m+1)+1=k+1+m+1 by lia];show Zi λi j _ _=>by rw[Bb,Bb]
 rw[e3]at e1;rw[e4]at e2;let e5:R (NV r 0) (NV c 0)=R 0 0:=rfl
 rw[e5,e2]at e1;generalize det (m+1) (λi j=>offN R (r i)<|c j)=x at *;generalize det (k+1+m+1) (λi j=>A (ex (k+1) r i)<|ex (k+1) c j)=y at *;rw[Pj]at e1;show eQ hp ?_;rw[e1,Po y,Po<|R 0 0^m,Rl]
def ma(A:Mx):det 1 A=A 0 0:=by change 0+sg 0*A 0 0*1=A 0 0;rw[show sg 0=1 from Z];lia
def l9{k M:Nat}(h:QT A k (M+1) R last)(hp:R 0 0≠0)(hi:i<M)(hj:j<M):
  offN R i j=last*det (k+2) (λa b=>A (ex (k+1) (λ_=>i) a)<|ex (k+1) (λ_=>j) b):=by
 have:=Ba h hp (m:=0) (r:=λ_=>i) (c:=λ_=>j) λ_ _=>⟨hi,hj⟩
 rwa[ma,IX,VR,Pj,IX,VR]at this
def l8(h:QT A k (M+1) R last)(hp:R 0 0≠0)(hR:∀i j,i<M->j<M->R' i j=(offN R i j).fdiv last):QT A (k+1) M R' (R 0 0):=by
 exists hp,λm r c hb=>?_;let l7:∀i j,i<M->j<M->offN R i j=last*R' i j:=λi j hi hj=>by rw[hR i j hi hj,l9 h hp hi hj,Int.mul_fdiv_cancel_left _ h.1]
 let e1:=Ba h hp hb;let e2:det (m+1) (λi j=>offN R (r i)<|c j)=last^(m+1)*det (m+1) (λi j=>R' (r i)<|c j):=by rw[<-aY];show Zi λi j hi hj=>l7 _ _ (hb i hi).1 (hb j hj).2
 rw[e2]at e1;show eQ (Hd h.1<|m+1) ?_;rw[e1];generalize det (k+1+m+1) (λi j=>A (ex (k+1) r i)<|ex (k+1) c j)=y;rw[xK,Po y]
def l5(h:QT A k M R last)(ht:t<M):QT (λi=>A (rotN k t i)) k M (λi=>R (rotN 0 t i)) last:=by
 exists h.1,λm r c hb=>?_;let e:=h.2 m (λi=>rotN 0 t<|r i) c λi hi=>⟨by
  have:=(hb i hi).1
  unfold rotN;rw[if_neg J];split
  .lia
  .split<;>lia,(hb i hi).2⟩
 rw[e];show QP (· * last^m) (Zi λi j _ _=>?_);show QP (λa=>A a<|ex k c j) ?_;unfold ex;cases hi:i<k
 .rw[if_pos hi,if_pos hi];unfold rotN;rw[if_pos hi]
 .rw[if_neg hi,if_neg hi];change k+rotN 0 t (r<|i-k)=rotN k t (k+r (i-k))
  generalize r (i-k)=a;let r1:rotN 0 t a=if a<0 then a else if a=0 then 0+t else if a<=0+t then a-1 else a:=rfl
  let r2:rotN k t (k+a)=if k+a<k then k+a else if k+a=k then k+t else if k+a<=k+t then k+a-1 else k+a:=rfl
  rw[if_neg J]at r1 r2;cases h1:a=0
  .rw[if_pos h1]at r1;rw[if_pos J]at r2;rw[r1,r2];lia
  .rw[if_neg h1]at r1;rw[if_neg J]at r2;cases h2:a<=t
   .rw[if_pos J]at r1;rw[if_pos J]at r2;rw[r1,r2];lia
   .rw[if_neg J]at r1;rw[if_neg J]at r2;rw[r1,r2]
def Ll(k i:Nat):ex k (λi=>i) i=i:=by
 unfold ex;cases h:i<k
 .rw[if_pos h]
 .rw[if_neg h];change k+(i-k)=i
  grind
def AZ{k M:Nat}(h:QT A k (M+1) R last)(h0:∀i,i<M+1->R i 0=0):det (k+M+1) A=0:=by
 let e:=h.2 M (λi=>i) (λi=>i) λi hi=>⟨hi,hi⟩;rw[mh (A:=λi j=>R i j) h0]at e;let e2:det (k+M+1) (λi j=>A (ex k (λi=>i) i)<|ex k (λi=>i) j)=det (k+M+1) A:=Zi λi j _ _=>by rw[Ll,Ll]
 rw[e2]at e;rcases Int.mul_eq_zero.mp e.symm with z|z
 .show z
 .show absurd z (Hd h.1 M)
def lZ(h:QT A k 1 R last):R 0 0=det (k+1) A:=by
 let e:=h.2 0 (λi=>i) (λi=>i) λi hi=>⟨J,DW⟩;rw[ma,IX,Mq]at e;let e2:det (k+0+1) (λi j=>A (ex k (λi=>i) i)<|ex k (λi=>i) j)=det (k+1) A:=Zi λi j _ _=>by rw[Ll,Ll]
 rwa[e2]at e
end My
namespace L2
open PySem PySem.Spec PyProof.Rows
def AY(i j:Int):(Prop):=i.natAbs<2^9000/\j.natAbs<2^9000
def AX(i j:Int):(Prop):=j≠0/\j.natAbs<2^9000
def aW(h:a.natAbs<2^9000):Builtin.Int.intBits a<=9000:=PySem.intBits_le_iff.mpr h
section
variable{X:Cx}
def Hc:Wz X (binaryOp .Mult) (rI AY λi j=>.int (i*j)):=Iu λ_ _ _ _ _ _ _ hc q=>mul_int q (.of_bits (Yr (aW hc.1) sZ)<|Yr (aW hc.2) sZ)
def AW:Wz X (binaryOp .FloorDiv) (rI AX λi j=>.int (i.fdiv j)):=Iu λ_ _ _ _ _ _ _ hc q=>floordiv_int hc.1 q (.inl<|PyProof.noPylong_of_log2<|(Nat.log2_lt (by have:=hc.1;lia)).mpr hc.2)
end
end L2
namespace My
def fnL(L:Ab):(Mx):=λi j=>(L.getD i []).getD j 0
def Ui{l:Ac}{x:Int}(h:L[i]?=some l)(h2:l[j]?=some x):fnL L i j=x:=by
 let e:L.getD i []=l:=by rw[Ws,h];rfl
 unfold fnL;rw[e,Ws,h2];rfl
def vH(AP:Nat):(Nat->Nat)
 |0=>1
 |n+1=>(n+1)*(AP*vH AP n)
def AV{f:Nat->Int}{C:Nat}:∀{n:Nat},(∀i,i<n->(f i).natAbs<=C)->(sm n f).natAbs<=n*C
 |0,_=>by change(0:Int).natAbs<=0*C;rw[Nat.zero_mul];show XN 0
 |n+1,h=>by
  let h1:=AV (n:=n) λi hi=>h i J;let h2:=h n J
  let h3:(sm n f+f n).natAbs<=(sm n f).natAbs+(f n).natAbs:=Int.natAbs_add_le ..;change(sm n f+f n).natAbs<=(n+1)*C
  rw[Nat.succ_mul];lia
def JJ:∀{n:Nat}{A:Mx},(∀i j,i<n->j<n->(A i j).natAbs<=AP)->(det n A).natAbs<=vH AP n
 |0,_,_=>XN 1
 |n+1,A,h=>by
  show AV λj hj=>?_;let e:(sg j).natAbs=1:=by unfold sg;split<;>rfl
  rw[II,II,e,Nat.one_mul];show Ja (h 0 j J hj) (JJ λi k hi hk=>h (i+1) (sk j k) J<|NW hk)
def AU{b:Nat}:∀{n:Nat},n<=16->vH (2^b) n<=2^((b+4)*n)
 |0,_=>by change 1<=2^((b+4)*0);rw[Nat.mul_zero];show XN 1
 |n+1,h=>by
  let ih:=AU (b:=b) (n:=n) J;let e:2^((b+4)*(n+1))=16*(2^b*2^((b+4)*n)):=by rw[Nat.mul_succ,Nat.pow_add,Nat.pow_add,xr<|2^((b+4)*n),xr (2^b)<|2^4,Nat.mul_assoc]
  rw[e];change(n+1)*(2^b*vH (2^b) n)<=_
  show Ja h (Ja (XN _) ih)
def Zf9(hn:n<=16)(h:∀i j,i<n->j<n->(A i j).natAbs<=2^400):(det n A).natAbs<2^9000:=by
 let h1:=JJ h;let h2:=AU (b:=400) hn
 let h3:2^((400+4)*n)<=2^(404*16):=xT sZ (Ja (XN _) hn);let h4:2^(404*16)<2^9000:=Nat.pow_lt_pow_right sZ sZ
 show xO (Yr h1<|Yr h2 h3) h4
def lY(h:QT A k M R last){i j:Nat}(hi:i<M)(hj:j<M):R i j=det (k+1) (λa b=>A (ex k (λ_=>i) a) (ex k (λ_=>j) b)):=by
 have:=h.2 0 (λ_=>i) (λ_=>j) λ_ _=>⟨hi,hj⟩
 rwa[ma,IX,Mq]at this
def Zk9{k M n:Nat}(h:QT A k M R last)(hn:k+M=n)(hn16:n<=16)(hA:∀i j,i<n->j<n->(A i j).natAbs<=2^400){i j:Nat}(hi:i<M)(hj:j<M):(R i j).natAbs<2^9000:=by
 rw[lY h hi hj];show Zf9 J λa b ha hb=>hA _ _ ?_ ?_
 .let e:ex k (λ_=>i) a=if a<k then a else k+i:=rfl
  rw[e];split<;>lia
 .let e:ex k (λ_=>j) b=if b<k then b else k+j:=rfl
  rw[e];split<;>lia
def lX{L:Ab}{l:Ac}(h:L[t]?=some l)(i:Nat):(l::L.eraseIdx t)[i]?=L[rotN 0 t i]?:=by
 let ht:=(Xy.mp h).1;let r:rotN 0 t i=if i<0 then i else if i=0 then 0+t else if i<=0+t then i-1 else i:=rfl
 rw[if_neg J]at r;cases i with
 |zero=>
  rw[if_pos Z,SR]at r;rw[r,h];rfl
 |succ i=>
  rw[if_neg J,SR]at r;rw[r,List.getElem?_cons_succ,uh];cases c:i+1<=t
  .rw[if_pos c,if_pos J];rfl
  .rw[if_neg c,if_neg J]
def lW{l:Ac}(h:L[t]?=some l):fnL (l::L.eraseIdx t)=λi=>fnL L (rotN 0 t i):=by
 funext i j
 change((l::L.eraseIdx t).getD i []).getD j 0=(L.getD (rotN 0 t i) []).getD j 0;show QP (λr:Ac=>r.getD j 0) ?_;rw[Ws,Ws,lX h]
def NU(y:Int)(p:Ac)(last:Int)(l:Ac):(Ac):=List.zipWith (λown other=>(y*own-l.headD 0*other).fdiv last) l.tail p
def aV(h:l.length=p.length+1):(NU y p last l).length=p.length:=by unfold NU;rw[Ey,List.length_tail];grind
def lV{L:Ab}{M:Nat}(hp:p.length=M)(hL:L.length=M)(hl:∀l∈L,l.length=M+1){i j:Nat}(hi:i<M)(hj:j<M):
  fnL (L.map<|NU y p last) i j=(offN (fnL<|(y::p)::L) i j).fdiv last:=by
 obtain⟨l,JI⟩:∃l,L[i]?=some l:=⟨_,Xs J⟩;let Lk:=hl l (Xg JI)
 obtain⟨x,l',rfl⟩:∃x l',l=x::l':=by
  cases l with
  |nil=>cases Lk
  |cons x l'=>exists x,l',Z
 let QD:l'.length=M:=by rw[YF]at Lk;lia
 obtain⟨u,hu⟩:∃u,l'[j]?=some u:=⟨_,Xs J⟩;obtain⟨v,hv⟩:∃v,p[j]?=some v:=⟨_,Xs J⟩;let e1:fnL (L.map<|NU y p last) i j=(y*u-x*v).fdiv last:=Ui (l:=NU y p last<|x::l') (by rw[Yp,JI];rfl) (by
  change(List.zipWith _ l' p)[j]?=_;rw[FY,hu,hv]
  rfl)
 let e2:fnL ((y::p)::L) 0 0=y:=rfl;let e3:fnL ((y::p)::L) (i+1) (j+1)=u:=Ui (l:=x::l') JI hu
 let e4:fnL ((y::p)::L) (i+1) 0=x:=Ui (l:=x::l') JI rfl;let e5:fnL ((y::p)::L) 0 (j+1)=v:=Ui (l:=y::p) Z hv
 rw[e1];unfold offN;rw[e2,e3,e4,e5]
end My
namespace My
open PySem L2
def AS(K:Ad)(H:Hp)(v:V)(l:Ac):(Prop):=∃r k,v=.ref r/\SqK k K H r (IL l)
def LiV(d:Addr)(H:Hp)(v:V)(l:Ac):(Prop):=∃r,v=.ref r/\H r=some (.lst<|IL l)/\r≠d
def LiV.same(s:Same H H')(h:LiV d H v l):LiV d H' v l:=by let⟨r,e,h,n⟩:=h;exists r,e,s _ _ h,n
def LiV.mut(h:LiV d H v l):LiV d (upd H d o) v l:=by let⟨r,e,h,n⟩:=h;exists r,e,by rw[XJ n];show h,n
def LiV.list(h:LiV d H v l):MZ H v l:=by let⟨r,e,h,_⟩:=h;exists r,e,h
def Bears.erase{α:Type}[DecidableEq α]{R:V->α->Prop}{xs:List V}{l:List α}(h:Bears R xs l)(t:Nat):Bears R (xs.eraseIdx t) (l.eraseIdx t):=by
 let hl:=h.1;show⟨by rw[t9,t9,hl],λi a e=>?_⟩;rw[uh]at e;rw[uh];split at e
 .next c=>rw[if_pos c];show h.2 _ _ e
 .next c=>rw[if_neg c];show h.2 _ _ e
def aT(x:Int)(l:Ac):WK (IL (x::l)) (some 1) none=IL l:=by rw[mZ sZ];rfl
def lS(t:Nat):sg t*sg t=1:=by unfold sg;split<;>rfl
end My
namespace My
def lR{f:Nat->Nat->Int}:sm n (λi=>sm m λj=>f i j)=sm m (λj=>sm n λi=>f i j):=mx
def JG:∀{n:Nat}{A:Mx},det (n+1) A=sm (n+1) λi=>sg i*A i 0*det n (λr c=>A (sk i r) (c+1))
 |0,A=>rfl
 |n+1,A=>by
  let e1:det (n+2) A=sg 0*A 0 0*det (n+1) (mn A 0)+sm (n+1) λj=>sg (j+1)*A 0 (j+1)*det (n+1) (mn A<|j+1):=Bc;let e2:sm (n+2) (λi=>sg i*A i 0*det (n+1) λr c=>A (sk i r)<|c+1)=sg 0*A 0 0*det (n+1) (λr c=>A (sk 0 r)<|c+1)+sm (n+1) λi=>sg (i+1)*A (i+1) 0*det (n+1) (λr c=>A (sk (i+1) r)<|c+1):=Bc
  rw[e1,e2];let e3:det (n+1) (mn A 0)=det (n+1) (λr c=>A (sk 0 r)<|c+1):=Zi λr c _ _=>rfl
  rw[e3];show QP (λz:Int=>sg 0*A 0 0*det (n+1) (λr c=>A (sk 0 r)<|c+1)+z) ?_;obtain⟨D,hD⟩:∃D:Nat->Nat->Int,D=λi j=>det n (λr c=>A (sk i r+1)<|sk (j+1)<|c+1):=⟨_,Z⟩;let e4:∀j,j<n+1->det (n+1) (mn A<|j+1)=sm (n+1) λi=>sg i*A (i+1) 0*D i j:=λj _=>by rw[JG,hD];rfl
  let e5:∀i,i<n+1->det (n+1) (λr c=>A (sk (i+1) r)<|c+1)=sm (n+1) λj=>sg j*A 0 (j+1)*D i j:=λi hi=>by
   change sm (n+1) (λj=>sg j*A (sk (i+1) 0) (j+1)*det n (mn (λr c=>A (sk (i+1) r)<|c+1) j))=_;show ZC λj _=>?_;rw[hD];change sg j*A (sk (i+1) 0) (j+1)*det n (mn (λr c=>A (sk (i+1) r)<|c+1) j)=sg j*A 0 (j+1)*det n (λr c=>A (sk i r+1)<|sk (j+1)<|c+1)
   rw[show sk (i+1) 0=0 from Z];show QP (sg j*A 0 (j+1) * ·) (Zi λr c _ _=>?_);change A (sk (i+1)<|r+1) (sk j c+1)=A (sk i r+1) (sk (j+1)<|c+1)
   let f1:sk (i+1) (r+1)=sk i r+1:=by
    unfold sk;cases h:r<i
    .rw[if_pos h,if_pos J]
    .rw[if_neg h,if_neg J]
   let f2:sk j c+1=sk (j+1) (c+1):=by
    unfold sk;cases h:c<j
    .rw[if_pos h,if_pos J]
    .rw[if_neg h,if_neg J]
   rw[f1,f2]
  let e6:sm (n+1) (λj=>sg (j+1)*A 0 (j+1)*det (n+1) (mn A<|j+1))=sm (n+1) λj=>sm (n+1) λi=>sg (j+1)*A 0 (j+1)*(sg i*A (i+1) 0*D i j):=ZC λj hj=>by rw[e4 j hj,Qp]
  let e7:sm (n+1) (λi=>sg (i+1)*A (i+1) 0*det (n+1) λr c=>A (sk (i+1) r)<|c+1)=sm (n+1) λi=>sm (n+1) λj=>sg (i+1)*A (i+1) 0*(sg j*A 0 (j+1)*D i j):=ZC λi hi=>by rw[e5 i hi,Qp]
  rw[e6,e7,lR];show ZC λi _=>ZC λj _=>?_;rw[Lm,Lm];generalize D i j=d;generalize A 0 (j+1)=x;generalize A (i+1) 0=y;generalize sg i=s;generalize sg j=u;simp only[xo,Int.neg_inj];simp only[Po,xK,Rl]
def NT:∀{n:Nat}{A:Mx},det n (λi j=>A j i)=det n A
 |0,_=>rfl
 |n+1,A=>by
  rw[JG (A:=A)];show ZC λj _=>?_;change sg j*A j 0*det n (λi k=>A (sk j k)<|i+1)=sg j*A j 0*det n (λr c=>A (sk j r)<|c+1)
  rw[<-NT (A:=λr c=>A (sk j r)<|c+1)]
def pr:(Nat->(Nat->Int)->Int)
 |0,_=>1
 |n+1,f=>pr n f*f n
def lQ{n a b:Nat}(ha:a<n)(hb:b<n)(XM:a≠b)(h:∀j,j<n->A a j=A b j):det n A=0:=by
 rcases Nat.lt_or_gt_of_ne XM with c|c
 .obtain⟨d,rfl⟩:∃d,b=a+d+1:=⟨b-a-1,sV⟩;show vJ hb h
 .obtain⟨d,rfl⟩:∃d,a=b+d+1:=⟨a-b-1,sV⟩;show vJ ha λj hj=>(h j hj).symm
def putr(A:Mx)(i:Nat)(x:Nat->Int):(Mx):=λr=>if r=i then x else A r
def aS{c:Int}{x y:Nat->Int}(hi:i<n):det n (putr A i λj=>c*x j+y j)=c*det n (putr A i x)+det n (putr A i y):=
 He hi (λr j _ _ XM=>by unfold putr;rw[if_neg XM,if_neg XM,if_neg XM];exists Z,Z) (λj _=>by unfold putr;rw[if_pos Z,if_pos Z,if_pos Z])
def aR:putr A i (A i)=A:=by
 funext r
 unfold putr;cases h:r=i
 .rw[if_pos h,h]
 .rw[if_neg h]
def aQ{n a b:Nat}{c:Int}(ha:a<n)(hb:b<n)(XM:a≠b):det n (putr A a λj=>A a j+c*A b j)=det n A:=by
 let e:(λj=>A a j+c*A b j)=λj=>c*A b j+A a j:=by funext j;lia
 rw[e,aS ha,aR,lQ ha hb XM (A:=putr A a<|A b) λj _=>?_,Rk,FL];unfold putr;rw[if_pos Z,if_neg (Xc XM)]
def lP(a i:Nat):rotN 0 a (i+1)=sk a i:=by
 let r:rotN 0 a (i+1)=if i+1<0 then i+1 else if i+1=0 then 0+a else if i+1<=0+a then i+1-1 else i+1:=rfl
 rw[if_neg J,if_neg J]at r;rw[r];unfold sk;cases h:i<a
 .rw[if_pos h,if_pos J];lia
 .rw[if_neg h,if_neg J]
def aP{f:Nat->Int}{a:Nat}:∀{n:Nat},a<n->(∀j,j<n->j≠a->f j=0)->sm n f=f a
 |0,h,_=>absurd h (Sf _)
 |n+1,h,h0=>by
  change sm n f+f n=f a;cases c:a=n
  .rw[Hf λi hi=>h0 i sV J,c,FL]
  .rw[aP (n:=n) J λj hj XM=>h0 j J XM,h0 n J J,Vu]
def lO(ha:a<n+1):det (n+1) (putr A a λj=>if j=a then 1 else 0)=det n (λi j=>A (sk a i) (sk a j)):=by
 let e:=mi (n:=n+1) (k:=0) (t:=a) (A:=putr A a λj=>if j=a then 1 else 0) J;let r0:rotN 0 a 0=a:=by change(if 0<0 then 0 else if 0=0 then 0+a else _)=a;rw[if_neg J,if_pos Z,SR]
 let top:det (n+1) (λi=>putr A a (λj=>if j=a then 1 else 0)<|rotN 0 a i)=sg a*det n (λi j=>A (sk a i)<|sk a j):=by
  change sm (n+1) (λj=>sg j*putr A a (λj=>if j=a then 1 else 0) (rotN 0 a 0) j*det n (mn (λi=>putr A a (λj=>if j=a then 1 else 0)<|rotN 0 a i) j))=_;rw[aP ha λj _ XM=>?_]
  .rw[r0];let e1:putr A a (λj=>if j=a then 1 else 0) a a=1:=by unfold putr;rw[if_pos Z,if_pos Z]
   rw[e1,Mq];show QP (sg a * ·) (Zi λi j _ _=>?_);change putr A a (λj=>if j=a then 1 else 0) (rotN 0 a<|i+1) (sk a j)=A (sk a i) (sk a j)
   rw[lP];unfold putr;rw[if_neg (by unfold sk;split<;>lia)]
  .rw[r0];let e1:putr A a (λj=>if j=a then 1 else 0) a j=0:=by unfold putr;rw[if_pos Z,if_neg XM]
   rw[e1,Rk,Ej]
 rw[top]at e;let h:=QP (sg a * ·) e
 simp only[<-Rl]at h;rw[show sg a*sg a=1 by unfold sg;split<;>rfl,VR,VR]at h
 show h.symm
def aO{w:Int}(ha:a<n+1):det (n+1) (λi j=>A i j+w*((if i=a then 1 else 0)*(if j=a then 1 else 0)))=det (n+1) A+w*det n (λi j=>A (sk a i) (sk a j)):=by
 let e:det (n+1) (λi j=>A i j+w*((if i=a then 1 else 0)*(if j=a then 1 else 0)))=det (n+1) (putr A a λj=>w*(λj=>if j=a then 1 else 0) j+A a j):=Zi λi j _ _=>by
  unfold putr;cases h:i=a
  .subst h;rw[if_pos Z,if_pos Z,VR];change A i j+w*(if j=i then 1 else 0)=w*(if j=i then 1 else 0)+A i j
   show Int.add_comm ..
  .rw[if_neg h,if_neg h,Ej,Rk,Vu]
 rw[e,aS ha,aR,lO ha];lia
def ind(u v i:Nat):(Int):=(if i=u then 1 else 0)-(if i=v then 1 else 0)
def PD(A:Mx)(a b:Nat):(Mx):=λi j=>(A i j+(if i=b then A a j else 0))+(if j=b then A i a+(if i=b then A a a else 0) else 0)
def aN(ha:a<n)(hb:b<n)(XM:a≠b):det n (PD A a b)=det n A:=by
 let e1:det n A=det n (putr A b λj=>A b j+1*A a j):=(aQ hb ha<|Xc XM).symm;obtain⟨R,hR⟩:∃R:Mx,R=putr A b (λj=>A b j+1*A a j):=⟨_,Z⟩;let e2:det n R=det n (putr (λi j=>R j i) b λj=>(λi j=>R j i) b j+1*(λi j=>R j i) a j):=by rw[aQ (A:=λi j=>R j i) hb ha (Xc XM)];show NT.symm
 rw[e1,<-hR,e2,<-NT (A:=putr (λi j=>R j i) b λj=>(λi j=>R j i) b j+1*(λi j=>R j i) a j)];show Zi λi j _ _=>?_;let rv:∀r c,R r c=A r c+(if r=b then A a c else 0):=λr c=>by
  rw[hR];unfold putr;cases h:r=b
  .rw[if_pos h,if_pos h,h];lia
  .rw[if_neg h,if_neg h];lia
 unfold PD;change _=(putr (λi j=>R j i) b λj=>R j b+1*R j a) j i
 unfold putr;cases h:j=b
 .rw[if_pos h,if_pos h,rv,rv,h];cases h2:i=b
  .rw[if_pos h2,if_pos h2];lia
  .rw[if_neg h2,if_neg h2];lia
 .rw[if_neg h,if_neg h];change _=R i j
  rw[rv];lia
def lN{w:Int}(ha:a<n+1)(hb:b<n+1)(XM:a≠b):det (n+1) (λi j=>A i j+w*(ind a b i*ind a b j))=det (n+1) A+w*det n (λi j=>PD A a b (sk a i) (sk a j)):=by
 let e1:=aN (A:=λi j=>A i j+w*(ind a b i*ind a b j)) ha hb XM;let e2:det (n+1) (PD (λi j=>A i j+w*(ind a b i*ind a b j)) a b)=det (n+1) (λi j=>PD A a b i j+w*((if i=a then 1 else 0)*(if j=a then 1 else 0))):=Zi λi j _ _=>by
  let na:¬a=b:=XM;let nb:¬b=a:=Xc XM
  unfold PD ind;cases hi:i=b
  .subst hi;cases hj:j=i
   .subst hj;simp[na,nb];lia
   .cases Qo:j=a
    .subst Qo;simp[na,nb,hj];lia
    .simp[na,nb,hj,Qo]
  .cases Uz:i=a
   .subst Uz;cases hj:j=b
    .subst hj;simp[na,nb];lia
    .cases Qo:j=i
     .subst Qo;simp[na,nb]
     .simp[na,nb,hj,Qo]
   .cases hj:j=b
    .subst hj;simp[na,nb,hi,Uz]
    .cases Qo:j=a
     .subst Qo;simp[na,nb,hi,Uz]
     .simp[na,nb,hi,Uz,hj,Qo]
 rw[<-e1,e2,aO ha,aN ha hb XM]
end My
namespace My
open PySem L2
abbrev Ed:=Nat×Nat×Int
def lapE:(List Ed->Mx)
 |[]=>λ_ _=>0
 |e::E=>λi j=>e.2.2*(ind e.1 e.2.1 i*ind e.1 e.2.1 j)+lapE E i j
def lM(E:List Ed)(e:Ed)(i j:Nat):lapE (E++[e]) i j=lapE E i j+e.2.2*(ind e.1 e.2.1 i*ind e.1 e.2.1 j):=by
 induction E with
 |nil=>show _+0=0+_;lia
 |cons f E ih=>
  change _+lapE (E++[e]) i j=_+lapE E i j+_;rw[ih];lia
def SJ(E:List Ed)(z:Int):(Nat×Nat):=((E.getD z.toNat (0,0,0)).1,(E.getD z.toNat (0,0,0)).2.1)
def Uh(E:List Ed):(Ac->Int)
 |[]=>1
 |z::T=>(E.getD z.toNat (0,0,0)).2.2*Uh E T
def lK(E:List Ed)(S T:Ac):Uh E (S++T)=Uh E S*Uh E T:=by
 induction S with
 |nil=>show _=1*_;rw[VR];rfl
 |cons z S ih=>show _*Uh E (S++T)=_*_*_;rw[ih,Rl]
def IsT(k:Nat)(E:List Ed)(T:Ac):(Prop):=IsSet E.length T/\T.length=k/\∀i j,i<k+1->j<k+1->Conn (T.map<|SJ E) i j
def TW(k:Nat)(E:List Ed)(s:Int):(Prop):=∃L:Ab,L.Nodup/\(∀T,T∈L↔IsT k E T)/\(L.map<|Uh E).sum=s
def aL{E:List Ed}{e:Ed}{z:Int}(h0:0<=z)(h1:z<E⁻¹):(E++[e]).getD z.toNat (0,0,0)=E.getD z.toNat (0,0,0):=by rw[Ws,Ws,Yn J]
def aK(E:List Ed)(e:Ed):(E++[e]).getD (E.length:Int).toNat (0,0,0)=e:=by rw[Ws,YK,Yk<|XN _,Nn];rfl
def Hb{e:Ed}(h:IsSet E.length T):T.map (SJ (E++[e]))=T.map (SJ E):=VL λz hz=>by
 have:=h.all z hz
 unfold SJ;rw[aL this.1 this.2]
def Ha{e:Ed}(h:∀z∈T,0<=z/\z<E⁻¹):Uh (E++[e]) T=Uh E T:=by
 induction T with
 |nil=>rfl
 |cons z T ih=>
  let hz:=h z Yc;change _*Uh (E++[e]) T=_*Uh E T
  rw[aL hz.1 hz.2,ih λy hy=>h y (Ye _ hy)]
def vG{e:Ed}(h:IsSet E.length T):IsT k (E++[e]) T↔IsT k E T:=by
 let h2:IsSet (E++[e]).length T:=by rw[Xw];show h.up
 constructor
 .rintro⟨_,a,b⟩;exists h,a,by rwa[Hb h]at b
 .rintro⟨_,a,b⟩;exists h2,a,by rwa[Hb h]
def aJ{e:Ed}(h:IsSet E.length T):(T++[E⁻¹]).map (SJ (E++[e]))=T.map (SJ E)++[(e.1,e.2.1)]:=by
 rw[YQ,Hb h];change _++[SJ (E++[e]) E⁻¹]=_
 unfold SJ;rw[aK]
def sh(a x:Nat):(Nat):=if x<a then x else x-1
def dl(a b x:Nat):(Nat):=if x=a then sh a b else sh a x
def GZ(a y:Nat):sh a (sk a y)=y:=by
 unfold sk;cases h:y<a
 .rw[if_pos h];unfold sh;rw[if_pos h]
 .rw[if_neg h];unfold sh;rw[if_neg J];lia
def AR(a y:Nat):sk a y≠a:=by unfold sk;split<;>lia
def QS(h:x≠a):sk a (sh a x)=x:=by
 unfold sh;cases c:x<a
 .rw[if_pos c];unfold sk;rw[if_pos c]
 .rw[if_neg c];unfold sk;rw[if_neg J];lia
def Lj(a b y:Nat):dl a b (sk a y)=y:=by unfold dl;rw[if_neg (AR a y),GZ]
def GY(hx:x≠a)(hy:y≠a)(h:sh a x=sh a y):x=y:=by
 have:=QP (sk a) h
 rwa[QS hx,QS hy]at this
def lJ(XM:b≠a)(h:dl a b x=dl a b y):x=y\/(x=a/\y=b)\/(x=b/\y=a):=by
 unfold dl at h;cases hx:x=a
 .rw[if_pos hx]at h;cases hy:y=a
  .show .inl (hx.trans hy.symm)
  .rw[if_neg hy]at h;show .inr (.inl ⟨hx,(GY XM hy h).symm⟩)
 .rw[if_neg hx]at h;cases hy:y=a
  .rw[if_pos hy]at h;show .inr (.inr ⟨GY hx XM h,hy⟩)
  .rw[if_neg hy]at h;show .inl (GY hx hy h)
def lI(a b:Nat)(XM:b≠a):dl a b a=dl a b b:=by unfold dl;rw[if_pos Z,if_neg XM]
def lH{es:List (Nat×Nat)}{i j:Nat}(XM:b≠a)(c:Conn (es++[(a,b)]) i j):Conn (es.map λe=>(dl a b e.1,dl a b e.2)) (dl a b i) (dl a b j):=by
 induction c with
 |refl i=>show .refl _
 |edge q=>
  rcases XA.mp q with q|q
  .show .edge (YN.mpr ⟨_,q,Z⟩)
  .let e:=XG.mp q;injection e with e1 e2
   rw[e1,e2,lI a b XM];show .refl _
 |symm _ ih=>show .symm ih
 |trans _ _ a b=>show .trans a b
def lG{es:List (Nat×Nat)}{u v:Nat}(XM:b≠a)(c:Conn (es.map λe=>(dl a b e.1,dl a b e.2)) u v):∀i j,dl a b i=u->dl a b j=v->Conn (es++[(a,b)]) i j:=by
 let he:Conn (es++[(a,b)]) a b:=.edge B;let same:∀i j,dl a b i=dl a b j->Conn (es++[(a,b)]) i j:=λi j e=>by
  rcases lJ XM e with e|⟨e1,e2⟩|⟨e1,e2⟩
  .rw[e];show .refl _
  .rw[e1,e2];show he
  .rw[e1,e2];show he.symm
 induction c with
 |refl u=>show λi j e1 e2=>same i j (e1.trans e2.symm)
 |edge q=>
  intro i j e1 e2;let⟨⟨x,y⟩,Lo,e⟩:=YN.mp q;injection e with x1 x2
  show(same i x<|e1.trans x1.symm).trans (.trans (.edge<|Yf _ Lo)<|same y j<|x2.trans e2.symm)
 |symm _ ih=>show λi j e1 e2=>(ih j i e2 e1).symm
 |@trans x y z _ _ Oa RU=>show λi j e1 e2=>(Oa i (sk a y) e1<|Lj a b y).trans (RU (sk a y) j (Lj a b y) e2)
def Li{a b x k:Nat}(ha:a<k+1)(hb:b<k+2)(XM:b≠a)(hx:x<k+2):dl a b x<k+1:=by
 unfold dl sh;cases h:x=a
 .rw[if_pos h];split<;>grind
 .rw[if_neg h];split<;>grind
def aI{a b k:Nat}{es:List (Nat×Nat)}(ha:a<k+1)(hb:b<k+2)(XM:b≠a):(∀i j,i<k+2->j<k+2->Conn (es++[(a,b)]) i j)↔∀i j,i<k+1->j<k+1->Conn (es.map λe=>(dl a b e.1,dl a b e.2)) i j:=by
 constructor
 .intro c i j h1 h2
  have:=lH XM (c (sk a i) (sk a j) (NW h1)<|NW h2)
  rwa[Lj,Lj]at this
 .show λc i j h1 h2=>lG XM (c _ _ (Li ha hb XM h1)<|Li ha hb XM h2) i j Z rfl
def RS(a b:Nat)(E:List Ed):(List Ed):=E.map λe=>(dl a b e.1,dl a b e.2.1,e.2.2)
def JF{z:Int}(h0:0<=z)(h1:z<E⁻¹):(RS a b E).getD z.toNat (0,0,0)=(dl a b (E.getD z.toNat (0,0,0)).1,dl a b (E.getD z.toNat (0,0,0)).2.1,(E.getD z.toNat (0,0,0)).2.2):=by unfold RS;rw[Ws,Ws,Yp,Xs DW];rfl
def JE(h:IsSet E.length T):T.map (SJ (RS a b E))=(T.map (SJ E)).map λe=>(dl a b e.1,dl a b e.2):=by
 rw[Ms];show VL λz hz=>?_
 have:=h.all z hz
 unfold SJ;rw[JF this.1 this.2];rfl
def AQ(h:∀z∈T,0<=z/\z<E⁻¹):Uh (RS a b E) T=Uh E T:=by
 induction T with
 |nil=>rfl
 |cons z T ih=>
  let hz:=h z Yc;change _*Uh (RS a b E) T=_*Uh E T
  rw[JF hz.1 hz.2,ih λy hy=>h y (Ye _ hy)]
def AO{e:Ed}(ha:a<k+1)(hb:b<k+2)(XM:b≠a)(he:(e.1=a/\e.2.1=b)\/(e.1=b/\e.2.1=a))(h:IsSet E.length T):IsT (k+1) (E++[e]) (T++[E⁻¹])↔IsT k (RS a b E) T:=by
 let hl:(RS a b E).length=E.length:=Yb ..;let hc:(∀i j,i<k+2->j<k+2->Conn ((T++[E⁻¹]).map (SJ<|E++[e])) i j)↔∀i j,i<k+2->j<k+2->Conn (T.map (SJ E)++[(a,b)]) i j:=by
  rw[aJ h];rcases he with ⟨e1,e2⟩|⟨e1,e2⟩
  .rw[e1,e2]
  .rw[e1,e2];exists λc i j x y=>bp<|c i j x y,λc i j x y=>bp<|c i j x y
 let h2:IsSet (E++[e]).length (T++[E⁻¹]):=by rw[Xw];show h.snoc
 constructor
 .rintro⟨_,x,y⟩;exists hl▸h,?_,?_
  .rw[Xw,Yt]at x;lia
  .rw[JE h];show(aI ha hb XM).mp (hc.mp y)
 .rintro⟨_,x,y⟩;rw[JE h]at y;exists h2,by rw[Xw,Yt,x],hc.mpr<|(aI ha hb XM).mpr y
def lE{E:List Ed}{e:Ed}(hE:∀f∈E,f.1<k+1/\f.2.1<k+1)(he:e.1=e.2.1)(h:IsSet E.length T):¬IsT k (E++[e]) (T++[E⁻¹]):=by
 rintro⟨_,x,y⟩;rw[aJ h]at y;let NZ:∀i j,i<k+1->j<k+1->Conn (T.map<|SJ E) i j:=λi j hi hj=>(y i j hi hj).lift λf hf=>by
  rcases XA.mp hf with q|q
  .show .edge q
  .rw[XG.mp q,he];show .refl _
 let Wl:InN (k+1) (T.map<|SJ E):=λf hf=>by
  let⟨z,hz,rfl⟩:=YN.mp hf
  have:=h.all z hz
  unfold SJ;rw[Ws,Xs J];show hE _ (Tv _)
 let h2:=(MY J Wl).mpr NZ;let h3:=wa _ Wl
 rw[Yb]at h3;rw[Xw,Yt]at x;lia
def lD{e:Ed}(hE:∀f∈E,f.1<k+1/\f.2.1<k+1)(he:e.1=e.2.1)(h:TW k E s):TW k (E++[e]) s:=by
 let⟨L,a1,a2,a3⟩:=h;exists L,a1,λT=>?_,?_
 .rw[a2];constructor
  .show λh=>(vG h.1).mpr h
  .intro h;let hs:=h.1
   rw[Xw]at hs;rcases mH hs with c|⟨T',c,c2⟩
   .show(vG c).mp h
   .show absurd (c▸h) (lE hE he c2)
 .rw[<-a3];show QP List.sum (VL λT hT=>Ha ((a2 T).mp hT).1.all)
def lC(a b:Ac):(a++b).sum=a.sum+b.sum:=by
 induction a with
 |nil=>rw[Pq,List.sum_nil,FL]
 |cons x a ih=>rw[Et,El,El,ih];lia
def Zo8(w:Int)(l:Ab)(f:Ac->Int):(l.map λT=>f T*w).sum=w*(l.map f).sum:=by
 induction l with
 |nil=>rw[List.map_nil,List.map_nil,List.sum_nil,Rk]
 |cons x l ih=>rw[TB,TB,El,El,ih,IV,Po]
def lB{e:Ed}(ha:a<k+1)(hb:b<k+2)(XM:b≠a)(he:(e.1=a/\e.2.1=b)\/(e.1=b/\e.2.1=a))(h1:TW (k+1) E s1)(h2:TW k (RS a b E) s2):TW (k+1) (E++[e]) (s1+e.2.2*s2):=by
 let⟨L,a1,a2,a3⟩:=h1;let⟨M,b1,b2,b3⟩:=h2;let hl:(RS a b E).length=E.length:=Yb ..
 exists L++M.map (·++[E⁻¹]),Wg.mpr ⟨a1,?_,λx hx y hy c=>?_⟩,λT=>?_,?_
 .show List.Pairwise.map _ (λx y h c=>h<|Ef c) b1
 .let⟨z,hz,c2⟩:=YN.mp hy
  have:=((a2 x).mp hx).1.all E⁻¹ (by rw[c,<-c2];simp)
  lia
 .rw[XA,a2,YN];constructor
  .rintro(h|⟨T',hT,rfl⟩)
   .show(vG h.1).mpr h
   .have:=(b2 T').mp hT
    show(AO ha hb XM he<|hl▸this.1).mpr this
  .intro h;let hs:=h.1
   rw[Xw]at hs;rcases mH hs with c|⟨T',c,c2⟩
   .show .inl ((vG c).mp h)
   .show .inr ⟨T',(b2 T').mpr ((AO ha hb XM he c2).mp (c▸h)),c.symm⟩
 .rw[YQ,lC,Ms];let e1:L.map (Uh<|E++[e])=L.map (Uh E):=VL λT hT=>Ha ((a2 T).mp hT).1.all
  let e2:M.map (Uh (E++[e])∘(·++[E⁻¹]))=M.map λT=>Uh (RS a b E) T*e.2.2:=VL λT hT=>by
   let hs:IsSet E.length T:=hl▸((b2 T).mp hT).1;change Uh (E++[e]) (T++[E⁻¹])=_
   rw[lK,Ha hs.all,AQ hs.all];change _*(((E++[e]).getD (E.length:Int).toNat (0,0,0)).2.2*1)=_
   rw[aK,Mq]
  rw[e1,e2,a3,Zo8,b3]
def AN(XM:b≠a):ind (dl a b u) (dl a b v) i=ind u v (sk a i)+(if sk a i=b then ind u v a else 0):=by
 let key:∀x:Nat,((if i=dl a b x then 1 else 0:Int))=(if sk a i=x then 1 else 0)+(if sk a i=b then (if a=x then 1 else 0) else 0):=λx=>by
  unfold dl;cases hx:x=a
  .rw[if_pos hx,if_neg<|show ¬sk a i=x from hx▸AR a i,FL];cases h:sk a i=b
   .rw[if_pos h,if_pos hx.symm,if_pos];rw[<-h,GZ]
   .rw[if_neg h,if_neg];intro e;show h (by rw[e,QS XM])
  .rw[if_neg hx];let e2:(if sk a i=b then (if a=x then 1 else 0:Int) else 0)=0:=by rw[if_neg (Xc hx)];split<;>rfl
   rw[e2,Vu];cases h:sk a i=x
   .rw[if_pos h,if_pos];rw[<-h,GZ]
   .rw[if_neg h,if_neg];intro e;show h (by rw[e,QS hx])
 unfold ind;rw[key u,key v];cases h:sk a i=b
 .rw[if_pos h,if_pos h,if_pos h];lia
 .rw[if_neg h,if_neg h,if_neg h];lia
def aH(XM:b≠a)(i j:Nat):∀E:List Ed,lapE (RS a b E) i j=PD (lapE E) a b (sk a i) (sk a j)
 |[]=>by
  change(0:Int)=_;unfold PD lapE;cases h:sk a i=b
  .cases h2:sk a j=b
   .rw[if_pos h,if_pos h2];rfl
   .rw[if_pos h,if_neg h2];rfl
  .cases h2:sk a j=b
   .rw[if_neg h,if_pos h2];rfl
   .rw[if_neg h,if_neg h2];rfl
 |e::E=>by
  let ih:=aH XM i j E;change e.2.2*(ind (dl a b e.1) (dl a b e.2.1) i*ind (dl a b e.1) (dl a b e.2.1) j)+lapE (RS a b E) i j=_
  rw[ih,AN XM,AN XM];unfold PD;change _=(e.2.2*(ind e.1 e.2.1 (sk a i)*ind e.1 e.2.1 (sk a j))+lapE E (sk a i) (sk a j)+(if sk a i=b then e.2.2*(ind e.1 e.2.1 a*ind e.1 e.2.1 (sk a j))+lapE E a (sk a j) else 0))+(if sk a j=b then (e.2.2*(ind e.1 e.2.1 (sk a i)*ind e.1 e.2.1 a)+lapE E (sk a i) a)+(if sk a i=b then e.2.2*(ind e.1 e.2.1 a*ind e.1 e.2.1 a)+lapE E a a else 0) else 0)
  generalize ind e.1 e.2.1 (sk a i)=x;generalize ind e.1 e.2.1 (sk a j)=y;generalize ind e.1 e.2.1 a=z;generalize e.2.2=w;cases h:sk a i=b
  .cases h2:sk a j=b
   .simp only[if_pos h,if_pos h2,IV,xn];lia
   .simp only[if_pos h,if_neg h2,IV,xn,Vu,Rk];lia
  .cases h2:sk a j=b
   .simp only[if_neg h,if_pos h2,IV,xn,Vu,Ej];lia
   .simp only[if_neg h,if_neg h2,Vu]
def aG(u v i:Nat):ind v u i=- ind u v i:=by unfold ind;lia
def lz{e:Ed}(ha:a<k+1)(hb:b<k+2)(XM:b≠a)(he:(e.1=a/\e.2.1=b)\/(e.1=b/\e.2.1=a)):det (k+1) (lapE (E++[e]))=det (k+1) (lapE E)+e.2.2*det k (lapE (RS a b E)):=by
 let e1:det (k+1) (lapE<|E++[e])=det (k+1) (λi j=>lapE E i j+e.2.2*(ind a b i*ind a b j)):=Zi λi j _ _=>by
  rw[lM];rcases he with ⟨x,y⟩|⟨x,y⟩
  .rw[x,y]
  .rw[x,y,aG a b i,aG a b j,Int.neg_mul_neg]
 let e2:det k (lapE<|RS a b E)=det k (λi j=>PD (lapE E) a b (sk a i)<|sk a j):=Zi λi j _ _=>aH XM i j E;rw[e1,e2];cases hk:b<k+1
 .show lN ha hk (Xc XM)
 .let e3:det (k+1) (λi j=>lapE E i j+e.2.2*(ind a b i*ind a b j))=det (k+1) (λi j=>lapE E i j+e.2.2*((if i=a then 1 else 0)*(if j=a then 1 else 0))):=Zi λi j hi hj=>by unfold ind;rw[if_neg (show ¬i=b by lia),if_neg (show ¬j=b by lia),xp,xp]
  let e4:det k (λi j=>PD (lapE E) a b (sk a i)<|sk a j)=det k (λi j=>lapE E (sk a i)<|sk a j):=Zi λi j hi hj=>by
   let h1:=NW (j:=a) hi;let h2:=NW (j:=a) hj
   unfold PD;rw[if_neg (show ¬sk a i=b by lia),if_neg (show ¬sk a j=b by lia),Vu,Vu]
  rw[e3,e4];show aO ha
def aE{e:Ed}(he:e.1=e.2.1):lapE (E++[e])=lapE E:=by
 funext i j
 rw[lM,he];unfold ind;rw[Int.sub_self,Ej,Rk,Vu]
def vE:∀m k E,E.length=m->(∀e∈E,e.1<k+1/\e.2.1<k+1)->TW k E (det k (lapE E))
 |0,k,E,hm,_=>by
  let rfl:=YM.mp hm;cases k with
  |zero=>
   exists [[]],B,λT=>?_,Z;rw[XG];constructor
   .rintro rfl;show⟨IsSet.nil _,Z,λi j hi hj=>by
     have:i=j:=J
     rw[this];show .refl j⟩
   .intro h;show YM.mp h.2.1
  |succ k=>
   exists [],.nil,λT=>⟨λh=>(by cases h),λh=>?_⟩,?_
   .let h1:=h.1.len;let h2:=h.2.1
    rw[Kv]at h1;lia
   .show(aZ (i:=0) J λj _=>rfl).symm
 |m+1,k,E,hm,hE=>by
  obtain⟨E',e,rfl⟩:∃E' e,E=E'++[e]:=⟨E.dropLast,E.getLast (λh=>by rw[h]at hm;cases hm),(fg _).symm⟩;let Ke:E'.length=m:=by rw[Xw]at hm;simpa using hm
  let ly:∀f∈E',f.1<k+1/\f.2.1<k+1:=λf hf=>hE f (Yf _ hf);let he:=hE e B
  let ih:=vE m k E' Ke ly;cases hl:e.1=e.2.1
  .rw[aE hl];show lD ly hl ih
  .obtain⟨k',rfl⟩:∃k',k=k'+1:=⟨k-1,J⟩;obtain⟨a,b,ha,hb,XM,Vi⟩:∃a b,a<k'+1/\b<k'+2/\b≠a/\((e.1=a/\e.2.1=b)\/(e.1=b/\e.2.1=a)):=by
    cases c:e.1<k'+1
    .exists e.1,e.2.1,c,he.2,λh=>hl h.symm,.inl ⟨Z,Z⟩
    .exists e.2.1,e.1,J,he.1,hl,.inr ⟨Z,Z⟩
   let RU:=vE m k' (RS a b E') (by unfold RS;rwa[Yb]) λf hf=>by
    let⟨g,hg,rfl⟩:=YN.mp hf
    have:=ly g hg
    exists Li ha hb XM this.1,Li ha hb XM this.2
   rw[lz ha hb XM Vi];show lB ha hb XM Vi ih RU
def Vh(ps:Aa)(ws:Ac):(List Ed):=List.zipWith (λp w=>(p.1.toNat,p.2.toNat,w)) ps ws
def az(h1:1<=n)(hw:ws.length=ps.length):IsT (n-1).toNat (Vh ps ws) T↔Zg n ps T:=by
 let hl:(Vh ps ws).length=ps.length:=by unfold Vh;rw[Ey];grind
 let hm:IsSet ps.length T->T.map (SJ<|Vh ps ws)=XS ps T:=λhs=>VL λz hz=>by
  have:=hs.all z hz
  unfold SJ Vh;rw[Ws,FY,Xs J,Xs (show z.toNat<ws.length by lia),Ws,Xs DW];rfl
 unfold IsT Zg;rw[hl];constructor
 .rintro⟨a,b,c⟩;rw[hm a]at c;exists a,J,λi j hi hj=>c i j J sV
 .rintro⟨a,b,c⟩;rw[hm a];exists a,J,λi j hi hj=>c i j J J
def AM(h:∀e∈E,e.2.2=1):∀{T:Ac},(∀z∈T,0<=z/\z<E⁻¹)->Uh E T=1
 |[],_=>rfl
 |z::T,hb=>by
  let hz:=hb z Yc;change(E.getD z.toNat (0,0,0)).2.2*Uh E T=1
  rw[AM h λy hy=>hb y<|Ye _ hy,Mq,Ws,Xs J];show h _ (Tv _)
def lx{l:Ab}{f:Ac->Int}(h:∀T∈l,f T=1):(l.map f).sum=l⁻¹:=by
 induction l with
 |nil=>rfl
 |cons x l ih=>
  rw[TB,El,ih λT hT=>h T<|Ye _ hT,h x Yc,YF];lia
def AL(g:Zu n ps)(ws:Ac):∀e∈Vh ps ws,e.1<(n-1).toNat+1/\e.2.1<(n-1).toNat+1:=λe he=>by
 unfold Vh at he;let⟨i,hi⟩:=YC he;rw[FY]at hi;let g1:=g.1
 cases h1:ps[i]? with
 |none=>rw[h1]at hi;cases hi
 |some p=>
  cases h2:ws[i]? with
  |none=>rw[h1,h2]at hi;cases hi
  |some w=>
   rw[h1,h2]at hi;let rfl:=Yi hi;let⟨a,b,c,d⟩:=g.2.2.2 p (Xg h1);exists by change p.1.toNat<_;grind,by change p.2.toNat<_;lia
def lu(g:Zu n ps){L:Ab}(hL:L.Nodup)(hm:∀l,l∈L↔Zg n ps l):det (n-1).toNat (lapE (Vh ps (List.replicate ps.length 1)))=L⁻¹:=by
 let g1:=g.1;let hw:(List.replicate ps.length (1:Int)).length=ps.length:=YU
 let⟨M,a1,a2,a3⟩:=vE _ (n-1).toNat (Vh ps<|List.replicate ps.length 1) Z (AL g _);let hl:(Vh ps<|List.replicate ps.length 1).length=ps.length:=by unfold Vh;rw[Ey,hw];grind
 let w1:∀e∈Vh ps (List.replicate ps.length (1:Int)),e.2.2=1:=λe he=>by
  unfold Vh at he;let⟨i,hi⟩:=YC he;rw[FY]at hi;cases h1:ps[i]? with
  |none=>rw[h1]at hi;cases hi
  |some p=>
   cases h2:(List.replicate ps.length (1:Int))[i]? with
   |none=>rw[h1,h2]at hi;cases hi
   |some w=>
    rw[h1,h2]at hi;let rfl:=Yi hi;show xX (Xg h2)
 rw[<-a3,lx λT hT=>AM w1 ((a2 T).mp hT).1.all];let hp:M.Perm L:=(Kz a1 hL).mpr λl=>by rw[a2,hm,az g1 hw]
 rw[hp.length_eq]
end My
namespace L2
open PySem PySem.Spec PyProof.Rows
section
variable{X:Cx}
def lr(K:Ad):(V->V->Hp->VK->Prop):=λx y H Q=>∃p xs i v,x=.ref p/\y=.int i/\SqL K H p xs/\0<=i/\xs[i.toNat]?=some v/\Q v H
def vD(K:Ad)(hk:X.K=K:=by rfl):DM X (lr K):=by
 subst hk;intro pins s σ H o i ov iv Q I ro ri h;let⟨p,xs,j,z,rfl,rfl,hq,h0,he,q⟩:=h;cases ro;let⟨t,rfl⟩:=ri;let⟨XX,r,pl,hz⟩:=I.list hq;let⟨w,ew,Ih⟩:=r.get he;let hl:=r.length
 let hn:=Dy;let Xm:=(Xy.mp he).1
 show wpAny_getItem_list pl.isList h0 J (by simpa using ew) ⟨z,H,I,Ih,q⟩
end
end L2
namespace My
open PySem L2
def aw{g:TG}{tb:TS}{D:Ends}(Lo:xs.length=ys.length)(Pv:Nat->St->Hp->Prop)(h0:Pv 0 σ H)(hl:∀i σ H,i<=xs.length->Pv i σ H->SqL K H a xs/\SqL K H b ys)
  (hs:∀(i:Nat) x y σ H (p:Addr),H p=none->xs[i]?=some x->ys[i]?=some y->Pv i σ H->g ↑p σ (upd H p<|.tup [x,y]) λσ2 H2=>tb {D with nx:=Pv<|i+1,ct:=Pv<|i+1,bk:=D.nx} σ2 H2)(hd:∀σ H,Pv xs.length σ H->D.nx σ H):
  ∃W:Nat->Nat->St->Hp->Prop,(∃m,W 0 m σ H)/\∀i m σ H,W i m σ H->
   ((Fc K a b).stop i H/\D.nx σ H)\/((Fc K a b).go i H/\∃N:St->Hp->Prop,(∀σ' H',N σ' H'->∃m',m'<m/\W (i+1) m' σ' H')/\∀x H',(Fc K a b).yld i H x H'->g x σ H' λσ2 H2=>tb {D with nx:=N,ct:=N,bk:=D.nx} σ2 H2):=by
 exists λi m σ H=>m=xs.length-i/\i<=xs.length/\Pv i σ H,⟨xs.length,B,Ym _,h0⟩,?_;rintro i m σ H ⟨rfl,hi,p⟩;let⟨q,q2⟩:=hl i σ H hi p;cases Xm:i<xs.length
 .show .inr ⟨⟨xs,ys,xs[i],ys[i]'(by lia),q,q2,by simp[Xm],Xs DW⟩,Pv<|i+1,λσ' H' p'=>⟨xs.length-(i+1),sV,Z,Xm,p'⟩,λx H' ⟨T,u,v,hT,ex,eH,hu,hv⟩=>?_⟩;subst ex eH;show hs i u v σ H T hT (hu xs q) (hv ys q2) p
 .let e:i=xs.length:=J;subst e;show .inl ⟨⟨xs,ys,q,q2,.inl<|XN _⟩,hd σ H p⟩
structure TabAt(H0:Hp)(r:Addr)(n:Nat)(H:Hp)(ys:List V)(L:Ab):Prop where
 tab:H r=some (.lst ys)
 rows:Bears (LiV r H) ys L
 len:L.length=n
 all:∀l∈L,l.length=n
 nd:ys.Nodup
 new:∀A,V.ref A∈ys->H0 A=none
def TabAt.same(s:Same H H')(h:TabAt H0 r n H ys L):TabAt H0 r n H' ys L:=⟨s _ _ h.tab,h.rows.imp λ_ _ q=>q.same s,h.len,h.all,h.nd,h.new⟩
def TabAt.at(h:TabAt H0 r n H ys L){i:Nat}(hi:i<n):∃A l,ys[i]?=some ↑A/\L[i]?=some l/\H A=some (.lst (IL l))/\l.length=n/\H0 A=none/\A≠r:=by let hl:=h.len;obtain⟨l,e⟩:∃l,L[i]?=some l:=⟨_,Xs J⟩;let⟨v,e1,A,rfl,e2,e3⟩:=h.rows.2 i l e;exists A,l,e1,e,e2,h.all l<|Xg e,h.new A<|Xg e1,e3
def TabAt.put(h:TabAt H0 r n H ys L){l l':Ac}(e1:ys[i]?=some ↑A)(e2:L[i]?=some l)(e3:A≠r)(hl:l'.length=n):TabAt H0 r n (upd H A (.lst (IL l'))) ys (L.set i l'):=by
 let hi:=(Xy.mp e2).1;let Ut:=(Xy.mp e1).1
 exists by rw[XJ (Xc e3)];show h.tab,⟨by rw[Mz];show h.rows.1,λj m em=>?_⟩,by rw[Mz];show h.len,λm hm=>?_,h.nd,h.new
 .rw[MC]at em;cases c:i=j
  .subst c;rw[if_pos Z,if_pos hi]at em;let rfl:=Yi em;exists _,e1,A,Z,XQ,e3
  .rw[if_neg c]at em;let⟨v,f1,AP,rfl,f2,f3⟩:=h.rows.2 j m em;exists _,f1,AP,Z,?_,f3;rw[XJ]
   .show f2
   .intro e;rw[e]at f1;show c (Fx h.nd e1 f1)
 .rcases eS hm with e|e
  .show h.all m e
  .rw[e];show hl
def lq{L:Ab}{l:Ac}(hi:L[i]?=some l)(hj:j<l.length)(a b:Nat):fnL (L.set i (l.set j x)) a b=if a=i/\b=j then x else fnL L a b:=by
 let Ut:=(Xy.mp hi).1;unfold fnL;cases ha:a=i
 .subst ha;let e1:(L.set a<|l.set j x).getD a []=l.set j x:=by rw[Ws,MC,if_pos Z,if_pos Ut];rfl
  let e2:L.getD a []=l:=by rw[Ws,hi];rfl
  rw[e1,e2];cases hb:b=j
  .subst hb;rw[if_pos ⟨Z,Z⟩,Ws,MC,if_pos Z,if_pos hj];rfl
  .rw[if_neg λh=>hb h.2,Ws,MC,if_neg<|Xc hb,<-Ws]
 .let e1:(L.set i<|l.set j x).getD a []=L.getD a []:=by rw[Ws,Ws,MC,if_neg (Xc ha)]
  rw[e1,if_neg λh=>ha h.1]
def four{A:Mx}{u v:Nat}{w:Int}(XM:u≠v)(a b:Nat){AP C D E:Mx}(h1:∀a b,AP a b=if a=u/\b=u then A u u+w else A a b)(h2:∀a b,C a b=if a=v/\b=v then AP v v+w else AP a b)(h3:∀a b,D a b=if a=u/\b=v then C u v-w else C a b)(h4:∀a b,E a b=if a=v/\b=u then D v u-w else D a b):E a b=A a b+w*(ind u v a*ind u v b):=by
 let nv:¬v=u:=Xc XM;unfold ind;cases x1:a=u
 .subst x1;cases y1:b=a
  .subst y1;simp[h4,h3,h2,h1,XM,nv]
  .cases y2:b=v
   .subst y2;simp[h4,h3,h2,h1,XM,nv];lia
   .simp[h4,h3,h2,h1,XM,nv,y1,y2]
 .cases x2:a=v
  .subst x2;cases y1:b=u
   .subst y1;simp[h4,h3,h2,h1,XM,nv];omega
   .cases y2:b=a
    .subst y2;simp[h4,h3,h2,h1,XM,nv]
    .simp[h4,h3,h2,h1,XM,nv,y1,y2]
  .simp[h4,h3,h2,h1,XM,nv,x1,x2]
def lj{ps:Aa}{ws:Ac}{p:Int×Int}{w:Int}(hp:ps[i]?=some p)(hw:ws[i]?=some w):Vh (ps.take (i+1)) (ws.take (i+1))=Vh (ps.take i) (ws.take i)++[(p.1.toNat,p.2.toNat,w)]:=by
 let h1:=(Xy.mp hp).1;let h2:=(Xy.mp hw).1
 unfold Vh;rw[WB,WB,hp,hw];rw[List.zipWith_append (by rw[Yl,Yl];grind)];rfl
def Conn.image{f:Nat->Nat}(h:∀e∈es,Conn fs (f e.1) (f e.2))(c:Conn es i j):Conn fs (f i) (f j):=by
 induction c with
 |refl i=>show .refl _
 |edge e=>show h _ e
 |symm _ ih=>show ih.symm
 |trans _ _ Oa RU=>show Oa.trans RU
def lh(g:Zu n ps)(h:IsSet ps.length T)(c:∀i j,i<n.toNat->j<n.toNat->Conn (XS ps T) i j):n-1<=T⁻¹:=by
 let g1:=g.1;let Wl:=ZL (ns:=T) g h.all
 let h2:=(MY J Wl).mpr c;let h3:=wa _ Wl
 rw[show(XS ps T).length=T.length from Yb ..]at h3;lia
end My
namespace L2
open PySem
def Qn(t:SetTable):(Prop):=t.place.toList.Pairwise (·<·)
def vC{xs:Array Nat}(h:xs.toList.Pairwise (·<·)){i k a b:Nat}(lg:i<k)(ha:xs[i]?=some a)(hb:xs[k]?=some b):a<b:=by rw[<-YI]at ha hb;let⟨h1,e1⟩:=Xy.mp ha;let⟨h2,e2⟩:=Xy.mp hb;rw[<-e1,<-e2];show UT.mp h i k h1 h2 lg
def k9(h:xs.toList.Pairwise (·<·)):∀f lo hi,hi-lo<=f->lo<=hi->hi<=xs.size->(∀i v,xs[i]?=some v->i<lo->v<j)->(∀i v,xs[i]?=some v->hi<=i->j<=v)->
  SetTable.below.go xs j f lo hi<=xs.size/\∀i v,xs[i]?=some v->(i<SetTable.below.go xs j f lo hi↔v<j)
 |0,lo,hi,hf,hl,hs,a,b=>by
  let e:lo=hi:=sV;unfold SetTable.below.go;exists J,λi v hv=>⟨a i v hv,λhvj=>Nat.lt_of_not_le λhc=>?_⟩
  have:=b i v hv J
  lia
 |f+1,lo,hi,hf,hl,hs,a,b=>by
  unfold SetTable.below.go;cases c:lo<hi
  .rw[if_pos c];dsimp only;obtain⟨m,hm⟩:∃m,xs[(lo+hi)/2]?=some m:=⟨_,YR J⟩;let em:xs.getD ((lo+hi)/2) j=m:=by rw[Yz,hm];rfl
   rw[em];cases d:m<j
   .rw[if_pos d];show k9 h f _ hi sV J hs (λi v hv Uz=>?_) b;cases e:i=(lo+hi)/2
    .rw[e,hm]at hv;show Yi hv▸d
    .have:=vC h (show i<(lo+hi)/2 by lia) hv hm
     lia
   .rw[if_neg d];show k9 h f lo _ sV J J a λi v hv Uz=>?_;cases e:i=(lo+hi)/2
    .rw[e,hm]at hv
     have:=Yi hv
     lia
    .have:=vC h (show(lo+hi)/2<i by lia) hm hv
     lia
  .rw[if_neg c];exists sV,λi v hv=>⟨a i v hv,λhvj=>Nat.lt_of_not_le λhc=>?_⟩
   have:=b i v hv J
   lia
def vB(h:xs.toList.Pairwise (·<·))(j:Nat):SetTable.below xs j<=xs.size/\∀i v,xs[i]?=some v->(i<SetTable.below xs j↔v<j):=
 k9 h xs.size 0 xs.size J (Ym _) (XN _) (λi v _ h=>absurd h<|Sf _) λi v hv hi=>by rw[xU hi]at hv;cases hv
def k8(h:xs.toList.Pairwise (·<·)){i v:Nat}(hv:xs[i]?=some v):SetTable.below xs v=i:=by
 let⟨h1,h2⟩:=vB h v;let a:¬i<SetTable.below xs v:=λq=>by have:=(h2 i v hv).mp q;lia
 show tP J (xH λq=>?_);let Xm:=(eW.mp hv).1
 obtain⟨u,hu⟩:∃u,xs[SetTable.below xs v]?=some u:=⟨_,YR J⟩;let b:=vC h q hu hv
 have:=(h2 _ u hu).mpr b
 lia
def Zc8(h:xs.toList.Pairwise (·<·)){i v:Nat}(hv:xs[i]?=some v):SetTable.below xs (v+1)=i+1:=by
 let⟨h1,h2⟩:=vB h (v+1);let a:=(h2 i v hv).mpr (Np v)
 show tP (xH λq=>?_) a;obtain⟨u,hu⟩:∃u,xs[i+1]?=some u:=⟨_,YR J⟩;let b:=(h2 _ u hu).mp q
 have:=vC h (Np i) hv hu
 lia
def Zb8(h:xs.toList.Pairwise (·<·)):SetTable.below xs 0=0:=by let⟨h1,h2⟩:=vB h 0;show Nat.le_zero.mp (xH λq=>?_);obtain⟨u,hu⟩:∃u,xs[0]?=some u:=⟨_,YR J⟩;show Sf _ ((h2 _ u hu).mp q)
def Fb(t:SetTable)(j:Nat):(Prop):=t.place[SetTable.below t.place j]?≠some j
def k7(h:Qn t)(hn:Fb t j):Qn (t.put j).1:=by
 let⟨h1,h2⟩:=vB h j;let up:∀i v,t.place[i]?=some v->SetTable.below t.place j<=i->j<v:=λi v hv hi=>by
  let a:¬v<j:=λq=>by have:=(h2 i v hv).mpr q;lia
  let b:v≠j:=λe=>hn (by rw[e]at hv;rwa[k8 h hv]);lia
 change(SetTable.insertAt t.place (SetTable.below t.place j) j).toList.Pairwise (·<·);rw[SetTable.toList_insertAt];let dn:∀x∈t.place.toList.take (SetTable.below t.place j),x<j:=λx hx=>by
  let⟨i,hi⟩:=YC hx;rw[VW]at hi;split at hi
  .rename_i q;rw[YI]at hi;show(h2 i x hi).mp q
  .cases hi
 let ub:∀x∈t.place.toList.drop (SetTable.below t.place j),j<x:=λx hx=>by let⟨i,hi⟩:=YC hx;rw[MF,YI]at hi;show up _ x hi (Nat.le_add_right _ _)
 show YH.mpr ⟨Mn (ME _ _) h,YT.mpr ⟨ub,Mn (Pn _ _) h⟩,λa ha b hb=>?_⟩;rcases Yh.mp hb with e|e
 .rw[e];show dn a ha
 .show Nat.lt_trans (dn a ha) (ub b e)
def av(h:t.slot j=.empty\/t.slot j=.dummy):Fb t j:=λe=>by
 let e2:t.slot j=.live (SetTable.below t.place j):=by unfold SetTable.slot;dsimp only;rw[if_pos (by rw[e];simp)]
 rw[e2]at h;rcases h with h|h<;>cases h
def k6{f:Nat->Int}:∀n p j d,(∀e,p.dummy=some e->Fb t e)->SetTable.probe.go t f h n p=some (.empty j d)->Fb t j/\∀e,d=some e->Fb t e
 |0,p,j,d,_,h=>by cases h
 |n+1,p,j,d,hp,h=>by
  let au:∀q:SetTable.Probe,(t.advance q).dummy=q.dummy:=λq=>by unfold SetTable.advance;split<;>rfl
  unfold SetTable.probe.go at h;split at h
  .rename_i hs;cases h;exists av<|.inl hs,hp
  .rename_i hs;show k6 n _ j d (λe he=>by rw[au]at he;cases he;show av<|.inr hs) h
  .split at h
   .cases h
   .show k6 n _ j d (λe he=>hp e<|by rwa[au]at he) h
def k4{b:Bool}(e:t.freeSlot h=some (s,b)):Fb t s:=by
 unfold SetTable.freeSlot at e;split at e
 .rename_i j d hp;let⟨a1,a2⟩:=k6 _ _ j d (λe he=>by cases he) hp;let e1:=QP Prod.fst (Yi e)
  dsimp only at e1;rw[<-e1];cases d with
  |none=>show a1
  |some x=>show a2 x rfl
 .cases e
def vA(t:SetTable)(n:Nat):Qn (t.standIn n):=by change(Array.range n).toList.Pairwise (·<·);rw[Array.toList_range];show ED
def kZ(h:Qn t)(es:Array (Int×Value))(k:Int)(x:Value):Qn (layNew t es k x).2.1/\(layNew t es k x).2.1.led=t.led:=by
 unfold layNew;split
 .rename_i s b e;dsimp only;unfold SetTable.orStandIn;split
  .exists k7 h<|k4 e,Z
  .exists vA _ _,Z
 .exists vA _ _,Z
def Zu8(h:Qn t)(es:Array (Int×Value))(n:Nat):Qn (relayAll t es n).2.1/\(relayAll t es n).2.1.led=t.led:=by
 unfold relayAll;split
 .rename_i t' order e;dsimp only;split
  .unfold SetTable.relaid SetTable.laid at e;cases ho:SetTable.layClean (SetTable.sizeAbove n-1) (es.map (·.1)) with
   |none=>rw[ho]at e;cases e
   |some owner=>
    rw[ho]at e;let e1:=QP Prod.fst (Yi e)
    dsimp only at e1;rw[<-e1];exists ?_,Z;change(List.map _<|List.filterMap _ _).toArray.toList.Pairwise (·<·)
    rw[List.toList_toArray,MD,List.pairwise_filterMap];show ED.imp λ{a b} Vi x hx y hy=>?_;let ex:x.1=a:=by
     cases q:owner.getD a none with
     |none=>rw[q]at hx;cases hx
     |some z=>rw[q]at hx;cases hx;rfl
    let ey:y.1=b:=by
     cases q:owner.getD b none with
     |none=>rw[q]at hy;cases hy
     |some z=>rw[q]at hy;cases hy;rfl
    rwa[ex,ey]
  .exists vA _ _,Z
 .exists vA _ _,Z
end L2
namespace L2
open PySem PySem.Spec PyProof.Rows
def SetR(P:Program)(w:World)(h:Heap)(a:Addr)(led:Bool)(S:Int->Bool)(n:Nat):(Prop):=
 ∃o es ep t,h.get? a=some o/\o.ExactSet/\o.data=.set es ep t/\ElemsOf (intKind P w) es.toList/\(∀z,S z=true↔∃y∈es.toList,(intKind P w).is z y.2=true)/\es.size<scanBound/\t.fits es.size=true/\es.size=n/\Qn t/\t.led=led
def SetR.at{S:Int->Bool}(q:SetR P w h a led S n)(k:∀o,h.get? a=some o->h'.get? a=some o):SetR P w h' a led S n:=
 let ⟨o,es,ep,t,ho,r⟩:=q
 ⟨o,es,ep,t,k o ho,r⟩
section
variable{prog:Program}{w:World}{A:Around}{E:Ae}{s:Shared}
def aq{h:Heap}{o:Obj}{es:Array (Int×Value)}{ep:Nat}{t:SetTable}(ho:h.get? a=some o)(hx:o.ExactSet)(hd:o.data=.set es ep t)(fs:Array (Int×Value))(u:SetTable):
  (h.update a<|Obj.putSet fs u).get? a=some {o with data:=.set fs (ep+1) u}/\({o with data:=.set fs (ep+1) u}:Obj).ExactSet:=by let q:=Pw (Obj.putSet fs u) ho (by rw[putSet_of fs u hd];rfl);rw[putSet_of fs u hd]at q;exists q,hx
def AK{gv:Bool->Sem Unit}(hgv:∀b s1 R,R () s1->wpAny (model prog w) A (gv b) R E s1)
 {o:Obj}{es fs:Array (Int×Value)}{ep:Nat}{t u:SetTable}(ho:s.heap.get? a=some o)(hx:o.ExactSet)(hd:o.data=.set es ep t)
  {S:Int->Bool}(he:ElemsOf (intKind prog w) fs.toList)(hm:∀z,S z=true↔∃y∈fs.toList,(intKind prog w).is z y.2=true)(hb:fs.size<scanBound)(hf:u.fits fs.size=true)(hr:Qn u){dm:Bool}{R:Option Bool->Shared->Prop}
  (k:∀h',Heap.SameBut a s.heap h'->SetR prog w h' a u.led S fs.size->R (some true) {s with heap:=h'}):
  wpAny (model prog w) A (do
   storeSet a fs u
   if (!dm&&u.tooFull)=true then do
    gv (relayAll u fs<|SetTable.grown fs.size).2.2
    storeSet a (relayAll u fs<|SetTable.grown fs.size).1 (relayAll u fs<|SetTable.grown fs.size).2.1
    pure (some true)
   else pure (some true)) R E s:=by
 let⟨h1,x1⟩:=aq ho hx hd fs u;let b1:=SG s.heap a (Obj.putSet fs u)
 show XU (wpAny_storeSet_of ho hd ?_<|fits_of_scanBound hb);cases c:(!dm&&u.tooFull)=true
 .rw[if_pos c];let p:=relayAll_perm u fs (SetTable.grown fs.size)
  let f:=relayAll_fits u fs (SetTable.grown fs.size);let⟨r,l⟩:=Zu8 hr fs (SetTable.grown fs.size);generalize relayAll u fs (SetTable.grown fs.size)=sO at p f r l ⊢;let⟨gs,v,gave⟩:=sO;dsimp only at p f r l ⊢;let ez:gs.size=fs.size:=by rw[<-Yu,p.length_eq,Yu]
  let⟨h2,x2⟩:=aq h1 x1 Z gs v;show XU (hgv _ _ _<|XU<|wpAny_storeSet_of h1 Z (Yj ?_)<|fits_of_scanBound<|by rwa[ez]);show k _ (b1.trans<|SG _ a _) ⟨_,gs,_,v,h2,x2,Z,he.perm p,λz=>(hm z).trans ⟨λzz=>by let⟨y,hy,q⟩:=zz;show⟨y,p.mem_iff.mpr hy,q⟩,λzz=>by let⟨y,hy,q⟩:=zz;exists y,p.mem_iff.mp hy,q⟩,by rw[ez];show hb,f,ez,r,l⟩
 .rw[if_neg c];show Yj (k _ b1 ⟨_,fs,_,u,h1,x1,Z,he,hm,hb,hf,Z,hr,Z⟩)
def AJ{S:Int->Bool}{z:Int}{x:Value}{R:Bool->Shared->Prop}(hz:(intKind prog w).is z x=true)(PQ:x.scannable=true)(hS:SetR prog w s.heap a led S n)(room:n+1<scanBound)
  (k:∀h',Heap.SameBut a s.heap h'->SetR prog w h' a led (λy=>S y||decide (y=z)) (if S z then n else n+1)->R (!S z) {s with heap:=h'}):
  wpAny (model prog w) A (setAddHashed a x<|(intKind prog w).hash z) R E s:=by
 let⟨o,es,ep,t,ho,hx,hd,he,hm,hb,hf,hn,hr,hl⟩:=hS;unfold setAddHashed setAddHashedIn;show Se (XU<|FR ho hd hf ?_);dsimp only;rw[if_pos (byScan_of PQ hb he)];unfold setAddByScan;show XU (XU<|PY<|XU<|wpAny_setScan_of hz ho hd hf he ?_);cases hw:List.findIdx? (λy=>(intKind prog w).is z y.2) es.toList with
 |some j=>
  let⟨j1,j2,_⟩:=List.findIdx?_eq_some_iff_getElem.mp hw;let yes:S z=true:=(hm z).mpr ⟨es.toList[j],Tv j1,j2⟩
  let fin:=k s.heap (Heap.SameBut.refl a s.heap) ⟨o,es,ep,t,ho,hx,hd,he,λy=>by rw[tI,Je,<-hm y];show⟨λq=>q.elim id λq=>q▸yes,.inl⟩,hb,hf,by rw[yes];show hn,hr,hl⟩
  rw[yes]at fin;dsimp only;show Yj (Yj fin)
 |none=>
  let no:S z=false:=tY.mpr λq=>by
   let⟨y,hy,hp⟩:=(hm z).mp q
   have:=List.findIdx?_eq_none_iff.mp hw y hy
   rw[hp]at this;cases this
  dsimp only;let p:=layNew_perm t es ((intKind prog w).hash z) x
  let f:=layNew_fits t es ((intKind prog w).hash z) x;let⟨r,l⟩:=kZ hr es ((intKind prog w).hash z) x;generalize layNew t es ((intKind prog w).hash z) x=sO at p f r l ⊢;let⟨fs,u,dm,gave⟩:=sO;dsimp only at p f r l ⊢;rw[RQ]at p;let ez:fs.size=n+1:=by rw[<-Yu,p.length_eq,Xw,Yu,hn];rfl
  let gw:∀(b:Bool){s1:Shared}{R':Unit->Shared->Prop},R' () s1->wpAny (model prog w) A (match b with|true=>rule "set.scan.the-table-gave-way" | false=>pure ()) R' E s1:=λb s1 R' q=>by
   cases b
   .show Yj q
   .show PY q
  let fin:∀h',Heap.SameBut a s.heap h'->SetR prog w h' a led (λy=>S y||decide (y=z)) fs.size->R true {s with heap:=h'}:=λh' q1 q2=>by let q:=k h' q1;rw[no]at q;rw[ez]at q2;show q q2
  let AI:=(he.push hz PQ).perm p;let TR:∀y,(S y||decide (y=z))=true↔∃v∈fs.toList,(intKind prog w).is y v.2=true:=mem_push_iff hz hm p
  let vy:fs.size<scanBound:=J;show XU (gw _ ?_);let tail:∀v:SetTable,v.fits fs.size=true->Qn v->v.led=led->wpAny (model prog w) A (do
    storeSet a fs v
    if (!dm&&v.tooFull)=true then do
     (match (relayAll v fs<|SetTable.grown fs.size).2.2 with|true=>rule "set.scan.the-table-gave-way" | false=>pure ())
     storeSet a (relayAll v fs<|SetTable.grown fs.size).1 (relayAll v fs<|SetTable.grown fs.size).2.1
     pure (some true)
    else pure (some true)) (λy s1=>wpAny (model prog w) A (match y with|some added=>pure added|none=>setAddHashedIn a x ((intKind prog w).hash z) 99999) R E s1) E s:=λv a1 a2 a3=>
   AK (gv:=λb=>match b with|true=>rule "set.scan.the-table-gave-way" | false=>pure ()) (λb s1 R' q=>gw b q) ho hx hd AI TR vy a1 a2 λh' q1 q2=>Yj (fin h' q1<|a3▸q2)
  split
  .show XU ?_;rw[hashByValue_scannable 8 PQ];show Yj ?_;split
   .show tail u f r (l.trans hl)
   .show tail _ (SetTable.fits_plain_off f) r (l.trans hl)
  .show XU (Yj ?_);rw[if_pos Z];show tail u f r (l.trans hl)
end
section
variable{prog:Program}{w:World}{A:Around}{R:Result->Shared->Prop}{I:Addr}{fp wr:List Addr}{G:Array GenState->Array GenState->Prop}{n:Nat}{P:Nat->Value->Prop}{St:Nat->Shared->Prop}
def ak(W:WalksS prog w A.in1 I fp wr G n P St)(b:Addr)(JD:b∉fp)(val:Nat->Int)(hv:∀i v,P i v->∃t,v=.int (val i) t)(hn:n+1<scanBound):
  ∀k i s,n-i=k->i<=n->St i s->SetR prog w s.heap b led (λz=>(firstMet val i).any (· == z)) (firstMet val i).length->
   (∀s',Moved (b::wr) G s s'->SetR prog w s'.heap b led (λz=>(firstMet val n).any (· == z)) (firstMet val n).length->R (.ok<|.ret .none) s')->
   codeAny (model prog w) A (.builtin "set.update.loop" ⟨[.ref b,.ref I],[]⟩) R s
 |0,i,s,hk,hi,st,hS,q=>by
  let e:i=n:=sV;subst e;show RO F.entry_set_update_loop ?_;rw[Jf tX _];change wpAny _ A.in1 (pyNext ↑I >>= _) _ _ s
  show XU (W.done s _ _ st λs1 m=>?_);change wpAny _ A.in1 (ret Value.none) _ _ s1
  show Yj (q s1 (m.mono λc hc=>.tail _ hc)<|hS.at λo ho=>m.heap b o (λhc=>JD<|W.sub _ hc) ho)
 |k+1,i,s,hk,hi,st,hS,q=>by
  let Xm:i<n:=sV;show RO F.entry_set_update_loop ?_;rw[Jf tX _];change wpAny _ A.in1 (pyNext ↑I >>= _) _ _ s
  show XU (W.item i s _ _ Xm st λv s1 hP RZ m=>?_);let⟨t,rfl⟩:=hv i v hP;let JM:=hS.at (h':=s1.heap) λo ho=>m.heap b o (λhc=>JD<|W.sub _ hc) ho
  change wpAny _ A.in1 (holding [Value.int (val i) t] (setAdd b<|.int (val i) t) >>= _) _ _ s1;show XU (Se ?_);unfold setAdd;show Se (XU<|(intKind prog w).pyHash (k:=val i) (intKind_is _ _ _ _) ?_);let fm:=firstMet_length_le val i
  show AJ (s:={s1 with toks:=s1.toks+1}) (intKind_is _ _ _ _) Z JM J λh2 sb Cr=>?_;let hS3:SetR prog w h2 b led (λz=>(firstMet val<|i+1).any (· == z)) (firstMet val<|i+1).length:=by
   let e1:(λz=>(firstMet val<|i+1).any (· == z))=λy=>((firstMet val i).any (· == y)||decide (y=val i)):=funext λy=>by rw[firstMet_succ,step_any]
   rwa[e1,firstMet_succ,step_length]
  let kept:∀c o,c≠b->s1.heap.get? c=some o->h2.get? c=some o:=λc o hc e=>(sb.2 c hc).trans e;show Yj ⟨Mu tX _,ak W b JD val hv hn k (i+1) _ sV Xm (W.frame _ s1 _ _ RZ (Ud _) λc hc o e=>kept c o (λe'=>JD<|e'▸hc) e) hS3 λs2 m2 hS4=>?_⟩;show q s2 (Moved.trans W.gtrans ((m.mono λc hc=>.tail _ hc).then_heap (Ud _) λc o hc e=>kept c o (λe'=>hc<|e'▸.head _) e) m2) hS4
end
section
variable{prog:Program}{w:World}{A:Around}{E:Ae}{s:Shared}
def JC(w:World):(Obj):={cls:=.type "set",dict:=none,data:=.set #[] 0 (.fresh 0 0<|!w.params.followText "set-order")}
def AH(a:Value){Q:Ae}(k:Q (.ref (~~~s)) {s with heap:=s.heap.push (JC w)}):
  codeAny (model prog w) A (.call (.builtin "set.__new__") ⟨[.type "set",a],[]⟩) (wants Q E) s:=by
 show codeAny_of_tree ?_;change wpAny _ A.in1 (checkBuiltinCall "set.__new__" ⟨[.type "set",a],[]⟩ >>= λ_=>again<|.builtin "set.__new__" ⟨[.type "set",a],[]⟩) _ _ s
 show XU (Tt (F.newCall_set_1 a)<|Yj ⟨Mu F.plain_set_new _,RO F.entry_set_new ?_⟩);rw[Jf F.plain_set_new _];let Bk:=sub_set_self
 unfold Builtin.«set.__new__» Builtin.Frozenset.newClass;let⟨hp,g,d,tk,os⟩:=s;dsimp only
 wp_walk
 show FO (Yj ?_);simp only[newObj];show XU (wpAny_alloc<|Yj<|Yj k)
def Zv8(e:h.get? a=some (JC w)):SetR prog w h a (!w.params.followText "set-order") (λz=>(firstMet (λ_=>0) 0).any (· == z)) 0:=by exists _,#[],0,_,e,⟨Z,Z,Z⟩,Z,λy hy=>(by cases hy),λz=>⟨λq=>(by cases q),λzz=>by let⟨y,hy,_⟩:=zz;show(by cases hy)⟩,sZ,by simp[SetTable.fits,SetTable.fresh,SetTable.fill],Z,.nil,Z
def kY{h0:Heap}{Q:Ae}(hh:A.handled=none)(Lh:h0.get? b=some (JC w))(hl:h0.IsList l items)(XM:l≠b)(hi:IntsAre items.toList ns)(hn:items.size+1<scanBound)
  (k:∀h' tk,SetR prog w h' b (!w.params.followText "set-order") (λz=>(firstMet (λi=>ns.getD i 0) items.size).any (· == z)) (firstMet (λi=>ns.getD i 0) items.size).length->(∀c o,c≠b->h0.get? c=some o->h'.get? c=some o)->Q .none {s with heap:=h',toks:=tk}):
  wpAny (model prog w) A.in1 (Builtin.«set.__init__» ⟨[.ref b,.ref l],[]⟩) (λfin s'=>match fin with | .done f=>wants Q E (.ok f) s' | .again c'=>c'.quiet=true/\codeAny (model prog w) A c' (wants Q E) s') (λe s'=>wants Q E (.error e) s') {s with heap:=h0}:=by
 let hT:Shared.TypeIs {s with heap:=h0} ↑b "set":=⟨_,Lh,Z⟩;let NS:=hl
 let⟨⟨ocls,aj,ai,kX⟩,PN,SM,nl,ah⟩:=hl;simp only at SM ah;subst SM ah;let q1:=F.sub_list_set
 let q2:=F.sub_list_frozenset;let q3:(Value.type "list" == Value.type "dict")=false:=sZ
 unfold JC at Lh;unfold Builtin.«set.__init__» noKeywords Builtin.Frozenset.updateFrom;generalize hPI:pyIter=PI
 wp_walk
 subst hPI;show tH NS ?_;show XU (xA ?_);let kW:l<h0.objs.size:=Yo PN
 let ltb:b<h0.objs.size:=Yo Lh;let bf:b∉[h0.objs.size,l]:=λq=>by
  rcases Yh.mp q with e|e
  .show YB ltb e
  .show XM (XG.mp e).symm
 show ak ((Walks.list (A:=A.in1.in1) (by simp[hh]) _ l (YB kW) items).toS) b bf (led:=!w.params.followText "set-order") (λi=>ns.getD i 0) (λi v hv=>IntsAre.int_at hi i v<|by rw[YI];show hv) hn (items.size-0) 0 _ J (Ym _)
  ⟨⟨_,Yq _ Z,Z,Z⟩,NS.push _⟩ ?_ ?_
 .show Zv8 (Xd _ Lh)
 .rintro⟨h',g',d',tk',rp⟩ m hS;let e1:g'=s.gens:=m.gens
  let e2:d'=s.drawn:=m.drawn;let e3:rp=s.os:=m.os
  subst e1 e2 e3;change wpAny _ _ _ _ _ _
  show Yj ?_;change wpAny _ _ (ret Value.none) _ _ _
  show Yj (k h' tk' hS λc o hc e=>m.heap c o (λq=>?_)<|Xd _ e);rcases Yh.mp q with e'|e'
  .show hc e'
  .show YB (Yo e) (XG.mp e')
set_option maxRecDepth 100000 in
set_option maxHeartbeats 3000000 in
def kT{Q:Ae}(hh:A.handled=none)(hl:s.heap.IsList l items)(hi:IntsAre items.toList ns)(hn:items.size+1<scanBound)
  (k:∀h' tk,SetR prog w h' (~~~s) (!w.params.followText "set-order") (λz=>(firstMet (λi=>ns.getD i 0) items.size).any (· == z)) (firstMet (λi=>ns.getD i 0) items.size).length->(∀c o,s.heap.get? c=some o->h'.get? c=some o)->Q (.ref (~~~s)) {s with heap:=h',toks:=tk}):
  wpAny (model prog w) A (call (.type "set") [.ref l]) Q E s:=by
 let⟨c,tl,hmro⟩:=SE.mro;let a1:=SE.made
 let a2:=SE.sub;let a3:=SE.notType
 let a4:=SE.canCreate;let a5:=F.typeCall_set_1 ↑l
 show FI (codeAny_of_tree ?_);change wpAny _ _ (callAny (.type "set") _) _ _ _
 show Yj ⟨Pl _ DX,RO F.entry_type_call ?_⟩;rw[Around.under_plain (weight_type_call_type "set" [.ref l] []) Z]
 repeat any_goals first|assumption|wp_step
 show Mr (AH ↑l (E:=E) (Q:=λob s1=>ob=.ref (~~~s)/\s1={s with heap:=s.heap.push (JC w)}) ⟨Z,Z⟩) λr s1 hr=>?_
 match r,hr with
 | .error e,hr=>show hr
 | .ok (.ret ob),hr=>
  let⟨rfl,rfl⟩:=hr;let Lh:(s.heap.push<|JC w).get? (~~~s)=some (JC w):=Yq _ rfl
  let hT:Shared.TypeIs {s with heap:=s.heap.push (JC w)} (.ref (~~~s)) "set":=⟨_,Lh,Z⟩;let a6:=SE.init.lookup
  let a7:=SE.init.bind (.ref (~~~s))
  repeat any_goals first|assumption|wp_step
  let kW:l<(~~~s):=by let⟨_,e,_⟩:=hl;show Yo e
  show Mr (xP (R:=wants (λr s2=>r=.none/\Q (.ref (~~~s)) s2) E) SE.init.plain F.entry_set_init<|check_set_init_1 hT<|kY (A:=_) (s:=s) ?_ Lh (hl.push _) (YB kW) hi hn λh' tk hS kp=>⟨Z,k h' tk hS λc o e=>kp c o (YB<|Yo e)<|Xd _ e⟩) λr2 s2 UZ=>?_
  .simp[hh]
  .match r2,UZ with
   | .error e,UZ=>show UZ
   | .ok (.ret v),UZ=>
    let⟨rfl,q⟩:=UZ
    repeat any_goals first|assumption|wp_step
end
def ag:Manifest.owners.lookup (String.ofList ['r','o','t','a','r','e','t','i','_','t','e','s'].reverse)=some Manifest.sig_set_iterator:=by kernel_rfl
def WZ:PySem.Slot "set_iterator" "__next__" "set_iterator.__next__":=
 .of (owner:="set_iterator") (n:="__next__") (by rw[QH,FV];kernel_rfl) DX DX DX
  (by first|show .inl DX|show .inr DX) (by rw[xu];kernel_rfl)
def vw:entryFor table "set_iterator.__next__"=some Builtin.«set_iterator.__next__»:=entryFor_of_tree Eb
def vt(a:Value):argsOk "set_iterator.__next__" ⟨[a],[]⟩:=by unfold argsOk;rw[signature?_of (id:="set_iterator.__next__") (n:=['_','_','t','x','e','n','_','_']) (o:=['r','o','t','a','r','e','t','i','_','t','e','s']) Eb ag];kernel_rfl
def af:PySem.Slot "set_iterator" "__iter__" "set_iterator.__iter__":=
 .of (owner:="set_iterator") (n:="__iter__") (by rw[QH,FV];kernel_rfl) DX DX DX
  (by first|show .inl DX|show .inr DX) (by rw[xu];kernel_rfl)
def kR(a:Value):argsOk "set_iterator.__iter__" ⟨[a],[]⟩:=by unfold argsOk;rw[signature?_of (id:="set_iterator.__iter__") (n:=['_','_','r','e','t','i','_','_']) (o:=['r','o','t','a','r','e','t','i','_','t','e','s']) Eb ag];kernel_rfl
def kQ:entryFor table "set_iterator.__iter__"=some Builtin.«dict_keyiterator.__iter__»:=
 entryFor_alias (id':="dict_keyiterator.__iter__") Eb (by first|rfl|decide +kernel|(unfold String.splitOn;simp +decide [String.splitOnAux])) DX Eb
def kP:Manifest.owners.lookup (String.ofList ['t','e','s'].reverse)=some Manifest.sig_set:=by kernel_rfl
def ae:PySem.Slot "set" "__iter__" "set.__iter__":=
 .of (owner:="set") (n:="__iter__") (by rw[QH,FV];kernel_rfl) DX DX DX
  (by first|show .inl DX|show .inr DX) (by rw[xu];kernel_rfl)
def kO(a:Value):argsOk "set.__iter__" ⟨[a],[]⟩:=by unfold argsOk;rw[signature?_of (id:="set.__iter__") (n:=['_','_','r','e','t','i','_','_']) (o:=['t','e','s']) Eb kP];kernel_rfl
def kN:entryFor table "set.__iter__"=some Builtin.«frozenset.__iter__»:=
 entryFor_alias (id':="frozenset.__iter__") Eb (by first|rfl|decide +kernel|(unfold String.splitOn;simp +decide [String.splitOnAux])) DX Eb
def IsSi(h:Heap)(I a:Addr)(f:Value)(i n ep:Nat):(Prop):=∃o,h.get? I=some o/\o.cls=.type "set_iterator"/\o.data=.fields #[f,rawInt (i:Int),.ref a,rawInt (n:Int),rawInt (ep:Int)]
def IsSi.ty{s:Shared}(x:IsSi s.heap I a f i n ep):s.TypeIs ↑I "set_iterator":=by let⟨o,p,q,_⟩:=x;exists o,p,q
def IsSi.keep(x:IsSi h I a f i n ep)(e:∀o,h.get? I=some o->h'.get? I=some o):IsSi h' I a f i n ep:=by let⟨o,p,q⟩:=x;exists o,e _ p,q
def SetIs(h:Heap)(a:Addr)(es:Array (Int×Value))(ep:Nat)(t:SetTable):(Prop):=∃o,h.get? a=some o/\o.ExactSet/\o.data=.set es ep t
def SetIs.keep(x:SetIs h a es ep t)(e:∀o,h.get? a=some o->h'.get? a=some o):SetIs h' a es ep t:=by let⟨o,p,q⟩:=x;exists o,e _ p,q
section
variable{prog:Program}{w:World}{A:Around}{E:Ae}{s:Shared}
def kM{Q:Nat->Shared->Prop}(hn:n≠0)(k:∀i,i<n->∀d,Q i {s with drawn:=d}):wpAny M A (choose src n) Q E s:=
 λΓ p _=>⟨hn,k _ (Nat.mod_lt _<|Nat.pos_of_ne_zero hn) _⟩
def kJ{α:Type}:∀{l:List α}{i:Nat}{y:α},l[i]?=some y->(y::l.eraseIdx i).Perm l
 |[],_,_,h=>by simp at h
 |x::l,0,y,h=>by let rfl:x=y:=Yi h;show .rfl
 |x::l,i+1,y,h=>(List.Perm.swap x y<|l.eraseIdx i).trans ((kJ (l:=l) (i:=i) h).cons x)
def aa{α:Type}:∀(n:Nat)(xs:List α)(s:Shared)(Q:List α->Shared->Prop),n=xs.length->(∀ys d,ys.Perm xs->Q ys {s with drawn:=d})->wpAny M A (drawOrder n xs) Q E s
 |0,xs,s,Q,h,k=>by let e:xs=[]:=YM.mp h.symm;subst e;show Yj (k [] s.drawn .rfl)
 |n+1,[],s,Q,h,k=>by cases h
 |n+1,x::xs,s,Q,h,k=>by change wpAny M A (choose .order (x::xs).length >>= _) Q E s;show XU (kM B λi hi d=>?_);obtain⟨y,hy⟩:∃y,(x::xs)[i]?=some y:=⟨_,Xs hi⟩;rw[hy];dsimp only;show XU (aa n ((x::xs).eraseIdx i) _ _ (by rw[fb hi];lia) λys d' hp=>Yj<|k (y::ys) d' ?_);show(hp.cons y).trans (kJ hy)
def Za5{α:Type}{f:Nat->Nat}:∀(n k:Nat)(l:List α)(out:Array α),n=l.length->(pickOrder.go f n k l out).toList.Perm (out.toList++l)
 |0,k,l,out,h=>by rw[YM.mp h.symm,Yx];show .rfl
 |n+1,k,l,out,h=>by let hi:f k%l.length<l.length:=Nat.mod_lt _ J;obtain⟨y,hy⟩:∃y,l[f k%l.length]?=some y:=⟨_,Xs hi⟩;unfold pickOrder.go;rw[hy];dsimp only;show(Za5 n (k+1) _ _<|by rw[fb hi];lia).trans ?_;rw[RQ,Yw];show Nu _ ?_;show kJ hy
def Zt9{Q:Ae}(hr:IsSi s.heap I a f i n ep)(h:Q ↑I s):wpAny (model prog w) A (pyIter ↑I) Q E s:=by
 show wpAny_pyIter_slot hr.ty af (Tu af hr.ty kQ ?_<|kR _);change wpAny _ _ (ret<|.ref I) _ _ s
 show Yj ⟨_,Z,"set_iterator",_,hr.ty,WZ.lookup,h⟩
def EZ(prog:Program)(w:World)(a:Addr)(es:Array (Int×Value))(ep:Nat)(t:SetTable)(ord:Ag)(sl:Nat->Nat):(Prop):=
 ∀A E s i Q,SetIs s.heap a es ep t->i<=ord.length->Q ((ord[i]?).map λx=>(x,sl<|i+1)) s->wpAny (model prog w) A (setNext a (sl i) i ep) Q E s
def kI{sl:Nat->Nat}{i:Nat}{x:Value}{Q:Option Value->Shared->Prop}(hN:EZ prog w a es ep t ord sl)(hS:SetIs s.heap a es ep t)(hf:t.fits es.size=true)(hi:IsSi s.heap I a (rawInt (sl i:Nat)) i es.size ep)(hx:ord[i]?=some x)
  (k:∀h',IsSi h' I a (rawInt (sl (i+1):Nat)) (i+1) es.size ep->Heap.SameBut I s.heap h'->Q (some x) {s with heap:=h'}):wpAny (model prog w) A (pyNext<|.ref I) Q E s:=by
 let⟨o,ho,hc,hd⟩:=id hi;let⟨oa,JB,kH,Qm⟩:=id hS;unfold pyNext;show XU (FJ<|Mp (name:=Str.ofString "__next__") hi.ty WZ<|Tu WZ hi.ty vw ?_<|vt _);unfold Builtin.«set_iterator.__next__»;show XU (Tt (a:=(Value.ref I,[])) Z ?_);dsimp only;show XU (xw ho hd ?_);dsimp only[rawInt];show XU (Eu JB Qm hf ?_);rw[if_neg B];rw[YK,YK,YK];show XU (hN _ _ s i _ hS (Nm (Xy.mp hx).1) ?_);rw[hx];dsimp only[Option.map_some];show XU (FN ho hd B ?_);let RG:=Pw (Obj.mapFields λvs=>vs.setIfInBounds 0<|rawInt (sl (i+1):Nat)) ho (xS<|Nt hd _)
 show XU (FN RG (Nt hd _) B ?_);show Yj ⟨x,Z,Yj<|k _ ⟨_,Pw _ RG<|xS<|Nt (Nt hd _) _,?_,?_⟩<|(SG ..).trans (SG ..)⟩
 .rw[tG,tG];show hc
 .rw[Nt (Nt hd _)];simp;rfl
def kG{sl:Nat->Nat}{Q:Option Value->Shared->Prop}(hh:A.handled=none)(hN:EZ prog w a es ep t ord sl)(hS:SetIs s.heap a es ep t)(hf:t.fits es.size=true)(hi:IsSi s.heap I a (rawInt (sl ord.length:Nat)) ord.length es.size ep)
  (k:∀h',Heap.ExtBut I s.heap h'->Q none {s with heap:=h'}):wpAny (model prog w) A (pyNext<|.ref I) Q E s:=by
 let⟨o,ho,hc,hd⟩:=id hi;let⟨oa,JB,kH,Qm⟩:=id hS;unfold pyNext;show XU (FJ<|Mp (name:=Str.ofString "__next__") hi.ty WZ<|Tu WZ hi.ty vw ?_<|vt _);unfold Builtin.«set_iterator.__next__»;show XU (Tt (a:=(Value.ref I,[])) Z ?_);dsimp only;show XU (xw ho hd ?_);dsimp only[rawInt];show XU (Eu JB Qm hf ?_);rw[if_neg B];rw[YK,YK,YK];show XU (hN _ _ s ord.length _ hS (XN _) ?_);rw[VM (XN _)];dsimp only[Option.map_none];show XU (FN ho hd B ?_);change wpAny _ _ (newExc (.type "StopIteration") [] >>= _) _ _ _
 show XU ?_;simp only[newExc,newTuple];show XU (Tw ?_<|by size_fits);show XU (m:=firstArgMember _ _) (Tt (a:=Value.none) (by first|rfl|(simp only[firstArgMember];rfl)) ?_)
 show Tw ?_ (by size_fits);simp only[raiseNew];show XU (wpAny_handled ?_);rw[show A.in1.handled=none from hh];show XU (Yj<|wpAny_throw ?_);show XU (Mm (T:="StopIteration") (b:=true) ⟨_,Yq _ Z,Z⟩ isSubtype_stop ?_);show Yj (k _<|(((SG ..).extBut).push _).push _)
def kF{sl:Nat->Nat}(hh:A.handled=none)(hN:EZ prog w a es ep t ord sl)(hf:t.fits es.size=true)(XM:a≠I):
  Walks prog w A I [I,a] [I] ord.length (λi v=>ord[i]?=some v) (λi h=>i<=ord.length/\IsSi h I a (rawInt (sl i:Nat)) i es.size ep/\SetIs h a es ep t) where
 sub:=λb hb=>Yh.mpr (.inl<|XG.mp hb)
 frame:=λ_ _ _ x hk=>⟨x.1,x.2.1.keep λo e=>hk I B o e,x.2.2.keep λo e=>hk a B o e⟩
 item:=λi s Q E hi ⟨_,x1,x2⟩ hQ=>by let hx:ord[i]?=some (ord[i]'hi):=Xs hi;show kI hN x2 hf x1 hx λh' y hs=>hQ _ h' s.toks hx ⟨hi,y,x2.keep λo e=>(hs.2 a XM).trans e⟩ λb o hb eo=>hs.extBut b o (λe=>hb<|by simp[e]) eo
 done:=λs Q E zz hQ=>by let⟨_,x1,x2⟩:=zz;show kG hh hN x2 hf x1 λh' he=>hQ h' s.toks λb o hb eo=>he b o (λe=>hb<|by simp[e]) eo
 self:=λ_ _ _ _ x hQ=>Zt9 x.2.1 hQ
def AG(hf:t.fits es.size=true)(hr:Qn t)(hb:w.params.followText "set-order"=false)(hl:t.led=true)(hd:(!t.plain&&decide (es.size>1))=false):
  EZ prog w a es ep t (es.toList.map (·.2)) (λi=>if i=0 then 0 else (t.place.getD (i-1) 0)+1):=by
 intro A E s i Q ⟨o,ho,hx,Qm⟩ hi q;let hps:t.place.size=es.size:=by unfold SetTable.fits at hf;simp only[Kw,RM]at hf;show hf.1
 rw[Yb,Yu]at hi;unfold setNext;show XU (FR ho Qm hf ?_);dsimp only;show XU ?_;unfold setsByText;show XU (FO<|Yj ?_);change wpAny _ _ (if (w.params.followText "set-order")=true then _ else _) _ _ _
 rw[if_neg (by rw[hb];decide)];change wpAny _ _ (if (!t.plain&&decide (es.size>1))=true then _ else _) _ _ _
 rw[if_neg (by rw[hd];decide)];show XU ?_;change wpAny _ _ (if (!t.led && !es.isEmpty)=true then _ else _) _ _ _
 rw[if_neg (by rw[hl];simp)];show Yj ?_;let eb:SetTable.below t.place (if i=0 then 0 else (t.place.getD (i-1) 0)+1)=i:=by
  cases c:i=0
  .rw[if_pos c,c];show Zb8 hr
  .rw[if_neg c];obtain⟨v,hv⟩:∃v,t.place[i-1]?=some v:=⟨_,YR J⟩;let e:t.place.getD (i-1) 0=v:=by rw[Yz,hv];rfl
   rw[e,Zc8 hr hv];lia
 rw[eb];show Yj ?_;cases c:i<es.size
 .obtain⟨v,hv⟩:∃v,t.place[i]?=some v:=⟨_,YR J⟩;obtain⟨y,hy⟩:∃y,es[i]?=some y:=⟨_,YR c⟩;let e:t.place.getD i 0=v:=by rw[Yz,hv];rfl
  rw[Yp,YI,hy]at q;rw[hv,hy];simp only[Es,t7,e,if_neg (Nat.succ_ne_zero i)]at q;show q
 .let e1:es[i]?=none:=xU J;rw[Yp,YI,e1]at q;rwa[e1]
def ZD8(hf:t.fits es.size=true)(hb:w.params.followText "set-order"=true):
  EZ prog w a es ep t ((pickOrder (w.params.setOrder a ep) es).toList.map (·.2)) (λ_=>0):=by
 intro A E s i Q ⟨o,ho,hx,Qm⟩ hi q;unfold setNext;show XU (FR ho Qm hf ?_);dsimp only;show XU ?_;unfold setsByText;show XU (FO<|Yj ?_);change wpAny _ _ (if (w.params.followText "set-order")=true then _ else _) _ _ _
 rw[if_pos hb,if_neg B];show XU ?_;unfold setWalk;show XU (FR ho Qm hf ?_);dsimp only;show XU ?_;unfold setsByText;show XU (FO<|Yj ?_);change wpAny _ _ (if (w.params.followText "set-order")=true then _ else _) _ _ _
 rw[if_pos hb];show XU (FO<|Yj ?_);rw[Yp,YI,Option.map_map]at q;show Yj q
def IsPl(h:Heap)(b:Addr)(pl:List Nat):(Prop):=∃o n,h.get? b=some o/\o.data=.seq (pl.map λ(i:Nat)=>rawInt (i:Int)).toArray n
def IsPl.keep(x:IsPl h b pl)(e:∀o,h.get? b=some o->h'.get? b=some o):IsPl h' b pl:=by let⟨o,n,p,q⟩:=x;exists o,n,e _ p,q
def kE{i j:Nat}{x:Int×Value}{Q:Option Value->Shared->Prop}(hS:SetIs s.heap a es ep t)(hf:t.fits es.size=true)(hi:IsSi s.heap I a ↑b i es.size ep)(hb:IsPl s.heap b pl)(hj:pl[i]?=some j)(hx:es[j]?=some x)
  (k:∀h',IsSi h' I a ↑b (i+1) es.size ep->Heap.SameBut I s.heap h'->Q (some x.2) {s with heap:=h'}):wpAny (model prog w) A (pyNext<|.ref I) Q E s:=by
 let⟨o,ho,hc,hd⟩:=id hi;let⟨oa,JB,kH,Qm⟩:=id hS;let⟨ob,nb,QA,Tj⟩:=hb;unfold pyNext;show XU (FJ<|Mp (name:=Str.ofString "__next__") hi.ty WZ<|Tu WZ hi.ty vw ?_<|vt _);unfold Builtin.«set_iterator.__next__»;show XU (Tt (a:=(Value.ref I,[])) Z ?_);dsimp only;show XU (xw ho hd ?_);dsimp only[rawInt];show XU (Eu JB Qm hf ?_);rw[if_neg B];show XU (IZ QA Tj ?_);dsimp only;let e:(pl.map λ(i:Nat)=>rawInt (i:Int)).toArray[(i:Int).toNat]?=some (.int (j:Int) 0):=by rw[YK,d7,Yp,hj];rfl
 rw[e];dsimp only;rw[YK,YK];show XU ?_;unfold setNextDrawn;show XU (FR JB Qm hf ?_);dsimp only;rw[if_neg B,hx];show Yj ?_;show XU (FN ho hd B ?_);show Yj ⟨x.2,Z,Yj<|k _ ⟨_,Pw _ ho<|xS<|Nt hd _,?_,?_⟩<|SG ..⟩
 .rw[tG];show hc
 .rw[Nt hd];simp;rfl
def kD{Q:Option Value->Shared->Prop}(hh:A.handled=none)(hS:SetIs s.heap a es ep t)(hf:t.fits es.size=true)(hi:IsSi s.heap I a ↑b pl.length es.size ep)(hb:IsPl s.heap b pl)
  (k:∀h',Heap.ExtBut I s.heap h'->Q none {s with heap:=h'}):wpAny (model prog w) A (pyNext<|.ref I) Q E s:=by
 let⟨o,ho,hc,hd⟩:=id hi;let⟨oa,JB,kH,Qm⟩:=id hS;let⟨ob,nb,QA,Tj⟩:=hb;unfold pyNext;show XU (FJ<|Mp (name:=Str.ofString "__next__") hi.ty WZ<|Tu WZ hi.ty vw ?_<|vt _);unfold Builtin.«set_iterator.__next__»;show XU (Tt (a:=(Value.ref I,[])) Z ?_);dsimp only;show XU (xw ho hd ?_);dsimp only[rawInt];show XU (Eu JB Qm hf ?_);rw[if_neg B];show XU (IZ QA Tj ?_);dsimp only;let e:(pl.map λ(i:Nat)=>rawInt (i:Int)).toArray[(pl.length:Int).toNat]?=none:=by rw[YK,d7];show VM B
 rw[e];dsimp only;show XU (FN ho hd B ?_);let RG:=Pw (Obj.mapFields λvs=>vs.setIfInBounds 0<|rawInt 0) ho (xS<|Nt hd _)
 show XU (FN RG (Nt hd _) B ?_);change wpAny _ _ (newExc (.type "StopIteration") [] >>= _) _ _ _
 show XU ?_;simp only[newExc,newTuple];show XU (Tw ?_<|by size_fits);show XU (m:=firstArgMember _ _) (Tt (a:=Value.none) (by first|rfl|(simp only[firstArgMember];rfl)) ?_)
 show Tw ?_ (by size_fits);simp only[raiseNew];show XU (wpAny_handled ?_);rw[show A.in1.handled=none from hh];show XU (Yj<|wpAny_throw ?_);show XU (Mm (T:="StopIteration") (b:=true) ⟨_,Yq _ Z,Z⟩ isSubtype_stop ?_);show Yj (k _<|((((SG ..).trans (SG ..)).extBut).push _).push _)
def kC(hh:A.handled=none)(hp:pl.Perm (List.range es.size))(hf:t.fits es.size=true)(XM:a≠I)(Lv:b≠I):
  Walks prog w A I [I,a,b] [I] pl.length (λi v=>(pl.filterMap λj=>(es[j]?).map (·.2))[i]?=some v) (λi h=>i<=pl.length/\IsSi h I a ↑b i es.size ep/\SetIs h a es ep t/\IsPl h b pl) where
 sub:=λc hc=>Yh.mpr (.inl<|XG.mp hc)
 frame:=λ_ _ _ x hk=>⟨x.1,x.2.1.keep λo e=>hk I B o e,x.2.2.1.keep λo e=>hk a B o e,x.2.2.2.keep λo e=>hk b B o e⟩
 item:=λi s Q E hi ⟨_,x1,x2,x3⟩ hQ=>by
  let hj:pl[i]?=some (pl[i]'hi):=Xs hi;let Xm:=YY.mp (hp.mem_iff.mp<|Xg hj)
  let hx:es[pl[i]'hi]?=some (es[pl[i]'hi]'Xm):=YR Xm;let fm:∀(l:List Nat),(∀j∈l,j<es.size)->l.filterMap (λj=>(es[j]?).map (·.2))=l.map λj=>(es.getD j (0,.none)).2:=λl hl=>by
   induction l with
   |nil=>rfl
   |cons y l ih=>
    let hy:=hl y Yc;rw[Ew,TB,ih λj h=>hl j<|Ye _ h,YR hy,Yz,YR hy];rfl
  let hv:(pl.filterMap λj=>(es[j]?).map (·.2))[i]?=some (es[pl[i]'hi]'Xm).2:=by rw[fm pl λj hj=>YY.mp<|hp.mem_iff.mp hj,Yp,hj,Es,Yz,hx];rfl
  show kE x2 hf x1 x3 hj hx λh' y hs=>hQ _ h' s.toks hv ⟨hi,y,x2.keep λo e=>(hs.2 a XM).trans e,x3.keep λo e=>(hs.2 b Lv).trans e⟩ λc o hc eo=>hs.extBut c o (λe=>hc<|by simp[e]) eo
 done:=λs Q E zz hQ=>by let⟨_,x1,x2,x3⟩:=zz;show kD hh x2 hf x1 x3 λh' he=>hQ h' s.toks λc o hc eo=>he c o (λe=>hc<|by simp[e]) eo
 self:=λ_ _ _ _ x hQ=>Zt9 x.2.1 hQ
end
section
variable{prog:Program}{w:World}{A AP:Around}{E:Ae}{s:Shared}
def SetIs.ty(x:SetIs s.heap a es ep t):s.TypeIs ↑a "set":=by let⟨o,p,q,_⟩:=x;exists o,p,q.1
def kB{Q:Ae}(hh:A.handled=none)(hS:SetIs s.heap a es ep t)(hf:t.fits es.size=true)(hr:Qn t)(hl:t.led=!w.params.followText "set-order")(hz:es.size<=sizeLine)
  (k:∀(I:Addr)(h':Heap) d (ord:Ag) (fp:List Addr) (St:Nat->Heap->Prop),ord.Perm (es.toList.map (·.2))->Walks prog w A I fp [I] ord.length (λi v=>ord[i]?=some v) St->St 0 h'->(∀b∈fp,b<h'.objs.size/\(b=a\/(~~~s)<=b))->I∈fp->(~~~s)<=I->(∀c o,s.heap.get? c=some o->h'.get? c=some o)->Q ↑I {s with heap:=h',drawn:=d}):
  wpAny (model prog w) AP (pyIter<|.ref a) Q E s:=by
 let⟨o,ho,hx,hd⟩:=id hS;let JA:a<(~~~s):=Yo ho
 show wpAny_pyIter_slot hS.ty ae (Tu ae hS.ty kN ?_<|kO _);unfold Builtin.«frozenset.__iter__»;show XU (Tt (a:=a) rfl ?_);show XU ?_;unfold Builtin.Frozenset.sizeOf;show XU (Eu ho hd hf<|Yj ?_);show XU ?_;unfold setDrawn;show XU (FR ho hd hf ?_);dsimp only;show XU ?_;unfold setsByText;show XU (FO<|Yj<|Yj ?_);let num:∀ord sl,sl 0=0->EZ prog w a es ep t ord sl->ord.Perm (es.toList.map (·.2))->wpAny (model prog w) AP.in1 (pure (rawInt 0) >>= λfirst=>setEpoch a >>= λe=>newFields "set_iterator" [first,rawInt 0,.ref a,rawInt (es.size:Int),rawInt (e:Int)] >>= λit=>ret it)
   (λfin s'=>∃v,fin=Fin.done (Flow.ret v)/\∃T' r,s'.TypeIs v T'/\typeLookup (Value.type T') (Str.ofString "__next__")=pure (some r)/\Q v s') E s:=λord sl h0 hN hp=>by
  show XU (Yj<|XU<|wpAny_setEpoch_of ho hd hf<|XU ?_);unfold newFields;show Tw ?_ (by size_fits);let hI:IsSi (s.heap.push {cls:=.type "set_iterator",data:=.fields [rawInt 0,rawInt 0,.ref a,rawInt (es.size:Int),rawInt (ep:Int)].toArray}) (~~~s) a (rawInt (sl 0:Nat)) 0 es.size ep:=⟨_,Yq _ Z,Z,by rw[h0];rfl⟩
  show Yj ⟨_,Z,"set_iterator",_,IsSi.ty (s:={s with heap:=_}) hI,WZ.lookup,?_⟩;let ne:a≠(~~~s):=YB JA
  show k _ _ s.drawn ord _ _ hp (kF hh hN hf ne) ⟨Ym _,hI,hS.keep λo e=>Xd _ e⟩ (λb hb=>?_) B (XN _) λc o e=>Xd _ e;rw[Mw];rcases Yh.mp hb with e|e
  .rw[e];exists Np _,.inr<|XN _
  .rw[XG.mp e];exists Jd JA,.inl Z
 cases hb:w.params.followText "set-order"=true
 .rw [if_neg (by change ¬(!w.params.followText "set-order" && _)=true;rw[hb];simp)];show num _ (λ_=>0) Z (ZD8 hf hb) ?_
  have:=Za5 (f:=w.params.setOrder a ep) es.size 0 es.toList #[] (by rw[Yu])
  show this.map _
 .let OP:w.params.followText "set-order"=false:=by simpa using hb
  rw[OP]at hl;cases c:(!t.plain&&decide (es.size>1))=true
  .rw [if_pos (by change(!w.params.followText "set-order" && (!t.plain&&decide (es.size>1)))=true;rw[OP,c];rfl)];show XU (aa es.size (List.range es.size) s _ (by rw[Nr]) λpl d hp=>?_);let Vg:pl.length=es.size:=by rw[hp.length_eq,Nr]
   show XU (wpAny_newTuple ?_<|by rwa[Yb,Vg]);let hoS:∀(h:Heap) o,h.get? a=some o->(h.push {cls:=.type "tuple",data:=.seq (List.map (λi=>rawInt ((i:Nat):Int)) pl).toArray}).get? a=some o:=λh o e=>Xd _ e
   show XU (wpAny_setEpoch_of (hoS s.heap o ho) hd hf<|XU ?_);unfold newFields;show Tw ?_ (by size_fits);let ne:a≠(~~~s):=YB JA
   generalize BZ:s.heap.push {cls:=.type "tuple",data:=.seq (List.map (λi=>rawInt ((i:Nat):Int)) pl).toArray}=h1;let s1:h1.objs.size=(~~~s)+1:=by rw[<-BZ];show Mw ..
   let AF:∀c o,s.heap.get? c=some o->h1.get? c=some o:=λc o e=>by rw[<-BZ];show Xd _ e
   let GX:IsPl h1 (~~~s) pl:=by rw[<-BZ];exists _,0,Yq _ Z,Z
   let hI:IsSi (h1.push {cls:=.type "set_iterator",data:=.fields [Value.ref (~~~s),rawInt 0,.ref a,rawInt (es.size:Int),rawInt (ep:Int)].toArray}) h1.objs.size a (.ref (~~~s)) 0 es.size ep:=⟨_,Yq _ Z,Z,Z⟩;show Yj ⟨_,Z,"set_iterator",_,IsSi.ty (s:={s with heap:=_,drawn:=d}) hI,WZ.lookup,?_⟩;let NR:(pl.filterMap λj=>(es[j]?).map (·.2)).Perm (es.toList.map (·.2)):=by show(hp.filterMap _).trans ?_;rw[<-filterMap_getElem?_range es,List.map_filterMap]
   let PN:(pl.filterMap λj=>(es[j]?).map (·.2)).length=pl.length:=by rw[NR.length_eq,Yb,Yu,Vg]
   let W:=kC (prog:=prog) (w:=w) (A:=A) (I:=h1.objs.size) (a:=a) (b:=(~~~s)) (es:=es) (ep:=ep) (t:=t) hh hp hf (by rw[s1];show YB<|Jd JA) (by rw[s1];show YB<|Np _);rw[<-PN]at W;show k _ _ d _ _ _ NR W ⟨Ym _,hI,hS.keep λo e=>Xd _<|AF _ o e,GX.keep λo e=>Xd _ e⟩ (λb hb=>?_) B (by rw[s1];show Ud _) λc o e=>Xd _ (AF c o e);rw[Mw,s1];rcases Yh.mp hb with e|e
   .rw[e,s1];exists Np _,.inr<|Ud _
   .rcases Yh.mp e with e|e
    .rw[e];exists Jd<|Jd JA,.inl Z
    .rw[XG.mp e];exists Jd<|Np _,.inr<|XN _
  .let c':(!t.plain&&decide (es.size>1))=false:=by simpa using c
   rw[if_neg (by change ¬(!w.params.followText "set-order" && (!t.plain&&decide (es.size>1)))=true;rw[c'];simp)];show num _ _ Z (AG hf hr OP hl c') .rfl
end
def ky:typeLookup (.type "set") "__len__"=pure (some (.builtin "set.__len__")):=by rw[QH,FV];kernel_rfl
section
variable{prog:Program}{w:World}{A:Around}{E:Ae}{s:Shared}
def ku{r:Addr}{Q:Bool->Shared->Prop}(hT:s.TypeIs ↑r "set")(h:Q false s):wpAny (model prog w) A (Builtin.List.listLengthHint ↑r) Q E s:=by
 unfold Builtin.List.listLengthHint;show XU (wpAny_specialOf hT ky ?_);generalize Cs:("set.__len__":String)=oU
 wp_delta
 rw[show splitId oU=some ("set","__len__") from by subst Cs;decide +kernel];subst Cs;show XU (Mm (T:="set") (b:=true) hT sub_set_self ?_);change wpAny _ A (typeOf (Value.ref r) >>= _) _ _ _
 show XU (Ei (T:="set") hT<|Yj h)
def Zj6{Q:List Value->Shared->Prop}(hh:A.handled=none)(hS:SetIs s.heap a es ep t)(hf:t.fits es.size=true)(hr:Qn t)(hl:t.led=!w.params.followText "set-order")(hz:es.size<=sizeLine)
  (k:∀(out:Ag) h' tk d,out.Perm (es.toList.map (·.2))->(~~~s)<=h'.objs.size->(∀c o,s.heap.get? c=some o->h'.get? c=some o)->Q out {s with heap:=h',toks:=tk,drawn:=d}):wpAny (model prog w) A (collect<|.ref a) Q E s:=by
 let HG:(s.heap.push<|seqObj "list" #[] 0).get? (~~~s)=some (seqObj "list" #[] 0):=Yq _ rfl;let JM:SetIs (s.heap.push<|seqObj "list" #[] 0) a es ep t:=hS.keep λo e=>Xd _ e
 let JA:a<(~~~s):=by let⟨_,e,_⟩:=hS;show Yo e
 unfold collect;show XU (xA<|RO IF ?_);change wpAny _ _ (newList [] >>= λv=>again<|.builtin "list.__iadd__" ⟨[v,.ref a],[]⟩) _ _ s
 show XU (Mv<|Yj ⟨Pl _ DX,RO entry_list_iadd' ?_⟩);change wpAny _ _ (Builtin.List.listExtendWith (.ref (~~~s)) ↑a<|.ref (~~~s)) _ _ {s with heap:=s.heap.push (seqObj "list" #[] 0)}
 unfold Builtin.List.listExtendWith;show XU (Ei (T:="set") (SetIs.ty (s:={s with heap:=s.heap.push (seqObj "list" #[] 0)}) JM) ?_);let e1:Builtin.List.listSameRef (.ref (~~~s)) ↑a=false:=by change((~~~s) == a)=false;show tR (Vv JA)
 rw[if_neg (by rw[e1];decide)];show XU (kB (A:=A.in1) (by simp[hh]) JM hf hr hl hz λI h' d ord fp St NR W Ft vq hI QV kp=>?_);let hT':Shared.TypeIs {s with heap:=h',drawn:=d} ↑a "set":=SetIs.ty (s:={s with heap:=h',drawn:=d}) (JM.keep λo e=>kp a o e)
 show XU (Se<|ku hT' ?_);rw[if_pos DX];let hL2:=kp _ _ HG
 show XU (PY<|XU ?_);unfold Builtin.List.listTouch;show XU (Nl (xs:=#[]) (n:=0) hL2 Z ?_ (Ym _)<|by change 1<=sizeLine+1;lia);let hL3:=Pw (Obj.mapSeq (·.push Value.none)) hL2 rfl
 show Nl (xs:=#[].push Value.none) (n:=1) hL3 Z ?_ (by change 1<=sizeLine;decide) (by change 0<=sizeLine+1;lia);let AE:=Pw (Obj.mapSeq Array.pop) hL3 rfl
 let old:∀c o,c≠(~~~s)->h'.get? c=some o->((h'.update (~~~s) (Obj.mapSeq (·.push Value.none))).update (~~~s) (Obj.mapSeq Array.pop)).get? c=some o:=λc o hc e=>by rwa[YX _ _ (Xc hc),YX _ _ (Xc hc)]
 generalize (h'.update (~~~s) (Obj.mapSeq (·.push Value.none))).update (~~~s) (Obj.mapSeq Array.pop)=h4 at *;let RC:(~~~s)∉fp:=λq=>by
  rcases(vq _ q).2 with e|e
  .show Vv JA e
  .rw [show({s with heap:=s.heap.push (seqObj "list" #[] 0)}:Shared).heap.objs.size=(~~~s)+1 from Mw ..] at e;show Nat.not_succ_le_self _ e
 let kq:ord.length=es.size:=by rw[NR.length_eq,Yb,Yu]
 show Yj ⟨Mu eV _,codeAny_extend_loopS W.toS (by rwa[kq]) (~~~s) RC _ ord.length 0 _ #[] _ Z (Ym _) (W.frame 0 _ _ Ft λb hb o e=>old b o (λq=>RC<|q▸hb) e) AE (ItemsOf.nil _) λs2 acc c m hL5 VF=>?_⟩;let eo:acc.toList=ord:=by
  show Nq λi=>?_;rw[YI];cases hi:i<ord.length
  .let q:acc[i]?=some (acc[i]'(by rwa[VF.1])):=YR _;rw[q,VF.2 i _ q]
  .rw[VM sV,xU (by rw[VF.1];omega)]
 change wpAny _ A (load (~~~s) >>= _) Q E s2;show XU (Ee hL5 ?_);show Yj ?_;rw[eo,Moved.eq_with m];show k ord s2.heap s2.toks d NR (Nm<|Yo hL5) λc o e=>?_;let lt:=Yo e
 show m.heap c o (λq=>?_) (old c o (YB lt)<|kp c o<|Xd _ e);rcases Yh.mp q with e'|e'
 .show YB lt e'
 .rw[XG.mp e']at lt
  have:=Ys lt (Yr (Ud _)<|Mw .. ▸ QV)
  show PZ _ this
end
def AD:∀{l:Ac},m.Nodup->l.length=m.length->(∀x∈m,x∈l)->l.Perm m:=by
 induction m with
 |nil=>intro l _ h _;rw[YM.mp h]
 |cons x m ih=>
  intro l hn hl hs;let hx:=hs x Yc
  let RJ:=Qb.mp hn;show(List.perm_cons_erase hx).trans ((ih RJ.2 (by rw[uu hx,hl];rfl) λy hy=>?_).cons x);let ne:y≠x:=λe=>RJ.1 (by rwa[<-e])
  show(uc ne).mpr (hs y<|Ye _ hy)
def ZY8(p:us.Perm vs):∀{ns:Ac},IntsAre vs ns->∃ms,IntsAre us ms/\ms.Perm ns:=by
 induction p with
 |nil=>intro ns h;exists ns,h,.rfl
 |cons x _ ih=>
  intro ns h;cases h with
  |cons n t h=>
   let⟨ms,h1,h2⟩:=ih h;exists n::ms,.cons n t h1,h2.cons n
 |swap x y l=>
  intro ns h;cases h with
  |cons n t h=>
   cases h with
   |cons m u h=>exists m::n::_,.cons m u<|.cons n t h,.swap n m _
 |trans _ _ Oa RU=>
  intro ns h;let⟨ms,h1,h2⟩:=RU h;let⟨ls,h3,h4⟩:=Oa h1;exists ls,h3,h4.trans h2
def ko(h:IntsAre vs ns):vs.length=ns.length:=by
 induction h with
 |nil=>rfl
 |cons n t _ ih=>rw[YF,YF,ih]
def vp(val:Nat->Int):∀i,(firstMet val i).Nodup
 |0=>.nil
 |i+1=>by
  rw[firstMet_succ];unfold step_dedup;split
  .show vp val i
  .rename_i h;show Wg.mpr ⟨vp val i,B,λa ha b hb e=>?_⟩;rw[XG.mp hb]at e;show h (xD.mpr ⟨a,ha,by rw[e];simp⟩)
section
variable{prog:Program}{w:World}{A:Around}{E:Ae}{s:Shared}
def ZR2:∀{l:List (Int×Value)},ElemsOf (intKind prog w) l->∃ms,IntsAre (l.map (·.2)) ms/\∀z,z∈ms↔∃y∈l,(intKind prog w).is z y.2=true
 |[],_=>⟨[],.nil,λz=>⟨λh=>(by cases h),λzz=>by let⟨y,h,_⟩:=zz;show(by cases h)⟩⟩
 |y::l,h=>by
  let⟨ms,h1,h2⟩:=ZR2 h.tail;let⟨⟨z,hz,_⟩,_⟩:=h.head;let⟨hy,v⟩:=y;let⟨u,rfl⟩:=Value.isInt_shape (show Value.isInt z v=true from hz);exists z::ms,.cons z u h1,λx=>?_;rw[Yh,h2];constructor
  .rintro(e|⟨y,hy,q⟩)
   .exists _,Yc,e▸hz
   .exists y,Ye _ hy,q
  .rintro⟨y,hy,q⟩;rcases Yh.mp hy with e|e
   .rw[e]at q;show .inl ((intKind prog w).inj _ _ _ q hz)
   .show .inr ⟨y,e,q⟩
def ZL6{led:Bool}{S:Int->Bool}{Q:Ae}(hh:A.handled=none)(hS:SetR prog w s.heap a (!w.params.followText "set-order") S n)(PK:n<64)
  (k:∀(ms:Ac)(out:Ag) r h' tk d c,IntsAre out ms->ms.Pairwise (·<=·)->ms.length=n->(∀z,z∈ms↔S z=true)->(~~~s)<=r->h'.get? r=some (seqObj "list" out.toArray c)->(∀c o,s.heap.get? c=some o->h'.get? c=some o)->Q ↑r {s with heap:=h',toks:=tk,drawn:=d}):
  wpAny (model prog w) A (call (.builtin "sorted") [.ref a]) Q E s:=by
 let⟨o,es,ep,t,ho,hx,hd,he,hm,hb,hf,hn,hr,hl⟩:=hS;let⟨ns,hI,hmem⟩:=ZR2 he;let LM:sizeLine=16777216:=Tz
 show uf kind_sorted plain_sorted entry_sorted (args_sorted1 _) ?_;unfold Builtin.«sorted»;show XU (m:=checkCount "sorted" 1 1 _) (Yj ?_);show XU (Zj6 (A:=A.in1) (by simp[hh]) ⟨o,ho,hx,hd⟩ hf hr hl J λout h1 tk d hp QV kp=>?_);let⟨ls,hI2,VT⟩:=ZY8 hp hI;let lo:=ko hI2
 let ll:ls.length=n:=by rw[<-lo,hp.length_eq,Yb,Yu,hn]
 show XU (Mv ?_);let hL:(h1.push<|seqObj "list" out.toArray 0).get? h1.objs.size=some (seqObj "list" out.toArray 0):=Yq _ rfl
 show XU (Se<|Tu xk ⟨_,hL,Z⟩ xm (list_sort_tree hL hI2 J λres ms b1 b2 b3=>⟨_,Z,?_⟩)<|args_list_sort _);let⟨c,hc⟩:=sortedHeap_at (out:=res) hL;show Yj ⟨_,Z,k ms res.toList h1.objs.size _ tk d c b1 b3 (by rw[b2.length_eq,ll]) (λz=>by rw[b2.mem_iff,VT.mem_iff,hmem,hm]) QV (by rwa[Array.toArray_toList]) λb ob e=>?_⟩;let lt:=Yo (kp b ob e)
 rw[sortedHeap_old (YB lt) (by rw[size_push'];show Jd lt)];show Xd _ (kp b ob e)
end
section
variable{X:Cx}{p p2 pos UJ:Pos}{e:Expr}{t:TA}
def Inv.drew(I:Inv X pins σ H s)(d:Drawn):Inv X pins σ H {s with drawn:=d}:=
 I.step (g':=s.gens) (d':=d) (t':=s.toks) (h':=s.heap) (ch:=[]) (λb hb=>(by cases hb)) (λb o _ _ _ q _=>q) (λb o _ _ _ q _=>⟨o.slots,q⟩) (λb o _ _ n=>n) (λb o _ q=>⟨o,q⟩) (λb xs q=>q) (λb o u q=>q) (λb ps q=>⟨#[],by rw[q];simp⟩) (λm hm=>hm) I.hok I.bare
def ZH6(K:Ad)(t:TA):(TE):=λσ H Q=>t σ H λvs H1=>∃(a:Addr)(ns:Ac),vs=[.ref a]/\SqL K H1 a (ns.map V.int)/\ns.length<64/\∀ms:Ac,ms.Pairwise (·<·)->(∀z,z∈ms↔z∈ns)->∀l,H1 l=none->Q ↑l (upd H1 l<|.lst<|ms.map V.int)
def Zy4(K:Ad)(hc:X.calm=true)(g1:Gl X "sorted")(m1:X.mg "sorted"=none)(g2:Gl X "set")(m2:X.mg "set"=none)(ha:PA X [e] t)(hk:X.K=K:=by rfl)
  (he:starEach [e] X.env=[(false,eval e X.env)]:=by rfl)
  (ON:starEach [.Call (.Name "set" p2) [e] [] UJ] X.env=[(false,eval (.Call (.Name "set" p2) [e] [] UJ) X.env)]:=by rfl):
  PE X (.Call (.Name "sorted" p) [.Call (.Name "set" p2) [e] [] UJ] [] pos) (ZH6 K t):=by
 subst hk;intro pins s σ H Q I h;show Pu (PV I g1 m1 Boot.«sorted» ?_);show fi ?_ (by rw[ON];rfl) rfl;rw[ON];change wpAny _ _ (spliced<|(false,eval (.Call (.Name "set" p2) [e] [] UJ) X.env)::backTo pos []) _ _ s
 show tJ ?_;show Pu (PV I g2 m2 Boot.«set» ?_);show Ji (thn (ha UJ pins s σ H _ I h) λus s1 zz=>?_) (by rw[he];rfl) rfl;let⟨vs,H1,I1,r1,q1⟩:=zz;let⟨a,ns,rfl,hq,hn,q⟩:=q1;let⟨u,rfl,ru⟩:=Sy r1;let rfl:u=Value.ref a:=ru;let⟨XX,rv,pl,hz⟩:=I1.list hq;let hi:=Zz rv
 let el:XX.toArray.size=ns.length:=by rw[Ya,<-rv.length,Yb]
 let sb:scanBound=4096:=rfl;show kT (I.ok.hd hc) pl.isList (ns:=ns) (by simpa using hi) J λh2 tk hS kp=>?_;show IG ?_;let fl:=firstMet_length_le (λi=>ns.getD i 0) XX.toArray.size
 show ZL6 (led:=true) (s:={s1 with heap:=h2,toks:=tk}) (I.ok.hd hc) hS J λms out r h3 tk3 d c hI hs hl hmem QV hr kp3=>?_;let em:∀z,z∈ms↔z∈ns:=λz=>by
  rw[hmem,firstMet_any,el];let e1:(List.range ns.length).map (λi=>ns.getD i 0)=ns:=by
   show Nq λi=>?_;rw[Yp];cases c:i<ns.length
   .rw[xR c,Xs c,Es,Ws,Xs c];rfl
   .rw[VM (by rw[Nr];lia),VM DW];rfl
  rw[e1];simp
 let SW:ms.Nodup:=(AD (vp _ _) hl λx hx=>(hmem x).mpr (xD.mpr ⟨x,hx,B⟩)).nodup_iff.mpr (vp _ _);let Xm:(~~~s1)<=h2.objs.size:=by let⟨_,_,_,_,e,_⟩:=hS;show Nm (Yo e)
 let AB:(~~~s1)<=r:=Yr Xm QV;let LG:ms.length<=ns.length:=by rwa[hl,<-el]
 let I2:=(I1.laid (o:=.lst<|ms.map V.int) (h':=h3) (t':=tk3) (λb o e=>kp3 b o<|kp b o e) AB ⟨by rw[Yb];have:sizeLine=16777216:=Tz;lia,out,c,OA hI,hr⟩).drew d;exists .ref r,_,I2,Z,q ms (My.UB hs SW) em r<|I1.hok.fresh AB
end
end L2
namespace My
open PySem L2
def km{f g:Nat->Nat}{N k:Nat}(hf:∀i j,i<N->j<N->(f i=f j↔Conn A i j))(hk:∀i,i<N->f i<k)(hg:∀a,a<k->g a<N/\f (g a)=a)(hA:InN N A)(hB:InN N AP):
  (∀i j,i<N->j<N->Conn (A++AP) i j)↔∀a b,a<k->b<k->Conn (AP.map λe=>(f e.1,f e.2)) a b:=by
 let gi:∀i,i<N->Conn A (g<|f i) i:=λi hi=>by let⟨h1,h2⟩:=hg (f i) (hk i hi);show(hf _ _ h1 hi).mp h2
 constructor
 .intro c a b ha hb;let⟨a1,a2⟩:=hg a ha;let⟨b1,b2⟩:=hg b hb;let q:=(c (g a) (g b) a1 b1).image (f:=f) (fs:=AP.map λe=>(f e.1,f e.2)) λe he=>by
   rcases XA.mp he with q|q
   .let⟨e1,e2⟩:=hA e q;rw[(hf _ _ e1 e2).mpr (.edge q)];show .refl _
   .show .edge (YN.mpr ⟨e,q,Z⟩)
  rwa[a2,b2]at q
 .intro c i j hi hj;let up:∀{i j:Nat},Conn A i j->Conn (A++AP) i j:=λq=>q.mono λe he=>Yf _ he
  let q:=(c (f i) (f j) (hk i hi)<|hk j hj).image (f:=g) (fs:=A++AP) λe he=>by let⟨d,hd,rfl⟩:=YN.mp he;let⟨d1,d2⟩:=hB d hd;show(up<|gi _ d1).trans ((Conn.edge<|Yg _ hd).trans (up<|gi _ d2).symm)
  show(up<|gi i hi).symm.trans (q.trans<|up<|gi j hj)
def PC(n:Int)(ps:Aa)(I O:Ac)(c:Nat):(Prop):=∃L:Ab,L.Nodup/\(∀l,l∈L↔Zg n ps l/\(∀z∈I,z∈l)/\∀z∈O,z∉l)/\L.length=c
def PC.uniq(h1:PC n ps I O c)(h2:PC n ps I O d):c=d:=by
 let⟨L,a1,a2,a3⟩:=h1;let⟨M,b1,b2,b3⟩:=h2
 have:L.Perm M:=(Kz a1 b1).mpr λl=>by rw[a2,b2]
 rw[<-a3,<-b3,this.length_eq]
def XD(m:Nat)(gone:Ac):(Ac):=(VS m).filter λz=>decide (z∉gone)
def WO{z:Int}:z∈XD m gone↔(0<=z/\z<(m:Int))/\z∉gone:=by unfold XD;rw[Yd,YV,Xx]
def ZG7(m:Nat)(gone:Ac):(XD m gone).Pairwise (·<·):=(XW.mp<|Hz m).2.filter _
def Sm(f:Nat->Nat)(ps:Aa)(R:Ac):(Aa):=R.map λz=>((f (Zp ps z).1:Int),(f (Zp ps z).2:Int))
def Ql(R:Ac)(S:Ac):(Ac):=S.map λt=>R.getD t.toNat 0
def kj(hR:R.Pairwise (·<·))(hS:IsSet R.length S):(Ql R S).Pairwise (·<·):=by
 let⟨a1,a2⟩:=XW.mp hS;show MD.mpr (a2.imp_of_mem λ{a b} ha hb Vi=>?_);let h1:=a1 a ha
 let h2:=a1 b hb;rw[Ws,Ws,Xs J,Xs J];show UT.mp hR a.toNat b.toNat DW DW sV
def AA(hS:IsSet R.length S){z:Int}(h:z∈Ql R S):z∈R:=by
 let⟨t,ht,rfl⟩:=YN.mp h;let h1:=hS.all t ht
 rw[Ws,Xs J];show Tv _
def ki{f:Nat->Nat}(hS:IsSet R.length S):XS (Sm f ps R) S=(XS ps (Ql R S)).map λe=>(f e.1,f e.2):=by
 unfold XS Ql;rw[Ms,Ms];show VL λt ht=>?_;let h1:=hS.all t ht
 let e:(Sm f ps R).getD t.toNat (0,0)=((f (Zp ps<|R.getD t.toNat 0).1:Int),(f (Zp ps<|R.getD t.toNat 0).2:Int)):=by unfold Sm;rw[Ws,Yp,Ws,Xs DW];rfl
 rw[e];rfl
def QR(m:Nat)(I R S:Ac):(Ac):=(VS m).filter λz=>decide (z∈I\/z∈Ql R S)
def kh(m:Nat)(I R S:Ac):(QR m I R S).Pairwise (·<·):=(XW.mp<|Hz m).2.filter _
def WS{z:Int}:z∈QR m I R S↔(0<=z/\z<(m:Int))/\(z∈I\/z∈Ql R S):=by unfold QR;rw[Yd,YV,Xx]
section
variable{n:Int}{ps:Aa}{I O S:Ac}{f g:Nat->Nat}{k:Nat}
def GW(hI:IsSet ps.length I)(hS:IsSet (XD ps.length (I++O)).length S):(QR ps.length I (XD ps.length (I++O)) S).Perm (I++Ql (XD ps.length (I++O)) S):=by
 let ua:=kj (ZG7 ps.length<|I++O) hS;show(Kz (HH<|kh _ _ _ _)<|Wg.mpr ⟨hI.nodup,HH ua,λa ha b hb e=>?_⟩).mpr λz=>?_
 .have:=(WO.mp<|AA hS hb).2
  show this (Yf _<|e▸ha)
 .rw[WS,XA];exists λh=>h.2,λh=>⟨?_,h⟩;rcases h with q|q
  .show hI.all z q
  .show(WO.mp<|AA hS q).1
theorem Az(g0:Zu n ps)(hI:IsSet ps.length I)(hf:∀i j,i<n.toNat->j<n.toNat->(f i=f j↔Conn (XS ps I) i j))(hk:∀i,i<n.toNat->f i<k)(hg:∀a,a<k->g a<n.toNat/\f (g a)=a)(hS:IsSet (XD ps.length (I++O)).length S):
  ((∀i j,i<n.toNat->j<n.toNat->Conn (XS ps<|QR ps.length I (XD ps.length<|I++O) S) i j)↔∀a b,a<k->b<k->Conn (XS (Sm f ps<|XD ps.length<|I++O) S) a b):=by
 let hp:=GW (O:=O) hI hS;let hA:=ZL (ns:=I) g0 hI.all
 let hB:=ZL (ns:=Ql (XD ps.length<|I++O) S) g0 λz hz=>(WO.mp<|AA hS hz).1;let e:XS ps (I++Ql (XD ps.length<|I++O) S)=XS ps I++XS ps (Ql (XD ps.length<|I++O) S):=by unfold XS;show YQ
 rw[ki hS,<-km hf hk hg hA hB,<-e];exists λc i j hi hj=>(Tf λz=>hp.mem_iff).mp (c i j hi hj),λc i j hi hj=>(Tf λz=>hp.mem_iff).mpr (c i j hi hj)
def Ay(hI:IsSet ps.length I)(hT:IsSet ps.length T)(h1:∀z∈I,z∈T)(h2:∀z∈O,z∉T):∃S,IsSet (XD ps.length (I++O)).length S/\T=QR ps.length I (XD ps.length (I++O)) S:=by
 exists (VS (XD ps.length<|I++O).length).filter λt=>decide<|(XD ps.length<|I++O).getD t.toNat 0∈T,XW.mpr ⟨λt ht=>Xx.mp (Yd.mp ht).1,(XW.mp<|Hz _).2.filter _⟩,m6 (XW.mp hT).2 (kh _ _ _ _) λz=>?_;rw[WS];constructor
 .intro hz;exists hT.all z hz,?_;cases c:z∈I
  .show .inl c
  .right;let hR:z∈XD ps.length (I++O):=WO.mpr ⟨hT.all z hz,λq=>by
    rcases XA.mp q with q|q
    .show c q
    .show h2 z q hz⟩
   let⟨t,ht⟩:=YC hR;let e:(XD ps.length<|I++O).getD ((t:Int)).toNat 0=z:=by rw[YK];show ZS ht
   show YN.mpr ⟨(t:Int),Yd.mpr ⟨Xx.mpr ⟨J,by have:=(Xy.mp ht).1;omega⟩,Yv<|by rwa[e]⟩,e⟩
 .rintro⟨_,q|q⟩
  .show h1 z q
  .let⟨t,ht,rfl⟩:=YN.mp q;show Yy (Yd.mp ht).2
def Zl9{S':Ac}(hS:IsSet (XD ps.length (I++O)).length S)(Uj:IsSet (XD ps.length (I++O)).length S')(e:QR ps.length I (XD ps.length (I++O)) S=QR ps.length I (XD ps.length (I++O)) S'):S=S':=by
 let key:∀{A AP:Ac},IsSet (XD ps.length<|I++O).length A->IsSet (XD ps.length<|I++O).length AP->QR ps.length I (XD ps.length<|I++O) A=QR ps.length I (XD ps.length<|I++O) AP->∀t,t∈A->t∈AP:=λ{A AP} hA hB e t ht=>by
  let h1:=hA.all t ht;let hm:(XD ps.length<|I++O).getD t.toNat 0∈Ql (XD ps.length<|I++O) A:=YN.mpr ⟨t,ht,Z⟩
  let hR:=WO.mp (AA hA hm);let h2:(XD ps.length<|I++O).getD t.toNat 0∈QR ps.length I (XD ps.length<|I++O) AP:=e▸WS.mpr ⟨hR.1,.inr hm⟩
  rcases(WS.mp h2).2 with q|q
  .show absurd (Yf _ q) hR.2
  .let⟨u,hu,e2⟩:=YN.mp q;let h3:=hB.all u hu
   rw[Ws,Ws,Xs J,Xs J]at e2
   have:=Fx (HH<|ZG7 ps.length<|I++O) (i:=u.toNat) (j:=t.toNat) (Xs DW) (by rw[Xs DW];show QP some e2.symm)
   let e3:u=t:=J;show e3▸hu
 show m6 (XW.mp hS).2 (XW.mp Uj).2 λt=>⟨key hS Uj e t,key Uj hS e.symm t⟩
def vo(f:Nat->Nat)(ps:Aa)(R:Ac):(Sm f ps R).length=R.length:=Yb ..
def kg(g0:Zu n ps)(hI:IsSet ps.length I)(TN:∀z∈I,z∉O)(hf:∀i j,i<n.toNat->j<n.toNat->(f i=f j↔Conn (XS ps I) i j))(hk:∀i,i<n.toNat->f i<k)(hg:∀a,a<k->g a<n.toNat/\f (g a)=a)(hn:(k:Int)+I⁻¹=n)(h:TC k (Sm f ps (XD ps.length (I++O))) c):PC n ps I O c:=by
 let⟨L,h1,h2,h3⟩:=h;let hs:∀l∈L,IsSet (XD ps.length<|I++O).length l:=λl hl=>vo f ps _▸((h2 l).mp hl).1
 let len:∀{S:Ac},IsSet (XD ps.length<|I++O).length S->(QR ps.length I (XD ps.length<|I++O) S).length=I.length+S.length:=λ{S} hS=>by rw[(GW hI hS).length_eq,Xw];unfold Ql;rw[Yb]
 let iff:∀{S:Ac},IsSet (XD ps.length<|I++O).length S->(Zg n ps (QR ps.length I (XD ps.length<|I++O) S)↔Zg k (Sm f ps<|XD ps.length<|I++O) S):=λ{S} hS=>by
  let l:=len hS;let q:=Az (O:=O) g0 hI hf hk hg hS
  constructor
  .rintro⟨a1,a2,a3⟩;exists by rw[vo];show hS,J,λa b ha hb=>q.mp a3 a b J J
  .rintro⟨a1,a2,a3⟩;exists XW.mpr ⟨λz hz=>(WS.mp hz).1,kh _ _ _ _⟩,J,q.mpr λa b ha hb=>a3 a b J J
 show⟨L.map<|QR ps.length I<|XD ps.length<|I++O,MD.mpr<|h1.imp_of_mem λ{a b} ha hb Vi e=>Vi<|Zl9 (hs a ha) (hs b hb) e,λT=>?_,by rw[Yb,h3]⟩;rw[YN];constructor
 .rintro⟨S,hS,rfl⟩;exists (iff<|hs S hS).mpr ((h2 S).mp hS),λz hz=>WS.mpr ⟨hI.all z hz,.inl hz⟩,λz hz q=>?_;rcases(WS.mp q).2 with q|q
  .show TN z q hz
  .show(WO.mp<|AA (hs S hS) q).2 (Yg _ hz)
 .rintro⟨hT,q1,q2⟩;let⟨S,hS,rfl⟩:=Ay hI hT.1 q1 q2;exists S,(h2 S).mpr ((iff hS).mp hT),Z
def Ax(g0:Zu n ps)(gone:Ac)(hk:∀i,i<n.toNat->f i<k)(k1:1<=k)(kn:k<=n.toNat):Zu k (Sm f ps (XD ps.length gone)):=by
 let⟨g1,g2,g3,g4⟩:=g0;exists J,J,?_,λp hp=>?_
 .rw[vo]
  have:(XD ps.length gone).length<=(VS ps.length).length:=YG ..
  have:=(Hz ps.length).len
  lia
 .let⟨z,hz,rfl⟩:=YN.mp hp;let hz1:=(WO.mp hz).1
  obtain⟨q,hq⟩:∃q,ps[z.toNat]?=some q:=⟨_,Xs J⟩;let⟨e1,e2,e3,e4⟩:=g4 q (Xg hq);let ee:Zp ps z=(q.1.toNat,q.2.toNat):=by unfold Zp;rw[ZS hq]
  rw[ee];let a:=hk q.1.toNat sV
  let b:=hk q.2.toNat sV;exists by change(0:Int)<=(f q.1.toNat:Int);lia,by change(f q.1.toNat:Int)<(k:Int);grind,by change(0:Int)<=(f q.2.toNat:Int);lia,by change(f q.2.toNat:Int)<(k:Int);grind
def kf(g0:Zu n ps)(hI:IsSet ps.length I)(hf:∀i j,i<n.toNat->j<n.toNat->(f i=f j↔Conn (XS ps I) i j))(hk:∀i,i<n.toNat->f i<k)(hg:∀a,a<k->g a<n.toNat/\f (g a)=a)(k1:1<=k)(kn:k<=n.toNat)(hn:n<(k:Int)+I⁻¹):PC n ps I O 0:=by
 exists [],.nil,λT=>⟨λh=>(by cases h),λzz=>?_⟩,Z;let⟨hT,q1,q2⟩:=zz;let⟨S,hS,rfl⟩:=Ay hI hT.1 q1 q2;let q:=(Az (O:=O) g0 hI hf hk hg hS).mp hT.2.2
 let gg:=Ax (f:=f) g0 (I++O) hk k1 kn;let l:=lh gg (by rwa[vo]) λa b ha hb=>q a b sV sV
 let l2:=hT.2.1;rw[(GW hI hS).length_eq,Xw]at l2;unfold Ql at l2;rw[Yb]at l2;omega
end
def Uy:(Ac->Int->Nat)
 |[],_=>0
 |x::l,z=>if x=z then 0 else Uy l z+1
def GV:∀{l:Ac}{z:Int},z∈l->l[Uy l z]?=some z
 |x::l,z,h=>by
  unfold Uy;cases c:x=z
  .rw[if_pos c,c];rfl
  .rw[if_neg c];show GV ((Yh.mp h).resolve_left λe=>c e.symm)
def j9(h:z∈l):Uy l z<l.length:=(Xy.mp<|GV h).1
def Aw(hz:z∈l)(hy:y∈l):Uy l z=Uy l y↔z=y:=by
 show⟨λe=>?_,λe=>by rw[e]⟩;let h1:=GV hz
 rw[e,GV hy]at h1;show(Yi h1).symm
def j8(hn:l.Nodup){i:Nat}{z:Int}(h:l[i]?=some z):Uy l z=i:=Fx hn (GV<|Xg h) h
def Jz(h:i<M.length):mk M i∈M:=by unfold mk;rw[Ws,Xs h];show Tv h
section
variable{N:Nat}{es:List (Nat×Nat)}{F:Ac}
def Av(h:InN N es)(hF:F.Pairwise (·<·))(hm:∀z,z∈F↔z∈Xz N es):
  ∃g:Nat->Nat,(∀i j,i<N->j<N->(Uy F (mk (Xz N es) i)=Uy F (mk (Xz N es) j)↔Conn es i j))/\(∀i,i<N->Uy F (mk (Xz N es) i)<F.length)/\∀a,a<F.length->g a<N/\Uy F (mk (Xz N es)<|g a)=a:=by
 let hl:=Zw N es;let j7:∀i,i<N->mk (Xz N es) i∈F:=λi hi=>(hm _).mpr (Jz J)
 let ex:∀a,∃i,a<F.length->i<N/\Uy F (mk (Xz N es) i)=a:=λa=>by
  cases c:a<F.length
  .let q:=(hm _).mp (Tv c);let⟨i,hi⟩:=YC q;let Uz:=(Xy.mp hi).1
   exists i,λ_=>⟨J,?_⟩;let e:mk (Xz N es) i=F[a]:=by unfold mk;show ZS hi
   rw[e];show j8 (HH hF) (Xs c)
  .exists 0,λh=>absurd h c
 exists λa=>Classical.choose<|ex a,λi j hi hj=>?_,λi hi=>j9<|j7 i hi,λa ha=>dZ (ex a) ha;rw[Aw (j7 i hi) (j7 j hj)];show Qw h hi hj
def j6:∀i,∃p,p<=i/\Wc M p=true/\mk M p=mk M i:=by
 intro i
 induction i using Nat.strongRecOn with
 |_ i ih=>
  cases c:Wc M i=true
  .exists i,XN _,c,Z
  .obtain⟨j,hj,e⟩:∃j,j<i/\mk M j=mk M i:=YD λno=>c (XB.mpr λj hj e=>no ⟨j,hj,e⟩);let⟨p,h1,h2,h3⟩:=ih j hj;exists p,J,h2,h3.trans e
def Za9(hF:F.Pairwise (·<·))(hm:∀z,z∈F↔z∈M):F.length=cnt M:=by
 let e:F.Perm ((Vf M M.length).map (mk M)):=by
  show(Kz (HH hF) ?_).mpr λz=>?_
  .show MD.mpr ?_;unfold Vf;show(ED.filter<|Wc M).imp_of_mem λ{a b} ha hb Vi=>?_;show XB.mp (Yd.mp hb).2 a Vi
  .rw[hm,YN];constructor
   .intro hz;let⟨i,hi⟩:=YC hz;let Uz:=(Xy.mp hi).1
    let⟨p,h1,h2,h3⟩:=j6 (M:=M) i;exists p,Yd.mpr ⟨YY.mpr J,h2⟩,h3.trans ?_;unfold mk;show ZS hi
   .rintro⟨p,hp,rfl⟩;show Jz (YY.mp (Yd.mp hp).1)
 rw[e.length_eq,Yb];rfl
def ZF4(h:InN N es)(hN:1<=N)(hF:F.Pairwise (·<·))(hm:∀z,z∈F↔z∈Xz N es):1<=F.length/\F.length<=N/\N<=F.length+es.length:=by
 let e:=Za9 hF hm;let hl:=Zw N es
 let e2:=mS (wC (n:=N) (es:=es) h);let e3:=wa es h
 let e4:=vZ (M:=Xz N es) J;let e5:cnt (Xz N es)<=N:=by unfold cnt Vf;show Yr (YG ..) ?_;rw[Nr];lia
 grind
end
def FD(A AP:Ac)(t:Int):(Prop):=t∈A/\t∉AP/\∀s,s<t->(s∈A↔s∈AP)
def j5:∀{A AP:Ac},A.Pairwise (·<·)->AP.Pairwise (·<·)->A.length=AP.length->(HT.lexLt A AP=true↔∃t,FD A AP t)
 |[],[],_,_,_=>⟨λh=>(by cases h),λzz=>by let⟨t,h,_⟩:=zz;show(by cases h)⟩
 |x::A,y::AP,hA,hB,hl=>by
  let⟨a1,a2⟩:=YT.mp hA;let⟨b1,b2⟩:=YT.mp hB;let QD:A.length=AP.length:=Mt hl
  change(if x=y then HT.lexLt A AP else decide (x<y))=true↔_;cases c:x=y
  .subst c;rw[if_pos Z,j5 a2 b2 QD];constructor
   .rintro⟨t,h1,h2,h3⟩;let tx:=a1 t h1
    exists t,Ye _ h1,λq=>?_,λs hs=>?_
    .rcases Yh.mp q with e|e
     .lia
     .show h2 e
    .rw[Yh,Yh,h3 s hs]
   .rintro⟨t,h1,h2,h3⟩;let tx:t≠x:=λe=>h2 (e▸Yc)
    let Ka:=(Yh.mp h1).resolve_left tx;exists t,Ka,λq=>h2<|Ye _ q,λs hs=>?_
    have:=h3 s hs
    rw[Yh,Yh]at this;cases e:s=x
    .rw[e];exists λq=>absurd (a1 x q)<|Int.lt_irrefl x,λq=>absurd (b1 x q)<|Int.lt_irrefl x
    .exists λq=>(this.mp<|.inr q).resolve_left e,λq=>(this.mpr<|.inr q).resolve_left e
  .rw[if_neg c,YV];constructor
   .intro h;exists x,Yc,λq=>?_,λs hs=>⟨λq=>?_,λq=>?_⟩
    .rcases Yh.mp q with e|e
     .show c e
     .have:=b1 x e;lia
    .rcases Yh.mp q with e|e
     .lia
     .have:=a1 s e;lia
    .rcases Yh.mp q with e|e
     .lia
     .have:=b1 s e;lia
   .rintro⟨t,h1,h2,h3⟩;let tx:x<=t:=by
     rcases Yh.mp h1 with e|e
     .lia
     .have:=a1 t e;lia
    show YD λhc=>?_;let hyx:y<x:=J
    have:=(h3 y sV).mpr Yc
    rcases Yh.mp this with e|e
    .lia
    .have:=a1 y e;grind
def j4{α:Type}[DecidableEq α]:∀{l m:List α},l.Nodup->(∀x∈l,x∈m)->l.length<=m.length
 |[],_,_,_=>Ym _
 |x::l,m,hn,hs=>by
  let hx:=hs x Yc;let⟨h1,h2⟩:=Qb.mp hn
  have:=j4 (m:=m.erase x) h2 λy hy=>(uc λe=>h1<|by rwa[<-e]).mpr (hs y<|Ye _ hy)
  rw[uu hx]at this
  have:=xV hx
  rw[YF];grind
def Au{s rest:TS}{D:Ends}{σ:L2.St}{H:Hp}(P:L2.St->Hp->Prop)(h1:∀σ' H',P σ' H'->rest D σ' H')(h2:∀K:L2.St->Hp->Prop,(∀σ' H',P σ' H'->K σ' H')->s {D with nx:=K} σ H):Ts s rest D σ H:=h2 _ h1
def ZM5{m:Nat}(hm:m<=30):∀k,(Ox (m:Int) k).length<=30^k
 |0=>XN 1
 |k+1=>by
  let h1:=cy (m:=m) (Ox (m:Int) k) λs hs=>(VY.mp hs).2;let h2:=ZM5 hm k
  let h3:m*(Ox (m:Int) k).length<=30*30^k:=Ja hm h2;rw[Nat.pow_succ,xr];show Yr h1 h3
def j0(g:Zu n ps)(h:TC n ps c):c<10^20:=by
 let⟨L,hn,hm,rfl⟩:=h;let⟨g1,g2,g3,_⟩:=g;show xO (m:=30^13) (Yr (j4 (m:=Ox ps⁻¹ (n-1).toNat) hn λx hx=>VY.mpr ⟨?_,((hm x).mp hx).1⟩)<|Yr (ZM5 J _)<|xT sZ DW) sZ
 have:=((hm x).mp hx).2.1
 lia
def jZ(g:Zu n ps):∃L:Ab,(∀l,l∈L↔Zg n ps l)/\L.Pairwise VB:=⟨VV n.toNat ps (n-1).toNat,λ_=>bq g,(Bn _ _).filter _⟩
def ev(b:Int):(Ac->Int)
 |[]=>0
 |d::l=>d+b*ev b l
abbrev GU(ls:Ac)(z:Int):Int:=ls.getD z.toNat 0
def lwS(ls:Ac)(x:Int):(Ac):=(VS ls.length).filter λz=>decide (GU ls z<x)
def mA(N:Nat)(ps:Aa)(ls:Ac)(x:Int):(Ac):=Xz N (XS ps<|lwS ls x)
def lvl(ls:Ac)(x:Int)(i:Nat):(Ac):=(VS i).filter λz=>decide (GU ls z=x)
def As(ls T:Ac):(Int):=(T.map<|GU ls).sum
section
variable{n:Int}{ps:Aa}{T:Ac}(g:Zu n ps)
include g
def jY(hT:Zg n ps T)(hW:Zg n ps W)(h:∀z∈T,z∈W):T.Perm W:=by
 have:=AD (l:=W) hT.1.nodup (by have:=hT.2.1;have:=hW.2.1;lia) h
 show this.symm
end
def Zd9(hT:Zg n ps T)(hW:Zg n ps W):(T.filter λy=>decide (y∉W)).length=(W.filter λy=>decide (y∉T)).length:=by
 let e1:=br (λy=>decide<|y∈W) T;let e2:=br (λy=>decide<|y∈T) W
 let p:(T.filter λy=>decide<|y∈W).Perm (W.filter λy=>decide<|y∈T):=(Kz (hT.1.nodup.filter _)<|hW.1.nodup.filter _).mpr λy=>by rw[Yd,Yd,YV,YV];show And.comm
 let f1:(T.filter λy=>decide<|y∉W)=T.filter λy=>!decide (y∈W):=SF λy _=>B;let f2:(W.filter λy=>decide<|y∉T)=W.filter λy=>!decide (y∈T):=SF λy _=>B
 have:=p.length_eq
 let h1:=hT.2.1;let h2:=hW.2.1
 rw[f1,f2];lia
end My
namespace HT
open PySem PyProof.Rows
section
def ltP(x y:Int×Ac):(Bool):=decide (x.1<y.1)||(decide (x.1=y.1)&&lexLt x.2 y.2)
end
end HT
namespace My
open PySem L2
section
variable{one d0 d1:Int}{other:Option Int}
def dG(one:Int)(other:Option Int)(d0 d1 y:Int):(Int):=if y=one then d0 else if some y=other then d1 else y
end
def nT(i:Int):(Str):=Str.ofString (toString i)
def Lg(cs:List Nat):(List Nat):=if cs.head?=some 45 then cs.tail else cs
def Ar(cs:List Nat):(Bool):=decide (1<=(Lg cs).length/\(Lg cs).length<=60/\(∀c∈Lg cs,48<=c/\c<=57)/\(cs=[48]\/(Lg cs).head?≠some 48))
abbrev Tr:=Int×Aa×Ac
end My
namespace My
open PySem PySem.W PyProof.Rows
def TM{α:Type}(c:Nat->Nat->Bool):(KasT α->α)
 | .ret a=>a
 | .ask i j k=>TM c (k<|c i j)
def EY{α β:Type}{c:Nat->Nat->Bool}{f:α->KasT β}:∀t:KasT α,TM c (t.bind f)=TM c (f (TM c t))
 | .ret _=>rfl
 | .ask i j k=>EY (k<|c i j)
section
variable{n:Nat}{key:Nat->Int}
def Ahd(key:Nat->Int)(i j:Nat):(Prop):=key i<key j\/(key i=key j/\i<j)
def Ahd.trans{i j k:Nat}(h1:Ahd key i j)(h2:Ahd key j k):Ahd key i k:=by unfold Ahd at *;grind
structure Ord(n m:Nat)(p:Array Nat):Prop where
 perm:p.Perm (List.range n).toArray
 suf:∀i,m<=i->i<n->p.getD i 0=i
def Ord.size(h:Ord n m p):p.size=n:=by rw[h.perm.size_eq];simp
def Lf{p:Array Nat}(h:i<p.size):p[i]?=some (p.getD i 0):=by rw[Yz,YR h];rfl
def Ord.inj(h:Ord n m p)(hi:i<n)(hj:j<n)(e:p.getD i 0=p.getD j 0):i=j:=by
 let hn:p.toList.Nodup:=(Up.mp h.perm).nodup_iff.mpr List.nodup_range;let hs:=h.size
 let e1:=Lf (p:=p) (i:=i) J;let e2:=Lf (p:=p) (i:=j) J
 rw[<-YI]at e1 e2;show(List.getElem?_inj (i:=i) (j:=j) (by rw[Yu];omega) hn).mp (by rw[e1,e2,e])
def Ord.lt(h:Ord n m p)(hm:m<=n)(hi:i<m):p.getD i 0<m:=by
 cases hc:p.getD i 0<m
 .show hc
 .let hs:=h.size;let hb:p.getD i 0<n:=by let e1:=Lf (p:=p) (i:=i) sV;rw[<-YI]at e1;show YY.mp ((Up.mp h.perm).mem_iff.mp (Xg e1))
  let e:=h.inj J hb (h.suf _ DW hb).symm;grind
def Ord.mono(h:Ord n m p)(hk:m<=k):Ord n k p:=⟨h.perm,λi hi=>h.suf i J⟩
def Ug{i j k:Nat}(hj:j<=p.size):(kas_rev p i j).getD k 0=if i<=k/\k<j then p.getD (i+j-1-k) 0 else p.getD k 0:=by unfold kas_rev;rw[Yz,tu hj,apply_ite λo:Option Nat=>o.getD 0,<-Yz,<-Yz]
def Ord.rev(h:Ord n m p)(hj:j<=m)(hm:m<=n):Ord n m (kas_rev p i j):=by let hs:=h.size;exists (mirror_perm _ _ _ _).trans h.perm,λk hk hn=>?_;rw[Ug J,if_neg J];show h.suf k hk hn
def Asc(key:Nat->Int)(m:Nat)(p:Array Nat):(Prop):=∀i j,i<j->j<m->Ahd key (p.getD i 0) (p.getD j 0)
def Asc.more(hm:1<=m)(h:Asc key m p)(h2:Ahd key (p.getD (m-1) 0) (p.getD m 0)):Asc key (m+1) p:=λi j WM hj=>by
 cases e:j=m
 .subst e;cases e2:i=j-1
  .rw[e2];show h2
  .show(h i (j-1) J DW).trans h2
 .show h i j WM J
def NQ:∀f m p,m+f=n->1<=m->Ord n m p->Asc key m p->∃k,TM (λi j=>decide (key i<key j)) (kas_asc p f m)=k/\m<=k/\k<=n/\Asc key k p/\(k<n->key (p.getD k 0)<key (p.getD (k-1) 0))
 |0,m,p,hf,h1,ho,ha=>⟨m,Z,XN _,J,ha,λh=>J⟩
 |f+1,m,p,hf,h1,ho,ha=>by
  change ∃k,TM _ (if decide (key (p.getD m 0)<key (p.getD (m-1) 0))=true then KasT.ret m else kas_asc p f (m+1))=k/\_;cases hc:key (p.getD m 0)<key (p.getD (m-1) 0)
  .rw[if_pos (Yv hc)];exists m,Z,XN _,J,ha,λ_=>hc
  .rw[if_neg λz=>hc (Yy z)];let e:=ho.suf m (XN _) J
   let l:=ho.lt J (i:=m-1) J;let⟨k,e1,e2,e3,e4,e5⟩:=NQ f (m+1) p J J (ho.mono J) (ha.more h1<|by unfold Ahd;rw[e]at hc ⊢;lia);exists k,e1,J,e3,e4,e5
structure Dsc(key:Nat->Int)(m g:Nat)(p:Array Nat):Prop where
 le:g+1<=m
 old:∀i j,i<j->j<m-(g+1)->Ahd key (p.getD j 0) (p.getD i 0)
 mid:∀i j,i<m-(g+1)->m-(g+1)<=j->j<m->key (p.getD j 0)<key (p.getD i 0)
 own:∀i j,m-(g+1)<=i->i<j->j<m->key (p.getD i 0)=key (p.getD j 0)/\p.getD i 0<p.getD j 0
def Fall(key:Nat->Int)(m:Nat)(p:Array Nat):(Prop):=∀i j,i<j->j<m->Ahd key (p.getD j 0) (p.getD i 0)
def Dsc.turn(h:Dsc key m g p)(hs:m<=p.size):Fall key m (kas_rev p (m-(g+1)) m):=λi j WM hj=>by
 let hl:=h.le;rw[Ug hs,Ug hs];cases c1:m-(g+1)<=j
 .rw[if_pos ⟨c1,hj⟩];cases c2:m-(g+1)<=i
  .rw[if_pos ⟨c2,J⟩];show .inr (h.own (m-(g+1)+m-1-j) (m-(g+1)+m-1-i) DW DW J)
  .rw[if_neg J];show .inl (h.mid i _ J J J)
 .rw[if_neg J,if_neg J];show h.old i j WM J
def Dsc.last(h:Dsc key m g p)(hs:m<=p.size):key ((kas_rev p (m-(g+1)) m).getD (m-1) 0)=key (p.getD (m-1) 0):=by
 let hl:=h.le;rw[Ug hs,if_pos sV];cases e:g=0
 .congr 2;grind
 .show(h.own (m-(g+1)+m-1-(m-1)) (m-1) DW DW J).1
def Dsc.fall(h:Dsc key m 0 p):Fall key m p:=λi j WM hj=>by
 let hl:=h.le;cases e:j<m-(0+1)
 .show h.old i j WM e
 .show .inl (h.mid i j sV J hj)
def Fall.new(hm:1<=m)(h:Fall key m p)(hk:key (p.getD m 0)<key (p.getD (m-1) 0)):Dsc key (m+1) 0 p:=by
 exists J,λi j WM hj=>h i j WM J,λi j hi h1 h2=>?_,λi j h1 h2 h3=>sV;let e:j=m:=J
 subst e;cases c:i=j-1
 .rw[c];show hk
 .have:=h i (j-1) J DW
  unfold Ahd at this;omega
def Fall.rev(h:Fall key m p)(hs:m<=p.size):Asc key m (kas_rev p 0 m):=λi j WM hj=>by rw[Ug hs,Ug hs,if_pos ⟨Ym _,J⟩,if_pos ⟨Ym _,hj⟩];show h _ _ DW DW
def Asc.rev(h:Asc key m p)(hs:m<=p.size):Fall key m (kas_rev p 0 m):=λi j WM hj=>by rw[Ug hs,Ug hs,if_pos ⟨Ym _,hj⟩,if_pos ⟨Ym _,DW⟩];show h _ _ DW DW
def vn:∀f m g p,m+f=n->Ord n m p->Dsc key m g p->∃p' m' g',TM (λi j=>decide (key i<key j)) (kas_desc f p m g)=(p',m',g')/\m<=m'/\m'<=n/\Ord n m' p'/\Dsc key m' g' p'
 |0,m,g,p,hf,ho,hd=>⟨p,m,g,Z,XN _,DW,ho,hd⟩
 |f+1,m,g,p,hf,ho,hd=>by
  let hl:=hd.le;let hs:=ho.size
  let em:=ho.suf m (XN _) J;let ll:=ho.lt J (i:=m-1) J
  change ∃p' m' g',TM _ (if decide (key (p.getD m 0)<key (p.getD (m-1) 0))=true then (if g>0 then kas_desc f (kas_rev p (m-(g+1)) m) (m+1) 0 else kas_desc f p (m+1) 0) else KasT.ask (p.getD (m-1) 0) (p.getD m 0) λd=>if d=true then .ret (p,m,g) else kas_desc f p (m+1) (g+1))=_/\_;cases hc:key (p.getD m 0)<key (p.getD (m-1) 0)
  .rw[if_pos (Yv hc)];cases hg:g>0
   .rw[if_pos hg];let hr:=ho.rev (i:=m-(g+1)) (XN m) J
    let em2:=hr.suf m (XN _) J;let⟨p',m',g',e1,e2,e3,e4,e5⟩:=vn f (m+1) 0 (kas_rev p (m-(g+1)) m) J (hr.mono J) ((hd.turn J).new J (by rw[hd.last DW,em2];rwa[em]at hc));exists p',m',g',e1,J,e3,e4,e5
   .rw[if_neg hg];let rfl:g=0:=J;let⟨p',m',g',e1,e2,e3,e4,e5⟩:=vn f (m+1) 0 p DW (ho.mono DW) (hd.fall.new J hc);exists p',m',g',e1,J,e3,e4,e5
  .rw[if_neg λz=>hc (Yy z)];change ∃p' m' g',TM _ (if decide (key (p.getD (m-1) 0)<key (p.getD m 0))=true then KasT.ret (p,m,g) else kas_desc f p (m+1) (g+1))=_/\_
   cases UP:key (p.getD (m-1) 0)<key (p.getD m 0)
   .rw[if_pos (Yv UP)];exists p,m,g,Z,XN _,DW,ho,hd
   .rw[if_neg λz=>UP (Yy z)];let ek:key (p.getD (m-1) 0)=key (p.getD m 0):=J
    let⟨p',m',g',e1,e2,e3,e4,e5⟩:=vn f (m+1) (g+1) p DW (ho.mono DW) ⟨J,λi j h1 h2=>hd.old i j h1 J,λi j h1 h2 h3=>by
     cases c:j=m
     .rw[c,<-ek];show hd.mid i (m-1) J sV J
     .show hd.mid i j J J J,λi j h1 h2 h3=>by
     cases c:j=m
     .rw[c];cases c2:i=m-1
      .rw[c2,em];rw[em]at ek;exists ek,ll
      .have:=hd.own i (m-1) J J DW
       rw[em];rw[em]at ek;exists this.1.trans ek,J
     .show hd.own i j J h2 DW⟩
    exists p',m',g',e1,J,e3,e4,e5
def Zq9(hm:1<=m)(hn:m<=n)(ho:Ord n m p)(hf:Fall key m p):∃k p',TM (λi j=>decide (key i<key j)) (kas_tail3 m n p)=(k,p')/\1<=k/\k<=n/\Ord n k p'/\Asc key k p':=by
 let hs:=ho.size;unfold kas_tail3;rw[EY];let hr:=ho.rev (i:=0) (XN m) hn
 let⟨k,e1,e2,e3,e4,_⟩:=NQ (n-m) m (kas_rev p 0 m) sV hm hr (hf.rev J);rw[e1];exists k,_,Z,J,e3,hr.mono e2,e4
def Yz9(hm:1<=m)(hn:m<n)(ho:Ord n m p)(hf:Fall key m p)(hk:key (p.getD m 0)<key (p.getD (m-1) 0)):∃k p',TM (λi j=>decide (key i<key j)) (kas_descPart m n p)=(k,p')/\1<=k/\k<=n/\Ord n k p'/\Asc key k p':=by
 unfold kas_descPart;rw[EY];let⟨p',m',g',e1,e2,e3,e4,e5⟩:=vn (n-(m+1)) (m+1) 0 p sV (ho.mono J) (hf.new hm hk);rw[e1];let hs:=e4.size
 change ∃k q,TM _ (if g'>0 then kas_tail3 m' n (kas_rev p' (m'-(g'+1)) m') else kas_tail3 m' n p')=_/\_;cases hg:g'>0
 .rw[if_pos hg];show Zq9 J e3 (e4.rev (XN _) e3) (e5.turn J)
 .rw[if_neg hg];let rfl:g'=0:=J;show Zq9 J e3 e4 e5.fall
def jX(hn:1<=n)(ho:Ord n 1 p):∃k p',TM (λi j=>decide (key i<key j)) (kas_count n p)=(k,p')/\1<=k/\k<=n/\Ord n k p'/\Asc key k p':=by
 unfold kas_count;rw[EY];let⟨k,e1,e2,e3,e4,e5⟩:=NQ (key:=key) (n-1) 1 p J (XN _) ho λi j h1 h2=>J;rw[e1];let hs:=ho.size
 let hk:=ho.mono e2;cases c:k=n
 .rw[if_pos (by rw[c];show xJ n)];exists k,p,Z,e2,e3,hk,e4
 .rw[if_neg λz=>c (RM.mp z)];let Xm:k<n:=J
  let h5:=e5 Xm;cases c1:k>1
  .rw[if_pos c1];change ∃k' p',TM _ (if decide (key (p.getD 0 0)<key (p.getD (k-1) 0))=true then KasT.ret (k,p) else kas_descPart k n (kas_rev p 0 k))=_/\_
   cases c2:key (p.getD 0 0)<key (p.getD (k-1) 0)
   .rw[if_pos (Yv c2)];exists k,p,Z,e2,e3,hk,e4
   .rw[if_neg λz=>c2 (Yy z)];let a0:=e4 0 (k-1) J J
    let eq:key (p.getD 0 0)=key (p.getD (k-1) 0):=by unfold Ahd at a0;grind
    let hr:=hk.rev (i:=0) (XN k) J;show Yz9 e2 Xm hr (e4.rev J) ?_;rwa[Ug DW,Ug DW,if_neg J,if_pos J,show 0+k-1-(k-1)=0 by lia,eq]
  .rw[if_neg c1];let rfl:k=1:=J;show Yz9 (XN _) Xm hk (λi j h1 h2=>J) h5
def jW(hk:Asc key k p):∀f l r,r-l<=f->l<=r->r<=k->(∀i,i<l->¬key (p.getD k 0)<key (p.getD i 0))->(∀i,r<=i->i<k->key (p.getD k 0)<key (p.getD i 0))->∃l',TM (λi j=>decide (key i<key j)) (kas_place p k f l r)=l'/\l'<=k/\(∀i,i<l'->¬key (p.getD k 0)<key (p.getD i 0))/\(∀i,l'<=i->i<k->key (p.getD k 0)<key (p.getD i 0))
 |0,l,r,hf,h1,h2,ha,hb=>⟨l,Z,J,ha,λi hi=>hb i sV⟩
 |f+1,l,r,hf,h1,h2,ha,hb=>by
  let mono:∀i j,i<=j->j<k->key (p.getD i 0)<=key (p.getD j 0):=λi j WM hj=>by
   cases e:i=j
   .rw[e];show SD _
   .have:=hk i j J hj
    unfold Ahd at this;lia
  unfold kas_place;cases c:l >= r
  .rw[if_pos c];exists l,Z,J,ha,λi hi=>hb i J
  .rw[if_neg c];change ∃l',TM _ (if decide (key (p.getD k 0)<key (p.getD ((l+r)/2) 0))=true then kas_place p k f l ((l+r)/2) else kas_place p k f ((l+r)/2+1) r)=l'/\_
   cases c2:key (p.getD k 0)<key (p.getD ((l+r)/2) 0)
   .rw[if_pos (Yv c2)];show jW hk f l ((l+r)/2) sV J J ha λi hi lg=>by
     have:=mono ((l+r)/2) i hi lg
     omega
   .rw[if_neg λz=>c2 (Yy z)];show jW hk f ((l+r)/2+1) r sV J J (λi hi=>by
     have:=mono i ((l+r)/2) J J
     omega) hb
def GS{k d x:Nat}(hk:k<p.size)(hd:d<=k):(bubble p k d).getD x 0=if x=k-d then p.getD k 0 else if k-d<x/\x<=k then p.getD (x-1) 0 else p.getD x 0:=by rw[Yz,getElem?_bubble hk d hd,apply_ite λo:Option Nat=>o.getD 0,apply_ite λo:Option Nat=>o.getD 0,<-Yz,<-Yz,<-Yz]
def Aq:∀f k p,k+f=n->Ord n k p->Asc key k p->∃p',TM (λi j=>decide (key i<key j)) (kas_bin f p k)=p'/\Ord n n p'/\Asc key n p'
 |0,k,p,hf,ho,ha=>by let rfl:k=n:=J;exists p,Z,ho,ha
 |f+1,k,p,hf,ho,ha=>by
  let hs:=ho.size;let ek:=ho.suf k (XN _) J
  unfold kas_bin;rw[EY];let⟨l,e1,e2,e3,e4⟩:=jW ha k 0 k J J (XN _) (λi hi=>J) λi hi Uz=>sV;rw[e1];show Aq f (k+1) (bubble p k<|k-l) J ⟨(bubble_perm _ _ _).trans ho.perm,λi hi hn=>?_⟩ λi j WM hj=>?_
  .rw[GS J sV,if_neg J,if_neg J];show ho.suf i J hn
  .let low:∀x,x<k->p.getD x 0<k:=λx hx=>ho.lt J hx;rw[GS J sV,GS DW DW];let ekl:k-(k-l)=l:=sV
   rw[ekl];cases c1:i=l
   .rw[if_pos c1,if_neg J,if_pos J];show .inl (e4 (j-1) sV sV)
   .rw[if_neg c1];cases c2:j=l
    .rw[if_pos c2,if_neg J];let a:=e3 i sV
     let b:=low i J;rw[ek]at a ⊢;unfold Ahd;lia
    .rw[if_neg c2];cases c3:l<i
     .rw[if_pos ⟨c3,J⟩,if_pos ⟨J,J⟩];show ha _ _ sV sV
     .rw[if_neg J];cases c4:l<j
      .rw[if_pos ⟨c4,DW⟩];show ha _ _ J sV
      .rw[if_neg J];show ha _ _ WM J
def Le(hn:1<=n):∃p,TM (λi j=>decide (key i<key j)) (kas_sort n)=p/\p.toList.Perm (List.range n)/\p.toList.Pairwise (Ahd key):=by
 let fin:∀p,Ord n n p->Asc key n p->p.toList.Perm (List.range n)/\p.toList.Pairwise (Ahd key):=λp ho ha=>by
  let hs:=ho.size;exists Up.mp ho.perm,UT.mpr λi j hi hj WM=>?_;rw[Yu]at hi hj
  have:=ha i j WM J
  rwa[Yz,Yz,YR hi,YR hj]at this
 unfold kas_sort;rw[EY];let⟨k,p,e1,e2,e3,e4,e5⟩:=jX (key:=key) hn (p:=(List.range n).toArray) ⟨Eo _,λi _ hi=>by simp[Array.getD,hi]⟩;rw[e1];change ∃q,TM _ (if k<n then kas_bin (n-max k 1) p (max k 1) else .ret p)=q/\_
 cases c:k<n
 .rw[if_pos c,Nat.max_eq_left e2];let⟨q,h1,h2,h3⟩:=Aq (n-k) k p sV e4 e5;exists q,h1,fin q h2 h3
 .rw[if_neg c];let rfl:k=n:=J;exists p,Z,fin p e4 e5
end
end My
namespace L2
open PySem PySem.Spec PyProof.Rows
def NP(P:Program)(w:World)(K:Ad)(mg:Af)(base:Heap)(N:List Str)(qual:Str)(scope:Scope)(f:Addr)(cd:Value)(cl:List (Str×Addr))(A:Around)(outer:List Env)(s:Shared)(H:Hp):(Cx) where
 prog:=P
 w:=w
 K:=K
 mg:=mg
 base:=base
 A:=A.deeper (PySem.W.envX qual scope (~~~s) f cd cl)
 N:=N
 s₀:=s
 H₀:=H
 env:=PySem.W.envX qual scope (~~~s) f cd cl
 outer:=outer
 stack:=PySem.W.envX qual scope (~~~s) f cd cl::outer
 ex:=[]
 calm:=true
 fn:=λ_=>false
 pn:=[]
 xe:=λ_ _=>False
structure LamScope(v x:Str)(sc:Scope):Prop where
 kind:sc.kind=.function
 co:sc.isCoroutine=false
 gen:sc.isGenerator=false
 nocell:∀y∈sc.names,y.2≠.cell
 par:sc.names.lookup v=some .local
 free:sc.names.lookup x=some .free
 only:∀y,sc.names.lookup y=some .free->y=x
 ne:v≠x
section
variable{P:Program}{w:World}{K:Ad}{mg:Af}{base:Heap}{qual name v x:Str}{scope:Scope}{f c c':Addr}{cd pm QQ u ux:Value}{A:Around}{outer:List Env}{s:Shared}{H:Hp}{vv vx:V}{params:Arguments}{body:Expr}{k:Nat}{t:TE}{Q:VK}
def vm{c2:Addr}(h:List.lookup y [(x,c)]=some c2):y=x/\c2=c:=by
 unfold List.lookup at h;split at h
 .rename_i e;exists RM.mp e,(Yi h).symm
 .cases h
def jV(S:LamScope v x scope)(hd:A.handled=none)(e0:Env0 P w K mg base A outer s H)(hc:s.heap.IsCell c (some ux))(rx:RelV vx ux)(jU:H c=none)(rv:RelV vv u){h1:Heap}{tk:Nat}
  (Vs:h1.Ns (~~~s) λy=>[(v,u)].reverse.lookup y)(hk:∀b o,s.heap.get? b=some o->h1.get? b=some o):
  Inv (NP P w K mg base [v,x] qual scope f cd [(x,c)] A outer s H) [] [some vv,some vx] H {s with heap:=h1,toks:=tk}:=by
 let Ii:∀b:Addr,b∉(NP P w K mg base [v,x] qual scope f cd [(x,c)] A outer s H).ex:=λb z=>absurd (show b∈([]:List Addr) from z) B;let hck:h1.IsCell c (some ux):=by let⟨o,e,d⟩:=hc;exists o,hk _ _ e,d
 let lk:List.lookup x [(x,c)]=some c:=by unfold List.lookup;rw[xJ]
 show⟨⟨e0.mod,S.kind,Z,Z,XN _,λy z c2 h1 h2=>?_,λy hy=>?_,λy c2 z _=>(nomatch z),λ_=>hd,Around.frames_deeper e0.frames,.inr ⟨Z,Z⟩,λb z=>absurd z<|Ii b,e0.bs,e0.bsz,λb _ _=>Ii b,λb z=>absurd z<|Ii b,e0.funs,e0.frf⟩,
  rfl,e0.bare,Un.kept hk,⟨_,Vs,λi y v' h1 h2 h3=>?_⟩,λy c2 h=>?_,e0.hok.fresh<|XN _,λy c2 h=>?_,λp hp=>absurd (show p∈([]:List (Addr×Obj)) from hp) B,e0.hok.kept hk,Z⟩
 .rw[(vm h1).1,(vm h2).1]
 .let hy:scope.names.lookup y=some .cell\/scope.names.lookup y=some .free:=hy;rcases hy with hy|hy
  .show absurd Z (S.nocell _<|RN hy)
  .rw[S.only y hy];exists c,lk
 .match i,h1,h2 with
  |0,h1,h2=>
   let rfl:v=y:=Yi h1;let rfl:vv=v':=Yi (Yi h2);exists u,rv,.inl ⟨S.par,?_⟩;change List.lookup v [(v,u)]=some u
   unfold List.lookup;rw[xJ]
  |1,h1,h2=>
   let rfl:x=y:=Yi h1;let rfl:vx=v':=Yi (Yi h2);exists ux,rx,.inr ⟨.inr S.free,c,lk,hck⟩
  |i+2,h1,h2=>cases h1
 .rw[(vm h).2];exists _,hck
 .rw[(vm h).2];show jU
def jT(S:LamScope v x scope)(hr:Room (k+1) A)(e0:Env0 P w K mg base A outer s H)(ho:s.heap.get? f=some (PySem.W.kla_obj name qual params body scope [(x,c)] pm c' QQ))(SQ:s.heap.CodeRec ↑c' qual)
  (Sl:bindArgs (PySem.W.kla_fn name qual params body scope [(x,c)] pm ↑c' QQ) ⟨[u],[]⟩=pure [(v,u)])(hc:s.heap.IsCell c (some ux))(rx:RelV vx ux)(jU:H c=none)(rv:RelV vv u)
  (hb:PE (NP P w K mg base [v,x] qual scope f ↑c' [(x,c)] A outer s H) body t)(hq:t [some vv,some vx] H Q):
  codeAny (model P w) A (.call ↑f ⟨[u],[]⟩) (λr s'=>∃u',r=.ok (.ret u')/\CE outer P w H s Q u' s') s:=by
 let lim:s.heap.NoLimit:=e0.mod.nolimit.keeps λb o e=>(e0.bs b o e).1;show PySem.W.kla_callFunE hr.depth ho Z S.co S.gen Z SQ ?_;rw[Sl];show Yj (wpAny_newFunctionEnv S.nocell (λy hy=>?_) (λh1 Vs wq=>⟨lim.fresh _ wq,?_⟩) S.kind)
 .rw[XG.mp hy];show S.par
 let hk:∀b o,s.heap.get? b=some o->h1.get? b=some o:=λb o e=>wq.extBut b o (YB<|Yo e) (Xd _ e);let I:Inv (NP P w K mg base [v,x] qual scope f ↑c' [(x,c)] A outer s H) [] [some vv,some vx] H {s with heap:=h1,toks:=s.toks+[(v,u)].length}:=jV S hr.hd e0 hc rx jU rv Vs hk
 show PySem.W.kla_codeExpr (Uc (hb [] _ _ H _ I hq) (λu' s' h=>?_) λe s' h=>False.elim h);let⟨y,H',sP,r,q⟩:=h;exists u',Z,y,H',sP.os,sP.bare,sP.base,sP.hok,r,q
end
end L2
namespace My
open PySem PySem.W PyProof.Rows
def Asks{α:Type}(n:Nat)(R:α->Prop):(KasT α->Prop)
 | .ret a=>R a
 | .ask i j k=>i<n/\j<n/\∀b,Asks n R (k b)
def Asks.bind{α β:Type}{R:α->Prop}{S:β->Prop}{f:α->KasT β}:∀{t:KasT α},Asks n R t->(∀a,R a->Asks n S (f a))->Asks n S (t.bind f)
 | .ret a,h,hf=>hf a h
 | .ask _ _ _,h,hf=>⟨h.1,h.2.1,λb=>Asks.bind (h.2.2 b) hf⟩
def goT_wp'{α:Type}{R:α->Prop}{c:Nat->Nat->Bool}{cmp:Nat->Nat->(Bool->Shared->Prop)->Shared->Prop}{sP:Shared->Prop}(h:∀i j C s,i<n->j<n->sP s->(∀s',sP s'->C (c i j) s')->cmp i j C s){Q:α->Shared->Prop}:∀t s,Asks n R t->sP s->(∀s',sP s'->Q (TM c t) s')->t.kasWp cmp Q s
 | .ret _,s,_,hs,q=>q s hs
 | .ask i j k,s,ha,hs,q=>h i j _ s ha.1 ha.2.1 hs λs' We=>goT_wp' h (k<|c i j) s' (ha.2.2 _) We q
section
variable{n:Nat}
def Bd(n:Nat)(p:Array Nat):(Prop):=p.Perm (List.range n).toArray
def Bd.lt(h:Bd n p)(hn:1<=n)(i:Nat):p.getD i 0<n:=by
 cases hi:i<p.size
 .let e1:=Lf (p:=p) hi;rw[<-YI]at e1;show YY.mp ((Up.mp h).mem_iff.mp (Xg e1))
 .rw[Yz,xU J];show hn
def Bd.rev(h:Bd n p)(i j:Nat):Bd n (kas_rev p i j):=(mirror_perm _ _ _ _).trans h
def jS(hn:1<=n)(hp:Bd n p):∀f m:Nat,Asks n (λ_=>True) (kas_asc p f m)
 |0,m=>trivial
 |f+1,m=>⟨hp.lt hn _,hp.lt hn _,λb=>by
  cases b with
  |true=>show trivial
  |false=>show jS hn hp f<|m+1⟩
def vk(hn:1<=n):∀f p m q,Bd n p->Asks n (λr=>Bd n r.1) (kas_desc f p m q)
 |0,p,m,q,hp=>hp
 |f+1,p,m,q,hp=>⟨hp.lt hn _,hp.lt hn _,λb=>by
  cases b with
  |true=>
   change Asks n _ (if q>0 then kas_desc f (kas_rev p (m-(q+1)) m) (m+1) 0 else kas_desc f p (m+1) 0);split
   .show vk hn f _ _ _ (hp.rev _ _)
   .show vk hn f _ _ _ hp
  |false=>
   exists hp.lt hn _,hp.lt hn _,λd=>?_;cases d with
   |true=>show hp
   |false=>show vk hn f _ _ _ hp⟩
def Ap(hn:1<=n)(hp:Bd n p)(m r:Nat):Asks n (λz=>Bd n z.2) (kas_tail3 m r p):=
 (jS hn (hp.rev _ _) _ _).bind λ_ _=>hp.rev _ _
def Zb5(hn:1<=n)(hp:Bd n p)(m r:Nat):Asks n (λz=>Bd n z.2) (kas_descPart m r p):=
 (vk hn _ p _ _ hp).bind λz hz=>by
  split
  .show Ap hn (hz.rev _ _) _ _
  .show Ap hn hz _ _
def jR(hn:1<=n)(hp:Bd n p)(r:Nat):Asks n (λz=>Bd n z.2) (kas_count r p):=
 (jS hn hp _ _).bind λz _=>by
  split
  .show hp
  .split
   .exists hp.lt hn _,hp.lt hn _,λb=>?_;cases b with
    |true=>show hp
    |false=>show Zb5 hn (hp.rev _ _) _ _
   .show Zb5 hn hp _ _
def jQ(hn:1<=n)(hp:Bd n p)(k:Nat):∀f l r:Nat,Asks n (λ_=>True) (kas_place p k f l r)
 |0,l,r=>trivial
 |f+1,l,r=>by
  unfold kas_place;split
  .show trivial
  .exists hp.lt hn _,hp.lt hn _,λb=>?_;cases b with
   |true=>show jQ hn hp k f _ _
   |false=>show jQ hn hp k f _ _
def Za8(hn:1<=n):∀f p k,Bd n p->Asks n (λz=>Bd n z) (kas_bin f p k)
 |0,p,k,hp=>hp
 |f+1,p,k,hp=>(jQ hn hp k _ _ _).bind λl _=>Za8 hn f _ _ ((bubble_perm _ _ _).trans hp)
def Qk(hn:1<=n):Asks n (λz=>Bd n z) (kas_sort n):=
 (jR hn (p:=(List.range n).toArray) (Eo _) n).bind λz hz=>by
  split
  .show Za8 hn _ _ _ hz
  .show hz
end
end My
namespace L2
open PySem PySem.Spec PyProof.Rows PySem.W
def QO(key:Int->Int)(ns ms:Ac):(Prop):=∃p:List Nat,p.Perm (List.range ns.length)/\p.Pairwise (My.Ahd λi=>key<|ns.getD i 0)/\ms=p.map λi=>ns.getD i 0
section
variable{X:Cx}{pins:List (Addr×Obj)}{σ:St}{H:Hp}{s:Shared}{b:Addr}{o:Obj}
def Inv.pin1(I:Inv X pins σ H s)(F:FpOk X pins H b)(e:s.heap.get? b=some o)(hd:∀v,o.data≠.cell v):Inv X (pins++[(b,o)]) σ H s:=I.pins_of λp hp=>by
 rcases XA.mp hp with hp|hp
 .show I.pin p (Yg _ hp)
 .rw[XG.mp hp];exists e,F.1,F.2.1,F.2.2.1,hd
def FpOk.more{pl:List (Addr×Obj)}(F:FpOk X pins H b)(hn:∀p∈pl,p.1≠b):FpOk X (pins++pl) H b:=⟨F.1,F.2.1,F.2.2.1,F.2.2.2.1,F.2.2.2.2.1,λp hp=>by
 rcases XA.mp hp with hp|hp
 .show F.2.2.2.2.2 p (Yf _ hp)
 .rcases XA.mp hp with hp|hp
  .show F.2.2.2.2.2 p (Yg _ hp)
  .show hn p hp⟩
def Inv.changed{h':Heap}{t':Nat}(I:Inv X pins σ H s)(F:FpOk X pins H b)(k:∀c o,c≠b->s.heap.get? c=some o->h'.get? c=some o):Inv X pins σ H {s with heap:=h',toks:=t'}:=
 I.turned k F.1 F.2.1 F.2.2.2.1 F.2.2.2.2.1 F.2.2.2.2.2
def Inv.adopt(I:Inv X pins σ H s)(hex:X.ex=[])(F:FpOk X pins H b)(new:ObjOk X.prog X.w (upd H b u) s.heap b u):Inv X pins σ (upd H b u) s:=by
 let f4:(~~~X.s₀)<=b:=F.2.2.2.1.resolve_left (by rw[hex];simp);let hn:=F.1
 exists I.ok,I.os,I.bare,⟨I.base.keep,I.base.slot,λc o e n hc=>?_,I.base.there,λc xs q=>?_,λc o w q=>?_,λc ps q=>?_⟩,I.loc,I.cell,?_,λx c e=>?_,λp hp=>?_,λc w e=>?_,I.len
 .rw[XJ (YB<|Ys (Yo e) f4)];show I.base.free c o e n hc
 .have:=I.base.tups c xs q
  rwa[XJ (Za this hn)]
 .have:=I.base.frzs c o w q
  rwa[XJ (Za this hn)]
 .let⟨m,this⟩:=I.base.tbls c ps q;exists m,by rwa[XJ (Za this hn)]
 .rw[XJ (Xc F.2.1)];show I.free
 .rw[XJ (F.2.2.2.2.1 x c e)];show I.freeC x c e
 .have:=I.pin p hp
  exists this.1,by rw[XJ (F.2.2.2.2.2 p hp)];show this.2.1,this.2.2
 .cases hb:c=b
  .subst hb;rw[XQ]at e;cases e;show new
  .rw[XJ hb]at e;show(I.hok c w e).stay (λ_ _ _ q=>q) (λd q=>by rwa[XJ (Za q hn)]) λd xs q=>by rwa[XJ (Za q hn)]
end
section
variable{X:Cx}{pins:List (Addr×Obj)}{σ:St}{H:Hp}{s:Shared}{a kS:Addr}{A:Around}{E:Ae}{P:PySem.Fin->Shared->Prop}{kA:Array Value}{e e1:Nat}{ns:Ac}{vs:Ag}
def Zp7{st:SortSt}{out:Ag}(I:Inv X (pins++[(a,seqObj "list" #[] e1),(kS,seqObj "list" kA e)]) σ H s)(Fa:FpOk X pins H a)(Fk:FpOk X pins H kS)(Of:a≠kS)(hz:kA.size<64)(QB:failedOf st=none)
  (GR:(arrOf st).map (·.2)=out.toArray)(hlen:out.length<64)(h:∀s' m,Inv X pins σ H s'->s'.heap.get? a=some (seqObj "list" out.toArray m)->P (.done<|.ret .none) s'):
  wpAny (model X.prog X.w) A (ksk_tail a false e1 ↑kS st) P E s:=by
 let LM:sizeLine=16777216:=Tz;let pa:=(I.pin (a,seqObj "list" #[] e1) B).1
 let pk:=(I.pin (kS,seqObj "list" kA e) B).1;let I0:Inv X pins σ H s:=I.unpinned
 let jP:(s.heap.update kS<|Obj.mapSeq λ_=>(#[]:Array Value)).get? a=some (seqObj "list" #[] e1):=(YX _ _<|Xc Of).trans pa;obtain⟨m,hm⟩:∃m,((s.heap.update kS<|Obj.mapSeq λ_=>(#[]:Array Value)).update a (Obj.mapSeq λ_=>out.toArray)).get? a=some (seqObj "list" out.toArray m):=⟨_,Ph jP λ_=>out.toArray⟩;unfold ksk_tail;dsimp only;rw[GR];show XU (Nl pk Z ?_ J<|Ym _);show XU (QG ?_);show XU (seqEpoch_at jP Z ?_);show XU (Nl jP Z ?_ (Ym _)<|by simp;lia);rw[QB];simp only[t5,Rn,Sd];show Yj (h _ m ?_ hm);let I1:Inv X pins σ H {s with heap:=s.heap.update kS<|Obj.mapSeq λ_=>(#[]:Array Value),toks:=s.toks}:=I0.changed Fk λc o hc q=>(YX _ _<|Xc hc).trans q
 show I1.changed (t':=s.toks) Fa λc o hc q=>(YX _ _<|Xc hc).trans q
def ZJ9{vs:Ag}{ns:Ac}(h0:IntsAre vs ns):∀i,i<ns.length->∃t,vs[i]?=some (.int (ns.getD i 0) t):=by
 induction h0 with
 |nil=>show λi h=>absurd h (Sf _)
 |cons n t r ih=>
  intro i h;cases i with
  |zero=>exists t,Z
  |succ i=>show ih i (by rw[YF]at h;lia)
end
def EX(c:Addr)(qual:Str):(HO):=.ext λh=>h.CodeRec ↑c qual
def TabH(H:Hp)(Pt:Addr)(pos:Pos)(qual:Str):(Prop):=∃ps:Array Value,H Pt=some (.tbl ps)/\TriplesOk ps.toList/\(codeAmong pos ps.toList=none\/∃c,codeAmong pos ps.toList=some ↑c/\H c=some (EX c qual))
def SameX(Pt:Addr)(H H':Hp):(Prop):=∀b o,b≠Pt->H b=some o->H' b=some o
def ZY2{c:Addr}(h1 h2:Heap)(r:h1.CodeRec ↑c qual)(k:∀o,h1.get? c=some o->h2.get? c=some o):h2.CodeRec ↑c qual:=by let⟨c2,o,vs,t,e,g,r⟩:=r;cases e;exists c,o,vs,t,Z,k _ g,r
section
variable{X:Cx}{pins:List (Addr×Obj)}{σ:St}{H:Hp}{s:Shared}{c Pt cc:Addr}{x:Str}{params:Arguments}{body:Expr}{scope:Scope}{pos:Pos}{E:Ae}{Q:Ae}
def Inv.builtinsAt(I:Inv X pins σ H s)(hB:X.base.BuiltinsAt X.mg Pt):s.heap.BuiltinsAt X.mg Pt:=by let⟨bm,o,h1,h2,h3,h4,h5,h6⟩:=hB;exists bm,o,h1,h2,h3,h4,I.bk _ _ h5,h6
def jO(I:Inv X pins σ H s)(TL:X.env.code=.ref c)(hC:codeHdIn X.K c Pt=true)(hB:X.base.BuiltinsAt X.mg Pt)(hT:TabH H Pt pos (X.env.qual++Str.ofString "<lambda>"))(SM:closureFor scope X.env=pure [(x,cc)])(GQ:defaultsOf params X.env=([],[]))(Ao:mainGlobals≠Pt)
  (h:∀f c' pm QQ s' H',SameX Pt H H'->TabH H' Pt pos (X.env.qual++Str.ofString "<lambda>")->FpOk X pins H' f->Inv X pins σ H' s'->s'.heap.get? f=some (kla_obj (Str.ofString "<lambda>") (X.env.qual++Str.ofString "<lambda>") params body scope [(x,cc)] pm c' QQ)->H' c'=some (EX c'<|X.env.qual++Str.ofString "<lambda>")->Q ↑f s'):
  wpAny (model X.prog X.w) X.A (eval (.Lambda params body scope pos) X.env) Q E s:=by
 let⟨ps,hP,GP,VD⟩:=hT;let QN:s.heap.get? Pt=some (tabObj ps):=I.hok Pt _ hP
 let Vs:s.heap.Ns mainGlobals X.mg:=I.mod.glob.keeps I.bk;let hHd:=codeHd_of_K I.kIn hC
 show kla_eval GQ ?_;rcases VD with hnf|⟨c',hf,VU⟩
 .show kla_makeFunction SM I.ok.glob Vs TL hHd QN GP hnf Ao (I.builtinsAt hB) λc' QQ h' tk hx QV Xm Ld htb=>?_;let hPl:Pt<(~~~s):=Yo QN
  let vj:H c'=none:=I.hok.fresh QV;let hcP:c'≠Pt:=Vv (Ys hPl QV)
  let keep:∀b o,b≠Pt->s.heap.get? b=some o->(h'.push<|kla_obj (Str.ofString "<lambda>") (X.env.qual++Str.ofString "<lambda>") params body scope [(x,cc)] ((X.mg "__name__").getD .none) c' QQ).get? b=some o:=λb o hb e=>Xd _ (hx b o hb e);let sx:SameX Pt H (upd (upd H Pt<|.tbl<|ps++#[rawInt pos.line,rawInt pos.col,.ref c']) c'<|EX c'<|X.env.qual++Str.ofString "<lambda>"):=λb o hb e=>by rwa[XJ (Za e vj),XJ hb]
  let tb:TabH (upd (upd H Pt<|.tbl<|ps++#[rawInt pos.line,rawInt pos.col,.ref c']) c'<|EX c'<|X.env.qual++Str.ofString "<lambda>") Pt pos (X.env.qual++Str.ofString "<lambda>"):=by let et:(ps++#[rawInt pos.line,rawInt pos.col,Value.ref c']).toList=ps.toList++[rawInt pos.line,rawInt pos.col,.ref c']:=B;exists ps++#[rawInt pos.line,rawInt pos.col,.ref c'],by rw[XJ (Xc hcP),XQ],by rw[et];show TriplesOk_snoc _ _ _ _ GP,.inr ⟨c',by rw[et];show codeAmong_snoc _ GP hnf,XQ⟩
  let GO:∀b,H b=none->b≠Pt:=λb n z=>by rw[z,hP]at n;cases n
  show h h'.objs.size c' _ QQ _ _ sx tb ?_ (I.un ⟨λb o e n _ _=>keep b o (GO b n) e,λb o e n _ _=>⟨o.slots,keep b o (GO b n) e⟩,λb o e n _=>?_,λb o e _=>?_,λb xs e=>?_,λb o u e=>?_,λb qs e=>?_⟩ λb u e=>?_) (Yq _ Z) XQ
  .let jN:(~~~s)<=h'.objs.size:=J;show I.fpOk jN ?_;rw[XJ (Vv Xm),XJ (Vv<|Ys hPl jN)];show I.hok.fresh jN
  .rw[XJ (YB<|Ys (Yo e) QV),XJ (GO b n)];show n
  .cases hb:b=Pt
   .rw[hb];exists _,Xd _ htb
   .exists o,keep b o hb e
  .show sx b _ (λz=>by rw[z,hP]at e;cases e) e
  .show sx b _ (λz=>by rw[z,hP]at e;cases e) e
  .cases hb:b=Pt
   .subst hb;rw[hP]at e;let rfl:ps=qs:=by cases e;rfl
    exists #[rawInt pos.line,rawInt pos.col,.ref c'],by rw[XJ (Xc hcP),XQ]
   .exists #[],by rw[sx b _ hb e];simp
  .cases hb:b=c'
   .subst hb;rw[XQ]at e;cases e;exists ZY2 _ _ Ld λo g=>Xd _ g,?_,ZY2;let⟨c2,o,_,_,e2,g,_⟩:=Ld;cases e2;exists o,Xd _ g
   .rw[XJ hb]at e;cases GN:b=Pt
    .subst GN;rw[XQ]at e;cases e;show Xd _ htb
    .rw[XJ GN]at e;show(I.hok b u e).stay (λd o hd g=>keep d o (λz=>?_) g) (λd g=>sx d _ (λz=>by rw[z,hP]at g;cases g) g) λd xs g=>sx d _ (λz=>by rw[z,hP]at g;cases g) g;rcases hd with hd|hd
     .show GN (hd.symm.trans z)
     .rw[z,hP]at hd;cases hd
 .show kla_makeFunctionHit SM I.ok.glob Vs TL hHd QN GP hf (I.builtinsAt hB) λQQ h' tk hk hsz=>?_;show h h'.objs.size c' _ QQ _ H (λ_ _ _ e=>e) ⟨ps,hP,GP,.inr ⟨c',hf,VU⟩⟩ (I.fpOk hsz<|I.hok.fresh hsz) (I.kept λb o e=>Xd _<|hk b o e) (Yq _ Z) VU
end
section
variable{Ue:Pos}{Pt:Addr}
def SqT.samex{K:Ad}{H H2:Hp}{a:Addr}{xs:List V}{qual:Str}(h:SqT K H a xs)(t:TabH H Pt Ue qual)(sx:SameX Pt H H2):SqT K H2 a xs:=by
 let⟨ps,hP,_⟩:=t;rcases h with (h|⟨o,h⟩)|h
 .show .inl (.inl<|sx _ _ (λz=>by rw[z,hP]at h;cases h) h)
 .show .inl (.inr ⟨o,sx _ _ (λz=>by rw[z,hP]at h;cases h) h⟩)
 .show .inr h
end
def GL(Pt:Addr)(H:Hp):(Prop):=H Pt=some (.tbl #[])/\∀b,b=Pt\/H b=none\/∃o xs,H b=some (.frz o<|.lst xs)
def ZQ8{P:Program}{w:World}{K:Ad}{mg mb:Af}{CX:RH}{k:Nat}{fa a Pt c:Addr}{fd:FuncData}{x:Str}{sp:Sp}{s₁:Shared}{vs:Ag}{ns:Ac}
  (KX:K.In s₁.heap)(Vs:s₁.heap.Ns mainGlobals mg)(hb:s₁.heap.Ns builtinsNs mb)(mO:∀x:Str,x≠"__name__"->mb x=bootBuiltins x)(jM:s₁.heap.NoLimit)(hg:s₁.gens=#[])
  (hT:s₁.heap.get? Pt=some (tabObj #[]))(hC:codeHdIn K c Pt=true)(jL:K.lookup Pt=none)(hbm:∃bm ob,mg (Str.ofString "__builtins__")=some ↑bm/\bm≠builtinsNs/\s₁.heap.get? bm=some ob/\ob.cls=.type "module"/\ob.dict=some builtinsNs/\ob.data=.plain)
  (ha:s₁.heap.get? a=some {cls:=.type "list",data:=.seq vs.toArray})(hi:IntsAre vs ns)(hl:ns.length<=sizeLine)(hr:Room k callerA)
  (F:∀base:Heap,K.In base->base.Ns mainGlobals mg->base.BuiltinsAt mg Pt->FnOk P w K mg base CX k fa fd [x] sp)(Sl:∀s u,BindsTo s fd ⟨[u],[]⟩ [(x,u)])
  (Rc:∀H:Hp,GL Pt H->SqL K H a (ns.map V.int)->sp [.ref a] H (λv _=>v=.bl true) λ_ _ _=>False)
  (jK:∀H e s',CX [] H s₁ (λ_ _ _=>False) e s'->False):
  codeAny (model P w) callerA (.call ↑fa ⟨[.ref a],[]⟩) (λr s'=>r=.ok (.ret<|.bool true)/\OldK s₁.heap s'.heap/\s'.os=s₁.os/\AllBare s'.gens) s₁:=by
 let rv:=Zj8 hi;let jJ:=hi.length
 let haP:a≠Pt:=λz=>by rw[z,hT]at ha;cases ha
 let core:∀H:Hp,GL Pt H->SqL K H a (ns.map V.int)->HOk P w H s₁.heap->(∀b,H b≠none->b=a\/b=Pt)->(H a≠none->K.lookup a=none)->
   codeAny (model P w) callerA (.call ↑fa ⟨[.ref a],[]⟩) (λr s'=>r=.ok (.ret<|.bool true)/\OldK s₁.heap s'.heap/\s'.os=s₁.os/\AllBare s'.gens) s₁:=by
  intro H hO hS hok hA hK;let base_of:∀{b:Addr}{o:Obj},s₁.heap.get? b=some o->H b=none->(Uo s₁.heap H).get? b=some o:=λe n=>Zag e n
  let free:∀{b:Addr}{o:Obj},s₁.heap.get? b=some o->(∀XX n,o.data≠.seq XX n)->(∀vs,o.data≠.fields vs)->H b=none:=λ{b o} e d1 d2=>by
   cases q:H b with
   |none=>rfl
   |some u=>
    rcases hA b (by rw[q];simp) with e'|e'
    .subst e';rw[ha]at e;cases e;show absurd Z (d1 _ _)
    .subst e';rw[hT]at e;cases e;show absurd Z (d2 _)
  let vi:∀{b:Addr}{m:Af},s₁.heap.Ns b m->(Uo s₁.heap H).Ns b m:=λ{b m} ⟨o,es,ep,e,d,r⟩=>⟨o,es,ep,base_of e (free e (λ_ _ z=>by rw[d]at z;cases z) λ_ z=>by rw[d]at z;cases z),d,r⟩;let hKb:K.In (Uo s₁.heap H):=λb o e=>base_of (KX b o e) (by
   cases q:H b with
   |none=>rfl
   |some u=>
    rcases hA b (by rw[q];simp) with e'|e'
    .subst e';rw[hK (by rw[q];simp)]at e;cases e
    .subst e';rw[jL]at e;cases e)
  let hM:Mod K mg (Uo s₁.heap H):=⟨hKb,vi Vs,⟨mb,vi hb,mO⟩,by let⟨mc,h1,h2⟩:=jM;exists mc,vi h1,h2⟩;let hB:(Uo s₁.heap H).BuiltinsAt mg Pt:=by
   let⟨bm,ob,b1,b2,b3,b4,b5,b6⟩:=hbm;exists bm,ob,b1,b2,λz=>?_,λz=>?_,base_of b3 (free b3 (λ_ _ z=>by rw[b6]at z;cases z) λ_ z=>by rw[b6]at z;cases z),b4,b5,b6
   .let⟨o,es,ep,e,d,_⟩:=Vs;rw[z,e]at b3;cases b3;rw[d]at b6;cases b6
   .rw[z,hT]at b3;cases b3;cases b4
  let e0:Env0 P w K mg (Uo s₁.heap H) callerA [] s₁ H:=⟨Z,hM,λb o e=>Zah e,xq<|ZZ8 _ _,trivial,λb hb=>absurd (show b∈([]:List Addr) from hb) B,hok,.of_eq hg⟩;show Mr ((F _ hKb (vi Vs) hB).run callerA [] s₁ H ⟨[.ref a],[]⟩ [.ref a] [.ref a] _ _ hr e0 (Sl s₁<|.ref a) (.cons Z .nil) (Rc H hO hS)) λr s' h=>?_;cases r with
  |error e=>show(jK H e s' h).elim
  |ok fl=>
   cases fl with
   |next=>show False.elim h
   |brk=>show False.elim h
   |cont=>show False.elim h
   |ret u=>
    let⟨v,H',os,bare,un,An,r',q⟩:=h;let q':v=.bl true:=q
    subst q';let rfl:u=Value.bool true:=r';let⟨more,eP⟩:=un.tbls Pt #[] hO.1;let hP':s'.heap.get? Pt=some {cls:=.none,data:=.fields (#[]++more)}:=An Pt _ eP
    let kept:∀b o,b≠Pt->s₁.heap.get? b=some o->s'.heap.get? b=some o:=λb o VA e=>by
     cases q:H b with
     |none=>show un.keep b o e q (by intro z;show absurd (show b∈([]:List Addr) from z) B) B
     |some u=>
      rcases hO.2 b with z|z|⟨ob,xs,z⟩
      .show absurd z VA
      .rw[q]at z;cases z
      .let z2:=un.frzs b ob _ z;let⟨e1,_⟩:=hok b _ z;let⟨e2,_⟩:=An b _ z2;rw[e]at e1;cases e1;show e2
    exists Z,⟨λb o e=>?_,λb o e=>?_⟩,os,bare
    .cases VA:b=Pt
     .subst VA;rw[hT]at e;let rfl:=Yi e;let⟨oc,vsc,_,_,_,_,_,_,_,c1,c2,c3,c4,_⟩:=codeHd_of_K KX hC;show .inr (.inl ⟨⟨c,oc,vsc,c1,c2,c3,c4⟩,Z,#[],more,Z,hP'⟩)
     .show .inl (kept b o VA e)
    .cases VA:b=Pt
     .rw[VA];exists _,hP'
     .exists o,kept b o VA e
 cases hk:K.lookup a with
 |some o=>
  let e:=KX a o hk;rw[ha]at e;cases e;show core (λb=>if b=Pt then some (.tbl #[]) else none) ⟨if_pos Z,λb=>?_⟩ (.inr ⟨_,vs.toArray,_,hk,Z,Z,Z,by rw[Ya,jJ];show hl,by simpa using rv⟩) (λb u z=>?_) (λb z=>?_) λz=>absurd (if_neg haP) z
  .cases VA:b=Pt
   .show .inl VA
   .show .inr (.inl<|if_neg VA)
  .cases VA:b=Pt
   .let z':=(if_pos VA).symm.trans z;cases z';subst VA;show hT
   .let z':=(if_neg VA).symm.trans z;cases z'
  .cases VA:b=Pt
   .show .inr VA
   .show absurd (if_neg VA) z
 |none=>
  show core (λb=>if b=Pt then some (.tbl #[]) else if b=a then some (.frz {cls:=.type "list",data:=.seq vs.toArray} (.lst<|ns.map V.int)) else none) ⟨if_pos Z,λb=>?_⟩ (.inl<|.inr ⟨{cls:=.type "list",data:=.seq vs.toArray},(if_neg haP).trans (if_pos Z)⟩) (λb u z=>?_) (λb z=>?_) λ_=>hk
  .cases VA:b=Pt
   .show .inl VA
   .cases hb:b=a
    .show .inr (.inr ⟨_,_,(if_neg VA).trans (if_pos hb)⟩)
    .show .inr (.inl<|(if_neg VA).trans (if_neg hb))
  .cases VA:b=Pt
   .let z':=(if_pos VA).symm.trans z;cases z';subst VA;show hT
   .cases hb:b=a
    .let z':=((if_neg VA).trans (if_pos hb)).symm.trans z;cases z';subst hb;exists ha,by rw[Yb];show hl,vs,_,rv,ha
    .let z':=((if_neg VA).trans (if_neg hb)).symm.trans z;cases z'
  .cases VA:b=Pt
   .show .inr VA
   .cases hb:b=a
    .show .inl hb
    .show absurd ((if_neg VA).trans (if_neg hb)) z
def NO{l:PySem.W.OpenLaw}{n k:Nat}{q:Program}{loose:List Str}{XP:Af->Heap->Prop}{YP:World->Heap->Prop}{d:DefRec}{K:Params->Ad}{CX:RH}{sp:Ad->Sp}{x:Str}{c Pt:Addr}
  (hn:l.most=some n)(OX:n<=sizeLine)(qD:d.params.defaults=[])(hr:Room k callerA)
  (hY:∀(w:World)(h:Heap),YP w h->(K w.params).In h/\h.get? Pt=some (tabObj #[]))(hC:∀w:World,codeHdIn (K w.params) c Pt=true)(jL:∀w:World,(K w.params).lookup Pt=none)
  (F:∀(w:World)(mg:Af)(fa:Addr)(h:Heap),(K w.params).In h->h.Ns mainGlobals mg->mg d.name=some ↑fa->
   ∃fd:FuncData,(∀(s:Shared)(u:Value),BindsTo s fd ⟨[u],[]⟩ [(x,u)])/\
    ∀base:Heap,(K w.params).In base->base.Ns mainGlobals mg->base.BuiltinsAt mg Pt->FnOk l.prog w (K w.params) mg base CX k fa fd [x] (sp<|K w.params))
  (Rc:∀(w:World)(H:Hp)(a:Addr)(ns:Ac),ns.length<=n->GL Pt H->SqL (K w.params) H a (ns.map V.int)->sp (K w.params) [.ref a] H (λv _=>v=.bl true) λ_ _ _=>False)
  (jK:∀(H:Hp)(s:Shared)(e:Value)(s':Shared),CX [] H s (λ_ _ _=>False) e s'->False):
  PySem.W.WalkO q loose XP YP l.row.toRowW d [] (λf vs=>PySem.call f vs):=by show Att.Su hn qD λw s₀ s₁ mg mb fa o pm cd doc a vs ns G Y ho hd SQ CV Ic hints hlen hg=>?_;let⟨KX,hT⟩:=hY w _ Y;let⟨fd,hb,hF⟩:=F w mg fa _ KX G.T.g CV;show ZQ8 KX G.T.g G.T.b G.T.builtins G.T.nolimit hg hT (hC w) (jL w) G.T.bmain Ic hints (Yr hlen OX) hr hF hb (λH hO hS=>Rc w H a ns hlen hO hS) λH e s'=>jK H s₁ e s'
def MR(K:Ad)(mg:Af)(base:Heap)(fd:FuncData)(Pt:Addr):(Prop):=∃c,fd.code=.ref c/\codeHdIn K c Pt=true/\base.BuiltinsAt mg Pt/\mainGlobals≠Pt
def LamScope.of(h1:sc.kind=.function)(h2:sc.isCoroutine=false)(h3:sc.isGenerator=false)(h4:sc.names=[(v,.local),(x,.free)]\/sc.names=[(x,.free),(v,.local)])(hn:v≠x):LamScope v x sc:=by
 let b1:(v == x)=false:=tR hn;let b2:(x == v)=false:=tR (Xc hn)
 exists h1,h2,h3,λy hy=>?_,?_,?_,λy hy=>?_,hn
 .let l1:NameKind.local≠NameKind.cell:=sZ;let l2:NameKind.free≠NameKind.cell:=sZ
  rcases h4 with e|e<;>rw[e]at hy<;>rcases Yh.mp hy with rfl|hy
  .show l1
  .rw[XG.mp hy];show l2
  .show l2
  .rw[XG.mp hy];show l1
 .rcases h4 with e|e<;>rw[e]<;>simp[List.lookup,b1,b2]
 .rcases h4 with e|e<;>rw[e]<;>simp[List.lookup,b1,b2]
 .rcases h4 with e|e<;>rw[e]at hy<;>simp only[List.lookup]at hy
  .split at hy
   .cases hy
   .split at hy
    .rename_i q;show RM.mp q
    .cases hy
  .split at hy
   .rename_i q;show RM.mp q
   .split at hy
    .cases hy
    .cases hy
section
variable{P:Program}{w:World}{K:Ad}{mg:Af}{base:Heap}
def Fun.okL{x qual:Str}{st:Stmt}{f c:Addr}{fd:FuncData}{N ps:List Str}{k:Nat}{sp:Sp}(F:Fun K x qual st f fd)(hc:fd.code=.ref c)(S:FnScope N ps (Xe st))(len:∀vs H Q E,sp vs H Q E->vs.length=ps.length)
  (hbody:∀A outer s H vs Q E,Room k (A.deeper<|envOfC qual (Xe st) (~~~s) f<|.ref c)->sp vs H Q E->
   ∃t,PSs (Wy Xb P w K mg base N qual (Xe st) f ↑c A outer s H E).nox (ZY st) t/\t {nx:=λ_ H'=>Q .non H',rt:=Q} (start N vs) H):FnOk P w K mg base Xb (k+1) f fd ps sp:=by let⟨oc,od,kV,doc,pm,an,XC,ct,Ti,rfl,lk,SQ⟩:=F.ex;let rfl:XC=.ref c:=hc;show OV lk SQ S len λA outer s H vs Q E hr Rc=>?_;let⟨t,h,q⟩:=hbody A outer s H vs Q E hr Rc;exists t,h.nox,q
end
end L2
namespace My
open PySem L2
def pl(ls T U:Ac):(Prop):=HT.ltP (As ls T,T) (As ls U,U)=true
def OrdL(ls:Ac)(m:Nat)(os:Ac):(Prop):=os.Perm (VS m)/\os.Pairwise λx y=>GU ls x<GU ls y\/(GU ls x=GU ls y/\x<y)
def jI(g:Zu n ps)(hT:Zg n ps T)(hW:Zg n ps W)(h:∀z∈T,z∈W):T=W:=
 m6 (vM hT) (vM hW) λz=>(jY g hT hW h).mem_iff
structure Ent where
 T:Ac
 I:Ac
 O:Ac
deriving DecidableEq
end My
namespace L2
open PySem PySem.Spec PyProof.Rows PySem.W My
def SameX.same(s:Same H H'):SameX Pt H H':=λb o _ e=>s b o e
def SameX.trans{Pt:Addr}{H H1 H2:Hp}(a:SameX Pt H H1)(b:SameX Pt H1 H2):SameX Pt H H2:=λc o hc e=>b c o hc (a c o hc e)
def TabH.same(t:TabH H Pt pos qual)(s:Same H H'):TabH H' Pt pos qual:=by
 let⟨ps,h1,h2,h3⟩:=t;exists ps,s _ _ h1,h2,?_;rcases h3 with h|⟨c,h,h'⟩
 .show .inl h
 .show .inr ⟨c,h,s _ _ h'⟩
def TabH.ne{Pt a:Addr}{o:HO}(t:TabH H Pt pos qual)(h:H a=some o)(hn:∀ps,o≠.tbl ps):a≠Pt:=λe=>by let⟨ps,h1,_⟩:=t;rw[e,h1]at h;show hn ps (Yi h).symm
def TabH.put{Pt r:Addr}{zs:List V}{u:List V}(t:TabH H Pt pos qual)(hr:H r=some (.lst zs)):TabH (upd H r (.lst u)) Pt pos qual:=by
 let⟨ps,h1,h2,h3⟩:=t;show⟨ps,by rw[XJ (PX h1 hr B)];show h1,h2,?_⟩;rcases h3 with h|⟨c,h,h'⟩
 .show .inl h
 .show .inr ⟨c,h,by rwa[XJ (PX h' hr<|by unfold EX;simp)]⟩
end L2
namespace My
open PySem L2
def SqK.samex(h:SqK kd K H a xs)(t:TabH H Pt pos qual)(sx:SameX Pt H H2):SqK kd K H2 a xs:=by
 cases kd with
 |true=>show SqT.samex (show SqT K H a xs from h) t sx
 |false=>
  rcases(show SqL K H a xs from h) with (h|⟨o,h⟩)|h
  .show .inl (.inl<|sx _ _ (t.ne h B) h)
  .show .inl (.inr ⟨o,sx _ _ (t.ne h B) h⟩)
  .show .inr h
def WebAt.samex(h:WebAt C H w n ps)(t:TabH H Pt pos qual)(sx:SameX Pt H H2):WebAt C H2 w n ps:=by let⟨dx,tl,xs,h1,h2,h3⟩:=h;exists dx,tl,xs,sx _ _ (t.ne h1 B) h1,sx _ _ (t.ne h2 B) h2,h3.1,λi p hp=>?_;let⟨x,hx,q,e,hq⟩:=h3.2 i p hp;exists x,hx,q,e,sx _ _ (t.ne hq B) hq
end My
namespace My
def un1{α:Type}{P:List α->Prop}(h:∀a,P [a])(l:List α)(e:l.length=1):P l:=by let⟨a,rfl⟩:=Bj e;show h a
def qx{α:Type}{P:List α->Prop}(h:∀a b,P [a,b])(l:List α)(e:l.length=2):P l:=by let⟨a,b,rfl⟩:=Bi e;show h a b
def un3{α:Type}{P:List α->Prop}(h:∀a b c,P [a,b,c])(l:List α)(e:l.length=3):P l:=by let⟨a,b,c,rfl⟩:=Bh e;show h a b c
def un4{α:Type}{P:List α->Prop}(h:∀a b c d,P [a,b,c,d])(l:List α)(e:l.length=4):P l:=by let⟨a,b,c,d,rfl⟩:=Bg e;show h a b c d
def un5{α:Type}{P:List α->Prop}(h:∀a b c d e,P [a,b,c,d,e])(l:List α)(e:l.length=5):P l:=by
 cases l with
 |nil=>cases e
 |cons x r=>
  let⟨a,b,c,d,rfl⟩:=Bg (Mt e);show h x a b c d
end My
namespace My
open PySem L2
def jH(h:TC n ps c):c=0↔∀T,¬Zg n ps T:=by
 let⟨L,a1,a2,a3⟩:=h;constructor
 .intro e T hT;rw[e]at a3
  have:=(a2 T).mpr hT
  rw[YM.mp a3]at this;cases this
 .intro e;rw[<-a3,YM];show EF.mpr λT hT=>e T ((a2 T).mp hT)
end My
namespace L2
open PySem PySem.Spec PyProof.Rows PySem.W
def Za3:∀bs:List Bool,(bs.map Value.bool).mapM firstOfTuple'=(pure ((bs.map Value.bool).map λ_=>none):Sem _)
 |[]=>B
 |b::bs=>by rw[TB,List.mapM_cons,Za3 bs];change(pure none >>= λb=>pure _ >>= λbs=>pure<|b::bs)=_;simp
def Zx2:∀bs:List Bool,(bs.map Value.bool).mapM typeOf=(pure ((bs.map Value.bool).map λ_=>Value.type "bool"):Sem _)
 |[]=>B
 |b::bs=>by rw[TB,List.mapM_cons,Zx2 bs];change(pure (Value.type "bool") >>= λb=>pure _ >>= λbs=>pure<|b::bs)=_;simp
def Zo7{ns:Ac}{key:Int->Bool}(hk:kA.toList=ns.map λz=>Value.bool (key z))(h2:2<=ns.length):keyKind' kA=pure oneType':=by
 let e:kA=((ns.map key).map Value.bool).toArray:=by rw[<-Array.toArray_toList (xs:=kA),hk,Ms];rfl
 rw[e];obtain⟨b1,b2,bs,eb⟩:∃b1 b2 bs,ns.map key=b1::b2::bs:=by
  match ns,h2 with
  |x::y::l,_=>exists _,_,_,Z
 rw[eb,keyKind'_eq,List.mapM_toArray,Za3];simp only[map_pure,pure_bind];rw[if_neg B,if_neg B];rw[oneTypeOnly'_eq,List.mapM_toArray,Zx2];simp only[map_pure,pure_bind];let UL:((List.map (λ_=>Value.type "bool")<|List.map Value.bool<|b1::b2::bs).toArray.all λx=>x == Value.type "bool")=true:=by simp only[List.all_toArray,List.all_map,Pr];intro _ _;rfl
 let h0:(List.map (λ_=>Value.type "bool")<|List.map Value.bool<|b1::b2::bs).toArray[0]?=some (Value.type "bool"):=B;rw[h0];simp only[UL,US,pure_bind,Option.isSome_some]
def jG{E:Ae}{s:Shared}{Q:Bool->Shared->Prop}(h:Q (decide (b2i p<b2i q)) s):wpAny (model prog w) A (keyLt' oneType' (.bool p) (.bool q)) Q E s:=by rw[keyLt'_oneType,oneLt'_eq];simp only[US];show XU (wpAny_cRoomFor_byValue Z ?_);show XU (wpAny_callSpecialIfBound?_slot (typeIs_bool' s p) F.slot_bool_lt<|call_gives F.slot_bool_lt (typeIs_bool' s p) F.entry_int_lt (F.args_int_lt_2 _ _) (gives_int_lt_bools p q) ?_);show Tx h
section
variable{X:Cx}{pins:List (Addr×Obj)}{σ:St}{H:Hp}{s:Shared}{a kS:Addr}{A:Around}{E:Ae}{P:PySem.Fin->Shared->Prop}{kA:Array Value}{e e1:Nat}{f:Value}{key:Int->Bool}{ns:Ac}{vs:Ag}
def jF(hv:IntsAre vs ns)(hk:kA.toList=ns.map λz=>Value.bool (key z))(hi:i<ns.length):∃u,kas_item (kA.zip vs.toArray) i=(.bool (key (ns.getD i 0)),.int (ns.getD i 0) u):=by
 let⟨u,hu⟩:=ZJ9 hv i hi;let ht:kA.toList[i]?=some (Value.bool<|key<|ns.getD i 0):=by rw[hk,Yp,Ws,Xs hi];rfl
 exists u,?_;unfold kas_item;rw[Yz,<-YI,ksk_zip,(eR (z:=(Value.bool<|key<|ns.getD i 0,Value.int (ns.getD i 0) u))).mpr ⟨ht,hu⟩];rfl
def Zq5(hv:IntsAre vs ns)(hk:kA.toList=ns.map λz=>Value.bool (key z)):∀l:List Nat,(∀i∈l,i<ns.length)->IntsAre (l.map λi=>(kas_item (kA.zip vs.toArray) i).2) (l.map λi=>ns.getD i 0)
 |[],_=>.nil
 |i::l,h=>by
  let⟨u,e⟩:=jF hv hk (h i Yc);let r:=Zq5 hv hk l λj hj=>h j (Ye _ hj)
  rw[TB,TB,e];show .cons _ u r
def jE(I:Inv X (pins++[(a,seqObj "list" #[] e1),(kS,seqObj "list" kA e)]) σ H s)(Fa:FpOk X pins H a)(Fk:FpOk X pins H kS)(Of:a≠kS)(hv:IntsAre vs ns)(PK:ns.length<64)(hk:kA.toList=ns.map λz=>Value.bool (key z))
  (h:∀s' m out ms,Inv X pins σ H s'->s'.heap.get? a=some (seqObj "list" out m)->IntsAre out.toList ms->QO (λz=>b2i<|key z) ns ms->P (.done<|.ret .none) s'):
  wpAny (model X.prog X.w) A (ksk_end a false vs.toArray e1 ↑kS kA) P E s:=by
 let Am:=hv.length;let jD:=QP List.length hk
 rw[Yu,Yb]at jD;let hzs:(kA.zip vs.toArray).size=ns.length:=by rw[Array.size_zip,show vs.toArray.size=vs.length from Ya];grind
 unfold ksk_end;dsimp only;rw[if_neg sZ];cases h2:vs.toArray.size<2
 .rw[if_pos h2,if_pos h2];rw[Ya]at h2;show XU (Yj ?_);rw[StateT.run_pure];show XU (Yj ?_);dsimp only;show Zp7 (out:=vs) I Fa Fk Of J Z ?_ sV λs' m sP e=>h s' m vs.toArray ns sP e (by simpa using hv) ?_
  .change(if false=true then (kA.zip vs.toArray).reverse else kA.zip vs.toArray).map (·.2)=vs.toArray;rw[if_neg sZ,Array.map_snd_zip (by rw[Ya];lia)]
  .exists List.range ns.length,IJ _,?_,?_
   .match ns.length,(show ns.length<2 by lia) with
    |0,_=>show List.Pairwise.nil
    |1,_=>show Ky _ _
   .match ns,(show ns.length<2 by omega) with
    |[],_=>rfl
    |[x],_=>rfl
 .rw[if_neg h2,if_neg h2];rw[Ya]at h2;rw[Zo7 hk J];show XU (Yj ?_);rw[if_neg sZ];let⟨p,Us,VT,MQ⟩:=My.Le (n:=ns.length) (key:=λi=>b2i<|key<|ns.getD i 0) J;let runs:=kas_runs (prog:=X.prog) (w:=X.w) (A:=A) (E:=E) (κ:=oneType') (it:=kA.zip vs.toArray) (n:=ns.length) (s:=s) (Q:=λ_ st s'=>s'=s/\failedOf st=none/\arrOf st=p.map (kas_item<|kA.zip vs.toArray))
   (G:=λq s'=>s'=s/\q=p) DW PK (λq st s' _ e2 e3 e4=>⟨e4.1,e3,by rw[e2,e4.2]⟩)
   (My.goT_wp' (c:=λi j=>decide<|b2i (key<|ns.getD i 0)<b2i (key<|ns.getD j 0)) (sP:=λs'=>s'=s) (λi j C s' hi hj hs hC=>by let⟨u,e⟩:=jF hv hk hi;let⟨u',e'⟩:=jF hv hk hj;unfold kas_cmp;rw[e,e'];show jG<|hC s' hs) _ s (My.Qk DW) Z λs' hs=>⟨hs,Us⟩)
  unfold kasC kas_st at runs;rw[<-hzs,kas_range]at runs;show XU (Uc runs ?_ λ_ _ z=>z);rintro⟨⟨⟩,st⟩ s' ⟨rfl,hf,ha⟩;dsimp only;let hb:∀i∈p.toList,i<ns.length:=λi hi=>YY.mp (VT.mem_iff.mp hi)
  let Vg:p.toList.length=ns.length:=by rw[VT.length_eq,Nr]
  show Zp7 (out:=p.toList.map λi=>(kas_item (kA.zip vs.toArray) i).2) I Fa Fk Of J hf ?_ (by rw[Yb];lia) λUa m sP e=>h Ua m _ _ sP e (by simpa using Zq5 hv hk p.toList hb) ⟨p.toList,VT,MQ,Z⟩;let ha:arrOf st=p.map (kas_item<|kA.zip vs.toArray):=ha
  rw[ha,Array.map_map];show Array.toList_inj.mp B
def ZS8(I:Inv X (pins++[(a,seqObj "list" #[] e1),(kS,seqObj "list" #[] 0)]) σ H s)(Fa:FpOk X pins H a)(Fk:FpOk X pins H kS)(Of:a≠kS)(hv:IntsAre vs ns)(PK:ns.length<64)
  (turn:∀pl z t s',z∈ns->Inv X (pins++pl) σ H s'->wpAny (model X.prog X.w) A (call f [.int z t]) (λv Ua=>v=.bool (key z)/\Inv X (pins++pl) σ H Ua) (λ_ _=>False) s')
  (h:∀s' m out ms,Inv X pins σ H s'->s'.heap.get? a=some (seqObj "list" out m)->IntsAre out.toList ms->QO (λz=>b2i<|key z) ns ms->P (.done<|.ret .none) s'):
  wpAny (model X.prog X.w) A (ksk_rest a f false vs.toArray e1<|.ref kS) P E s:=by
 let LM:sizeLine=16777216:=Tz;let Am:=hv.length
 unfold ksk_rest;show XU (PY ?_);rw[<-Array.forIn_toList];simp only[List.toList_toArray];show XU (ksk_fold (λi s'=>∃kA e,Inv X (pins++[(a,seqObj "list" #[] e1),(kS,seqObj "list" kA e)]) σ H s'/\kA.toList=(ns.take i).map λz=>Value.bool<|key z) vs 0 s ⟨#[],0,I,Z⟩ ?step ?done)
 case step=>
  rintro j x s' hx ⟨kA,e,sP,hk⟩;rw[SR]at hk ⊢;let hj:j<ns.length:=by rw[<-Am];show(Xy.mp hx).1
  let⟨t,ht⟩:=ZJ9 hv j hj;rw[hx]at ht;let rfl:=Yi ht;let hz:kA.size<=j:=by let h1:=QP List.length hk;rw[Yu,Yb,Yl]at h1;lia
  let eg:ns.getD j 0=ns[j]:=by rw[Ws,Xs hj];rfl
  let hmem:ns.getD j 0∈ns:=by rw[eg];show Tv hj
  show XU (FJ<|Uc (turn _ _ t s' hmem sP) (λv Ua he=>?_) λ_ _ hF=>hF.elim);let⟨rfl,J2⟩:=he;dsimp only;let pk:=(J2.pin (kS,seqObj "list" kA e) B).1
  obtain⟨c2,UP⟩:∃c2,(Ua.heap.update kS (Obj.mapSeq (·.push (.bool<|key<|ns.getD j 0)))).get? kS=some (seqObj "list" (kA.push<|.bool<|key<|ns.getD j 0) c2):=⟨_,Ph pk (·.push (.bool<|key<|ns.getD j 0))⟩;show XU (Nl pk Z ?_ J<|by rw[Array.size_push];lia);show Yj ⟨Z,kA.push<|.bool<|key<|ns.getD j 0,c2,?_,?_⟩
  .let J3:Inv X (pins++[(a,seqObj "list" #[] e1)]) σ H Ua:=J2.pins_of λp hp=>J2.pin p (Yg _ (by
    rcases XA.mp hp with hp|hp
    .show Yf _ hp
    .show Yg _<|by rw[XG.mp hp];show Yc))
   let Fk2:FpOk X (pins++[(a,seqObj "list" #[] e1)]) H kS:=Fk.more λp hp=>by rw[XG.mp hp];show Of
   let J4:=(J3.changed (t':=Ua.toks) Fk2 λc o hc q=>(YX Ua.heap (Obj.mapSeq (·.push (.bool<|key<|ns.getD j 0)))<|Xc hc).trans q).pin1 Fk2 UP λv z=>by cases z
   rwa[Yw]at J4
  .let ek:((ns.take<|j+1).map λz=>Value.bool<|key z)=((ns.take j).map λz=>Value.bool<|key z)++[Value.bool (key<|ns.getD j 0)]:=by rw[List.take_add_one,Xs hj,YQ,eg];rfl
   rw[RQ,ek,hk]
 case done=>
  rintro s' ⟨kA,e,sP,hk⟩;rw[SR,Am,YS]at hk;let pk:=(sP.pin (kS,seqObj "list" kA e) B).1
  show XU (Pg pk Z ?_);show jE sP Fa Fk Of hv PK hk h
def ZR8(I:Inv X pins σ H s)(Fa:FpOk X pins H a)(ho:s.heap.get? a=some (seqObj "list" vs.toArray n))(hv:IntsAre vs ns)(PK:ns.length<64)
  (turn:∀pl z t s',z∈ns->Inv X (pins++pl) σ H s'->wpAny (model X.prog X.w) A (call f [.int z t]) (λv Ua=>v=.bool (key z)/\Inv X (pins++pl) σ H Ua) (λ_ _=>False) s')
  (h:∀s' m out ms,Inv X pins σ H s'->s'.heap.get? a=some (seqObj "list" out m)->IntsAre out.toList ms->QO (λz=>b2i<|key z) ns ms->P (.done<|.ret .none) s'):
  wpAny (model X.prog X.w) A (ksk_tree a f false) P E s:=by
 let LM:sizeLine=16777216:=Tz;let Am:=hv.length
 obtain⟨e1,Bo⟩:∃e1,(s.heap.update a<|Obj.mapSeq λ_=>(#[]:Array Value)).get? a=some (seqObj "list" #[] e1):=⟨_,Ph ho λ_=>#[]⟩;let I1:Inv X pins σ H {s with heap:=s.heap.update a<|Obj.mapSeq λ_=>(#[]:Array Value),toks:=s.toks}:=I.changed Fa λc o hc q=>(YX _ _<|Xc hc).trans q
 let I2:Inv X pins σ H {s with heap:=(s.heap.update a<|Obj.mapSeq λ_=>(#[]:Array Value)).push (seqObj "tuple" vs.toArray 0),toks:=s.toks}:=I1.kept λc o q=>Xd _ q;let RG:((s.heap.update a<|Obj.mapSeq λ_=>(#[]:Array Value)).push (seqObj "tuple" vs.toArray 0)).get? a=some (seqObj "list" #[] e1):=Xd _ Bo
 unfold ksk_tree;show XU (Pg ho Z ?_);show XU (Nl ho Z ?_ (by rw[Ya];lia)<|Ym _);show XU (seqEpoch_at Bo Z ?_);show XU (wpAny_newTuple ?_<|by change vs.length<=_;omega);show XU (Mv ?_<|Ym _);show Se ?_;let Fk:FpOk X pins H ((s.heap.update a<|Obj.mapSeq λ_=>(#[]:Array Value)).push (seqObj "tuple" vs.toArray 0)).objs.size:=I2.fpOk (XN _) (I2.hok.fresh<|XN _)
 let Of:a≠((s.heap.update a<|Obj.mapSeq λ_=>(#[]:Array Value)).push (seqObj "tuple" vs.toArray 0)).objs.size:=YB (Yo RG);let I3:Inv X pins σ H {s with heap:=((s.heap.update a<|Obj.mapSeq λ_=>(#[]:Array Value)).push (seqObj "tuple" vs.toArray 0)).push (seqObj "list" #[] 0),toks:=s.toks}:=I2.kept λc o q=>Xd _ q
 let I4:=(I3.pin1 Fa (Xd _ RG) λv z=>by cases z).pin1 (Fk.more (pl:=[(a,seqObj "list" #[] e1)]) λp hp=>by rw[XG.mp hp];show Of) (Yq _ Z) λv z=>by cases z
 rw[Yw]at I4;show ZS8 I4 Fa Fk Of hv PK turn h
def jC{tp q:Addr}{Q:Ae}(I:Inv X pins σ H s)(ht:s.heap.IsList tp vs.toArray)(hv:IntsAre vs ns)(PK:ns.length<64)
  (turn:∀pl z t s',z∈ns->Inv X (pins++pl) σ H s'->wpAny (model X.prog X.w) A.in1.in1 (call ↑q [.int z t]) (λv Ua=>v=.bool (key z)/\Inv X (pins++pl) σ H Ua) (λ_ _=>False) s')
  (h:∀s' a m out ms,FpOk X pins H a->Inv X pins σ H s'->s'.heap.get? a=some (seqObj "list" out m)->IntsAre out.toList ms->QO (λz=>b2i<|key z) ns ms->Q ↑a s'):
  wpAny (model X.prog X.w) A (call (.builtin "sorted") [.ref tp] [(Str.ofString "key",.ref q)]) Q E s:=by
 let LM:sizeLine=16777216:=Tz;let Am:=hv.length
 show call_function_entry_kw kind_sorted plain_sorted entry_sorted (ksk_s1 _ _) ?_;unfold Builtin.«sorted»;show XU (m:=checkCount "sorted" 1 1 _) (Yj ?_);show XU (collect_list ht ?_ DW);show XU (Mv ?_ DW);let hsz:((s.heap.push<|seqObj "list" #[] 0).update (~~~s) (Obj.mapSeq (·++vs.toArray))).objs.size=(~~~s)+1:=by rw[tw,size_push']
 let Pf:(((s.heap.push<|seqObj "list" #[] 0).update (~~~s) (Obj.mapSeq (·++vs.toArray))).push (seqObj "list" vs.toArray 0)).get? ((~~~s)+1)=some (seqObj "list" vs.toArray 0):=by rw[<-hsz];show Yq _ rfl
 let keep:∀b o,s.heap.get? b=some o->(((s.heap.push<|seqObj "list" #[] 0).update (~~~s) (Obj.mapSeq (·++vs.toArray))).push (seqObj "list" vs.toArray 0)).get? b=some o:=λb o q=>by let Xm:b<(~~~s):=Yo q;show Xd _ ((YX _ _<|Vv Xm).trans (Xd _ q))
 change wpAny _ _ _ _ _ {s with heap:=((s.heap.push<|seqObj "list" #[] 0).update (~~~s) (Obj.mapSeq (·++vs.toArray))).push (seqObj "list" vs.toArray 0)};rw[hsz];let Fa:FpOk X pins H ((~~~s)+1):=I.fpOk (Ud _) (I.hok.fresh<|Ud _)
 show XU (Se<|wpAny_call_entry_kw xk ⟨_,Pf,Z⟩ xm ?body (ksk_l1 _ _));change wpAny (model X.prog X.w) A.in1.in1 (Builtin.«list.sort» ⟨[.ref ((~~~s)+1)],[(Str.ofString "key",.ref q)]⟩) _ _ _
 rw[ksk_t1];show ZR8 (s:={s with heap:=((s.heap.push<|seqObj "list" #[] 0).update (~~~s) (Obj.mapSeq (·++vs.toArray))).push (seqObj "list" vs.toArray 0),toks:=s.toks}) (I.kept keep) Fa Pf hv PK turn λs' m out ms sP e hi hs=>⟨_,Z,?_⟩;show Yj ⟨_,Z,h s' _ m out ms Fa sP e hi hs⟩
end
def jB(K:Ad)(Pt:Addr)(Ue:Pos)(qual:Str)(i:Nat)(te tb:TE):(TE):=λσ H Q=>te σ H λy H1=>∃(p:Addr)(ns:Ac)(vx:V)(key:Int->Bool),y=.ref p/\SqL K H1 p (ns.map V.int)/\ns.length<64/\TabH H1 Pt Ue qual/\σ[i]?=some (some vx)/\
 (∀H2,SameX Pt H1 H2->∀z∈ns,tb [some (.int z),some vx] H2 λr H3=>r=.bl (key z)/\H3=H2)/\
 ∀(ms:Ac)(l:Addr)(H2:Hp),QO (λz=>b2i<|key z) ns ms->SameX Pt H1 H2->TabH H2 Pt Ue qual->H2 l=none->Q ↑l (upd H2 l<|.lst<|ms.map V.int)
section
variable{X:Cx}{p kp pos Ue:Pos}{e body:Expr}{params:Arguments}{scope:Scope}{te tb:TE}{v x:Str}{i k:Nat}{c Pt cc:Addr}
def SqL.samexT{K:Ad}{H H2:Hp}{a:Addr}{xs:List V}{qual:Str}(h:SqL K H a xs)(t:TabH H Pt Ue qual)(sx:SameX Pt H H2):SqL K H2 a xs:=by
 let⟨ps,hP,_⟩:=t;rcases h with (h|⟨o,h⟩)|h
 .show .inl (.inl<|sx _ _ (λz=>by rw[z,hP]at h;cases h) h)
 .show .inl (.inr ⟨o,sx _ _ (λz=>by rw[z,hP]at h;cases h) h⟩)
 .show .inr h
def jA(he:PE X e te)(hg:Gl X (Str.ofString "sorted"))(hm:X.mg (Str.ofString "sorted")=none)(hr:Room (k+3) X.A)(hex:X.ex=[])(TL:X.env.code=.ref c)(hC:codeHdIn X.K c Pt=true)(hB:X.base.BuiltinsAt X.mg Pt)(Ao:mainGlobals≠Pt)
  (S:LamScope v x scope)(SM:closureFor scope X.env=pure [(x,cc)])(GQ:defaultsOf params X.env=([],[]))(Sl:∀(c':Addr)(pm QQ u:Value),bindArgs (kla_fn (Str.ofString "<lambda>") (X.env.qual++Str.ofString "<lambda>") params body scope [(x,cc)] pm ↑c' QQ) ⟨[u],[]⟩=pure [(v,u)])
  (hi:X.N[i]?=some x)(hkx:X.env.kindOf x=some .cell)(Wd:X.env.cells.lookup x=some cc)
  (hb:∀(f c':Addr)(A:Around)(outer:List Env)(s:Shared)(H:Hp),Room k (A.deeper<|envX (X.env.qual++Str.ofString "<lambda>") scope (~~~s) f ↑c' [(x,cc)])->PE (NP X.prog X.w X.K X.mg X.base [v,x] (X.env.qual++Str.ofString "<lambda>") scope f ↑c' [(x,cc)] A outer s H) body tb)(hs:starEach [e] X.env=[(false,eval e X.env)]:=by rfl):
  PE X (.Call (.Name (Str.ofString "sorted") p) [e] [⟨some<|Str.ofString "key",.Lambda params body scope Ue,kp⟩] pos) (jB X.K Pt Ue (X.env.qual++Str.ofString "<lambda>") i te tb):=by
 intro pins s σ H Q I h;show Pu (PV I hg hm Boot.«sorted» ?_ sZ sZ);let ha:PA X [e] (Ik te Il):=XY he XT hs
 show callWith_kw (thn (ha pos pins s σ H (λvs H1=>match vs with
  |[y]=>∃(p:Addr)(ns:Ac)(vx:V)(key:Int->Bool),y=.ref p/\SqL X.K H1 p (ns.map V.int)/\ns.length<64/\TabH H1 Pt Ue (X.env.qual++Str.ofString "<lambda>")/\σ[i]?=some (some vx)/\
   (∀H2,SameX Pt H1 H2->∀z∈ns,tb [some (.int z),some vx] H2 λr H3=>r=.bl (key z)/\H3=H2)/\
   ∀(ms:Ac)(l:Addr)(H2:Hp),QO (λz=>b2i<|key z) ns ms->SameX Pt H1 H2->TabH H2 Pt Ue (X.env.qual++Str.ofString "<lambda>")->H2 l=none->Q ↑l (upd H2 l<|.lst<|ms.map V.int)
  |_=>False) I h) λus s1 hh=>?_) (by rw[hs];rfl) (by rw[hs];rfl) Z rfl
 let⟨vs,H1,I1,r,q⟩:=hh
 match vs,r,q with
 |[],_,q=>show False.elim q
 |_::_::_,_,q=>show False.elim q
 |[y],r,q=>
  let⟨p2,ns,vx,key,rfl,hq,PK,hT,hσ,hk,q⟩:=q;let⟨u,rfl,ru⟩:=Sy r;let rfl:u=Value.ref p2:=ru;show kws_cons (jO I1 TL hC hB hT SM GQ Ao λf c' pm QQ s2 H2 sx tab F I2 hf VU=>kws_nil ?_);let I3:=I2.pin1 F hf λv z=>by cases z
  let RV:=SqL.samexT hq hT sx;let⟨XX,rv,g1,hz⟩:=I2.list RV;let hv:=Zz rv
  show jC I3 g1.isList hv PK (key:=key) (λpl z t s3 hmem sP=>?_) λs3 a m out ms Fa sP Lc GR WV=>?_
  .-- the lambda called
   let QA:s3.heap.get? f=some (kla_obj (Str.ofString "<lambda>") (X.env.qual++Str.ofString "<lambda>") params body scope [(x,cc)] pm c' QQ):=(sP.pin (f,_)<|Yg _<|Yf _<|Yg _ Yc).1;let⟨mm,_,jz⟩:=sP.loc;let⟨ux,rx,Al⟩:=jz i x vx hi hσ (.inr<|.inl hkx);let Rj:s3.heap.IsCell cc (some ux):=by
    rcases Al with ⟨kz,_⟩|⟨_,c2,e2,UP⟩
    .rw[hkx]at kz;cases kz
    .rw[Wd]at e2;cases e2;show UP
   let Ld:s3.heap.CodeRec ↑c' (X.env.qual++Str.ofString "<lambda>"):=(sP.hok c' _ VU).1;let UZ:Room (k+1) X.A.in1.in1:=(hr.in1).in1
   show FI (Mr (jT (u:=.int z t) (vv:=.int z) S UZ sP.env0.in1.in1 QA Ld (Sl c' pm QQ _) Rj rx (sP.freeC x cc Wd) ⟨t,Z⟩ (hb f c' _ _ s3 H2<|UZ.deeper _)<|hk H2 sx z hmem) λrr s4 hh=>?_);let⟨u',rfl,ce⟩:=hh;let⟨v',H',J',mD,e1,e2⟩:=sP.after ce;subst e1 e2;let rfl:=mD;exists Z,J'
  .let J0:Inv X pins σ H2 s3:=sP.unpinned;let Fa0:FpOk X pins H2 a:=⟨Fa.1,Fa.2.1,Fa.2.2.1,Fa.2.2.2.1,Fa.2.2.2.2.1,λp hp=>Fa.2.2.2.2.2 p (by
    rcases XA.mp hp with hp|hp
    .show Yf _ hp
    .show Yg _<|Yf _ hp)⟩
   let LG:ms.length=ns.length:=by let⟨pp,h1,_,rfl⟩:=WV;rw[Yb,h1.length_eq,Nr]
   exists .ref a,_,J0.adopt hex Fa0 (u:=.lst<|ms.map V.int) ⟨?_,out.toList,m,OA GR,by simpa using Lc⟩,Z,q ms a H2 WV sx tab Fa.1;rw[Yb,LG]
   have:sizeLine=16777216:=Tz
   lia
end
abbrev TK:List (Str×Value):=[(Str.ofString "default",.none)]
section
variable{prog:Program}{w:World}{A:Around}{I S:Addr}{fp wr:List Addr}{n:Nat}{P:Nat->Value->Prop}{St:Nat->Heap->Prop}{R:Result->Shared->Prop}
def ZI8(W:Walks prog w A.in1 I fp wr n P St)(lt:Nat->Nat->Bool)(C:Heap->Prop)(ck:∀h h',C h->(∀b o,b≠S->b∉wr->h.get? b=some o->h'.get? b=some o)->C h')(cc:∀s i j v u E Q,C s.heap->i≠j->P i v->P j u->Q (.bool (lt i j)) s->wpAny (model prog w) A.in1 (compareOp .Lt v u) Q E s)(RC:S∉fp):∀k j s vb c,n-(j+1)=k->j+1<=n->St (j+1) s.heap->P (argBest lt j) vb->C s.heap->
  s.heap.get? S=some {cls:=.type "list",dict:=none,data:=.seq #[vb,vb] c,slots:=#[]}->
  (∀v h' tk,P (argBest lt<|n-1) v->(∀b o,b≠S->b∉wr->s.heap.get? b=some o->h'.get? b=some o)->R (.ok<|.ret v) {s with heap:=h',toks:=tk})->
  codeAny (model prog w) A (.builtin "min.loop" ⟨[.ref I,.none,.ref S],TK⟩) R s:=by
 let vh:S∉wr:=λh=>RC (W.sub _ h);let nm:(toString "min"++toString ".loop":String)="min.loop":=sZ
 intro k
 induction k with
 |zero=>
  intro j s vb c hk hj st pb ta hS hR;let ej:j+1=n:=sV
  show RO Ml ?_;rw[Jf MA _];change wpAny _ A.in1 (seqItems? ↑S >>= _) _ _ s
  show XU (IZ hS Z ?_);change wpAny _ A.in1 (tryCatch (pyNext<|.ref I) _ >>= _) _ _ s
  show XU (Ek<|W.done s _ _ (ej▸st) λh' tk Uu=>?_);let Uj:=Uu S _ vh hS
  change wpAny _ A.in1 (updateSeq S (λ_=>#[]) >>= _) _ _ _;show XU (xB Uj Z<|XU<|QG<|Yj ?_);show hR vb _ tk (by rwa[<-ej]) λb o b1 b2 e=>(YX _ _<|Xc b1).trans (Uu b o b2 e)
 |succ k ih=>
  intro j s vb c hk hj st pb ta hS hR;let Xm:j+1<n:=DW
  show RO Ml ?_;rw[Jf MA _];change wpAny _ A.in1 (seqItems? ↑S >>= _) _ _ s
  show XU (IZ hS Z ?_);change wpAny _ A.in1 (tryCatch (pyNext<|.ref I) _ >>= _) _ _ s
  show XU (Ek<|W.item (j+1) s _ _ Xm st λv h' tk pv XR Uu=>?_);let Uj:=Uu S _ vh hS
  let jy:=ck _ h' ta λb o _ b2 e=>Uu b o b2 e;change wpAny _ A.in1 (tryCatch (holding [v,v]<|richCompare .Lt (v) (vb) >>= _) _ >>= _) _ _ _
  show XU (Ek<|Se<|XU<|show wpAny _ _ (compareOp .Lt (v)<|vb) _ _ _ from cc {s with heap:=h',toks:=tk} (j+1) _ v vb _ _ jy (Vv<|Nat.lt_succ_of_le<|My.QZ _ _) pv pb ?_);show XU (Se<|Tx ?_);show XU (QG<|Yj ?_);cases hb:lt (j+1) (argBest lt j) with
  |true=>
   simp only[US];show XU (xB Uj Z<|XU<|QG ?_);rw[nm];let up:∀b o,b≠S->h'.get? b=some o->(h'.update S<|Obj.mapSeq λ_=>#[v,v]).get? b=some o:=λb o b1 e=>(YX _ _<|Xc b1).trans e
   show Yj ⟨Mu MA _,ih (j+1) _ (v) _ DW Xm (W.frame _ h' _ XR λb JD o e=>up b o (λh=>RC<|h▸JD) e) ?_ (ck _ _ jy λb o b1 _ e=>up b o b1 e) (Pw _ Uj Z) λv' HL NM Ak Aj=>?_⟩
   .unfold argBest;rw[if_pos hb];show pv
   .show hR v' HL NM Ak λb o b1 b2 e=>Aj b o b1 b2 (up b o b1<|Uu b o b2 e)
  |false=>
   simp only[Rn,Sd];show XU (QG ?_);rw[nm];show Yj ⟨Mu MA _,ih (j+1) _ (vb) c DW Xm XR ?_ jy Uj λv' HL NM Ak Aj=>?_⟩
   .unfold argBest;rwa[if_neg (by rw[hb];decide)]
   .show hR v' HL NM Ak λb o b1 b2 e=>Aj b o b1 b2 (Uu b o b2 e)
def jx(W:Walks prog w A.in1 I fp wr n P St)(lt:Nat->Nat->Bool)(C:Heap->Prop)(ck:∀h h',C h->(∀b o,b≠S->b∉wr->h.get? b=some o->h'.get? b=some o)->C h')(cc:∀s i j v u E Q,C s.heap->i≠j->P i v->P j u->Q (.bool (lt i j)) s->wpAny (model prog w) A.in1 (compareOp .Lt v u) Q E s)(RC:S∉fp)(hn:0<n){c:Nat}(st:St 0 s.heap)(ta:C s.heap)(hS:s.heap.get? S=some {cls:=.type "list",dict:=none,data:=.seq #[] c,slots:=#[]})
  (hR:∀v h' tk,P (argBest lt<|n-1) v->(∀b o,b≠S->b∉wr->s.heap.get? b=some o->h'.get? b=some o)->R (.ok<|.ret v) {s with heap:=h',toks:=tk}):
  codeAny (model prog w) A (.builtin "min.loop" ⟨[.ref I,.none,.ref S],TK⟩) R s:=by
 let vh:S∉wr:=λh=>RC (W.sub _ h);let nm:(toString "min"++toString ".loop":String)="min.loop":=sZ
 show RO Ml ?_;rw[Jf MA _];change wpAny _ A.in1 (seqItems? ↑S >>= _) _ _ s
 show XU (IZ hS Z ?_);change wpAny _ A.in1 (tryCatch (pyNext<|.ref I) _ >>= _) _ _ s
 show XU (Ek<|W.item 0 s _ _ hn st λv h' tk pv XR Uu=>?_);let Uj:=Uu S _ vh hS
 change wpAny _ A.in1 (updateSeq S (λ_=>#[v,v]) >>= _) _ _ _;show XU (xB Uj Z ?_);rw[nm];let up:∀b o,b≠S->h'.get? b=some o->(h'.update S<|Obj.mapSeq λ_=>#[v,v]).get? b=some o:=λb o b1 e=>(YX _ _<|Xc b1).trans e
 show Yj ⟨Mu MA _,ZI8 W lt C ck cc RC _ 0 _ v _ Z hn (W.frame _ h' _ XR λb JD o e=>up b o (λh=>RC<|h▸JD) e) pv (ck _ _ ta λb o b1 b2 e=>up b o b1<|Uu b o b2 e) (Pw _ Uj Z) λv' HL NM Ak Aj=>?_⟩;show hR v' HL NM Ak λb o b1 b2 e=>Aj b o b1 b2 (up b o b1<|Uu b o b2 e)
def ZH8(W:Walks prog w A.in1 I fp wr n P St)(hn:n=0)(RC:S∉fp){c:Nat}(st:St 0 s.heap)(hS:s.heap.get? S=some {cls:=.type "list",dict:=none,data:=.seq #[] c,slots:=#[]})
  (hR:∀h' tk,(∀b o,b≠S->b∉wr->s.heap.get? b=some o->h'.get? b=some o)->R (.ok<|.ret .none) {s with heap:=h',toks:=tk}):
  codeAny (model prog w) A (.builtin "min.loop" ⟨[.ref I,.none,.ref S],TK⟩) R s:=by
 subst hn;show RO Ml ?_;rw[Jf MA _];change wpAny _ A.in1 (seqItems? ↑S >>= _) _ _ s
 show XU (IZ hS Z ?_);change wpAny _ A.in1 (tryCatch (pyNext<|.ref I) _ >>= _) _ _ s
 show XU (Ek<|W.done s _ _ st λh' tk Uu=>?_);show XU (PY<|Yj ?_);show hR h' tk λb o _ b2 e=>Uu b o b2 e
def ZL4{E:Ae}{s:Shared}{id:String}{b:Builtin}{args:Ag}{kw:List (Str×Value)}{Q:Ae}(hk:builtinKind id=none)(hp:plainId id=true)(hb:entryFor table id=some b)(ha:argsOk id ⟨args,kw⟩)
  (hc:wpAny (model prog w) A.in1 (b ⟨args,kw⟩) (λfin s'=>match fin with
   | .done f=>(match (Except.ok f:Result) with | .ok (.ret v)=>Q v s' | .ok _=>False | .error e=>E e s')
   | .again c'=>c'.quiet=true/\codeAny (model prog w) A c' (λr s'=>match r with | .ok (.ret v)=>Q v s' | .ok _=>False | .error e=>E e s') s') E s):wpAny (model prog w) A (call (.builtin id) args kw) Q E s:=by
 show FI (xP hp hb ?_);simp only[checkBuiltinCall,hk];cases jw:Manifest.signature? id with
 |none=>show Yj hc
 |some sig=>
  let Fq:Bind.checkArgs id sig ⟨args,kw⟩=pure ():=by simpa only[argsOk,jw] using ha
  simp only[Fq];show Yj hc
def jv(a:Value):argsOk "min" ⟨[a],TK⟩:=by unfold argsOk;kernel_rfl
def Ai{E:Ae}{s:Shared}{Q:Ae}(hh:A.handled=none)(hl:s.heap.IsList l (intItems xs))
  (h0:xs.size=0->∀h' tk,(∀b o,s.heap.get? b=some o->h'.get? b=some o)->Q .none {s with heap:=h',toks:=tk})
  (h:0<xs.size->∀v h' tk,(intItems xs)[argBest (λi j=>decide<|numAt xs i<numAt xs j) (xs.size-1)]?=some v->(∀b o,s.heap.get? b=some o->h'.get? b=some o)->Q v {s with heap:=h',toks:=tk}):
  wpAny (model prog w) A (call (.builtin "min") [.ref l] TK) Q E s:=by
 let nm:(toString "min"++toString ".loop":String)="min.loop":=sZ;show ZL4 F.kind_min F.plain_min F.entry_min (jv _) ?_;change wpAny _ A.in1 (Builtin.Builtins.bindParams "min" ["key","default"] 0 ⟨[],TK⟩ >>= _) _ _ s
 show XU (Tt (a:=[none,some .none]) Z ?_);show XU (Yj ?_);show XU (iter_intList hl λs₂ e st vq hlI=>?_);subst e;show XU (Tw ?_);rw[nm];let W:=Walks.list (prog:=prog) (w:=w) (A:=A.in1) hh (~~~s) l hlI (intItems xs)
 obtain⟨G,hG⟩:∃G,G=s.heap.push {cls:=.type "list_iterator",data:=.fields #[.ref l,.int 0 0]}:=⟨_,Z⟩;let hold:∀b o,s.heap.get? b=some o->b≠G.objs.size/\b∉[(~~~s)]/\(G.push {cls:=.type "list",data:=.seq #[] 0}).get? b=some o:=λb o e=>by
  let Xm:=Yo e;let ju:b<G.objs.size:=by rw[hG];show Ys Xm (by rw[Mw];show Ud _)
  exists YB ju,λhm=>by rw[XG.mp hm]at Xm;show PZ _ Xm,Xd _<|by rw[hG];show Xd _ e
 rw[<-hG]at st vq ⊢;let RC:G.objs.size∉[(~~~s),l]:=λhm=>PZ _ (vq _ hm)
 let Xi:=W.frame 0 G (G.push {cls:=.type "list",data:=.seq #[] 0}) st λb _ o e=>Xd _ e;let jt:(intItems xs).size=xs.size:=by simp[intItems]
 rcases Nat.eq_zero_or_pos xs.size with hz|hz
 .show Yj ⟨Mu MA _,ZH8 W (jt.trans hz) RC Xi (Yq _ Z) λh' tk hk=>?_⟩;show h0 hz h' tk λb o e=>by let⟨a1,a2,a3⟩:=hold b o e;show hk b o a1 a2 a3
 .show Yj ⟨Mu MA _,jx W (λi j=>decide<|numAt xs i<numAt xs j) (λ_=>True) (λ_ _ _ _=>trivial) (λs i j v u E Q _ _ pv pu q=>?_) RC (by rwa[jt]) Xi trivial (Yq _ Z) λv h' tk pv hk=>?_⟩
  .let⟨t1,rfl⟩:=intItems_at pv;let⟨t2,rfl⟩:=intItems_at pu;show lt_int q
  .rw[jt]at pv;show h hz v h' tk pv λb o e=>by let⟨a1,a2,a3⟩:=hold b o e;show hk b o a1 a2 a3
end
def js(K:Ad)(te:TE):(TE):=λσ H Q=>te σ H λy H1=>∃p ns,y=.ref p/\SqL K H1 p (ns.map V.int)/\(ns=[]->Q .non H1)/\∀m:Int,m∈ns->(∀a∈ns,m<=a)->Q (.int m) H1
def Zy9{p kp pos cp:Pos}{j:Nat}(hc:X.calm=true)(hg:Gl X (Str.ofString "min"))(hm:X.mg (Str.ofString "min")=none)(he:PE X e te)(hs:starEach [e] X.env=[(false,eval e X.env)]:=by rfl):
  PE X (.Call (.Name (Str.ofString "min") p) [e] [⟨some<|Str.ofString "default",.Constant .none j cp,kp⟩] pos) (js X.K te):=by
 intro pins s σ H Q I h;show Pu (PV I hg hm Boot.«min» ?_ sZ sZ);let ha:PA X [e] (Ik te Il):=XY he XT hs
 show callWith_kw (thn (ha pos pins s σ H (λvs H1=>match vs with
  |[y]=>∃p ns,y=.ref p/\SqL X.K H1 p (ns.map V.int)/\(ns=[]->Q .non H1)/\∀m:Int,m∈ns->(∀a∈ns,m<=a)->Q (.int m) H1
  |_=>False) I h) λus s1 hh=>?_) (by rw[hs];rfl) (by rw[hs];rfl) Z rfl
 let⟨vs,H1,I1,r,q⟩:=hh
 match vs,r,q with
 |[],_,q=>show False.elim q
 |_::_::_,_,q=>show False.elim q
 |[y],r,q=>
  let⟨p2,ns,rfl,hq,q0,q1⟩:=q;let⟨u,rfl,ru⟩:=Sy r;let rfl:u=Value.ref p2:=ru;show kws_cons (Constant_none<|kws_nil ?_);let⟨XX,rv,pl,hz⟩:=I1.list hq;let hi:=Zz rv
  let⟨xs,e'⟩:=hi.allInts.items;let Vs:ns=xs.toList.map (·.1):=by rw[<-hi.numsOf,<-nums_intItems,<-e']
  let hl:=pl.isList;rw[e']at hl;show Ai (I1.ok.hd hc) hl (λhsz h' tk hk=>?_) λhsz v h' tk hv hk=>?_
  .exists .non,H1,I1.kept (t':=tk) hk,Z,q0 ?_;rw[Vs,Ez];show YM.mp (by rwa[Yu])
  .let⟨t,rfl⟩:=intItems_at hv;let⟨h1,h2⟩:=argBest_lt (numAt xs) (xs.size-1);exists .int _,H1,I1.kept (t':=tk) hk,⟨t,Z⟩,q1 _ ?_ λa ha=>?_
   .rw[Vs,numAt_eq];show getD_mem (by rw[Yb,Yu];omega)
   .rw[Vs]at ha;let⟨j,hj,rfl⟩:=mem_getD ha;rw[Yb,Yu]at hj;rw[<-numAt_eq];show h2 j sV
end L2
namespace My
open PySem L2
def Ah(K:Ad)(mg:Af)(x qual:Str)(st:Stmt)(fs:List Str)(Pt:Addr):(Prop):=∃C f fd c,mg x=some ↑C/\Fun K "__init__" qual st f fd/\Cls K C/\Mk K C f/\(∀a∈fs,NoAttr K C a)/\fd.code=.ref c/\PySem.W.codeHdIn K c Pt=true
def GK{mg:Af}{oc:Value}{od an:Option Addr}{Ti:Array (Option Value)}{kV doc pm ct:Value}(X:K.In h)(G:h.Ns mainGlobals mg)
  (aC:PySem.W.nsIn K mainGlobals x=some (some<|.ref C))(a:PySem.W.findIn K ↑C "__init__"=some (some<|.ref f))(i:PySem.W.isFn K ↑f=true)
  (l:K.lookup f=some ⟨oc,od,.func<|PySem.W.fnOf "__init__" qual (Kj st) (ZY st) (Xe st) .none kV doc pm an ↑cA ct,Ti⟩)(c:PySem.W.codeIn K ↑cA qual=true)(k:PySem.W.keepIn K ↑f=true)
  (pg:PySem.W.plainGet K C Str.empty=true)(hd:PySem.W.hasDictIn K C=true)(po:PySem.W.plainOver K C=true)(sa:PySem.W.findIn K ↑C "__setattr__"=some (some<|.builtin "object.__setattr__"))(mk:PySem.W.makesIn K C=true)(kc:PySem.W.keepIn K ↑C=true)
  (na:∀a∈fs,PySem.W.findIn K ↑C a=some none)(z:PySem.W.codeHdIn K cA Pt=true):Ah K mg x qual st fs Pt:=
 ⟨C,f,_,cA,Kt X G aC,LW l c k,⟨pg,hd,po,sa⟩,⟨mk,a,i,kc⟩,na,Z,z⟩
def Pz(M:Ac)(ps:Aa)(g:Ac)(i:Nat):(Ac):=(VS i).filter λz=>decide (z∉g/\mk M (ps.getD z.toNat (0,0)).1.toNat≠mk M (ps.getD z.toNat (0,0)).2.toNat)
def z9(M:Ac)(ps:Aa)(g:Ac)(i:Nat):Pz M ps g (i+1)=Pz M ps g i++if (i:Int)∉g/\mk M (ps.getD i (0,0)).1.toNat≠mk M (ps.getD i (0,0)).2.toNat then [(i:Int)] else []:=by
 unfold Pz;rw[bA,QI];congr 1;rw[YZ,tN];change(if decide ((i:Int)∉g/\mk M (ps.getD ((i:Int).toNat) (0,0)).1.toNat≠mk M (ps.getD ((i:Int).toNat) (0,0)).2.toNat)=true then [(i:Int)] else [])=_
 rw[YK];simp only[Je]
def vg(M:Ac)(ps:Aa)(g:Ac)(i:Nat):(Pz M ps g i).length<=i:=Yr (YG ..) (by rw[ZP];show XN _)
def WY:(Option Int->V)
 |none=>.non
 |some z=>.int z
def vf(w k s ld l i fu:V):(List (Str×V)):=[("web",w),("kept",k),("shut",s),("lead",ld),("least",l),("incoming",i),("further",fu)]
def Wv:SameX x H (upd H x o):=λb o' hb e=>by rwa[XJ hb]
def WebAt.but{C CP w x dx:Addr}(h:WebAt C H w n ps)(hx:H x=some (.ins CP dx []))(s:SameX x H H1):WebAt C H1 w n ps:=by
 let⟨d,tl,xs,h1,h2,h3⟩:=h;exists d,tl,xs,s _ _ (λe=>?_) h1,s _ _ (λe=>?_) h2,h3.1,λi p e=>?_
 .rw[e,hx]at h1
  have:=QP (λo=>match o with|some (HO.ins _ _ fs)=>fs.length|_=>0) h1
  show absurd this (by change ¬0=2;decide)
 .rw[e,hx]at h2;cases h2
 .let⟨v,a1,tt,a2,a3⟩:=h3.2 i p e;exists v,a1,tt,a2,s _ _ (λe=>by rw[e,hx]at a3;cases a3) a3
def z8{CP a x dx:Addr}(h:SqT K H a xs)(hx:H x=some (.ins CP dx []))(s:SameX x H H1):SqT K H1 a xs:=by
 rcases h with (h|⟨o,h⟩)|h
 .show .inl (.inl<|s _ _ (λz=>by rw[z,hx]at h;cases h) h)
 .show .inl (.inr ⟨o,s _ _ (λz=>by rw[z,hx]at h;cases h) h⟩)
 .show .inr h
def jr{CP Pt x dx:Addr}(t:TabH H Pt pos qual)(hx:H x=some (.ins CP dx []))(s:SameX x H H1):TabH H1 Pt pos qual:=by
 let⟨ps,h1,h2,h3⟩:=t;exists ps,s _ _ (λe=>by rw[e,hx]at h1;cases h1) h1,h2,?_;rcases h3 with h|⟨c,h,h'⟩
 .show .inl h
 .show .inr ⟨c,h,s _ _ (λe=>by rw[e,hx]at h';cases h') h'⟩
def z7(ha:SqT K H a (IL l))(hb:SqT K H b (IL m))(hl:l.length+m.length<=1000)(k:∀r H',Same H H'->SqT K H' r (IL (l++m))->Q ↑r H'):HF K ↑a ↑b H Q:=by
 exists a,b,_,_,Z,Z,ha,hb,by rw[Xp,Xp];show Yr hl sZ,λe=>?_,λ_ e=>?_,λ_ _ p hp=>?_
 .let el:l=[]:=Ez.mp e;rw[el,Pq]at k;show k b H (Same.refl _) hb
 .let em:m=[]:=Ez.mp e;rw[em,Yx]at k;show k a H (Same.refl _) ha
 .show k p _ (XZ hp) (SqT.of ?_);rw[XQ,wN]
def TJ(M:Ac)(ps:Aa)(z:Int):(Int×Int):=(min (mk M (ps.getD z.toNat (0,0)).1.toNat)<|mk M (ps.getD z.toNat (0,0)).2.toNat,max (mk M (ps.getD z.toNat (0,0)).1.toNat)<|mk M (ps.getD z.toNat (0,0)).2.toNat)
def ZQ3{l:Ac}(hp:l.Perm [a,b])(hs:l.Pairwise (·<=·)):l=[min a b,max a b]:=by
 cases c:a<=b
 .rw[tL c,tS c];show Cm hp hs (by simpa using c)
 .rw[tT J,tK DW];show Cm (hp.trans<|List.Perm.swap b a []) hs (by simp;omega)
def ZA9{z:Int}(h:z∈Pz M ps g i):0<=z/\z<(i:Int):=Xx.mp (Yd.mp h).1
def WW(n:Int)(ps:Aa)(I O F:Ac):(Ac):=Pz (Xz n.toNat<|XS ps I) ps (I++O++F) ps.length
def Sk(n:Int)(ps:Aa)(I O F:Ac)(ld:Option Int):(Ac):=(WW n ps I O F).filter λz=>decide (∃y,ld=some y/\TJ (Xz n.toNat<|XS ps I) ps z=TJ (Xz n.toNat<|XS ps I) ps y)
def Vz(n:Int)(ps:Aa)(I O F:Ac)(ld:Option Int):(Ac):=(WW n ps I O F).filter λz=>decide (z∉Sk n ps I O F ld)
def PartAt(K:Ad)(CP C:Addr)(H:Hp)(x:Addr)(n:Int)(ps:Aa)(I O F inc:Ac)(ld fu:Option Int):(Prop):=∃dx w a b l i,H x=some (.ins CP dx<|vf ↑w ↑a ↑b (WY ld) ↑l ↑i<|WY fu)/\WebAt C H w n ps/\SqT K H a (IL I)/\SqT K H b (IL O)/\H l=some (.tup<|IL F)/\H i=some (.lst<|IL inc)
def PartAt.samex(h:PartAt K CP C H x n ps I O F inc ld fu)(t:TabH H Pt pos qual)(sx:SameX Pt H H2):PartAt K CP C H2 x n ps I O F inc ld fu:=by let⟨dx,w,a,b,l,i,h1,h2,h3,h4,h5,h6⟩:=h;exists dx,w,a,b,l,i,sx _ _ (t.ne h1 B) h1,h2.samex t sx,SqK.samex (kd:=true) h3 t sx,SqK.samex (kd:=true) h4 t sx,sx _ _ (t.ne h5 B) h5,sx _ _ (t.ne h6 B) h6
structure PartOk(n:Int)(ps:Aa)(I O:Ac)(ld:Option Int)(F inc:Ac)(fu:Option Int):Prop where
 tr:With n ps I O F
 least:∀U,With n ps I O U->HT.lexLt U F=false
 inc:QO (λz=>PyProof.Rows.b2i<|decide<|ld=some z) (Sk n ps I O F ld) inc
 none:fu=none↔Vz n ps I O F ld=[]
 some:∀y,fu=some y->y∈Vz n ps I O F ld/\∀z∈Vz n ps I O F ld,y<=z
def xchT(F:Ac)(o z:Int):(Ac):=(wo F o++[z]).mergeSort λa b=>decide (a<=b)
def MP(F:Ac)(o z:Int):(xchT F o z).Perm (wo F o++[z]):=List.mergeSort_perm _ _
def Jy(F:Ac)(o z:Int):(xchT F o z).Pairwise (·<=·):=by
 show(eE (le:=λa b:Int=>decide<|a<=b) (λa b c h1 h2=>?_) (λa b=>?_) _).imp λh=>Yy h
 .simp only[Je]at *;lia
 .simp only[tI,Je];lia
def WC(n:Int)(ps:Aa)(I F:Ac)(z:Int):(Ac):=(Sq n ps F z F).filter λt=>decide (t∉I)
section
variable{n:Int}{ps:Aa}{I O F T M:Ac}{x y z:Int}(g:Zu n ps)
include g
def zZ(hF:With n ps I O F)(he:exg n ps F x y)(hx:x∉I)(hy:y∉O)(hp:M.Perm (wo F x++[y]))(hs:M.Pairwise (·<=·)):With n ps I O M:=by
 exists Cd g hF.1 he hp hs,λv hv=>(vY g hF.1 he hp hs).mpr (.inl ⟨hF.2.1 v hv,λe=>hx<|e▸hv⟩),λv hv h=>?_;rcases(vY g hF.1 he hp hs).mp h with h|h
 .show hF.2.2 v hv h.1
 .show hy (h▸hv)
def Zl5(hF:Zg n ps F)(he:exg n ps F x y)(h:y<x)(hp:M.Perm (wo F x++[y]))(hs:M.Pairwise (·<=·)):HT.lexLt M F=true:=by
 let tM:=Cd g hF he hp hs;let yF:y∉F:=((Tc g hF).mp he).2.1
 show(j5 (XW.mp tM.1).2 (XW.mp hF.1).2 (by have:=tM.2.1;have:=hF.2.1;lia)).mpr ⟨y,(vY g hF he hp hs).mpr (.inr Z),yF,λs We=>?_⟩;rw[vY g hF he hp hs];constructor
 .rintro(q|q)
  .show q.1
  .lia
 .show λq=>.inl ⟨q,J⟩
def Rt(hF:With n ps I O F)(VP:∀U,With n ps I O U->HT.lexLt U F=false)(hT:With n ps (I++[z]) O T)(Jx:∀U,With n ps (I++[z]) O U->HT.lexLt U T=false):∀v∈T,v∈F\/v=z:=λv hv=>YD λno=>by
 let vF:v∉F:=λh=>no (.inl h);let vz:v≠z:=λh=>no (.inr h)
 let⟨u,e1,e2⟩:=mV g hT.1 hF.1 hv vF;let uF:u∈F:=e2.1
 let uT:u∉T:=((Tc g hT.1).mp e1).2.1;let uI:u∉I:=λh=>uT (hT.2.1 u<|Yf _ h)
 let vO:v∉O:=λh=>hT.2.2 v h hv;let uO:u∉O:=λh=>hF.2.2 u h uF
 let vI:v∉I++[z]:=λh=>by
  rcases XA.mp h with h|h
  .show vF (hF.2.1 v h)
  .show vz (XG.mp h)
 let uv:u≠v:=λe=>uT (e▸hv);let⟨M1,p1,q1⟩:=mT (wo F u++[v]);let w1:=zZ g hF e2 uI vO p1 q1
 let⟨M2,p2,q2⟩:=mT (wo T v++[u]);let w2:=zZ g hT e1 vI uO p2 q2
 rcases Int.lt_or_lt_of_ne uv with h|h
 .have:=Zl5 g hT.1 e1 h p2 q2
  rw[Jx M2 w2]at this;cases this
 .have:=Zl5 g hF.1 e2 h p1 q1
  rw[VP M1 w1]at this;cases this
def Lb(hF:With n ps I O F)(VP:∀U,With n ps I O U->HT.lexLt U F=false)(hz:z∉F):With n ps I (O++[z]) F/\∀U,With n ps I (O++[z]) U->HT.lexLt U F=false:=
 ⟨⟨hF.1,hF.2.1,λv hv=>(XA.mp hv).elim (hF.2.2 v) λh=>by rwa[XG.mp h]⟩,λU hU=>VP U ⟨hU.1,hU.2.1,λv hv=>hU.2.2 v<|Yf _ hv⟩⟩
end
def Wu{z:Int}:With n ps I O T↔With n ps I (O++[z]) T\/With n ps (I++[z]) O T:=by
 constructor
 .intro h;cases c:z∈T
  .show .inr ⟨h.1,λv hv=>(XA.mp hv).elim (h.2.1 v) λe=>by rw[XG.mp e];show c,h.2.2⟩
  .show .inl ⟨h.1,h.2.1,λv hv=>(XA.mp hv).elim (h.2.2 v) λe=>by rwa[XG.mp e]⟩
 .rintro(h|h)
  .exists h.1,h.2.1,λv hv=>h.2.2 v<|Yf _ hv
  .exists h.1,λv hv=>h.2.1 v<|Yf _ hv,h.2.2
def RowAll(n:Int)(ps:Aa)(I O:Ac)(R:Ab):(Prop):=R.Nodup/\∀T,T∈R↔With n ps I O T
def RowAll.pc(h:RowAll n ps I O R):PC n ps I O R.length:=⟨R,h.1,λl=>h.2 l,Z⟩
def ZT6{z:Int}(hA:RowAll n ps I (O++[z]) A)(hB:RowAll n ps (I++[z]) O AP):RowAll n ps I O (A++AP.reverse):=by
 exists Wg.mpr ⟨hA.1,(FT AP).nodup_iff.mpr hB.1,λa ha b hb e=>?_⟩,λT=>?_
 .subst e;show((hA.2 a).mp ha).2.2 z B (((hB.2 a).mp (RP.mp hb)).2.1 z B)
 .rw[XA,RP,hA.2,hB.2];show Wu.symm
def jq{a b c d:Int}(h1:min a b=min c d)(h2:max a b=max c d):(a=c/\b=d)\/(a=d/\b=c):=by
 rcases Int.le_total a b with p|p<;>rcases Int.le_total c d with q|q<;>simp only[tL,tT,tK,tS,p,q]at h1 h2
 .show .inl ⟨h1,h2⟩
 .show .inr ⟨h1,h2⟩
 .show .inr ⟨h2,h1⟩
 .show .inl ⟨h2,h1⟩
section
variable{n:Int}{ps:Aa}{I O F T:Ac}{o t t':Int}(g:Zu n ps)
include g
def ZF6(hT:Zg n ps T)(ho:o∈T):¬Conn (XS ps (wo T o)) (Zp ps o).1 (Zp ps o).2:=by let⟨o0,o1⟩:=hT.1.all o ho;show(ZW g hT o0 o1).mp ((Ce g hT ho ho).mpr Z)
def Zm8(hT:Zg n ps T)(hI:∀v∈I,v∈T)(ht:t∈T)(hn:t∉I):¬Conn (XS ps I) (Zp ps t).1 (Zp ps t).2:=λc=>
 ZF6 g hT ht (c.mono<|ZG λv hv=>Xl.mpr ⟨hI v hv,λe=>hn<|by rwa[<-e]⟩)
def ZN7(Xr:∀z∈I,0<=z/\z<ps⁻¹)(t0:0<=t)(t1:t<ps⁻¹)(s0:0<=t')(s1:t'<ps⁻¹)(h:TJ (Xz n.toNat (XS ps I)) ps t=TJ (Xz n.toNat (XS ps I)) ps t'):
  (Conn (XS ps I) (Zp ps t).1 (Zp ps t').1/\Conn (XS ps I) (Zp ps t).2 (Zp ps t').2)\/(Conn (XS ps I) (Zp ps t).1 (Zp ps t').2/\Conn (XS ps I) (Zp ps t).2 (Zp ps t').1):=by
 let Wl:=ZL g Xr;let a:=Td (z:=t) g t0 t1
 let b:=Td (z:=t') g s0 s1;let h:(min (mk (Xz n.toNat<|XS ps I) (Zp ps t).1)<|mk (Xz n.toNat<|XS ps I) (Zp ps t).2,max (mk (Xz n.toNat<|XS ps I) (Zp ps t).1)<|mk (Xz n.toNat<|XS ps I) (Zp ps t).2)=(min (mk (Xz n.toNat<|XS ps I) (Zp ps t').1)<|mk (Xz n.toNat<|XS ps I) (Zp ps t').2,max (mk (Xz n.toNat<|XS ps I) (Zp ps t').1)<|mk (Xz n.toNat<|XS ps I) (Zp ps t').2):=h
 let⟨h1,h2⟩:=Prod.mk.inj h;rw[<-Qw Wl a.1 b.1,<-Qw Wl a.2 b.2,<-Qw Wl a.1 b.2,<-Qw Wl a.2 b.1];show jq h1 h2
def Zm9(Xr:∀z∈I,0<=z/\z<ps⁻¹)(hT:Zg n ps T)(hI:∀v∈I,v∈T)(ht:t∈T)(hs:t'∈T)(hn:t∉I)(RJ:t'∉I)(h:TJ (Xz n.toNat (XS ps I)) ps t=TJ (Xz n.toNat (XS ps I)) ps t'):t=t':=YD λne=>by
 let⟨t0,t1⟩:=hT.1.all t ht;let⟨s0,s1⟩:=hT.1.all t' hs;let sub:∀v∈I++[t],v∈wo T t':=λv hv=>by
  rcases XA.mp hv with hv|hv
  .show Xl.mpr ⟨hI v hv,λe=>RJ<|by rwa[<-e]⟩
  .rw[XG.mp hv];show Xl.mpr ⟨ht,ne⟩
 let up:∀{i j},Conn (XS ps I) i j->Conn (XS ps<|I++[t]) i j:=λc=>c.mono (ZG λv hv=>Yf _ hv);let ed:Conn (XS ps<|I++[t]) (Zp ps t).1 (Zp ps t).2:=.edge (YN.mpr ⟨t,B,Z⟩)
 let c:Conn (XS ps<|I++[t]) (Zp ps t').1 (Zp ps t').2:=by
  rcases ZN7 g Xr t0 t1 s0 s1 h with ⟨a,b⟩|⟨a,b⟩
  .show((up a).symm.trans ed).trans (up b)
  .show((up b).symm.trans ed.symm).trans (up a)
 show ZF6 g hT hs (c.mono<|ZG sub)
def GJ(Xr:∀z∈I,0<=z/\z<ps⁻¹)(hT:With n ps I O T)(hF:∀v∈I,v∈F)(ht:t∈T)(hn:t∉F):t∈WW n ps I O F:=by
 let⟨t0,t1⟩:=hT.1.1.all t ht;let a:=Td (z:=t) g t0 t1
 let hI:t∉I:=λh=>hn (hF t h);show Yd.mpr ⟨Xx.mpr ⟨t0,t1⟩,Yv ⟨λh=>?_,λe=>?_⟩⟩
 .rcases XA.mp h with h|h
  .rcases XA.mp h with h|h
   .show hI h
   .show hT.2.2 t h ht
  .show hn h
 .show Zm8 g hT.1 hT.2.1 ht hI ((Qw (ZL g Xr) a.1 a.2).mp e)
end
def Vx(n:Int)(ps:Aa)(I F:Ac)(asc:Bool)(z:Int):(Ab):=if asc then (WC n ps I F z).map λo=>xchT F o z else ((WC n ps I F z).map λo=>xchT F o z).reverse
def Vd(n:Int)(ps:Aa)(I F:Ac):(Ac->Bool->Ab)
 |[],_=>[]
 |z::r,asc=>Vx n ps I F asc z++Vd n ps I F r (!asc)
def jo(n:Int)(ps:Aa)(I F:Ac)(z:Int):∀l asc,Vd n ps I F (l++[z]) asc=Vd n ps I F l asc++Vx n ps I F (asc != (l.length%2 == 1)) z
 |[],asc=>by change Vx n ps I F asc z++[]=[]++Vx n ps I F (asc != false) z;rw[Yx,Pq,Bool.bne_false]
 |y::l,asc=>by change Vx n ps I F asc y++Vd n ps I F (l++[z]) (!asc)=Vx n ps I F asc y++Vd n ps I F l (!asc)++_;rw[jo n ps I F z l,Yw,YF];congr 3;rcases(by lia:l.length%2=0/\(l.length+1)%2=1\/l.length%2=1/\(l.length+1)%2=0) with ⟨a,b⟩|⟨a,b⟩<;>rw[a,b]<;>cases asc<;>rfl
def jn(n:Int)(ps:Aa)(I F:Ac)(asc:Bool)(z:Int):(Vx n ps I F asc z).length<=F.length:=by
 unfold Vx;let h:(WC n ps I F z).length<=F.length:=Yr (YG ..) (Fo n ps F z F)
 split
 .rw[Yb];show h
 .rw[VX,Yb];show h
def Zo9(n:Int)(ps:Aa)(I F:Ac):∀l asc,(Vd n ps I F l asc).length<=l.length*F.length
 |[],_=>Ym _
 |z::l,asc=>by
  change(Vx n ps I F asc z++Vd n ps I F l (!asc)).length<=_;rw[Xw,YF,Nat.succ_mul]
  have:=jn n ps I F asc z
  have:=Zo9 n ps I F l (!asc)
  lia
def zW(n:Int)(ps:Aa)(I F inc:Ac):(Ab):=F::Vd n ps I F inc (inc.length%2 == 1)
def Xk:o∈Sq n ps F t F↔o∈F/\t∈UH n ps F o:=by unfold Sq;rw[Yd,YV];show Iff.rfl
def XI{o t v:Int}:v∈xchT F o t↔(v∈F/\v≠o)\/v=t:=by rw[(MP F o t).mem_iff,XA,Xl,XG]
section
variable{n:Int}{ps:Aa}{I O F T:Ac}{ld:Option Int}{o t:Int}(g:Zu n ps)
include g
def jm(Xr:∀z∈I,0<=z/\z<ps⁻¹)(hF:With n ps I O F)(hu:Vz n ps I O F ld=[])(hT:With n ps I O T):T=F\/∃t∈WW n ps I O F,∃o∈WC n ps I F t,T=xchT F o t:=by
 cases c:∀v∈T,v∈F
 .show .inl (jI g hT.1 hF.1 c)
 .obtain⟨t,ht,hn⟩:∃t,t∈T/\t∉F:=YD λno=>c λv hv=>YD λhn=>no ⟨v,hv,hn⟩;let hto:=GJ g Xr hT hF.2.1 ht hn
  let alike:∀v∈WW n ps I O F,∃y,ld=some y/\TJ (Xz n.toNat<|XS ps I) ps v=TJ (Xz n.toNat<|XS ps I) ps y:=λv hv=>by
   let hm:v∈Sk n ps I O F ld:=YD λno=>by
    have:v∈Vz n ps I O F ld:=Yd.mpr ⟨hv,Yv no⟩
    rw[hu]at this;cases this
   show Yy (Yd.mp hm).2
  let only:∀v∈T,v∉F->v=t:=λv hv hvn=>by let⟨y,e1,e2⟩:=alike v (GJ g Xr hT hF.2.1 hv hvn);let⟨y',e3,e4⟩:=alike t hto;rw[e1]at e3;cases e3;show Zm9 g Xr hT.1 hT.2.1 hv ht (λh=>hvn<|hF.2.1 v h) (λh=>hn<|hF.2.1 t h) (e2.trans e4.symm)
  let⟨o,e1,e2⟩:=mV g hT.1 hF.1 ht hn;let oT:o∉T:=((Tc g hT.1).mp e1).2.1
  let hM:=Cd g hF.1 e2 (MP F o t) (Jy F o t);show .inr ⟨t,hto,o,Yd.mpr ⟨Xk.mpr ⟨e2.1,e2.2.2⟩,Yv λh=>oT<|hT.2.1 o h⟩,jI g hT.1 hM λv hv=>XI.mpr ?_⟩;cases cv:v∈F
  .show .inl ⟨cv,λe=>oT<|by rwa[<-e]⟩
  .show .inr (only v hv cv)
def ZA6(hF:With n ps I O F)(ht:t∈WW n ps I O F)(ho:o∈WC n ps I F t):With n ps I O (xchT F o t):=by
 let⟨h1,h2⟩:=Yd.mp ht;let⟨hg,_⟩:=Yy h2;let⟨h3,h4⟩:=Yd.mp ho;let⟨h5,h6⟩:=Xk.mp h3;let tF:t∉F:=λh=>hg (Yg _ h)
 show zZ g hF ⟨h5,λe=>tF (by rwa[e]),h6⟩ (Yy h4) (λh=>hg<|Yf _<|Yg _ h) (MP F o t) (Jy F o t)
end
def QM{I F T:Ac}:T∈Vx n ps I F asc z↔∃o∈WC n ps I F z,T=xchT F o z:=by
 let h:T∈((WC n ps I F z).map λo=>xchT F o z)↔∃o∈WC n ps I F z,T=xchT F o z:=by rw[YN];exists λzz=>by let⟨o,h1,h2⟩:=zz;show⟨o,h1,h2.symm⟩,λzz=>by let⟨o,h1,h2⟩:=zz;exists o,h1,h2.symm
 unfold Vx;split
 .show h
 .rw[RP];show h
def Vy{I F T:Ac}:∀{l:Ac}{asc:Bool},T∈Vd n ps I F l asc↔∃z∈l,∃o∈WC n ps I F z,T=xchT F o z
 |[],_=>⟨λh=>(by cases h),λzz=>by let⟨_,h,_⟩:=zz;show(by cases h)⟩
 |z::l,asc=>by
  change T∈Vx n ps I F asc z++Vd n ps I F l (!asc)↔_;rw[XA,QM,Vy];constructor
  .rintro(h|⟨z',h1,h2⟩)
   .exists z,Yc,h
   .exists z',Ye _ h1,h2
  .rintro⟨z',h1,h2⟩;rcases Yh.mp h1 with e|e
   .show .inl (e▸h2)
   .show .inr ⟨z',e,h2⟩
def jl(ht:t∉F)(e:xchT F o t=xchT F o' t'):t=t':=by
 have:t∈xchT F o' t':=e▸XI.mpr (.inr Z)
 rcases XI.mp this with h|h
 .show absurd h.1 ht
 .show h
def zV(ho:o∈F)(ht:t∉F)(e:xchT F o t=xchT F o' t):o=o':=YD λne=>by
 let h1:o∈xchT F o' t:=XI.mpr (.inl ⟨ho,ne⟩);rw[<-e]at h1;rcases XI.mp h1 with h|h
 .show h.2 rfl
 .show ht (h▸ho)
def ZJ8(hF:F.Nodup)(hz:z∉F):(Vx n ps I F asc z).Nodup:=by
 let hm:∀v∈WC n ps I F z,v∈F:=λv hv=>(Xk.mp (Yd.mp hv).1).1;let h:((WC n ps I F z).map λo=>xchT F o z).Nodup:=by let hd:(WC n ps I F z).Pairwise (·≠·):=(hF.filter _).filter _;show MD.mpr (ur (λ{a b} ha hb Vi e=>Vi<|zV (hm a ha) hz e) hd)
 unfold Vx;split
 .show h
 .show(FT _).nodup_iff.mpr h
def ZZ4(hF:F.Nodup):∀{l:Ac}{asc:Bool},l.Nodup->(∀z∈l,z∉F)->(Vd n ps I F l asc).Nodup
 |[],_,_,_=>.nil
 |z::l,asc,hn,hl=>by
  let⟨n1,n2⟩:=Qb.mp hn;show Wg.mpr ⟨ZJ8 hF<|hl z Yc,ZZ4 hF n2 λv hv=>hl v<|Ye _ hv,λa ha b hb e=>?_⟩;let⟨o,_,h1⟩:=QM.mp ha;let⟨z',vR,o',_,h2⟩:=Vy.mp hb;rw[h1,h2]at e
  have:=jl (hl z Yc) e
  show n1 (this▸vR)
def jk(g:Zu n ps)(Xr:∀z∈I,0<=z/\z<ps⁻¹)(hF:With n ps I O F)(hu:Vz n ps I O F ld=[])(Sj:∀z,z∈inc↔z∈WW n ps I O F)(hn:inc.Nodup):RowAll n ps I O (zW n ps I F inc):=by
 let ve:∀z∈inc,z∉F:=λz hz h=>(Yy (Yd.mp<|(Sj z).mp hz).2).1 (Yg _ h);exists Qb.mpr ⟨λh=>?_,ZZ4 hF.1.1.nodup hn ve⟩,λT=>?_
 .let⟨z,hz,o,_,e⟩:=Vy.mp h;show ve z hz (by rw[e];show XI.mpr<|.inr Z)
 .unfold zW;rw[Yh,Vy];constructor
  .rintro(h|⟨z,hz,o,ho,rfl⟩)
   .rw[h];show hF
   .show ZA6 g hF ((Sj z).mp hz) ho
  .intro h;rcases jm g Xr hF hu h with e|⟨t,ht,o,ho,e⟩
   .show .inl e
   .show .inr ⟨t,(Sj t).mpr ht,o,ho,e⟩
def ZH5{u v i j:Nat}(c:Conn (es++[(u,v)]) i j):Conn es i j\/(Conn es i u/\Conn es v j)\/(Conn es i v/\Conn es u j):=by
 induction c with
 |refl i=>show .inl (.refl i)
 |edge h=>
  rcases XA.mp h with h|h
  .show .inl (.edge h)
  .cases XG.mp h;show .inr (.inl ⟨.refl _,.refl _⟩)
 |symm _ ih=>
  rcases ih with a|⟨a,b⟩|⟨a,b⟩
  .show .inl a.symm
  .show .inr (.inr ⟨b.symm,a.symm⟩)
  .show .inr (.inl ⟨b.symm,a.symm⟩)
 |trans _ _ Oa RU=>
  rcases Oa with a|⟨a,b⟩|⟨a,b⟩<;>rcases RU with c|⟨c,d⟩|⟨c,d⟩
  .show .inl (a.trans c)
  .show .inr (.inl ⟨a.trans c,d⟩)
  .show .inr (.inr ⟨a.trans c,d⟩)
  .show .inr (.inl ⟨a,b.trans c⟩)
  .show .inr (.inl ⟨a,d⟩)
  .show .inl (a.trans d)
  .show .inr (.inr ⟨a,b.trans c⟩)
  .show .inl (a.trans d)
  .show .inr (.inr ⟨a,d⟩)
def EW{key:Int->Int}(h:QO key ns ms):ms.Perm ns:=by
 let⟨p,h1,_,rfl⟩:=h;let e:(List.range ns.length).map (λi=>ns.getD i 0)=ns:=by
  show Nq λi=>?_;rw[Yp];cases c:i<ns.length
  .rw[xR c,Xs c];change some (ns.getD i 0)=_
   rw[Ws,Xs c];rfl
  .rw[VM (by simpa using c),VM J];rfl
 have:=h1.map λi=>ns.getD i 0
 rwa[e]at this
def jj(key:Int->Int)(ns:Ac):∃ms,QO key ns ms:=by
 let hp:=List.mergeSort_perm (List.range ns.length) λi j=>decide (key (ns.getD i 0)<key (ns.getD j 0)\/(key (ns.getD i 0)=key (ns.getD j 0)/\i<=j));let hs:=eE (le:=λi j=>decide<|key (ns.getD i 0)<key (ns.getD j 0)\/(key (ns.getD i 0)=key (ns.getD j 0)/\i<=j)) (λa b c h1 h2=>by simp only[Je]at *;grind) (λa b=>by simp only[tI,Je];grind) (List.range ns.length)
 exists _,_,hp,?_,Z;show(hs.and<|hp.nodup_iff.mpr List.nodup_range).imp λ{a b} h=>?_;let h1:=Yy h.1
 let h2:=h.2;change key (ns.getD a 0)<key (ns.getD b 0)\/(key (ns.getD a 0)=key (ns.getD b 0)/\a<b)
 grind
def ji(n:Int)(ps:Aa)(I O F:Ac)(ld:Option Int):(Vz n ps I O F ld).Pairwise (·<·):=((Qu _).filter _).filter _
def SV(g:Zu n ps)(ld:Option Int)(h:∃U,With n ps I O U):∃F inc fu,PartOk n ps I O ld F inc fu:=by
 let⟨L,l1,l2⟩:=jZ g;let⟨U,hU⟩:=h;obtain⟨F,hF,hm⟩:∃F,With n ps I O F/\∀U,With n ps I O U->HT.lexLt U F=false:=by
  let key:∀M:Ab,M.Pairwise VB->(∃U∈M,With n ps I O U)->∃F∈M,With n ps I O F/\∀U∈M,With n ps I O U->HT.lexLt U F=false:=by
   intro M
   induction M with
   |nil=>rintro _ ⟨U,h,_⟩;cases h
   |cons x M ih=>
    intro hp hex;let⟨p1,p2⟩:=YT.mp hp;cases c:With n ps I O x
    .exists x,Yc,c,λV hV _=>?_;rcases Yh.mp hV with e|e
     .rw[e];show WT x
     .cases q:HT.lexLt V x with
      |false=>rfl
      |true=>
       let z:=Wx q (p1 V e);rw[WT]at z;cases z
    .let⟨V,hV,hw⟩:=hex;let⟨F,hF,a,b⟩:=ih p2 ⟨V,(Yh.mp hV).resolve_left λe=>c<|e▸hw,hw⟩;exists F,Ye _ hF,a,λV hV hw=>?_;rcases Yh.mp hV with e|e
     .show absurd (e▸hw) c
     .show b V e hw
  let⟨F,_,a,b⟩:=key L l2 ⟨U,(l1 U).mpr hU.1,hU⟩;exists F,a,λV hV=>b V ((l1 V).mpr hV.1) hV
 let⟨inc,hi⟩:=jj (λz=>PyProof.Rows.b2i<|decide<|ld=some z) (Sk n ps I O F ld);let Ux:=ji n ps I O F ld
 cases hu:Vz n ps I O F ld with
 |nil=>exists F,inc,none,hF,hm,hi,⟨λ_=>hu,λ_=>rfl⟩,λy h=>by cases h
 |cons y l=>
  rw[hu]at Ux;exists F,inc,some y,hF,hm,hi,⟨λh=>(by cases h),λh=>(by rw[hu]at h;cases h)⟩,λv h=>?_;cases h;rw[hu];exists Yc,λv hv=>?_;rcases Yh.mp hv with e|e
  .rw[e];show SD _
  .show IW ((YT.mp Ux).1 v e)
inductive RowR(n:Int)(ps:Aa):Nat->Ac->Ac->Option Int->Ab->Prop
 |und {d:Nat} {I O F inc:Ac} {ld:Option Int}:PartOk n ps I O ld F inc none->inc.length<=30->(∀z∈inc,z∉F/\0<=z/\z<ps⁻¹)->RowR n ps d I O ld (zW n ps I F inc)
 |div {d:Nat} {I O F inc:Ac} {z y:Int} {A AP:Ab}:PartOk n ps I O (some z) F inc (some y)->(I++[z]).Nodup->(∀v∈I++[z],0<=v/\v<ps⁻¹)->(∀v∈I++[z],v∉O)->(O++[z]).length<=30->(∃U,With n ps (I++[z]) O U)->(∃U,With n ps I (O++[z]) U)->0<=y->y<ps⁻¹->PC n ps I (O++[z]) A.length->RowR n ps d I (O++[z]) (some y) A->RowR n ps d (I++[z]) O (some y) AP->RowR n ps (d+1) I O (some z) (A++AP.reverse)
def Zp8{key:Int->Int}(h:QO key ns ms)(h':QO key ns ms'):ms=ms':=by
 let⟨p,h1,h2,rfl⟩:=h;let⟨p',Ka,jh,rfl⟩:=h';let e:p=p':=List.Perm.eq_of_pairwise (le:=Ahd λi=>key<|ns.getD i 0) (λa b _ _ x y=>by unfold Ahd at x y;omega) h2 jh (h1.trans Ka.symm)
 rw[e]
def PartOk.uniq{n:Int}{ps:Aa}{I O F F' inc VO:Ac}{ld fu EV:Option Int}(h1:PartOk n ps I O ld F inc fu)(h2:PartOk n ps I O ld F' VO EV):F=F'/\inc=VO/\fu=EV:=by
 let eF:F=F':=Xo (h2.least F h1.tr) (h1.least F' h2.tr);subst eF;exists Z,Zp8 h1.inc h2.inc,?_;cases fu with
 |none=>
  cases EV with
  |none=>rfl
  |some y=>
   have:=(h2.some y Z).1
   rw[h1.none.mp Z]at this;cases this
 |some y=>
  cases EV with
  |none=>
   have:=(h1.some y Z).1
   rw[h2.none.mp Z]at this;cases this
  |some y'=>
   let⟨a1,a2⟩:=h1.some y rfl;let⟨b1,b2⟩:=h2.some y' rfl
   have:=a2 y' b1
   have:=b2 y a1
   rw[show y=y' by omega]
def RowW(n:Int)(ps:Aa)(R:Ab):(Prop):=∃ld F inc fu,PartOk n ps [] [] ld F inc fu/\(ld=none↔WW n ps [] [] F=[])/\(∀y,ld=some y->y∈WW n ps [] [] F/\∀z∈WW n ps [] [] F,y<=z)/\RowR n ps 31 [] [] ld R/\TC n ps R.length
section
variable{n:Int}{ps:Aa}{I O F:Ac}{y z:Int}(g:Zu n ps)
include g
def ZV(Xr:∀v∈I,0<=v/\v<ps⁻¹):z∈WW n ps I O F↔(0<=z/\z<ps⁻¹)/\z∉I/\z∉O/\z∉F/\¬Conn (XS ps I) (Zp ps z).1 (Zp ps z).2:=by
 unfold WW Pz;rw[Yd,Xx,YV];constructor
 .rintro⟨h,h1,h2⟩;let a:=Td (z:=z) g h.1 h.2
  exists h,λq=>h1<|Yf _<|Yf _ q,λq=>h1<|Yf _<|Yg _ q,λq=>h1<|Yg _ q,λc=>h2<|(Qw (ZL g Xr) a.1 a.2).mpr c
 .rintro⟨h,h1,h2,h3,h4⟩;let a:=Td (z:=z) g h.1 h.2
  exists h,λq=>?_,λe=>h4<|(Qw (ZL g Xr) a.1 a.2).mp e;rcases XA.mp q with q|q
  .rcases XA.mp q with q|q
   .show h1 q
   .show h2 q
  .show h3 q
def zU(Xr:∀v∈I,0<=v/\v<ps⁻¹)(hF:With n ps I O F)(hz:z∈WW n ps I O F):∃U,With n ps (I++[z]) O U:=by
 let⟨⟨z0,z1⟩,zI,zO,zF,hc⟩:=(ZV g Xr).mp hz;obtain⟨o,ho,hoI⟩:∃o,o∈Sq n ps F z F/\o∉I:=YD λno=>hc ((Bl g hF.1 z0 z1).mono (ZG λv hv=>YD λh=>no ⟨v,hv,h⟩));let⟨h5,h6⟩:=Xk.mp ho;let he:exg n ps F o z:=⟨h5,λe=>zF (by rwa[e]),h6⟩
 let hw:=zZ g hF he hoI zO (MP F o z) (Jy F o z);exists xchT F o z,hw.1,λv hv=>?_,hw.2.2;rcases XA.mp hv with hv|hv
 .show hw.2.1 v hv
 .rw[XG.mp hv];show XI.mpr (.inr Z)
def zS(Xr:∀v∈I,0<=v/\v<ps⁻¹)(y0:0<=y/\y<ps⁻¹)(z0:0<=z/\z<ps⁻¹)(h:(Conn (XS ps I) (Zp ps y).1 (Zp ps z).1/\Conn (XS ps I) (Zp ps z).2 (Zp ps y).2)\/(Conn (XS ps I) (Zp ps y).1 (Zp ps z).2/\Conn (XS ps I) (Zp ps z).1 (Zp ps y).2)):TJ (Xz n.toNat (XS ps I)) ps y=TJ (Xz n.toNat (XS ps I)) ps z:=by
 let Wl:=ZL g Xr;let a:=Td (z:=y) g y0.1 y0.2
 let b:=Td (z:=z) g z0.1 z0.2;rw[<-Qw Wl a.1 b.1,<-Qw Wl b.2 a.2,<-Qw Wl a.1 b.2,<-Qw Wl b.1 a.2]at h;change(min (mk (Xz n.toNat<|XS ps I) (Zp ps y).1)<|mk (Xz n.toNat<|XS ps I) (Zp ps y).2,max (mk (Xz n.toNat<|XS ps I) (Zp ps y).1)<|mk (Xz n.toNat<|XS ps I) (Zp ps y).2)=(min (mk (Xz n.toNat<|XS ps I) (Zp ps z).1)<|mk (Xz n.toNat<|XS ps I) (Zp ps z).2,max (mk (Xz n.toNat<|XS ps I) (Zp ps z).1)<|mk (Xz n.toNat<|XS ps I) (Zp ps z).2)
 rcases h with ⟨e1,e2⟩|⟨e1,e2⟩
 .rw[e1,<-e2]
 .rw[e1,<-e2,Int.min_comm,Int.max_comm]
end
section
variable{n:Int}{ps:Aa}(g:Zu n ps)
include g
def zR(d:Nat)(hP:PartOk n ps I O ld F inc fu)(Xr:∀v∈I,0<=v/\v<ps⁻¹)(hu:Vz n ps I O F ld=[]):∃R,RowR n ps d I O ld R/\RowAll n ps I O R:=by
 let rfl:=hP.none.mpr hu;let hp:=EW hP.inc
 let SW:(Sk n ps I O F ld).Nodup:=((((Qu _).imp λh e=>by lia:(VS ps.length).Nodup)).filter _).filter _;let Sj:∀z,z∈inc↔z∈WW n ps I O F:=λz=>by
  rw[hp.mem_iff];constructor
  .show λh=>(Yd.mp h).1
  .intro h;show YD λno=>?_
   have:z∈Vz n ps I O F ld:=Yd.mpr ⟨h,Yv no⟩
   rw[hu]at this;cases this
 let hlen:inc.length<=30:=by rw[hp.length_eq];show Yr (YG ..) (Yr (vg _ _ _ _) g.2.2.1)
 exists _,.und hP hlen λz hz=>by let⟨h1,_,_,h2,_⟩:=(ZV g Xr).mp ((Sj z).mp hz);show⟨h2,h1⟩,jk g Xr hP.tr hu Sj<|hp.nodup_iff.mpr SW
def jg:∀d I O F inc ld fu,PartOk n ps I O ld F inc fu->I.Nodup->(∀v∈I,0<=v/\v<ps⁻¹)->(∀v∈I,v∉O)->O.Nodup->(∀v∈O,0<=v/\v<ps⁻¹)->(ld=none->WW n ps I O F=[])->(∀z,ld=some z->z∈WW n ps I O F)->ps.length<=d+I.length+O.length->∃R,RowR n ps d I O ld R/\RowAll n ps I O R:=by
 intro d
 induction d with
 |zero=>
  intro I O F inc ld fu hP hIn Xr TN vd vc _ _ hm;show zR g 0 hP Xr ?_;let ve:WW n ps I O F=[]:=EF.mpr λz hz=>by
   let⟨h1,h2,h3,_⟩:=(ZV g Xr).mp hz;let nd:(z::(I++O)).Nodup:=Qb.mpr ⟨λh=>(XA.mp h).elim h2 h3,Wg.mpr ⟨hIn,vd,λa ha b hb e=>TN a ha<|e▸hb⟩⟩
   have:=Hk (m:=VS ps.length) nd λv hv=>Xx.mpr (by
    rcases Yh.mp hv with e|e
    .rw[e];show h1
    .show(XA.mp e).elim (Xr v) (vc v))
   rw[ZP,YF,Xw]at this;lia
  unfold Vz;rw[ve];rfl
 |succ d ih=>
  intro I O F inc ld fu hP hIn Xr TN vd vc NS RR hm;cases hu:Vz n ps I O F ld=[]
  .show zR g _ hP Xr hu
  obtain⟨y,rfl⟩:∃y,fu=some y:=by
   cases fu with
   |none=>show absurd (hP.none.mp Z) hu
   |some y=>exists y,Z
  let⟨yu,_⟩:=hP.some y rfl;let⟨yo,ya⟩:=Yd.mp yu;let ya:=Yy ya
  obtain⟨z,rfl⟩:∃z,ld=some z:=by
   cases ld with
   |none=>rw[NS Z]at yo;cases yo
   |some z=>exists z,Z
  let zo:=RR z rfl;let⟨La,yI,yO,yF,yc⟩:=(ZV g Xr).mp yo;let⟨Jw,zI,zO,zF,zc⟩:=(ZV g Xr).mp zo;let XM:TJ (Xz n.toNat<|XS ps I) ps y≠TJ (Xz n.toNat<|XS ps I) ps z:=λe=>ya (Yd.mpr ⟨yo,Yv ⟨z,Z,e⟩⟩)
  let yz:y≠z:=λe=>XM (by rw[e]);let hIz:(I++[z]).Nodup:=Wg.mpr ⟨hIn,B,λa ha b hb e=>zI<|by rwa[<-XG.mp hb,<-e]⟩
  let hOz:(O++[z]).Nodup:=Wg.mpr ⟨vd,B,λa ha b hb e=>zO<|by rwa[<-XG.mp hb,<-e]⟩;let SU:∀v∈I++[z],0<=v/\v<ps⁻¹:=λv hv=>(XA.mp hv).elim (Xr v) λh=>by rwa[XG.mp h]
  let zQ:∀v∈O++[z],0<=v/\v<ps⁻¹:=λv hv=>(XA.mp hv).elim (vc v) λh=>by rwa[XG.mp h]
  let NL:(O++[z]).length<=30:=by
   have:=Hk (m:=VS ps.length) hOz λv hv=>Xx.mpr (zQ v hv)
   rw[ZP]at this
   have:=g.2.2.1
   lia
  let zP:∀v∈I++[z],v∉O:=λv hv=>(XA.mp hv).elim (TN v) λh=>by rwa[XG.mp h]
  let jf:∀v∈I,v∉O++[z]:=λv hv h=>(XA.mp h).elim (TN v hv) λh=>zI (by rwa[<-XG.mp h]);let⟨s1,s2⟩:=Lb g hP.tr hP.least zF;let⟨F1,KZ,va,GX⟩:=SV g (some y) ⟨F,s1⟩;let e1:F1=F:=Xo (s2 F1 GX.tr) (GX.least F s1)
  subst e1;let hW:=zU g Xr hP.tr zo
  let⟨F2,GI,je,Qj⟩:=SV g (some y) hW;let yF2:y∉F2:=λh=>(Rt g hP.tr hP.least Qj.tr Qj.least y h).elim yF yz
  let⟨A,PL,RX⟩:=ih I (O++[z]) F1 KZ (some y) va GX hIn Xr jf hOz zQ (λh=>by cases h) (λv h=>by cases h;show(ZV g Xr).mpr ⟨La,yI,λh=>(XA.mp h).elim yO λh=>yz<|XG.mp h,yF,yc⟩) (by rw[Xw,Yt];lia)
  let⟨AP,Cp,LC⟩:=ih (I++[z]) O F2 GI (some y) je Qj hIz SU zP vd vc (λh=>by cases h) (λv h=>by
   cases h;show(ZV g SU).mpr ⟨La,λh=>(XA.mp h).elim yI λh=>yz<|XG.mp h,yO,yF2,λc=>?_⟩;let e:XS ps (I++[z])=XS ps I++[((Zp ps z).1,(Zp ps z).2)]:=YQ
   rw[e]at c;rcases ZH5 c with h|h
   .show yc h
   .show XM<|zS g Xr La Jw h) (by rw[Xw,Yt];lia)
  exists _,.div hP hIz SU zP NL hW ⟨F1,s1⟩ La.1 La.2 RX.pc PL Cp,ZT6 RX LC
def jd(h:∃U,Zg n ps U):∃R,RowW n ps R/\R.Nodup/\∀T,T∈R↔Zg n ps T:=by
 let⟨U,hU⟩:=h;let hw:∀T,With n ps [] [] T↔Zg n ps T:=λT=>⟨λh=>h.1,λh=>⟨h,λz q=>(by cases q),λz q=>(by cases q)⟩⟩
 let⟨F,_,_,hP0⟩:=SV g none ⟨U,(hw U).mpr hU⟩;let Ux:(WW n ps [] [] F).Pairwise (·<·):=(Qu _).filter _
 obtain⟨ld,h1,h2⟩:∃ld:Option Int,(ld=none↔WW n ps [] [] F=[])/\∀y,ld=some y->y∈WW n ps [] [] F/\∀z∈WW n ps [] [] F,y<=z:=by
  cases ho:WW n ps [] [] F with
  |nil=>exists none,⟨λ_=>rfl,λ_=>rfl⟩,λy h=>by cases h
  |cons y l=>
   rw[ho]at Ux;exists some y,⟨λh=>(by cases h),λh=>(by cases h)⟩,λv h=>?_;cases h;exists Yc,λv hv=>?_;rcases Yh.mp hv with e|e
   .rw[e];show SD _
   .show IW ((YT.mp Ux).1 v e)
 let⟨F',inc,fu,hP⟩:=SV g ld ⟨U,(hw U).mpr hU⟩;let eF:F'=F:=Xo (hP0.least F' hP.tr) (hP.least F hP0.tr)
 subst eF;let⟨R,r1,r2⟩:=jg g 31 [] [] F' inc ld fu hP .nil (λv h=>by cases h) (λv h=>by cases h) .nil (λv h=>by cases h) (λe=>h1.mp e) (λz e=>(h2 z e).1) (by have:=g.2.2.1;simp;lia);exists R,⟨ld,F',inc,fu,hP,h1,h2,r1,R,r2.1,λl=>(r2.2 l).trans (hw l),Z⟩,r2.1,λT=>(r2.2 T).trans (hw T)
end
def jc{mg:Af}:FnOk P w K mg base Xb k f fd ps λ_ _ _ _=>False:=⟨λ_ _ _ _ h=>h.elim,λ_ _ _ _ _ _ _ _ _ _ _ _ _ h=>h.elim⟩
def zN(g:Zu n ps)(h:RowR n ps d I O ld R):∀T∈R,With n ps I O T:=by
 induction h with
 |und hP _ _=>
  intro T hT;rcases Yh.mp hT with e|e
  .rw[e];show hP.tr
  .let⟨z,hz,o,ho,rfl⟩:=Vy.mp e;show ZA6 g hP.tr (Yd.mp<|(EW hP.inc).mem_iff.mp hz).1 ho
 |div _ _ _ _ _ _ _ _ _ _ _ _ zM i9=>
  intro T hT;rcases XA.mp hT with h|h
  .show Wu.mpr (.inl<|zM T h)
  .show Wu.mpr (.inr<|i9 T<|RP.mp h)
def i8{key:Int->Int}(h:QO key ns ms):ms.Pairwise λa b=>key a<=key b:=by
 let⟨p,h1,h2,rfl⟩:=h;show MD.mpr (h2.imp λ{a b} h=>?_);let h:key (ns.getD a 0)<key (ns.getD b 0)\/(key (ns.getD a 0)=key (ns.getD b 0)/\a<b):=h
 lia
def ZD6{k:Int->Int}:∀{l:Ac},(∀a∈l,k a=0\/k a=1)->l.Pairwise (λa b=>k a<=k b)->∃l1 l2,l=l1++l2/\(∀a∈l1,k a=0)/\∀a∈l2,k a=1
 |[],_,_=>⟨[],[],Z,λa h=>(by cases h),λa h=>(by cases h)⟩
 |a::l,h0,h=>by
  let⟨p1,p2⟩:=YT.mp h;rcases h0 a Yc with e|e
  .let⟨l1,l2,rfl,q1,q2⟩:=ZD6 (λb hb=>h0 b<|Ye _ hb) p2;exists a::l1,l2,Z,λb hb=>(Yh.mp hb).elim (λz=>z▸e) (q1 b),q2
  .exists [],a::l,Z,λa h=>(by cases h),λb hb=>?_;rcases Yh.mp hb with z|z
   .rw[z];show e
   .have:=p1 b z
    have:=h0 b (Ye _ z)
    lia
def UX{z a:Int}:(PyProof.Rows.b2i (decide (some z=some a))=0↔a≠z)/\(PyProof.Rows.b2i (decide (some z=some a))=1↔a=z):=by
 cases c:a=z
 .subst c;simp[PyProof.Rows.b2i]
 .simp[PyProof.Rows.b2i,c,Xc c]
def ZM8{ns ms:Ac}{z:Int}(h:QO (λa=>PyProof.Rows.b2i (decide (some z=some a))) ns ms):∃l1 l2,ms=l1++l2/\(∀a∈l1,a≠z)/\∀a∈l2,a=z:=by
 let⟨l1,l2,e,h1,h2⟩:=ZD6 (λa _=>by
  cases c:a=z
  .show .inr (UX.2.mpr c)
  .show .inl<|UX.1.mpr c) (i8 h)
 exists l1,l2,e,λa ha=>UX.1.mp<|h1 a ha,λa ha=>UX.2.mp<|h2 a ha
def KY{z:Int}(h:z∈WW n ps I O F):z∉F:=λq=>(Yy (Yd.mp h).2).1 (Yg _ q)
def u9{y z:Int}(h:y∈Vz n ps I O F (some z)):y∉F/\y≠z:=by let⟨h1,h2⟩:=Yd.mp h;exists KY h1,λe=>Yy h2<|Yd.mpr ⟨h1,Yv ⟨z,Z,by rw[e]⟩⟩
section
variable{n:Int}{ps:Aa}{d:Nat}{I O:Ac}{R:Ab}(g:Zu n ps)
include g
def zL(h:RowR n ps d I O ld R):∀F,With n ps I O F->(∀U,With n ps I O U->HT.lexLt U F=false)->(∀z,ld=some z->z∉F)->R[0]?=some F:=by
 induction h with
 |und hP _ _=>
  intro F hF hm _;rw[Xo (hP.least F hF) (hm _ hP.tr)];rfl
 |div hP _ _ _ _ _ _ _ _ _ _ _ zM _=>
  intro F hF hm hz;let⟨s1,s2⟩:=Lb g hF hm (hz _ Z);let e:=Xo (hP.least F hF) (hm _ hP.tr)
  have:=zM F s1 s2 λy' e'=>by cases e';rw[e];show(u9 (hP.some _ Z).1).1
  rw[Yn (Xy.mp this).1,this]
end
def Qi(T U:Ac):(Prop):=(T.filter λy=>decide<|y∉U).length=1
def zK{a:Int}(hT:T.Nodup)(ha:a∈T)(hU:a∉U)(h:∀v∈T,v∈U\/v=a):Qi T U:=by
 let p:(T.filter λy=>decide<|y∉U).Perm [a]:=(Kz (hT.filter _) B).mpr λv=>by
  rw[Yd,YV,XG];constructor
  .show λq=>(h v q.1).resolve_left q.2
  .rintro rfl;exists ha,hU
 show p.length_eq
def ZI6(hT:Zg n ps T)(hU:Zg n ps U)(h:Qi T U):Qi U T:=(Zd9 hU hT).trans h
def Adj{α:Type}(P:α->α->Prop)(l:List α):(Prop):=∀i a b,l[i]?=some a->l[i+1]?=some b->P a b
def Adj.nil{α:Type}{P:α->α->Prop}:Adj P []:=λi a b h=>by simp at h
def Adj.one{α:Type}{P:α->α->Prop}{x:α}:Adj P [x]:=λi a b _ h=>by simp at h
def Adj.append{α:Type}{P:α->α->Prop}{l m:List α}(h1:Adj P l)(h2:Adj P m)(h:∀a b,l[l.length-1]?=some a->m[0]?=some b->P a b):Adj P (l++m):=λi a b ha hb=>by
 cases c:i+1<l.length
 .rw[Yn J]at ha hb;show h1 i a b ha hb
 .rw[Yk J]at hb;cases c':i<l.length
  .rw[Yn c',show i=l.length-1 by lia]at ha;rw[show i+1-l.length=0 by omega]at hb;show h a b ha hb
  .rw[Yk DW]at ha;rw[show i+1-l.length=i-l.length+1 by grind]at hb;show h2 _ a b ha hb
def Adj.rev{α:Type}{P:α->α->Prop}{l:List α}(h:Adj P l)(hs:∀a∈l,∀b∈l,P a b->P b a):Adj P l.reverse:=λi a b ha hb=>by
 let hi:=(Xy.mp hb).1;rw[VX]at hi;rw[FX DW]at ha hb
 have:=h (l.length-1-(i+1)) b a hb (by rwa[show l.length-1-(i+1)+1=l.length-1-i by grind])
 show hs b (Xg hb) a (Xg ha) this
def Zn7{α:Type}(l:List α):l.reverse[l.reverse.length-1]?=l[0]?:=by
 cases l with
 |nil=>rfl
 |cons x l=>
  rw[VX,FX B];simp
def Zy5{α:Type}(l:List α):l.reverse[0]?=l[l.length-1]?:=by
 cases l with
 |nil=>rfl
 |cons x l=>rw[FX B];simp
def Zn9(hF:F.Nodup)(hz:z∉F):(xchT F o z).Nodup:=(MP F o z).nodup_iff.mpr (Wg.mpr ⟨hF.filter _,B,λa ha b hb e=>hz<|by rw[<-XG.mp hb,<-e];show(Yd.mp ha).1⟩)
def ZC6{n:Int}{ps:Aa}{I F L:Ac}(hF:F.Nodup)(hL:L.Nodup)(i7:∀o∈L,o∈F):∀l asc,l.Nodup->(∀z∈l,z∉F)->(∀z∈l,WC n ps I F z=L)->Adj Qi (Vd n ps I F l asc)/\∀U,(Vd n ps I F l asc)[0]?=some U->∃o z,l[0]?=some z/\(if asc then L[0]? else L[L.length-1]?)=some o/\U=xchT F o z
 |[],asc,_,_,_=>⟨Adj.nil,λU h=>by simp[Vd]at h⟩
 |z::l,asc,hn,hz,hl=>by
  let⟨n1,n2⟩:=Qb.mp hn;let⟨Oa,RU⟩:=ZC6 hF hL i7 l (!asc) n2 (λv hv=>hz v<|Ye _ hv) λv hv=>hl v (Ye _ hv);let zF:=hz z Yc
  let e0:WC n ps I F z=L:=hl z Yc;let same:∀o∈L,∀o'∈L,o≠o'->Qi (xchT F o z) (xchT F o' z):=λo ho o' WE ne=>zK (a:=o') (Zn9 hF zF) (XI.mpr<|.inl ⟨i7 o' WE,Xc ne⟩) (λh=>by
   rcases XI.mp h with q|q
   .show q.2 rfl
   .show zF<|q▸i7 o' WE) λv hv=>by
   rcases XI.mp hv with q|q
   .cases c:v=o'
    .show .inr c
    .show .inl (XI.mpr<|.inl ⟨q.1,c⟩)
   .show .inl (XI.mpr<|.inr q)
  let am:Adj Qi (L.map λo=>xchT F o z):=λi a b ha hb=>by
   rw[Yp]at ha hb;cases ea:L[i]? with
   |none=>rw[ea]at ha;cases ha
   |some o=>
    cases eb:L[i+1]? with
    |none=>rw[eb]at hb;cases hb
    |some o'=>
     rw[ea]at ha;rw[eb]at hb;cases ha;cases hb;show same o (Xg ea) o' (Xg eb) λe=>?_;subst e
     have:=(List.getElem?_inj (Xy.mp ea).1 hL).mp (ea.trans eb.symm)
     lia
  let ar:Adj Qi (Vx n ps I F asc z):=by
   unfold Vx;rw[e0];cases asc with
   |true=>show am
   |false=>
    show am.rev λa ha b hb _=>?_;let⟨o,ho,rfl⟩:=YN.mp ha;let⟨o',WE,rfl⟩:=YN.mp hb;cases c:o'=o
    .rename_i h;subst c;show h
    .show same o' WE o ho c
  let hlen:(L.map λo=>xchT F o z).length=L.length:=Yb _;let last:∀U,(Vx n ps I F asc z)[(Vx n ps I F asc z).length-1]?=some U->∃o∈L,(if asc then L[L.length-1]? else L[0]?)=some o/\U=xchT F o z:=λU h=>by
   unfold Vx at h;rw[e0]at h;cases asc with
   |true=>
    rw[if_pos Z,hlen,Yp]at h;cases e:L[L.length-1]? with
    |none=>rw[e]at h;cases h
    |some o=>rw[e]at h;cases h;exists o,Xg e,Z,Z
   |false=>
    rw[if_neg sZ,Zn7,Yp]at h;cases e:L[0]? with
    |none=>rw[e]at h;cases h
    |some o=>rw[e]at h;cases h;exists o,Xg e,Z,Z
  let head:∀U,(Vx n ps I F asc z)[0]?=some U->∃o,(if asc then L[0]? else L[L.length-1]?)=some o/\U=xchT F o z:=λU h=>by
   unfold Vx at h;rw[e0]at h;cases asc with
   |true=>
    rw[if_pos Z,Yp]at h;cases e:L[0]? with
    |none=>rw[e]at h;cases h
    |some o=>rw[e]at h;cases h;exists o,Z,Z
   |false=>
    rw[if_neg sZ,Zy5,hlen,Yp]at h;cases e:L[L.length-1]? with
    |none=>rw[e]at h;cases h
    |some o=>rw[e]at h;cases h;exists o,Z,Z
  exists ar.append Oa λa b ha hb=>?_,λU h=>?_
  .let⟨o,ho,e1,rfl⟩:=last a ha;let⟨o',z',vR,e2,rfl⟩:=RU b hb;let eo:o'=o:=by
    cases asc with
    |true=>show(Yi<|e1.symm.trans e2).symm
    |false=>show(Yi<|e1.symm.trans e2).symm
   subst eo;let zl:=Xg vR
   show zK (a:=z) (Zn9 hF zF) (XI.mpr<|.inr Z) (λh=>?_) λv hv=>?_
   .rcases XI.mp h with q|q
    .show zF q.1
    .show n1 (q▸zl)
   .rcases XI.mp hv with q|q
    .show .inl (XI.mpr<|.inl q)
    .show .inr q
  .cases hh:Vx n ps I F asc z with
   |cons x r=>
    let h':(Vx n ps I F asc z)[0]?=some U:=by
     have:=h
     unfold Vd at this;rw[hh]at this ⊢;show this
    let⟨o,e1,e2⟩:=head U h';exists o,z,Z,e1,e2
   |nil=>
    exfalso;let hL0:L=[]:=by
     have:(Vx n ps I F asc z).length=L.length:=by unfold Vx;rw[e0];cases asc<;>simp
     rw[hh]at this;show YM.mp this.symm
    let⟨o,z',_,e2,_⟩:=RU U (by have:=h;unfold Vd at this;rwa[hh]at this);rw[hL0]at e2;cases asc<;>simp at e2
section
variable{n:Int}{ps:Aa}{d:Nat}{I O F T:Ac}{R:Ab}{y z:Int}(g:Zu n ps)
include g
def ZP9(hF:With n ps I O F)(hz:z∉F)(VP:∀U,With n ps I O U->HT.lexLt U F=false)(hT:With n ps (I++[z]) O T)(Jx:∀U,With n ps (I++[z]) O U->HT.lexLt U T=false):∃o∈WC n ps I F z,T=xchT F o z/\∀o'∈WC n ps I F z,o'<=o:=by
 let half:=Rt g hF VP hT Jx;let zT:z∈T:=hT.2.1 z B
 let⟨o,e1,e2⟩:=mV g hT.1 hF.1 zT hz;let oT:o∉T:=((Tc g hT.1).mp e1).2.1
 let oI:o∉I:=λh=>oT (hT.2.1 o<|Yf _ h);let zO:z∉O:=λh=>hT.2.2 z h zT
 let hM:=Cd g hF.1 e2 (MP F o z) (Jy F o z);let eT:T=xchT F o z:=jI g hT.1 hM λv hv=>XI.mpr <| by
  rcases half v hv with q|q
  .show .inl ⟨q,λe=>oT<|by rwa[<-e]⟩
  .show .inr q
 exists o,Yd.mpr ⟨Xk.mpr ⟨e2.1,e2.2.2⟩,Yv oI⟩,eT,λo' WE=>YD λno=>?_;let⟨h3,h4⟩:=Yd.mp WE;let⟨h5,h6⟩:=Xk.mp h3;let he:exg n ps F o' z:=⟨h5,λe=>hz (by rwa[e]),h6⟩
 let w:=zZ g hF he (Yy h4) zO (MP F o' z) (Jy F o' z);let w2:With n ps (I++[z]) O (xchT F o' z):=(Wu (z:=z).mp w).resolve_left λq=>q.2.2 z B (XI.mpr<|.inr Z)
 let lt:HT.lexLt (xchT F o' z) T=true:=by
  show(j5 (XW.mp w.1.1).2 (XW.mp hT.1.1).2 (by have:=w.1.2.1;have:=hT.1.2.1;lia)).mpr ⟨o,XI.mpr<|.inl ⟨e2.1,λe=>no J⟩,oT,λs hs=>?_⟩;rw[eT,XI,XI];constructor
  .rintro(q|q)
   .show .inl ⟨q.1,J⟩
   .show .inr q
  .rintro(q|q)
   .show .inl ⟨q.1,J⟩
   .show .inr q
 rw[Jx _ w2]at lt;cases lt
def u7(Xr:∀v∈I,0<=v/\v<ps⁻¹)(h:RowR n ps d I O (some z) R)(hF:With n ps I O F)(VP:∀U,With n ps I O U->HT.lexLt U F=false)(hz:z∉F)(hT:With n ps (I++[z]) O T)(Jx:∀U,With n ps (I++[z]) O U->HT.lexLt U T=false):R[R.length-1]?=some T:=by
 cases h with
 |und hP hl hi=>
  rename_i F' inc;let eF:=Xo (hP.least F hF) (VP _ hP.tr)
  subst eF;let⟨o,ho,eT,i6⟩:=ZP9 g hF hz VP hT Jx;let zo:z∈WW n ps I O F:=GJ g Xr (Wu.mpr<|.inr hT) hF.2.1 (hT.2.1 z B) hz
  let za:z∈Sk n ps I O F (some z):=Yd.mpr ⟨zo,Yv ⟨z,Z,Z⟩⟩;let hp:=EW hP.inc
  let SW:inc.Nodup:=hp.nodup_iff.mpr (((((Qu _).imp λh e=>by lia:(VS ps.length).Nodup)).filter _).filter _);let zi:=hp.mem_iff.mpr za
  let⟨l1,l2,rfl,q1,q2⟩:=ZM8 hP.inc;let e2:l2=[z]:=by
   let⟨_,n2,_⟩:=Wg.mp SW;let zl:z∈l2:=(XA.mp zi).resolve_left λh=>q1 z h rfl
   match l2,zl,n2,q2 with
   |[a],_,_,q=>rw[q a B]
   |a::b::r,_,nd,q=>
    let e1:=q a B;let e2:=q b B
    rw[e1,e2]at nd;simp at nd
  subst e2;let flag:(((l1++[z]).length%2 == 1) != (l1.length%2 == 1))=true:=by
   rw[Xw,Yt];rcases Nat.mod_two_eq_zero_or_one l1.length with c|c
   .rw[c,show(l1.length+1)%2=1 by lia];rfl
   .rw[c,show(l1.length+1)%2=0 by lia];rfl
  unfold zW;rw[jo,flag];unfold Vx;rw[if_pos Z];let asc:(WC n ps I F z).Pairwise (·<·):=(((XW.mp hF.1.1).2).filter _).filter _
  let pos:=xV ho;let lo:(WC n ps I F z)[(WC n ps I F z).length-1]?=some o:=by
   let⟨i,hi,e⟩:=Ex ho;cases c:i=(WC n ps I F z).length-1
   .rw[<-c,Xs hi,e]
   .let lt:=UT.mp asc i ((WC n ps I F z).length-1) hi DW J;let le:=i6 _ (Tv<|show(WC n ps I F z).length-1<_ by omega)
    rw[e]at lt;lia
  change((F::Vd n ps I F l1 ((l1++[z]).length%2 == 1))++(WC n ps I F z).map λo=>xchT F o z)[_]?=_;rw[Yk (by simp;lia),Yp]
  have:((F::(Vd n ps I F l1 ((l1++[z]).length%2 == 1)++(WC n ps I F z).map λo=>xchT F o z)).length-1-(F::Vd n ps I F l1 ((l1++[z]).length%2 == 1)).length)=(WC n ps I F z).length-1:=by
   simp;lia
  rw[this,lo,eT];rfl
 |div hP a1 a2 a3 a4 a5 a6 a7 a8 a9 hA hB=>
  rename_i d F' inc y A AP;let eF:=Xo (hP.least F hF) (VP _ hP.tr)
  subst eF;let⟨yF,yz⟩:=u9 (hP.some _ Z).1;let hf:=zL g hB T hT Jx λv e=>by cases e;show λq=>(Rt g hF VP hT Jx y q).elim yF yz
  let hb:=(Xy.mp hf).1;rw[<-Zn7]at hf;rw[Yk (by rw[Xw,VX];lia)];rw[VX]at hf;rwa[show(A++AP.reverse).length-1-A.length=AP.length-1 by rw[Xw,VX];lia]
def i5(Xr:∀v∈I,0<=v/\v<ps⁻¹)(hF:With n ps I O F)(y0:0<=y/\y<ps⁻¹)(z0:0<=z/\z<ps⁻¹)(h:TJ (Xz n.toNat (XS ps I)) ps y=TJ (Xz n.toNat (XS ps I)) ps z):WC n ps I F y=WC n ps I F z:=by
 let key:∀a∈F,a∉I->(y∈UH n ps F a↔z∈UH n ps F a):=λa ha hn=>by
  rw[ZW g hF.1 y0.1 y0.2,ZW g hF.1 z0.1 z0.2];show not_congr ?_;let up:∀{i j},Conn (XS ps I) i j->Conn (XS ps<|wo F a) i j:=λc=>c.mono (ZG λv hv=>Xl.mpr ⟨hF.2.1 v hv,λe=>hn<|by rwa[<-e]⟩)
  rcases ZN7 g Xr y0.1 y0.2 z0.1 z0.2 h with ⟨a,b⟩|⟨a,b⟩
  .exists λc=>((up a).symm.trans c).trans (up b),λc=>((up a).trans c).trans (up b).symm
  .exists λc=>((up b).symm.trans c.symm).trans (up a),λc=>((up a).trans c.symm).trans (up b).symm
 unfold WC Sq;rw[List.filter_filter,List.filter_filter];show SF λa ha=>?_;cases c:a∈I
 .simp[c]
 .have:=key a ha c
  unfold UH at this;simp[c,this]
def i4(Xr:∀v∈I,0<=v/\v<ps⁻¹)(hF:With n ps I O F)(VP:∀U,With n ps I O U->HT.lexLt U F=false)(hz:z∈WW n ps I O F)(hy:y∈Vz n ps I O F (some z)):y∈WW n ps I (O++[z]) F/\(With n ps (I++[z]) O F2->(∀U,With n ps (I++[z]) O U->HT.lexLt U F2=false)->y∈WW n ps (I++[z]) O F2):=by
 let⟨yF,yz⟩:=u9 hy;let⟨yo,ya⟩:=Yd.mp hy;let⟨La,yI,yO,_,yc⟩:=(ZV g Xr).mp yo;let⟨Jw,zI,zO,zF,zc⟩:=(ZV g Xr).mp hz;exists (ZV g Xr).mpr ⟨La,yI,λh=>(XA.mp h).elim yO λh=>yz<|XG.mp h,yF,yc⟩,λh2 h2m=>?_;let SU:∀v∈I++[z],0<=v/\v<ps⁻¹:=λv hv=>(XA.mp hv).elim (Xr v) λh=>by rwa[XG.mp h]
 show(ZV g SU).mpr ⟨La,λh=>(XA.mp h).elim yI λh=>yz<|XG.mp h,yO,λh=>(Rt g hF VP h2 h2m y h).elim yF yz,λc=>?_⟩;let e:XS ps (I++[z])=XS ps I++[((Zp ps z).1,(Zp ps z).2)]:=YQ
 rw[e]at c;rcases ZH5 c with h|h
 .show yc h
 .show Yy ya (Yd.mpr ⟨yo,Yv ⟨z,Z,zS g Xr La Jw h⟩⟩)
end
def Zs8(g:Zu n ps)(h:RowR n ps d I O ld R):(∀v∈I,0<=v/\v<ps⁻¹)->(∀F z,With n ps I O F->(∀U,With n ps I O U->HT.lexLt U F=false)->ld=some z->z∈WW n ps I O F)->Adj Qi R:=by
 induction h with
 |@und d I O F inc ld hP hl hi=>
  intro Xr zJ;let hp:=EW hP.inc
  let SW:inc.Nodup:=hp.nodup_iff.mpr (((((Qu _).imp λh e=>by omega:(VS ps.length).Nodup)).filter _).filter _);let i3:=hP.tr.1.1.nodup
  cases ld with
  |none=>
   let e:inc=[]:=by show EF.mpr λz hz=>?_;let⟨y,h,_⟩:=Yy (Yd.mp<|hp.mem_iff.mp hz).2;cases h
   subst e;show Adj.one
  |some z=>
   let zo:=zJ F z hP.tr hP.least rfl;let⟨Jw,_⟩:=(ZV g Xr).mp zo;let⟨c1,c2⟩:=ZC6 (n:=n) (ps:=ps) (I:=I) (F:=F) (L:=WC n ps I F z) i3 ((i3.filter _).filter _) (λo ho=>(Xk.mp (Yd.mp ho).1).1) inc (inc.length%2 == 1) SW (λv hv=>(hi v hv).1) (λv hv=>by let⟨y,e,h⟩:=Yy (Yd.mp<|hp.mem_iff.mp hv).2;cases e;show i5 g Xr hP.tr (hi v hv).2 Jw h)
   change Adj Qi ([F]++Vd n ps I F inc (inc.length%2 == 1));show Adj.one.append c1 λa b ha hb=>?_;cases ha;let⟨o,v,hv,ho,rfl⟩:=c2 b hb;let vF:=(hi v<|Xg hv).1
   let oL:o∈WC n ps I F z:=by
    split at ho
    .show Xg ho
    .show Xg ho
   let oF:=(Xk.mp (Yd.mp oL).1).1;show zK (a:=o) i3 oF (λh=>?_) λw hw=>?_
   .rcases XI.mp h with q|q
    .show q.2 rfl
    .show vF (q▸oF)
   .cases c:w=o
    .show .inr c
    .show .inl (XI.mpr<|.inl ⟨hw,c⟩)
 |@div d I O F inc z y A AP hP hIn SU TN hO hW _ _ _ _ hA hB zM i9=>
  intro Xr zJ;let zo:=zJ F z hP.tr hP.least rfl
  let zF:=KY zo;let yu:=(hP.some y Z).1
  let⟨yF,yz⟩:=u9 yu;let⟨s1,s2⟩:=Lb g hP.tr hP.least zF;let⟨F2,_,_,Qj⟩:=SV g (some y) hW;let⟨y1,y2⟩:=i4 (F2:=F2) g Xr hP.tr hP.least zo yu;let y2:=y2 Qj.tr Qj.least
  let aA:=zM Xr λF' v h1 h2 e=>by cases e;rwa[Xo (s2 F' h1) (h2 F s1)]
  let aB:=i9 SU λF' v h1 h2 e=>by cases e;rwa[Xo (Qj.least F' h1) (h2 F2 Qj.tr)]
  show aA.append (aB.rev λa ha b hb q=>ZI6 (zN g hB a ha).1 (zN g hB b hb).1 q) λa b ha hb=>?_;rw[Zy5]at hb;let⟨G,_,_,hG⟩:=SV g none (zU g Xr hP.tr (Yd.mp yu).1);let zG:z∉G:=λh=>(Rt g hP.tr hP.least hG.tr hG.least z h).elim zF (Xc yz)
  let⟨g1,g2⟩:=Lb g hG.tr hG.least zG;let ea:=u7 g Xr hA s1 s2 yF g1 g2
  rw[<-Yi (ea.symm.trans ha)];let⟨T2,_,_,h2⟩:=SV g none (zU g SU Qj.tr y2);let eb:=u7 g SU hB Qj.tr Qj.least (KY y2) h2.tr h2.least
  rw[<-Yi (eb.symm.trans hb)];let sw:∀U,With n ps (I++[z]++[y]) O U↔With n ps (I++[y]++[z]) O U:=λU=>by
   unfold With;show and_congr_right λ_=>and_congr_left λ_=>⟨λh v hv=>h v ?_,λh v hv=>h v ?_⟩
   all_goals
    simp only[XA,XG]at hv ⊢;rcases hv with (q|q)|q
    .show .inl (.inl q)
    .show .inr q
    .show .inl (.inr q)
  let hh:=Rt g hG.tr hG.least ((sw T2).mp h2.tr) λU hU=>h2.least U ((sw U).mpr hU);show ZI6 h2.tr.1 g1.1 (zK (a:=z) h2.tr.1.1.nodup (h2.tr.2.1 z B) zG λv hv=>hh v hv)
def Jv(h:i<N):mk (Xz N []) i=(i:Int):=by
 let e:=Qz (m:=Xz N []) (i:=i) (by rwa[Zw]);let e2:(Xz N [])[i]?=some (i:Int):=by change((List.range N).map λ(i:Nat)=>(i:Int))[i]?=_;rw[Yp,xR h];rfl
 rw[e2]at e;show(Yi e).symm
def iZ{z:Int}(g:Zu n ps)(z0:0<=z)(z1:z<ps⁻¹):mk (Xz n.toNat []) (ps.getD z.toNat (0,0)).1.toNat=(ps.getD z.toNat (0,0)).1/\mk (Xz n.toNat []) (ps.getD z.toNat (0,0)).2.toNat=(ps.getD z.toNat (0,0)).2:=by obtain⟨p,hp⟩:∃p,ps[z.toNat]?=some p:=⟨_,Xs J⟩;let⟨a,b,c,d⟩:=g.2.2.2 p (Xg hp);rw[ZS hp,Jv sV,Jv sV];lia
def iY{l:Ac}{ld EU:Option Int}(h1:ld=none↔l=[])(h2:∀y,ld=some y->y∈l/\∀z∈l,y<=z)(Ka:EU=none↔l=[])(jh:∀y,EU=some y->y∈l/\∀z∈l,y<=z):ld=EU:=by
 cases ld with
 |none=>show(Ka.mpr<|h1.mp Z).symm
 |some y=>
  cases EU with
  |none=>show absurd (h1.mpr<|Ka.mp Z) B
  |some y'=>
   let⟨a1,a2⟩:=h2 y rfl;let⟨b1,b2⟩:=jh y' rfl
   have:=a2 y' b1
   have:=b2 y a1
   rw[show y=y' by lia]
def TH:With n ps [] [] T↔Zg n ps T:=⟨λh=>h.1,λh=>⟨h,λz q=>(by cases q),λz q=>(by cases q)⟩⟩
def ZU6{F L:Ac}(g:Zu n ps)(hR:RowW n ps R)(hF:Zg n ps F)(VP:∀U,Zg n ps U->HT.lexLt U F=false):R[0]?=some F/\Adj Qi R/\(1<R.length->R[R.length-1]?=some L->Qi L F):=by
 let NK:=TH.mpr hF;let Rr:∀U,With n ps [] [] U->HT.lexLt U F=false:=λU hU=>VP U hU.1
 let Xr:∀v∈([]:Ac),0<=v/\v<ps⁻¹:=λv h=>by cases h
 let⟨ld,F',inc,fu,hP,h1,h2,KW,_⟩:=id hR;let eF:F'=F:=Xo (VP F' hP.tr.1) (hP.least F NK)
 subst eF;exists zL g KW F' NK Rr λz e=>KY (h2 z e).1,Zs8 g KW Xr λF2 z a b e=>?_,λhl hL=>?_
 .rw[Xo (Rr F2 a) (b F' NK)];show(h2 z e).1
 .cases ld with
  |none=>
   exfalso;let eo:=h1.mp rfl
   cases KW with
   |und GH _ _=>
    let⟨rfl,rfl,rfl⟩:=hP.uniq GH;let e:inc=[]:=EF.mpr λz hz=>by
     have:=(Yd.mp<|(EW hP.inc).mem_iff.mp hz).1
     rw[eo]at this;cases this
    subst e;show absurd hl (by change ¬1<1;decide)
  |some z=>
   let zo:=(h2 z Z).1;let⟨T2,_,_,NJ⟩:=SV g none (zU g Xr NK zo);rw[u7 g Xr KW NK Rr (KY zo) NJ.tr NJ.least]at hL;let rfl:=Yi hL;show zK (a:=z) NJ.tr.1.1.nodup (NJ.tr.2.1 z B) (KY zo) λv hv=>Rt g NK Rr NJ.tr NJ.least v hv
end My
namespace L2
open PySem PySem.Spec PyProof.Rows
def Rq{N P:List Str}{sc:Scope}(h:sc.kind=.function/\sc.isCoroutine=false/\sc.isGenerator=false/\N.Nodup/\N.take P.length=P/\(∀x∈P,sc.names.lookup x=some .local\/sc.names.lookup x=some .cell)/\∀y∈sc.names,y.2≠.free):FnScope N P sc:=⟨h.1,h.2.1,h.2.2.1,h.2.2.2.1,h.2.2.2.2.1,h.2.2.2.2.2.1,h.2.2.2.2.2.2⟩
structure DfA(K:Ad)(mg:Af)(x:Str)(st:Stmt)(f:Addr)(fd:FuncData)(ps:List Str):Prop where
 fn:Fun K x x st f fd
 bi:Binds K fd ps []
 mm:mg x=some ↑f
def Xf{X:Cx}{CX:RH}{k m:Nat}{f:Addr}{fd:FuncData}{ps:List Str}{sp:Sp}{x:Str}{st:Stmt}{e:Expr}{es:List Expr}{t:TA}{p pos:Pos}{E:XK}(F:FnOk X.prog X.w X.K X.mg X.base CX k f fd ps sp)(hr:Room m X.A)(d:DfA X.K X.mg x st f fd ps)(hx:Ko CX X E)(ha:PA X (e::es) t)(hk:k<=m:=by decide)(hg:Gl X x:=by show Z)(Tj:(x == ("__debug__":Str))=false:=by decide)(he:starEach (e::es) X.env=(false,eval e X.env)::starEach es X.env:=by rfl)(Vg:(backTo pos<|starEach es X.env).any (·.1)=false:=by rfl):PE X (.Call (.Name x p) (e::es) [] pos) (Dt sp [] E t):=
 Ij F (hr.mono hk) hg d.mm d.fn.kp d.bi .nil hx ha Tj he Vg
def ET(N P:List Str)(sc:Scope):(Prop):=sc.kind=.function/\sc.isCoroutine=false/\sc.isGenerator=false/\N.Nodup/\N.take P.length=P/\(∀x∈P,sc.names.lookup x=some .local\/sc.names.lookup x=some .cell)/\∀y∈sc.names,y.2≠.free
instance (N P:List Str) (sc:Scope):Decidable (ET N P sc):=by unfold ET;infer_instance
section
variable{P:Program}{w:World}{K:Ad}{mg:Af}{base:Heap}{x:Str}{st:Stmt}{f:Addr}{fd:FuncData}{ps:List Str}{k:Nat}{sp:Sp}
abbrev WR(P:Program)(w:World)(base:Heap)(CX:RH)(_:DfA K mg x st f fd ps)(k:Nat)(sp:Sp):Prop:=FnOk P w K mg base CX k f fd ps sp
def DfA.okI(q:DfA K mg x st f fd ps)(N:List Str)(S:ET N ps (Xe st))
  (hbody:∀XC A outer s H vs Q E,Room k (A.deeper<|envOfC x (Xe st) (~~~s) f XC)->sp vs H Q E->
   ∃t,PSs (Wy Xb P w K mg base N x (Xe st) f XC A outer s H E).nox (ZY st) t/\t {nx:=λ_ H'=>Q .non H',rt:=Q} (start N vs) H) (len:∀vs H Q E,sp vs H Q E->vs.length=ps.length:=by intro _ _ _ _ h;cases h;subst_vars;rfl):WR P w base Xb q (k+1) sp:=q.fn.ok (Rq S) len hbody
def DfA.okXI(q:DfA K mg x st f fd ps)(N:List Str)(S:ET N ps (Xe st))
  (hbody:∀XC A outer s H vs Q E,Room k (A.deeper<|envOfC x (Xe st) (~~~s) f XC)->sp vs H Q E->
   ∃t,PSs (Wy (Va P w) P w K mg base N x (Xe st) f XC A outer s H E) (ZY st) t/\t {nx:=λ_ H'=>Q .non H',rt:=Q} (start N vs) H) (len:∀vs H Q E,sp vs H Q E->vs.length=ps.length:=by intro _ _ _ _ h;cases h;subst_vars;rfl):WR P w base (Va P w) q (k+1) sp:=q.fn.okX (Rq S) len hbody
def DfA.ok(q:DfA K mg x st f fd ps)(N:List Str)(S:ET N ps (Xe st))(len:∀vs H Q E,sp vs H Q E->vs.length=ps.length)
  (hbody:∀XC A outer s H vs Q E,Room k (A.deeper<|envOfC x (Xe st) (~~~s) f XC)->sp vs H Q E->
   ∃t,PSs (Wy Xb P w K mg base N x (Xe st) f XC A outer s H E).nox (ZY st) t/\t {nx:=λ_ H'=>Q .non H',rt:=Q} (start N vs) H):WR P w base Xb q (k+1) sp:=q.fn.ok (Rq S) len hbody
def DfA.okX(q:DfA K mg x st f fd ps)(N:List Str)(S:ET N ps (Xe st))(len:∀vs H Q E,sp vs H Q E->vs.length=ps.length)
  (hbody:∀XC A outer s H vs Q E,Room k (A.deeper<|envOfC x (Xe st) (~~~s) f XC)->sp vs H Q E->
   ∃t,PSs (Wy (Va P w) P w K mg base N x (Xe st) f XC A outer s H E) (ZY st) t/\t {nx:=λ_ H'=>Q .non H',rt:=Q} (start N vs) H):WR P w base (Va P w) q (k+1) sp:=q.fn.okX (Rq S) len hbody
end
end L2
namespace My
open PySem L2
def FQ(K:Ad)(mg:Af)(x:Str)(st:Stmt)(ps:List Str):(Prop):=∃f fd,DfA K mg x st f fd ps
def zH{K:Ad}{h:Heap}{mg:Af}{x:Str}{st:Stmt}{ps:List Str}{f:Addr}{oc:Value}{od an:Option Addr}{Ti:Array (Option Value)}{kV doc pm XC ct:Value}(X:K.In h)(G:h.Ns mainGlobals mg)
  (a:PySem.W.nsIn K mainGlobals x=some (some<|.ref f))(l:K.lookup f=some ⟨oc,od,.func<|PySem.W.fnOf x x (Kj st) (ZY st) (Xe st) .none kV doc pm an XC ct,Ti⟩)(c:PySem.W.codeIn K XC x=true)(k:PySem.W.keepIn K ↑f=true)
  (b:∀kV doc pm an XC ct us,us.length=ps.length->bindArgs (PySem.W.fnOf x x (Kj st) (ZY st) (Xe st) .none kV doc pm an XC ct) ⟨us,[]⟩=pure (ps.zip us)):FQ K mg x st ps:=
 ⟨f,_,LW l c k,(LW l c k).binds b,Kt X G a⟩
def iX:(List Str):=["count","cheapest"]
def iW:(List Str):=["tree","row","rank"]
def zE:(List Str):=["number","place","next","share"]
def isN(w:Str):(Bool):=Ar w.cps.toList
def zD(x0:Str)(r:List Str):(Prop):=(x0∈iX/\r.length+1=1)\/(x0∈iW/\r.length+1=2/\r.all isN=true)\/(x0∈zE/\1<r.length+1/\(r=[("-":Str)]\/r.all isN=true))
instance:Decidable (zD x0 r):=by unfold zD;infer_instance
def zC{F M:Ac}{o z:Int}(g:Zu n ps)(hF:Zg n ps F)(ho:o∈F)(hz:z∉F)(z0:0<=z)(z1:z<ps⁻¹)(hp:M.Perm (wo F o++[z]))(hs:M.Pairwise (·<=·)):Zg n ps M↔exg n ps F o z:=
 ⟨λh=>Zg6 g hF hp h ho hz z0 z1,λh=>Cd g hF h hp hs⟩
def Zr8{F:Ac}(g:Zu n ps)(hR:RowW n ps R)(hF:Zg n ps F)(VP:∀U,Zg n ps U->HT.lexLt U F=false)(hl:1<R.length):
  ∃z o,z∈WW n ps [] [] F/\(∀y∈WW n ps [] [] F,z<=y)/\exg n ps F o z/\(∀x,exg n ps F x z->x<=o)/\R[R.length-1]?=some (xchT F o z):=by
 let NK:=TH.mpr hF;let Rr:∀U,With n ps [] [] U->HT.lexLt U F=false:=λU hU=>VP U hU.1
 let Xr:∀v∈([]:Ac),0<=v/\v<ps⁻¹:=λv h=>by cases h
 let⟨ld,F',inc,fu,hP,h1,h2,KW,_⟩:=id hR;let eF:F'=F:=Xo (VP F' hP.tr.1) (hP.least F NK)
 subst eF;cases ld with
 |none=>
  exfalso;let eo:=h1.mp rfl
  cases KW with
  |und GH _ _=>
   let⟨rfl,rfl,rfl⟩:=hP.uniq GH;let e:inc=[]:=EF.mpr λz hz=>by
    have:=(Yd.mp<|(EW hP.inc).mem_iff.mp hz).1
    rw[eo]at this;cases this
   subst e;show absurd hl (by change ¬1<1;decide)
 |some z=>
  let zo:=(h2 z Z).1;let⟨T2,_,_,NJ⟩:=SV g none (zU g Xr NK zo);let⟨o,o1,e,o2⟩:=ZP9 g NK (KY zo) Rr NJ.tr NJ.least;let lv:∀x,x∈WC n ps [] F' z↔exg n ps F' x z:=λx=>by unfold WC;rw[Yd,Xk];exists λh=>⟨h.1.1,λe=>KY zo<|e▸h.1.1,h.1.2⟩,λh=>⟨⟨h.1,h.2.2⟩,B⟩
  exists z,o,zo,(h2 z Z).2,(lv o).mp o1,λx hx=>o2 x<|(lv x).mpr hx,by rw[<-e];show u7 g Xr KW NK Rr (KY zo) NJ.tr NJ.least
def top(i:Nat):(Stmt):=PySem.Challenge.pw_spanrow_k38_whole_each_tree_once.main.body.getD i (.Pass ⟨0,0,0,0⟩)
abbrev sZ8:Stmt:=di (top 19) 0
abbrev sZv:Stmt:=di (top 49) 0
abbrev sZO:Stmt:=top 68
set_option genInjectivity false in
structure Adr where
 (aZ0 aZ1 aZ2 aZ3 aZ4 aZ5 aZ6 aZ7 aZ8 aZ9 aZa aZb aZc aZd aZe aZf aZg aZh aZi aZj aZk aZl aZm aZn aZo aZp aZq aZr aZs aZt aZu aZv aZw aZx aZy aZz aZA aZB aZC aZD aZE aZF aZG aZH aZI aZJ aZK aZL aZM aZN aZO A_Web A_Part A_WebError A_NoTree A_NoSuch A_Parted:Addr)
 (dZ0 dZ1 dZ2 dZ3 dZ4 dZ5 dZ6 dZ7 dZ8 dZ9 dZa dZb dZc dZd dZe dZf dZg dZh dZi dZj dZk dZl dZm dZn dZo dZp dZq dZr dZs dZt dZu dZv dZw dZx dZy dZz dZA dZB dZC dZD dZE dZF dZG dZH dZI dZJ dZK dZL dZM dZN dZO:FuncData)
structure Txt(K:Ad)(mg:Af)(t:Adr):Prop where
 qZ0:DfA K mg "refuse_not_square" (top 10) t.aZ0 t.dZ0 ["table"]
 qZ1:DfA K mg "row_taken_off" (top 11) t.aZ1 t.dZ1 ["row","pivot","last"]
 qZ2:DfA K mg "first_with_some" (top 12) t.aZ2 t.dZ2 ["rows"]
 qZ3:DfA K mg "determinant" (top 13) t.aZ3 t.dZ3 ["table"]
 qZ4:DfA K mg "row_without" (top 14) t.aZ4 t.dZ4 ["row","number"]
 qZ5:DfA K mg "table_without" (top 15) t.aZ5 t.dZ5 ["table","number"]
 qZ6:DfA K mg "is_tie" (top 21) t.aZ6 t.dZ6 ["web","number"]
 qZ7:DfA K mg "refuse_bad_web" (top 20) t.aZ7 t.dZ7 ["places","ties"]
 fZ8:Fun K "__init__" "Web.__init__" sZ8 t.aZ8 t.dZ8
 bZ8:Binds K t.dZ8 ["self","places","ties"] []
 qZ9:DfA K mg "all_ties" (top 22) t.aZ9 t.dZ9 ["web"]
 qZa:DfA K mg "ties_beside" (top 23) t.aZa t.dZa ["web","ties"]
 qZb:DfA K mg "ties_without" (top 24) t.aZb t.dZb ["ties","left_out"]
 qZc:DfA K mg "is_set" (top 25) t.aZc t.dZc ["web","ties"]
 qZd:DfA K mg "made_set" (top 26) t.aZd t.dZd ["web","ties"]
 qZe:DfA K mg "merged_marks" (top 27) t.aZe t.dZe ["web","marks","ties"]
 qZf:DfA K mg "piece_marks" (top 28) t.aZf t.dZf ["web","ties"]
 qZg:DfA K mg "pieces_of" (top 29) t.aZg t.dZg ["web","ties"]
 qZh:DfA K mg "is_joined" (top 30) t.aZh t.dZh ["web","ties"]
 qZi:DfA K mg "refuse_parted" (top 31) t.aZi t.dZi ["web"]
 qZj:DfA K mg "weighted_table" (top 33) t.aZj t.dZj ["web","weights"]
 qZk:DfA K mg "pull_table" (top 34) t.aZk t.dZk ["web"]
 qZl:DfA K mg "tree_count" (top 35) t.aZl t.dZl ["web"]
 qZm:DfA K mg "part_count" (top 36) t.aZm t.dZm ["web","inside","outside"]
 qZn:DfA K mg "is_tree" (top 38) t.aZn t.dZn ["web","ties"]
 qZo:DfA K mg "refuse_no_tree" (top 39) t.aZo t.dZo ["web","tree"]
 qZp:DfA K mg "grown_tree" (top 40) t.aZp t.dZp ["web","inside","order"]
 qZq:DfA K mg "tree_cut" (top 41) t.aZq t.dZq ["web","tree","tie"]
 qZr:DfA K mg "ring_of" (top 42) t.aZr t.dZr ["web","tree","tie"]
 qZs:DfA K mg "least_in" (top 44) t.aZs t.dZs ["web","inside","outside"]
 qZt:DfA K mg "end_pieces" (top 47) t.aZt t.dZt ["web","marks","tie"]
 qZu:DfA K mg "open_ties" (top 48) t.aZu t.dZu ["web","marks","gone"]
 fZv:Fun K "__init__" "Part.__init__" sZv t.aZv t.dZv
 bZv:Binds K t.dZv ["self","web","kept","shut","lead"] []
 qZw:DfA K mg "whole_part" (top 50) t.aZw t.dZw ["web"]
 qZx:DfA K mg "half_without" (top 51) t.aZx t.dZx ["part"]
 qZy:DfA K mg "half_with" (top 52) t.aZy t.dZy ["part"]
 qZz:DfA K mg "part_size" (top 53) t.aZz t.dZz ["part"]
 qZA:DfA K mg "trees_with_tie" (top 54) t.aZA t.dZA ["part","into"]
 qZB:DfA K mg "undivided_row" (top 55) t.aZB t.dZB ["part"]
 qZC:DfA K mg "trees_between" (top 56) t.aZC t.dZC ["part","size","start","stop"]
 qZD:DfA K mg "refuse_below_nought" (top 45) t.aZD t.dZD ["number"]
 qZE:DfA K mg "row_from" (top 57) t.aZE t.dZE ["web","number","most"]
 qZF:DfA K mg "row_at" (top 58) t.aZF t.dZF ["web","number"]
 qZG:DfA K mg "row_last" (top 59) t.aZG t.dZG ["web"]
 qZH:DfA K mg "_law_at" (top 61) t.aZH t.dZH ["script","k"]
 qZI:DfA K mg "_law_mixed" (top 62) t.aZI t.dZI ["cell","k"]
 qZJ:DfA K mg "_law_ties" (top 63) t.aZJ t.dZJ ["script","count","most"]
 qZK:DfA K mg "_law_trees" (top 64) t.aZK t.dZK ["count","ties"]
 qZL:DfA K mg "_law_parted" (top 65) t.aZL t.dZL ["web"]
 qZM:DfA K mg "_law_one_step" (top 66) t.aZM t.dZM ["one","other"]
 qZN:DfA K mg "_law_last" (top 67) t.aZN t.dZN ["ties","trees"]
 qZO:DfA K mg "law" sZO t.aZO t.dZO ["script"]
 c_Web:mg "Web"=some (.ref t.A_Web)
 cl_Web:Cls K t.A_Web
 k_Web:Mk K t.A_Web t.aZ8
 n_Web_places:NoAttr K t.A_Web "places"
 n_Web_ties:NoAttr K t.A_Web "ties"
 c_Part:mg "Part"=some (.ref t.A_Part)
 cl_Part:Cls K t.A_Part
 k_Part:Mk K t.A_Part t.aZv
 n_Part_web:NoAttr K t.A_Part "web"
 n_Part_kept:NoAttr K t.A_Part "kept"
 n_Part_shut:NoAttr K t.A_Part "shut"
 n_Part_lead:NoAttr K t.A_Part "lead"
 n_Part_least:NoAttr K t.A_Part "least"
 n_Part_incoming:NoAttr K t.A_Part "incoming"
 n_Part_further:NoAttr K t.A_Part "further"
 c_WebError:mg "WebError"=some (.ref t.A_WebError)
 c_NoTree:mg "NoTree"=some (.ref t.A_NoTree)
 c_NoSuch:mg "NoSuch"=some (.ref t.A_NoSuch)
 c_Parted:mg "Parted"=some (.ref t.A_Parted)
 x_Parted:XCls K (t.A_Parted)
 ki_Parted_ValueError:PySem.W.kitOne K (.ref<|t.A_Parted) (.type "ValueError")=some true
 ki_Parted_NoTree:PySem.W.kitOne K (.ref<|t.A_Parted) (.ref<|t.A_NoTree)=some false
 ki_Parted_NoSuch:PySem.W.kitOne K (.ref<|t.A_Parted) (.ref<|t.A_NoSuch)=some false
 em_Parted:PySem.W.exmOne K (.ref<|t.A_Parted) (.ref<|t.A_WebError)=some true
 g_MOST_PLACES:∃tk,mg "MOST_PLACES"=some (.int 14 tk)
 g_MOST_TIES:∃tk,mg "MOST_TIES"=some (.int 30 tk)
 n_ValueError:mg "ValueError"=none
 n_enumerate:mg "enumerate"=none
 n_int:mg "int"=none
 n_isinstance:mg "isinstance"=none
 n_len:mg "len"=none
 n_list:mg "list"=none
 n_max:mg "max"=none
 n_min:mg "min"=none
 n_range:mg "range"=none
 n_reversed:mg "reversed"=none
 n_set:mg "set"=none
 n_sorted:mg "sorted"=none
 n_tuple:mg "tuple"=none
 n_zip:mg "zip"=none
end My
namespace My
open PySem L2 PyProof.Rows
set_option maxHeartbeats 4000000
section
variable{P:Program}{w:World}{K:Ad}{mg:Af}{base:Heap}{t:Adr}
inductive spZ0(K:Ad)(vs:List V)(H:Hp)(Q:VK)(_:XK):Prop
 |mk (a kd xs L:_) (_:vs=[.ref a]) (_:SqK kd K H a xs) (_:Bears (AS K H) xs L) (_:((∀l∈L,l.length=L.length)->Q .non H)) (_:(¬(∀l∈L,l.length=L.length)->False))
def iV(T:Txt K mg t):WR P w base Xb T.qZ0 1 (spZ0 K):=by
 show T.qZ0.okI ["table","row"] DX λXC A outer s H vs Q E hr h=>?_
 .let⟨a,kd,xs,L,rfl,hS,hB,q,qe⟩:=h;show⟨_,(XE (Sb SI Z (Kf K<|pv 0) (Zc 1)
   (XE (VZ (Zh PU (Ze (Zk K) Ea T.n_len Boot.«len»<|XY (pv 1) XT) (Ze (Zk K) Ea T.n_len Boot.«len»<|XY (pv 0) XT)<|Zq _)
   (XE Mh)
   Zr)))),?_⟩
  let MT:=hB.1;exists _,Z,a,Z,wL (K:=K) (k:=kd) (a:=a) (xs:=xs) (λi σ H2=>∃v1,σ=[some ↑a,v1]/\H2=H/\∀l∈L.take i,l.length=L.length) ⟨none,Z,Z,λl h=>(by cases h)⟩ (λi σ H2 _ zz=>by let⟨_,_,e,_⟩:=zz;show e▸hS) ?_ ?_
  .rintro i v σ H2 hi ⟨v1,rfl,rfl,UL⟩;let⟨l,hl,r,k,rfl,hr⟩:=hB.at hi;show nm ?_;exists _,Z,r,_,Z,hr.or,_,Z,a,xs,Z,hS.or,Z,_,Z,?_;rw[Xp,Zx];show WH (λe=>?_) (λe=>?_)
   .exists _,Z,Z,λm hm=>?_;rw[WB,hl]at hm;rcases XA.mp hm with h|h
    .show UL m h
    .let Ke:m=l:=by simpa using h
     rw[Ke];lia
   .show qe λh=>e (by rw[h l (Xg hl),MT])
  .rintro σ H2 ⟨v1,rfl,rfl,UL⟩;rw[MT,YS]at UL;show q UL
inductive spZ1(K:Ad)(vs:List V)(H:Hp)(Q:VK)(_:XK):Prop
 |mk (r p x y last l q:_) (_:vs=[.ref r,.ref p,.int last]) (_:SqL K H r (IL<|x::l)) (_:SqL K H p (IL<|y::q)) (_:l.length=q.length) (_:l.length<=1000) (_:last≠0) (_:last.natAbs<2^9000) (_:(∀z∈x::l,z.natAbs<2^9000)) (_:(∀z∈y::q,z.natAbs<2^9000)) (_:∀c H',Same H H'->H c=none->H' c=some (.lst<|IL<|NU y q last<|x::l)->Q ↑c H')
def iU(T:Txt K mg t):WR P w base Xb T.qZ1 1 (spZ1 K):=by
 show T.qZ1.okI ["row","pivot","last"] DX λXC A outer s H vs Q E hr h=>?_
 .let⟨r,p,x,y,last,l,q',rfl,hR,hP,hlq,hl,l0,l1,hx,hy,q⟩:=h;exists _,(XE<|Zm<|Wf Z (sc0:=Xe<|top 11) (N0:=["row","pivot","last"]) (N':=["own","other","pivot","row","last"]) (o:=2) (fr:=[1,0,2]) ⟨Z,DX,DX,DX,Z,DX⟩ (Hh K Z T.n_zip<|XY (LY (LR K) (pv 0) (Ni Zb) Km)<|XY (LY (LR K) (pv 1) (Ni Zb) Km) XT) (HZ<|ZQ sZ<|ZQ sZ Ia) (λ_ _ _ _=>(VE (n:=2) K Z<|Zn (Zc 0)<|Zn (Zc 1) VI)) (λ_ _ _ _=>Nh) λ_ _ _ _=>(ZB AW (ZB Mb (ZB Hc (ZK (Zd K) (pv 2) Zb λ_ _=>rfl)<|pv 0)<|ZB Hc (ZK (Zd K) (pv 3) Zb λ_ _=>rfl)<|pv 1)<|pv 4)),?_;exists _,Z,_,Z,r,_,Z,hR,λp1 Us=>?_;rw[aT];let s1:=XZ (o:=.lst<|IL l) Us
  exists _,Z,_,Z,p,_,Z,s1.seq hP,λp2 VT=>?_;rw[aT];let s2:=XZ (o:=.lst<|IL q') VT
  let Wt:=s1.trans s2;let h1:=s2 _ _ (XQ (H:=H) (a:=p1) (o:=.lst<|IL l))
  let h2:(upd (upd H p1<|.lst<|IL l) p2<|.lst<|IL q') p2=some (.lst<|IL q'):=XQ;generalize upd (upd H p1<|.lst<|IL l) p2 (.lst<|IL q')=H2 at *;show⟨p1,p2,Z,⟨_,_,SqL.of h1,SqL.of h2⟩,my (K:=K) (a:=p1) (b:=p2) (xs:=IL l) (ys:=IL q') (λi zs H3=>Same H2 H3/\i<=l.length/\zs=IL ((NU y q' last<|x::l).take i)) ⟨Same.refl _,Ym _,Z⟩ (by rwa[Xp,Xp]) (Zj<|by rw[Xp];lia)
   (λi zs H3 hi zz=>by let⟨e,Uz,ez⟩:=zz;show⟨SqL.of<|e _ _ h1,SqL.of<|e _ _ h2,by rw[ez,Xp,Yl];lia⟩) ?_ ?_⟩
  .rintro i u v zs H3 pt UW hu hv ⟨s3,Ut,rfl⟩ S Xh;let⟨own,rfl,ho⟩:=Um hu;let⟨HI,rfl,ht⟩:=Um hv;let Xn:=(Xy.mp ho).1
   let s4:=XZ (o:=.tup [.int own,.int HI]) UW;exists pt,_,Z,SqT.of XQ,Z,_,_,Z,_,_,Z,Z,?_;let Ur:=Wt.trans (s3.trans s4)
   let a1:=hy y Yc;let a2:=hx own (Ye _<|Xg ho)
   let a3:=hx x Yc;let a4:=hy HI (Ye _<|Xg ht)
   exists _,Z,p,_,0,.int y,Z,Z,Ur.seq hP,ZJ (n:=0) Z Z,_,Z,_,_,Z,Z,⟨a1,a2⟩,_,Z,r,_,0,.int x,Z,Z,Ur.seq hR,ZJ (n:=0) Z Z,_,Z,_,_,Z,Z,⟨a3,a4⟩,_,_,Z,Z,_,Z,_,_,Z,Z,⟨l0,l1⟩,?_;show Xh _ _ ⟨s3.trans s4,Xn,?_⟩;let e:(NU y q' last<|x::l)[i]?=some ((y*own-x*HI).fdiv last):=by change(List.zipWith _ l q')[i]?=_;rw[FY,ho,ht];rfl
   rw[WB,e];show(ZX _ _).symm
  .rintro zs H3 ⟨s3,_,rfl⟩ c hc;rw[Xp,YJ (by rw[aV (by rw[YF,hlq])];lia)];show q c _ (Wt.trans<|s3.trans<|XZ hc) ((Wt.trans s3).free hc) XQ
inductive spZ2(K:Ad)(vs:List V)(H:Hp)(Q:VK)(_:XK):Prop
 |mk (a ys R:_) (_:vs=[.ref a]) (_:SqL K H a ys) (_:Bears (MZ H) ys R) (_:(∀l∈R,0<l.length)) (_:(∀H':Hp,Same H H'->(∀i,i<R.length->fnL R i 0=0)->Q .non H')) (_:(∀t H',Same H H'->t<R.length->fnL R t 0≠0->Q (.int t) H'))
def iT(T:Txt K mg t):WR P w base Xb T.qZ2 1 (spZ2 K):=by
 show T.qZ2.okI ["rows","at","row"] DX λXC A outer s H vs Q E hr h=>?_
 .let⟨a,ys,R,rfl,hS,hB,hp,q0,q1⟩:=h;show⟨_,(XH (Sb SI Z (LQ K Z T.n_enumerate<|XY (pv 0) XT) (VE (n:=2) K Z<|Zn (Zc 1)<|Zn (Zc 2) VI)
   (XE (VZ (Zh PU (ZK (Zd K) (pv 2) Zb λ_ _=>rfl) Zb<|Zq _)
   (XE<|Zm<|pv 1)
   Zr)))
   (XE<|Zm xc)),?_⟩
  let Lq:=hB.1;exists _,Z,a,Z,⟨_,hS⟩,wI (K:=K) (a:=a) (xs:=ys) (λi σ H2=>∃v1 v2,σ=[some ↑a,v1,v2]/\Same H H2/\∀j,j<i->fnL R j 0=0) ⟨none,none,Z,Same.refl _,λj h=>absurd h<|Sf _⟩ (λi σ H2 _ zz=>by let⟨_,_,_,e,_⟩:=zz;show e.seq hS) ?_ ?_
  .rintro i v σ H2 pt UW hi ⟨v1,v2,rfl,s2,hz⟩;let⟨l,hl,r,rfl,hr⟩:=hB.at hi;let NI:=hp l (Xg hl)
   obtain⟨x,l',rfl⟩:∃x l',l=x::l':=by
    cases l with
    |nil=>show absurd NI (PZ 0)
    |cons x l'=>exists x,l',Z
   let e0:fnL R i 0=x:=Ui hl rfl;let s3:=s2.trans (XZ (o:=.tup [.int i,.ref r]) UW)
   exists pt,_,Z,SqT.of XQ,Z,_,_,Z,_,_,Z,Z,?_;generalize upd H2 pt (.tup [.int i,.ref r])=H3 at *;exists _,Z,r,_,0,.int x,Z,Z,SqL.of<|s3 _ _ hr,ZJ (n:=0) Z Z,Z,_,Z,?_;rw[Zx];show WH (λe=>?_) (λe=>?_)
   .exists _,_,Z,s3,λj hj=>?_;cases c:j=i
    .rw[c,e0,e]
    .show hz j J
   .exists _,Z,q1 i H3 s3 (by have:=(Xy.mp hl).1;show this)<|by rwa[e0]
  .rintro σ H2 ⟨v1,v2,rfl,s2,hz⟩;show q0 H2 s2 λi hi=>hz i J
inductive spZ3(K:Ad)(vs:List V)(H:Hp)(Q:VK)(_:XK):Prop
 |mk (a kd xs L:_) (_:vs=[.ref a]) (_:SqK kd K H a xs) (_:Bears (AS K H) xs L) (_:L.length<=16) (_:(∀i j,i<L.length->j<L.length->(fnL L i j).natAbs<=2^400)) (_:((∀l∈L,l.length=L.length)->∀H':Hp,Same H H'->Q (.int<|det L.length<|fnL L) H')) (_:(¬(∀l∈L,l.length=L.length)->∀H':Hp,Same H H'->False))
def iS{s rest:TS}{D:Ends}{σ:L2.St}{H:Hp}(P:L2.St->Hp->Prop)(h1:∀σ' H',P σ' H'->rest D σ' H')(h2:∀K:L2.St->Hp->Prop,(∀σ' H',P σ' H'->K σ' H')->s {D with nx:=K} σ H):Ts s rest D σ H:=h2 _ h1
def NH:FnScope ["table","rows","sign","last","at","pivot"] ["table"] (Xe (top 13)):=Rq DX
def iR(T:Txt K mg t):WR P w base Xb T.qZ3 2 (spZ3 K):=by
 show T.qZ3.okI ["table","rows","sign","last","at","pivot"] DX λXC A outer s H vs Q E hr h=>?_
 .let⟨a,kd,xs,L,rfl,hS,hB,zB,ES,q,qe⟩:=h;show⟨_,(XH (VJ<|Xf (iV T) hr T.qZ0 ZD<|XY (pv 0) XT)
   (XH (RF (i:=1) Z NH.nd Z Z (sc0:=Xe<|top 13) (N0:=["table","rows","sign","last","at","pivot"]) (N':=["row"]) (o:=1) (fr:=[]) ⟨Z,DX,DX,DX,Z,DX⟩ (Kf K<|pv 0) (ZF sZ) (λ_ _ _ _=>(Zc 0)) (λ_ _ _ _=>Nh) λ_ _ _ _=>(Zo (Fw K) Ea T.n_list Boot.«list»<|XY (pv 0) XT))
   (XH (Zf 2 Zb)
   (XH (Rh (i:=3) NH.nd Z (Or.inr Z) Zb)
   (XH (sd SI (Zh Rf (Ze (Zk K) Ea T.n_len Boot.«len»<|XY (pv 1) XT) Zb<|Zq _)
   (XH (Zf 4<|Xf (iT T) hr T.qZ2 ZD<|XY (pv 1) XT)
   (XH (VZ (Zh DB (pv 4) xc<|Zq _)
   (XE<|Zm Zb)
   Zr)
   (XH (VZ (Zh Rg (ZB Sz (pv 4) Zb) Zb<|Zq _)
   (XE<|Zf 2<|OY DF<|pv 2)
   Zr)
   (XH (Rh (i:=5) NH.nd Z (Or.inr Z)<|OI K Nv PySem.F.slot_list_pop PySem.F.type_list_pop CY (pv 1)<|XY (pv 4) XT)
   (XH (RF (i:=1) Z NH.nd Z Z (sc0:=Xe<|top 13) (N0:=["table","rows","sign","last","at","pivot"]) (N':=["row","pivot","last"]) (o:=1) (fr:=[5,3]) ⟨Z,DX,DX,DX,Z,DX⟩ (ZU K<|pv 1) (ZF sZ) (λ_ _ _ _=>(Zc 0)) (λ_ _ _ _=>Nh) λ_ _ _ _=>(Xf (iU T) hr T.qZ1 ZD<|XY (pv 0)<|XY (pv 1)<|XY (pv 2) XT))
   (XE<|Rh (i:=3) NH.nd Z (Or.inr Z)<|ZK (Zd K) (pv 5) Zb λ_ _=>rfl)))))))
   (XE<|Zm<|ZB Hc (pv 2)<|pv 3)))))),?_⟩
  let MT:=hB.1;exists _,Z,a,kd,xs,L,Z,hS,hB,λOg=>?_,λh=>qe h H<|Same.refl H;let q:=q Og
  obtain⟨n,hn⟩:∃n,n=L.length:=⟨_,Z⟩;rw[<-hn]at q Og ES zB;exists _,Z,a,Z,wJ (K:=K) (k:=kd) (a:=a) (xs:=xs) (λi zs H2=>Same H H2/\i<=xs.length/\Bears (MZ H2) zs (L.take i)) ⟨Same.refl _,Ym _,⟨Z,λi l e=>by simp at e⟩⟩ (Zj J) (λi zs H2 hi zz=>by let⟨e,Uz,ez⟩:=zz;show⟨hS.same e,by rw[ez.1,Yl];lia⟩) ?_ ?_
  .rintro i v zs H2 hi ⟨s2,Ut,hZ⟩ S Xh;let⟨l,hl,r,k,rfl,hr⟩:=hB.at hi;let Xn:=(Xy.mp hi).1
   show nm ?_;exists _,Z,r,_,Z,(hr.same s2).or,λc hc=>Xh _ _ ⟨s2.trans<|XZ hc,Xn,?_⟩;rw[WB,hl];show(hZ.imp λ_ _ zz=>by let⟨r',e,h⟩:=zz;exists r',e,XZ hc _ _ h).snoc ⟨c,Z,XQ⟩
  rintro zs H2 ⟨s2,_,hZ⟩ rA KU;rw[MT,YS]at hZ;let s3:=s2.trans (XZ (o:=.lst zs) KU)
  exists λm σ H4=>∃A k rA ys R sgn last v4 v5,σ=[some ↑a,some<|.ref rA,some<|.int sgn,some<|.int last,v4,v5]/\Same H H4/\H rA=none/\H4 rA=some (.lst ys)/\Bears (LiV rA H4) ys R/\R.length=m/\(∀l∈R,l.length=m)/\k+m=n/\QT A k m (fnL R) last/\det n (fnL L)=sgn*det n A/\(∀i j,i<n->j<n->(A i j).natAbs<=2^400)/\(m=0->last=det n A)/\(sgn=1\/sgn=-1)/\last.natAbs<2^9000,⟨n,fnL L,0,rA,zs,L,1,1,none,none,Z,s3,s2.free KU,XQ,?_,hn.symm,Og,J,Zj9 _ _,sV,ES,λe=>by rw[e];rfl,.inl Z,Nat.one_lt_two_pow sZ⟩,?_
  .show hZ.imp λv l zz=>by let⟨r,e,h⟩:=zz;exists r,e,XZ KU _ _ h,Za h KU
  rintro m σ H4 ⟨A,k,rA,ys,R,sgn,last,v4,v5,rfl,s4,Uq,Ju,hR,ER,NG,u6,KS,GG,hAb,iQ,hsg,hlb⟩;let Lq:=hR.1
  exists _,Z,rA,ys,Z,.inl<|SqL.of Ju,_,_,Z,Z,_,Z,?_;show WN (λLK=>?_) (λLK=>?_)
  .obtain⟨M,rfl⟩:∃M,m=M+1:=⟨m-1,J⟩;exists _,λσ' H' h=>⟨M,Np M,h⟩,?_;let Cu:∀l∈R,∀z∈l,z.natAbs<2^9000:=λl hl z hz=>by
    let⟨i,hi⟩:=YC hl;let⟨j,hj⟩:=YC hz;let h1:=(Xy.mp hi).1
    let h2:=(Xy.mp hj).1;let h3:=NG l hl
    have:=Zk9 KS u6 zB hAb (i:=i) (j:=j) J J
    rwa[Ui hi hj]at this
   exists _,Z,rA,ys,R,Z,SqL.of Ju,hR.imp λ_ _ h=>h.list,λl hl=>by rw[NG l hl];lia,λH5 s5 h0=>?_,λt H5 s5 ht XM=>?_
   .exists _,Z,Z,_,Z,?_;show wM (c:=V.non=V.non) Z ?_;let z:det n A=0:=by
     have:=AZ KS λi hi=>h0 i J
     rwa[show k+M+1=n by lia]at this
    rw[GG,z,Rk]at q;show q H5 (s4.trans s5)
   exists _,Z,Z,_,Z,?_;show HX (c:=V.int (t:Int)=V.non) (λz=>nomatch z) ?_;show nm ?_;dsimp only;show iS (λσ H6=>∃KR:Int,H6=H5/\σ=[some ↑a,some<|.ref rA,some<|.int KR,some<|.int last,some<|.int t,v5]/\KR=sgn*sg t) ?_ ?_
   .rintro σ H6 ⟨KR,rfl,rfl,zA⟩;let EO:=s5 _ _ Ju
    let hR6:=hR.imp λ_ _ h=>h.same s5;obtain⟨l,hl⟩:∃l,R[t]?=some l:=⟨_,Xs ht⟩;let Lk:=NG l (Xg hl)
    obtain⟨y,p',rfl⟩:∃y p',l=y::p':=by
     cases l with
     |nil=>cases Lk
     |cons y p'=>exists y,p',Z
    let Vg:p'.length=M:=by rw[YF]at Lk;lia
    let⟨v,hv,pA,rfl,EN,hpn⟩:=hR6.2 t _ hl;let u5:y≠0:=by rwa[Ui hl Z]at XM
    show⟨_,Z,.inl ⟨Z,_,SqL.of EO⟩,_,Z,rA,ys,(t:Int),t,.ref pA,Z,Z,EO,J,J,by rw[oH J J,YK],hv,?_⟩;let zy:(upd H6 rA<|.lst<|ys.eraseIdx t) pA=some (.lst<|IL<|y::p'):=by rwa[XJ hpn]
    let s7:Same H (upd H6 rA<|.lst<|ys.eraseIdx t):=ZI Uq (s4.trans s5);let hR7:Bears (LiV rA<|upd H6 rA<|.lst<|ys.eraseIdx t) (ys.eraseIdx t) (R.eraseIdx t):=(hR6.erase t).imp λ_ _ h=>h.mut
    let zx:(upd H6 rA<|.lst<|ys.eraseIdx t) rA=some (.lst<|ys.eraseIdx t):=XQ;generalize upd H6 rA (.lst<|ys.eraseIdx t)=H7 at *;let eRl:(R.eraseIdx t).length=M:=by rw[t9,if_pos ht];lia
    let GF:∀l∈R.eraseIdx t,l.length=M+1:=λl h=>NG l (Eg h);let hy7:=hR7.1
    exists _,Z,rA,Z,⟨_,SqL.of zx⟩,Nb (K:=K) (a:=rA) (xs:=ys.eraseIdx t) (λi zs H8=>Same H7 H8/\i<=(ys.eraseIdx t).length/\Bears (MZ H8) zs (((R.eraseIdx t).take i).map (NU y p' last))) ⟨Same.refl _,Ym _,⟨Z,λi l e=>by simp at e⟩⟩ (Zj J) (λi zs H8 hi zz=>by let⟨e,Uz,ez⟩:=zz;show⟨SqL.of<|e _ _ zx,by rw[ez.1,Yb,Yl];lia⟩) ?_ ?_
    .rintro i v zs H8 hi ⟨s8,Ut,uZ⟩ S Xh;let⟨l,JI,r,rfl,hr,_⟩:=hR7.at hi;let Xn:=(Xy.mp hi).1
     let Vj:=GF l (Xg JI);obtain⟨x,l',rfl⟩:∃x l',l=x::l':=by
      cases l with
      |nil=>cases Vj
      |cons x l'=>exists x,l',Z
     let QD:l'.length=M:=by rw[YF]at Vj;lia
     show nm ?_;exists _,Z,_,Z,_,Z,r,pA,x,y,last,l',p',Z,SqL.of<|s8 _ _ hr,SqL.of<|s8 _ _ zy,J,J,KS.1,hlb,Cu _<|Eg<|Xg JI,Cu _<|Xg hl,λc H9 s9 zw hc=>Xh _ _ ⟨s8.trans s9,Xn,?_⟩;rw[WB,JI,YQ];show(uZ.imp λ_ _ zz=>by let⟨r',e,h⟩:=zz;exists r',e,s9 _ _ h).snoc ⟨c,Z,hc⟩
    rintro zs H8 ⟨s8,_,uZ⟩ cA iP;rw[hy7,YS]at uZ;let s9:=XZ (o:=.lst zs) iP
    exists _,Z,pA,_,0,.int y,Z,Z,SqL.of<|s9 _ _<|s8 _ _ zy,ZJ (n:=0) Z Z,?_;let vy:QT (λi=>A<|rotN k t i) k (M+1) (fnL<|(y::p')::R.eraseIdx t) last:=by rw[lW hl];show l5 KS J
    let GN:QT (λi=>A<|rotN k t i) (k+1) M (fnL<|(R.eraseIdx t).map (NU y p' last)) y:=l8 vy u5 λi j hi hj=>lV Vg eRl GF hi hj;let hdr:=mi (n:=n) (k:=k) (t:=t) (A:=A) J
    exists λi=>A<|rotN k t i,k+1,cA,zs,(R.eraseIdx t).map (NU y p' last),KR,y,_,_,Z,s7.trans<|s8.trans s9,(s7.trans s8).free iP,XQ,?_,by rw[Yb];show eRl,λl h=>?_,J,GN,?_,λi j hi hj=>hAb _ _ ?_ hj,λe0=>?_,?_,Cu _ (Xg hl) y Yc
    .show uZ.imp λv l zz=>by let⟨r,e,h⟩:=zz;exists r,e,s9 _ _ h,Za h iP
    .let⟨l0,h0,rfl⟩:=YN.mp h;rw[aV (by rw[GF l0 h0,Vg]),Vg]
    .rw[hdr,GG,zA,Rl,<-Rl (sg t),lS,VR]
    .unfold rotN;split
     .grind
     .split
      .lia
      .split<;>lia
    .subst e0
     have:=lZ vy
     rwa[show k+1=n by lia]at this
    .rw[zA];let WV:sg t=1\/sg t=-1:=by
      unfold sg;split
      .show .inl rfl
      .show .inr rfl
     rcases hsg with e|e<;>rcases WV with f|f<;>rw[e,f]
     .show .inl rfl
     .show .inr rfl
     .show .inr rfl
     .show .inl rfl
   .intro Kn hK;exists _,Z,_,_,Z,Z,(by change(0:Int)<2;decide),Z,_,Z,?_;rw[Zx];show WN (λh1=>?_) (λh1=>?_)
    .exists _,Z,_,Z,hK _ _ ⟨-sgn,Z,Z,?_⟩;let e:sg t=-1:=by unfold sg;rw[if_neg J]
     rw[e];lia
    .show hK _ _ ⟨sgn,Z,Z,?_⟩;let e:sg t=1:=by unfold sg;rw[if_pos J]
     rw[e];grind
  .let Py:m=0:=J;exists _,Z,_,Z,_,_,Z,Z,⟨?_,hlb⟩,?_
   .rcases hsg with e|e<;>rw[e]<;>show Nat.one_lt_two_pow sZ
   .rw[iQ Py]at *;rw[GG]at q;show q H4 s4
inductive spZ4(K:Ad)(vs:List V)(H:Hp)(Q:VK)(_:XK):Prop
 |mk (a:Addr) (l:Ac) (i:Nat) (_:vs=[.ref a,.int i]) (_:SqL K H a (IL l)) (_:l.length<=1000) (_:∀r H',Same H H'->H r=none->H' r=some (.lst<|IL<|cutz l i)->Q ↑r H')
def iO(l:Ac)(z:Int):cutz (IL l) z=IL (cutz l z):=by
 unfold cutz;change(l.map V.int).take _++(l.map V.int).drop _=(l.take _++l.drop _).map V.int
 rw[YQ,List.map_take,List.map_drop]
def iN(T:Txt K mg t):WR P w base Xb T.qZ4 1 (spZ4 K):=by
 show T.qZ4.okI ["row","number"] DX λXC A outer s H vs Q E hr h=>?_
 .let⟨a,l,i,rfl,hA,hl,q⟩:=h;exists _,(XE<|Zm<|ZB OS (Zo (Fw K) Ea T.n_list Boot.«list»<|XY (LY (LR K) (pv 0) Km<|Ni<|pv 1) XT)<|Zo (Fw K) Ea T.n_list Boot.«list»<|XY (LY (LR K) (pv 0) (Ni<|ZB VH (pv 1) Zb) Km) XT),?_;exists _,Z,_,Z,(i:Int),Z,a,_,Z,hA,λp1 Us=>?_;let u1:=XZ (o:=.lst<|WK (IL l) none<|some (i:Int)) Us
  exists p1,_,Z,.inl<|SqL.of XQ,λp2 VT=>?_;let u2:=XZ (o:=.lst<|WK (IL l) none<|some (i:Int)) VT
  exists _,Z,_,Z,_,_,Z,Z,_,Z,a,_,Z,(u1.trans u2).seq hA,λp3 MQ=>?_;let u3:=XZ (o:=.lst<|WK (IL l) (some<|(i:Int)+1) none) MQ
  exists p3,_,Z,.inl<|SqL.of XQ,λp4 Jt=>?_;let u4:=XZ (o:=.lst<|WK (IL l) (some<|(i:Int)+1) none) Jt
  let c1:=wV (IL l) none (some (i:Int));let c2:=wV (IL l) (some<|(i:Int)+1) none
  rw[Xp]at c1 c2;exists p2,p4,_,_,Z,Z,(u3.trans u4) _ _ XQ,XQ,LS J,λp5 uY=>?_;let u14:=u1.trans (u2.trans<|u3.trans u4)
  show q p5 _ (u14.trans<|XZ uY) (u14.free uY) ?_;rw[XQ,mY J,iO]
inductive spZ5(K:Ad)(vs:List V)(H:Hp)(Q:VK)(_:XK):Prop
 |mk (a:Addr) (ys:List V) (L:Ab) (i:Nat) (_:vs=[.ref a,.int i]) (_:SqL K H a ys) (_:Bears (MZ H) ys L) (_:L.length<=1000) (_:(∀l∈L,l.length<=1000)) (_:i<L.length) (_:∀r zs H',Same H H'->H' r=some (.lst zs)->Bears (MZ H') zs ((cutz L i).map λl=>cutz l (i:Int))->Q ↑r H')
def ZG5{α:Type}{l:List α}{i j:Nat}{x:α}(hx:l[j]?=some x):cutz (l.take (j+1)) (i:Int)=cutz (l.take j) (i:Int)++(if j=i then [] else [x]):=by
 let hj:=(Xy.mp hx).1;let e:l.take (j+1)=l.take j++[x]:=by rw[WB,hx];rfl
 let hl:(l.take j).length=j:=by rw[Yl];grind
 let short:∀m:List α,m.length<=i->cutz m (i:Int)=m:=λm hm=>by unfold cutz;rw[YK,YJ hm,YO J,Yx]
 rw[e];cases c:j=i
 .subst c;rw[if_pos Z,Yx,short (l.take j) J];unfold cutz;rw[YK,Gd J,YO (by rw[Xw,hl];show XN _),Yx,YJ J]
 .rw[if_neg c];cases d:j<i
  .rw[short (l.take j++[x]) (by rwa[Xw,hl]),short (l.take j) J]
  .unfold cutz;rw[YK,Gd sV,EE J,Yw]
def iM(T:Txt K mg t):WR P w base Xb T.qZ5 2 (spZ5 K):=by
 show T.qZ5.okI ["table","number"] DX λXC A outer s H vs Q E hr h=>?_
 .let⟨a,ys,L,i,rfl,hA,hB,hL,iL,hi,q⟩:=h;exists _,(XE<|Zm<|Wf Z (sc0:=Xe<|top 15) (N0:=["table","number"]) (N':=["at","row","number"]) (o:=2) (fr:=[1]) ⟨Z,DX,DX,DX,Z,DX⟩ (LQ K Z T.n_enumerate<|XY (pv 0) XT) (HZ<|ZQ sZ<|ZQ sZ Ia) (λ_ _ _ _=>(VE (n:=2) K Z<|Zn (Zc 0)<|Zn (Zc 1) VI)) (λ_ _ _ _=>(VG<|Zh PU (pv 0) (pv 2)<|Zq _)) λ_ _ _ _=>(Xf (iN T) hr T.qZ4 ZD<|XY (pv 1)<|XY (pv 2) XT)),?_;let Lq:=hB.1
  show⟨_,Z,a,Z,⟨_,hA⟩,Oz (K:=K) (a:=a) (xs:=ys) (λj zs H2=>Same H H2/\j<=ys.length/\Bears (MZ H2) zs ((cutz (L.take j) (i:Int)).map λl=>cutz l (i:Int))) ⟨Same.refl _,Ym _,by rw[show(cutz (L.take 0) (i:Int)).map (λl=>cutz l (i:Int))=[] by unfold cutz;simp];show⟨Z,λi l e=>by simp at e⟩⟩ (Zj J) (λj zs H2 hj ⟨e,Qo,ez⟩=>⟨e.seq hA,by
   rw[ez.1,Yb];show Yr (mX _ _) ?_;rw[Yl]
   lia⟩) ?_ ?_⟩
  .rintro j v zs H2 pt UW hj ⟨s2,Uv,hZ⟩ S Xh;let⟨l,hl,r,rfl,hr⟩:=hB.at hj;let Wa:=(Xy.mp hj).1
   let s3:=XZ (o:=.tup [.int j,.ref r]) UW;exists pt,_,Z,SqT.of XQ,Z,_,_,Z,_,_,Z,Z,?_;let hZ3:Bears (MZ<|upd H2 pt<|.tup [.int j,.ref r]) zs ((cutz (L.take j) (i:Int)).map λl=>cutz l (i:Int)):=hZ.imp λ_ _ zz=>by let⟨r',e,h⟩:=zz;exists r',e,s3 _ _ h
   let EM:=s2.trans s3;generalize upd H2 pt (.tup [.int j,.ref r])=H3 at *;exists _,Z,_,Z,Z,_,Z,?_;rw[Zx];show WH (λe=>?_) (λe=>?_)
   .show Xh _ _ ⟨EM,Wa,?_⟩;rwa[ZG5 hl,if_pos J,Yx]
   .exists _,Z,_,Z,r,l,i,Z,SqL.of<|EM _ _ hr,iL l<|Xg hl,λc H4 s4 _ hc=>Xh _ _ ⟨EM.trans s4,Wa,?_⟩;rw[ZG5 hl,if_neg J,YQ];show(hZ3.imp λ_ _ zz=>by let⟨r',e,h⟩:=zz;exists r',e,s4 _ _ h).snoc ⟨c,Z,hc⟩
  .rintro zs H2 ⟨s2,_,hZ⟩ p hp;rw[Lq,YS]at hZ;show q p zs _ (s2.trans<|XZ hp) XQ (hZ.imp λ_ _ zz=>by let⟨r',e,h⟩:=zz;exists r',e,XZ hp _ _ h)
inductive spZ6(C:Addr)(vs:List V)(H:Hp)(Q:VK)(_:XK):Prop
 |mk (w n ps k:_) (_:vs=[.ref w,.int k]) (_:WebAt C H w n ps) (_:Q (.bl<|decide<|0<=k/\k<ps⁻¹) H)
def zv(T:Txt K mg t):WR P w base Xb T.qZ6 1 (spZ6 t.A_Web):=by
 show T.qZ6.okI ["web","number"] DX λXC A outer s H vs Q E hr h=>?_
 .let⟨w,n,ps,k,rfl,⟨dx,tl,xs,h1,h2,h3⟩,q⟩:=h;exists _,(XE<|Zm<|rM UQ UR Zb (pv 1)<|Ze (Zk K) Ea T.n_len Boot.«len»<|XY (Zl K (pv 0) Z) XT),?_;exists _,Z,_,_,Z,Z,_,Z,?_;show CU (λhc=>?_) (λhc=>?_)
  .exists _,Z,w,_,dx,_,_,Z,h1,T.cl_Web,T.n_Web_ties,OK _ _,tl,xs,Z,.inl<|SqL.of h2,_,_,Z,Z,?_;let hc:=Yy hc
   change Q (.bl<|decide<|k<xs⁻¹) H;rwa[h3.1,show decide (k<ps⁻¹)=decide (0<=k/\k<ps⁻¹) from by simp[hc]]
  .let hc:¬(0<=k):=λz=>hc (Yv z);change Q (.bl false) H
   rwa[show(false:Bool)=decide (0<=k/\k<ps⁻¹) from by simp;lia]
inductive spZ7(K:Ad)(vs:List V)(H:Hp)(Q:VK)(_:XK):Prop
 |mk (n a kd xs ps:_) (_:vs=[.int n,.ref a]) (_:SqK kd K H a xs) (_:PairsV H xs ps) (_:Zu n ps) (_:Q .non H)
def iK(T:Txt K mg t):WR P w base Xb T.qZ7 1 (spZ7 K):=by
 show T.qZ7.okI ["places","ties","ends","end"] DX λXC A outer s H vs Q E hr h=>?_
 .let⟨n,a,kd,xs,ps,rfl,hS,hp,⟨g1,g2,g3,g4⟩,q⟩:=h;show⟨_,(XH (VZ (Kr<|dI UQ UQ Zb (pv 0)<|Pd (v:=V.int 14) Z T.g_MOST_PLACES.choose_spec ⟨_,Z⟩)
   (XE Mh)
   Zr)
   (XH (VZ (Zh Rf (Ze (Zk K) Ea T.n_len Boot.«len»<|XY (pv 1) XT) (Pd (v:=V.int 30) Z T.g_MOST_TIES.choose_spec ⟨_,Z⟩)<|Zq _)
   (XE Mh)
   Zr)
   (XE (Sb SI Z (Kf K<|pv 1) (Zc 2)
   (XE (Sb SI Z (CH K<|pv 2) (Zc 3)
   (XE (VZ (Kr<|dI UQ UR Zb (pv 3)<|pv 0)
   (XE Mh)
   Zr)))))))),?_⟩
  exists _,Z,_,_,Z,Z,_,Z,?_;show wM g1 ?_;exists _,_,Z,Z,_,Z,?_;show pW g2 ?_;exists _,Z,a,xs,Z,hS.or,_,_,Z,Z,_,Z,?_;show HX (by rw[hp.1];lia) ?_;exists _,Z,a,Z,wL (k:=kd) (K:=K) (xs:=xs) (λi σ H2=>∃v v2,σ=[some (.int n),some<|.ref a,v,v2]/\H2=H) ⟨none,none,Z,Z⟩ (λi σ H2 _ zz=>by let⟨_,_,_,e⟩:=zz;show e▸hS) ?_ ?_
  .rintro i x σ H2 hi ⟨v,v2,rfl,rfl⟩;let⟨p,Qy,tt,rfl,ht⟩:=hp.at hi;let⟨e1,e2,e3,e4⟩:=g4 p (Xg Qy);exists _,Z,tt,Z,⟨_,SqT.of ht⟩,rR (K:=K) (a:=tt) (xs:=[.int p.1,.int p.2]) (λj σ H3=>∃v v2,σ=[some (.int n),some<|.ref a,v,v2]/\H3=H2) ⟨_,_,Z,Z⟩ (λj σ H3 _ zz=>by let⟨_,_,_,e⟩:=zz;show e▸SqT.of ht) ?_ ?_
   .rintro j y σ H3 hj ⟨v,v2,rfl,rfl⟩;let hy:∃z:Int,y=.int z/\0<=z/\z<n:=by
     match j,hj with
     |0,hj=>exists p.1,(Yi hj).symm,e1,e2
     |1,hj=>exists p.2,(Yi hj).symm,e3,e4
    let⟨z,rfl,z1,z2⟩:=hy;exists _,Z,_,_,Z,Z,_,Z,?_;show wM z1 ?_;exists _,Z,_,_,Z,Z,_,Z,?_;show pW z2 ?_;exists _,_,Z,Z
   .rintro σ H3 ⟨v,v2,rfl,rfl⟩;exists _,_,Z,Z
  .rintro σ H2 ⟨v,v2,rfl,rfl⟩;show q
inductive sp_Web_init(K:Ad)(C:Addr)(vs:List V)(H:Hp)(Q:VK)(_:XK):Prop
 |mk (w dx n a kd xs ps:_) (_:vs=[.ref w,.int n,.ref a]) (_:H w=some (.ins C dx [])) (_:(∀o,SqK kd K (upd H w o) a xs)) (_:PairsV H xs ps) (_:Zu n ps) (_:∀H':Hp,WebAt C H' w n ps->(∀b o,H b=some o->b≠w->H' b=some o)->Q .non H')
def iJ:FnScope ["self","places","ties"] ["self","places","ties"] (Xe sZ8):=Rq DX
def zu(T:Txt K mg t):FnOk P w K mg base Xb 2 t.aZ8 t.dZ8 ["self","places","ties"] (sp_Web_init K t.A_Web):=by
 show T.fZ8.ok iJ (λvs H Q E h=>?_) (λXC A outer s H vs Q E hr h=>?_)
 .let⟨w,dx,n,a,kd,xs,ps,rfl,_⟩:=h;rfl
 .let⟨w,dx,n,a,kd,xs,ps,rfl,hw,hS,hp,g,q⟩:=h;let eH:upd H w (.ins t.A_Web dx [])=H:=by
   funext b
   cases hb:b=w
   .subst hb;rw[XQ,hw]
   .rw[XJ hb]
  let Fs:SqK kd K H a xs:=by let z:=hS (.ins t.A_Web dx []);rwa[eH]at z
  show⟨_,(XH (VJ<|Xf (iK T) hr T.qZ7 ZD<|XY (pv 1)<|XY (pv 2) XT)
   (XH (Ma (pv 0) (pv 1) Z)
   (XE<|Ma (pv 0) (Wf Z (sc0:=Xe sZ8) (N0:=["self","places","ties"]) (N':=["ends"]) (o:=1) (fr:=[]) ⟨Z,DX,DX,DX,Z,DX⟩ (Kf K<|pv 2) (ZF sZ) (λ_ _ _ _=>(Zc 0)) (λ_ _ _ _=>Nh) λ_ _ _ _=>(To<|XY (ZK (ZE K) (pv 0) Zb λ_ _=>rfl)<|XY (ZK (ZE K) (pv 0) Zb λ_ _=>rfl) XT)) Z))),?_⟩
  exists _,Z,_,Z,n,a,kd,xs,ps,Z,Fs,hp,g,?_;exists _,Z,_,Z,w,_,dx,[],Z,hw,T.cl_Web,T.n_Web_places,(by change 0<1000;decide),?_;let Us:PairsV (upd H w<|.ins t.A_Web dx<|XO "places" (.int n) []) xs ps:=⟨hp.1,λi p e=>by let⟨v,e1,tt,e2,e3⟩:=hp.2 i p e;show⟨v,e1,tt,e2,by rwa[XJ (PX e3 hw (λz=>nomatch z))]⟩⟩
  let sx:xs.length<sizeLine:=Zj (by rw[hp.1];have:=g.2.2.1;lia);show⟨_,Z,a,Z,wJ (k:=kd) (K:=K) (xs:=xs) (λi ys H2=>i<=xs.length/\ys.length=i/\Same (upd H w<|.ins t.A_Web dx<|XO "places" (.int n) []) H2/\PairsV H2 ys (ps.take i)) ⟨Ym _,Z,Same.refl _,PairsV.nil⟩ sx
   (λi ys H2 _ zz=>by let⟨_,hl,s2,_⟩:=zz;exists (hS _).same s2,xq hl) ?_ ?_⟩
  .rintro i x ys H2 hi ⟨h1,hl,s2,hy⟩ S Xh;let⟨p,Qy,tt,rfl,ht⟩:=Us.at hi;let GD:=s2 _ _ ht
   show cZ ?_;exists _,Z,tt,_,0,.int p.1,Z,Z,SqT.of GD,Z,_,Z,tt,_,1,.int p.2,Z,Z,SqT.of GD,Z,(by change 2<=sizeLine;decide),λq hq=>?_;let Ut:i<xs.length:=(Xy.mp hi).1
   show Xh _ _ ⟨Ut,by rw[Xw,hl];rfl,Zv s2 hq,?_⟩;rw[WB,Qy];show(hy.same<|XZ hq).snoc ⟨q,Z,XQ⟩
  .rintro ys H2 ⟨_,hl,s2,hy⟩ tl iI;let uX:=s2 w _ XQ
   let nwt:w≠tl:=Za uX iI;exists _,Z,w,_,dx,_,Z,(by rwa[XJ nwt]),T.cl_Web,T.n_Web_ties,(by change 1<1000;decide),?_;show q _ ⟨dx,tl,ys,XQ,by rw[XJ (Xc nwt),XQ],?_⟩ λb ob e hb=>?_
   .let e1:ps.take xs.length=ps:=YJ (by rw[hp.1];show XN _);rw[e1]at hy;exists hy.1,λi p e=>?_;let⟨v,e2,tt,e3,e4⟩:=hy.2 i p e;exists v,e2,tt,e3,by rwa[XJ (PX e4 uX (λz=>nomatch z)),XJ (Za e4 iI)]
   .let e2:=s2 b ob (by rwa[XJ hb]);rwa[XJ hb,XJ (Za e2 iI)]
inductive spZ9(K:Ad)(C:Addr)(vs:List V)(H:Hp)(Q:VK)(_:XK):Prop
 |mk (w n ps:_) (_:vs=[.ref w]) (_:WebAt C H w n ps) (_:ps.length<=1000) (_:∀r H',Same H H'->H r=none->H' r=some (.tup<|IL<|VS ps.length)->Q ↑r H')
def iH(T:Txt K mg t):WR P w base Xb T.qZ9 1 (spZ9 K t.A_Web):=by
 show T.qZ9.okI ["web"] DX λXC A outer s H vs Q E hr h=>?_
 .let⟨w,n,ps,rfl,⟨dx,tl,xs,h1,h2,h3⟩,hl,q⟩:=h;exists _,(XE<|Zm<|Zo (ZC3 Z) Ea T.n_tuple Boot.«tuple»<|XY (Zo qi Ea T.n_range Boot.«range»<|XY (Ze (Zk K) Ea T.n_len Boot.«len»<|XY (Zl K (pv 0) Z) XT) XT) XT),?_;let hx:=h3.1
  exists _,Z,w,_,dx,_,_,Z,h1,T.cl_Web,T.n_Web_ties,OK _ _,tl,xs,Z,.inl<|SqL.of h2,_,Z,λr hr=>⟨r,0,_,Z,XQ,⟨sZ,sZ,J,J⟩,J,λl hl=>?_⟩;show q l _ (Zv (XZ hr) hl) ((XZ hr).free hl) ?_;rw[XQ,hx,n6]
inductive spZa(K:Ad)(C:Addr)(vs:List V)(H:Hp)(Q:VK)(_:XK):Prop
 |mk (w a n ps kd T:_) (_:vs=[.ref w,.ref a]) (_:WebAt C H w n ps) (_:ps.length<=1000) (_:SqK kd K H a (IL T)) (_:∀D,D.Pairwise (·<·)->(∀z,z∈D↔(0<=z/\z<ps⁻¹)/\z∉T)->∀r H',Same H H'->H' r=some (.tup<|IL D)->Q ↑r H')
def iG(T:Txt K mg t):WR P w base Xb T.qZa 1 (spZa K t.A_Web):=by
 show T.qZa.okI ["web","ties"] DX λXC A outer s H vs Q E hr h=>?_
 .let⟨w,a,n,ps,kd,T',rfl,hW,hl,hA,q⟩:=h;exists _,(XE<|Zm<|Zo (ZN K) Ea T.n_tuple Boot.«tuple»<|XY (Wf Z (sc0:=Xe<|top 23) (N0:=["web","ties"]) (N':=["tie","ties"]) (o:=1) (fr:=[1]) ⟨Z,DX,DX,DX,Z,DX⟩ (rW Z T.n_range<|XY (Ze (Zk K) Ea T.n_len Boot.«len»<|XY (Zl K (pv 0) Z) XT) XT) (ZF sZ) (λ_ _ _ _=>(Zc 0)) (λ_ _ _ _=>(VG<|Zh (HS K) (pv 0) (pv 1) Z)) λ_ _ _ _=>(pv 0)) XT),?_;let⟨dx,tl,xs,h1,h2,h3⟩:=hW;let RT:=h3.1
  exists _,Z,w,_,dx,_,_,Z,h1,T.cl_Web,T.n_Web_ties,OK _ _,tl,xs,Z,.inl<|SqL.of h2,_,Z,J,J,cW (lo:=0) (n:=(xs.length:Int).toNat) (λj ys H3=>H3=H/\∃D:Ac,ys=IL D/\D.length<=j/\D.Pairwise (·<·)/\∀z,z∈D↔(0<=z/\z<(j:Int))/\z∉T') ⟨Z,[],Z,XN _,.nil,λz=>⟨λh=>(by cases h),λh=>(by lia)⟩⟩ (Zj J) (λj ys H3 _ zz=>by let⟨_,D,e,hl,_⟩:=zz;rwa[e,Xp]) ?_ ?_
  .rintro j ys H3 hj ⟨rfl,D,rfl,hDl,hp,hm⟩ S Xh;let lt:∀z∈D,z<(j:Int):=λz hz=>((hm z).mp hz).1.2
   show nm ?_;exists _,Z,_,Z,a,_,Z,hA.or,Z,Tg _,_,Z,?_;rw[LO,FL];show WH (λWl=>?_) (λWl=>?_)
   .show Xh _ _ ⟨Z,D,Z,J,hp,λz=>?_⟩;rw[hm z];exists λh=>⟨J,h.2⟩,λh=>⟨⟨h.1.1,?_⟩,h.2⟩;cases e:z=(j:Int)
    .show absurd (e▸Wl) h.2
    .lia
   .exists _,Z,Xh _ _ ⟨Z,D++[(j:Int)],?_,by rw[Xw];show Nat.succ_le_succ hDl,?_,λz=>?_⟩
    .rw[ZX]
    .show YH.mpr ⟨hp,Ky _ _,λa ha b hb=>by rw[XG.mp hb];show lt a ha⟩
    .rw[XA,XG,hm z];constructor
     .rintro(⟨f1,f2⟩|h)
      .exists J,f2
      .rw[h];exists J,Wl
     .rintro⟨f1,f2⟩;cases e:z=(j:Int)
      .show .inr e
      .show .inl ⟨J,f2⟩
  rintro ys H3 ⟨rfl,D,rfl,hDl,hp,hm⟩ la GC;rw[show(((xs.length:Int).toNat:Nat):Int)=ps⁻¹ by lia]at hm;exists la,_,Z,.inl ⟨SqL.of XQ,λtp OB=>?_⟩;show q D hp hm tp _ ((XZ GC).trans (XZ OB)) XQ
inductive spZb(K:Ad)(vs:List V)(H:Hp)(Q:VK)(_:XK):Prop
 |mk (a kd ns z:_) (_:vs=[.ref a,.int z]) (_:SqK kd K H a (IL ns)) (_:ns.length<=1000) (_:∀r H',Same H H'->H r=none->H' r=some (.tup<|IL<|wo ns z)->Q ↑r H')
def zt(T:Txt K mg t):WR P w base Xb T.qZb 1 (spZb K):=by
 show T.qZb.okI ["ties","left_out"] DX λXC A outer s H vs Q E hr h=>?_
 .let⟨a,kd,ns,z,rfl,hS,hn,q⟩:=h;exists _,(XE<|Zm<|Zo (ZN K) Ea T.n_tuple Boot.«tuple»<|XY (Wf Z (sc0:=Xe<|top 24) (N0:=["ties","left_out"]) (N':=["tie","left_out"]) (o:=1) (fr:=[1]) ⟨Z,DX,DX,DX,Z,DX⟩ (Kf K<|pv 0) (ZF sZ) (λ_ _ _ _=>(Zc 0)) (λ_ _ _ _=>(VG<|Zh PU (pv 0) (pv 1)<|Zq _)) λ_ _ _ _=>(pv 0)) XT),?_;show⟨_,Z,a,Z,wJ (k:=kd) (K:=K) (xs:=IL ns) (λi ys H2=>H2=H/\i<=ns.length/\ys=IL (wo (ns.take i) z)) ⟨Z,Ym _,Z⟩ (Zj<|by rw[Xp];lia)
   (λi ys H2 hi zz=>by let⟨e,Uz,ey⟩:=zz;show⟨e▸hS,by rw[ey,Xp];show Yr (wc _ _)<|by rw[Yl];lia⟩) ?_ ?_⟩
  .rintro i x ys H2 hi ⟨rfl,Ut,rfl⟩ S Xh;let⟨y,rfl,hy⟩:=Um hi;let Xn:i<ns.length:=(Xy.mp hy).1
   show nm ?_;exists _,Z,_,Z,Z,_,Z,?_;rw[Zx];show WH (λhe=>?_) (λhe=>?_)
   .show Xh _ _ ⟨Z,Xn,?_⟩;rw[wb hy,if_neg (by simpa using he),Yx]
   .exists _,Z,Xh _ _ ⟨Z,Xn,?_⟩;rw[wb hy,if_pos he,ZX]
  .rintro ys H2 ⟨rfl,_,rfl⟩ p hp;rw[Xp,YS];exists p,_,Z,.inl ⟨SqL.of XQ,λr hr=>?_⟩;show q r _ (Zv (XZ hp) hr) ((XZ hp).free hr) XQ
inductive spZc(K:Ad)(C:Addr)(vs:List V)(H:Hp)(Q:VK)(_:XK):Prop
 |mk (w a n ps kd ns:_) (_:vs=[.ref w,.ref a]) (_:WebAt C H w n ps) (_:SqK kd K H a (IL ns)) (_:∀b:Bool,(b=true↔IsSet ps.length ns)->Q (.bl b) H)
def zr(T:Txt K mg t):WR P w base Xb T.qZc 2 (spZc K t.A_Web):=by
 show T.qZc.okI ["web","ties","last","tie"] DX λXC A outer s H vs Q E hr h=>?_
 .let⟨w,a,n,ps,kd,ns,rfl,hW,hS,q⟩:=h;show⟨_,(XH (Zf 2<|OY DF Zb)
   (XH (Sb SI Z (Kf K<|pv 1) (Zc 3)
   (XH (VZ (PW.pt<|Ri (Zh UQ (pv 3) (pv 2)<|Zq _)<|xa<|Kr<|IC<|Xf (zv T) hr T.qZ6 ZD<|XY (pv 0)<|XY (pv 3) XT)
   (XE<|Zm Mi)
   Zr)
   (XE<|Zf 2<|pv 3)))
   (XE<|Zm Mi))),?_⟩
  exists _,Z,?_;show⟨_,Z,a,Z,wL (k:=kd) (K:=K) (xs:=IL ns) (λi σ H2=>∃l v,σ=[some ↑w,some<|.ref a,some<|.int l,v]/\H2=H/\(i=0->l=-1)/\(i≠0->ns[i-1]?=some l)/\∀j z,j<i->ns[j]?=some z->0<=z/\z<ps⁻¹/\∀y,j≠0->ns[j-1]?=some y->y<z)
   ⟨-1,none,Z,Z,λ_=>rfl,λz=>absurd Z z,λj z hj=>absurd hj<|Sf j⟩ (λi σ H2 _ zz=>by let⟨_,_,_,e,_⟩:=zz;show e▸hS) ?_ ?_⟩
  .rintro i x σ H2 hi ⟨l,v,rfl,rfl,NS,RR,hp⟩;let⟨z,rfl,hz⟩:=Um hi;exists _,Z,_,Z,_,_,Z,Z,_,Z,?_;show WN (λhc=>?_) (λhc=>?_)
   .-- tie<=last
    show Th ?_;show q false ⟨λz=>(nomatch z),λhs=>?_⟩;let⟨b1,b2,b3⟩:=hs i z hz;cases h0:i=0
    .have:=NS h0;lia
    .have:=b3 l h0 (RR h0);lia
   .exists _,Z,_,Z,w,n,ps,z,Z,hW,_,Z,?_;show WH (λUP=>?_) (λUP=>?_)
    .exists _,Z,?_;show⟨z,_,Z,Z,λe=>(nomatch e),λ_=>by simpa using hz,λj y hj ey=>?_⟩;cases hji:j<i
     .show hp j y hji ey
     .let e:j=i:=J;subst e;rw[hz]at ey;cases ey;exists UP.1,UP.2,λy h0 ey=>?_;rw[RR h0]at ey;cases ey;lia
    .show q false ⟨λz=>(nomatch z),λhs=>?_⟩;let⟨b1,b2,b3⟩:=hs i z hz;show absurd ⟨b1,b2⟩ UP
  .rintro σ H2 ⟨l,v,rfl,rfl,NS,RR,hp⟩;show q true ⟨λ_ i z hz=>?_,λ_=>rfl⟩;let hi:i<(IL ns).length:=by rw[Xp];show(Xy.mp hz).1
   show hp i z hi hz
inductive spZd(K:Ad)(C:Addr)(vs:List V)(H:Hp)(Q:VK)(_:XK):Prop
 |mk (w a n ps kd ns:_) (_:vs=[.ref w,.ref a]) (_:WebAt C H w n ps) (_:SqK kd K H a (IL ns)) (_:IsSet ps.length ns) (_:∀r H',Same H H'->SqT K H' r (IL ns)->Q ↑r H')
def iF(T:Txt K mg t):WR P w base Xb T.qZd 3 (spZd K t.A_Web):=by
 show T.qZd.okI ["web","ties"] DX λXC A outer s H vs Q E hr h=>?_
 .let⟨w,a,n,ps,kd,ns,rfl,hW,hS,hI,q⟩:=h;show⟨_,(XH (VZ (Kr<|IC<|Xf (zr T) hr T.qZc ZD<|XY (pv 0)<|XY (pv 1) XT)
   (XE Mh)
   Zr)
   (XE<|Zm<|Zo (ZN K) Ea T.n_tuple Boot.«tuple»<|XY (pv 1) XT)),?_⟩
  exists _,Z,_,Z,w,a,n,ps,kd,ns,Z,hW,hS,λb hb=>⟨_,Z,?_⟩;show HW (λ_=>?_) (λz=>?_)
  .exists _,Z,a,IL ns,Z,?_;cases kd with
   |false=>show .inl ⟨hS,λl hl=>q l _ (XZ hl)<|SqT.of XQ⟩
   |true=>show .inr ⟨hS,q a H (Same.refl H) hS⟩
  .rw[hb.mpr hI]at z;cases z
inductive spZe(K:Ad)(C:Addr)(vs:List V)(H:Hp)(Q:VK)(_:XK):Prop
 |mk (w m a n ps M kd ns:_) (_:vs=[.ref w,.ref m,.ref a]) (_:WebAt C H w n ps) (_:Zu n ps) (_:H m=some (.lst<|IL M)) (_:M.length=n.toNat) (_:SqK kd K H a (IL ns)) (_:(∀z∈ns,0<=z/\z<ps⁻¹)) (_:∀m' H',Same H H'->(m'=m\/H m'=none)->H' m'=some (.lst<|IL<|MX M<|XS ps ns)->Q ↑m' H')
def GB:FnScope ["web","marks","ties","tie","ends","low","high"] ["web","marks","ties"] (Xe (top 27)):=Rq DX
def zq(T:Txt K mg t):WR P w base Xb T.qZe 1 (spZe K t.A_Web):=by
 show T.qZe.okI ["web","marks","ties","tie","ends","low","high"] DX λXC A outer s H vs Q E hr h=>?_
 .let⟨w,m0,a,n,ps,M0,kd,ns,rfl,⟨dx,tl,xs,h1,h2,h3⟩,⟨g1,g2,g3,g4⟩,hm,hlM,hS,hI,q⟩:=h;show⟨_,(XH (Sb SI Z (Kf K<|pv 2) (Zc 3)
   (XH (Zf 4<|ZK (Zd K) (Zl K (pv 0) Z) (pv 3) λ_ _=>rfl)
   (XH (Rh (i:=5) GB.nd Z (Or.inr Z)<|Ze (rL Z) Ea T.n_min Boot.«min»<|XY (ZK (Zd K) (pv 1) (ZK (ZE K) (pv 4) Zb λ_ _=>rfl) λ_ _=>rfl)<|XY (ZK (Zd K) (pv 1) (ZK (ZE K) (pv 4) Zb λ_ _=>rfl) λ_ _=>rfl) XT)
   (XH (Rh (i:=6) GB.nd Z (Or.inr Z)<|Ze (dH Z) Ea T.n_max Boot.«max»<|XY (ZK (Zd K) (pv 1) (ZK (ZE K) (pv 4) Zb λ_ _=>rfl) λ_ _=>rfl)<|XY (ZK (Zd K) (pv 1) (ZK (ZE K) (pv 4) Zb λ_ _=>rfl) λ_ _=>rfl) XT)
   (XE (VZ (Zh UR (pv 5) (pv 6)<|Zq _)
   (XE<|RF (i:=1) Z GB.nd Z Z (sc0:=Xe<|top 27) (N0:=["web","marks","ties","tie","ends","low","high"]) (N':=["mark","high","low"]) (o:=1) (fr:=[6,5]) ⟨Z,DX,DX,DX,Z,DX⟩ (ZU K<|pv 1) (ZF sZ) (λ_ _ _ _=>(Zc 0)) (λ_ _ _ _=>Nh) λ_ _ _ _=>(DP (Zh Rg (pv 0) (pv 1)<|Zq _) (pv 2)<|pv 0))
   Zr))))))
   (XE<|Zm<|pv 1)),?_⟩
  show⟨_,Z,a,Z,wL (k:=kd) (K:=K) (a:=a) (xs:=IL ns) (λi σ H2=>∃m v3 v4 v5 v6,σ=[some ↑w,some<|.ref m,some<|.ref a,v3,v4,v5,v6]/\Same H H2/\(m=m0\/H m=none)/\H2 m=some (.lst<|IL<|MX M0<|XS ps<|ns.take i))
   ⟨m0,none,none,none,none,Z,Same.refl _,.inl Z,hm⟩ (λi σ H2 _ zz=>by let⟨_,_,_,_,_,_,s2,_⟩:=zz;show hS.same s2) ?_ ?_⟩
  .rintro i x σ H2 hi ⟨m,v3,v4,v5,v6,rfl,s2,Py,Wi⟩;let⟨z,rfl,hz⟩:=Um hi;let⟨z0,z1⟩:=hI z (Xg hz);obtain⟨p,hp⟩:∃p,ps[z.toNat]?=some p:=⟨_,Xs J⟩;let⟨v,hv,tt,rfl,Uw⟩:=h3.2 z.toNat p hp;let⟨e1,e2,e3,e4⟩:=g4 p (Xg hp);let ed:ps.getD z.toNat (0,0)=p:=ZS hp
   exists _,Z,w,_,dx,_,_,Z,s2 _ _ h1,T.cl_Web,T.n_Web_ties,OK _ _,_,Z,tl,xs,z,.ref tt,Z,Z,SqL.of<|s2 _ _ h2,ZJ (n:=z.toNat) J hv,?_;let GD:=s2 _ _ Uw
   let hl:(MX M0<|XS ps<|ns.take i).length=n.toNat:=(n8 _ _).trans hlM;generalize hM:MX M0 (XS ps<|ns.take i)=M at *;let ha:M[p.1.toNat]?=some (mk M p.1.toNat):=Qz sV
   let hb:M[p.2.toNat]?=some (mk M p.2.toNat):=Qz sV;let iA:Wh (IL M) p.1=some (.int<|mk M p.1.toNat):=ZJ (n:=p.1.toNat) J (by rw[Yp,ha];rfl)
   let iB:Wh (IL M) p.2=some (.int<|mk M p.2.toNat):=ZJ (n:=p.2.toNat) J (by rw[Yp,hb];rfl);let t0:Wh ([.int p.1,.int p.2]:List V) 0=some (.int p.1):=rfl
   let t1:Wh ([.int p.1,.int p.2]:List V) 1=some (.int p.2):=rfl;exists _,rfl,_,rfl,tt,_,0,_,rfl,rfl,SqT.of GD,t0,m,_,p.1,_,rfl,rfl,SqL.of Wi,iA,_,rfl,_,rfl,tt,_,1,_,rfl,rfl,SqT.of GD,t1,m,_,p.2,_,rfl,rfl,SqL.of Wi,iB,_,_,rfl,?_;exists _,rfl,_,rfl,tt,_,0,_,rfl,rfl,SqT.of GD,t0,m,_,p.1,_,rfl,rfl,SqL.of Wi,iA,_,rfl,_,rfl,tt,_,1,_,rfl,rfl,SqT.of GD,t1,m,_,p.2,_,rfl,rfl,SqL.of Wi,iB,_,_,rfl,?_;let eL:(if mk M p.2.toNat<mk M p.1.toNat then mk M p.2.toNat else mk M p.1.toNat)=min (mk M p.1.toNat) (mk M p.2.toNat):=by rw[Int.min_def];split<;>split<;>lia
   let eH:(if mk M p.2.toNat>mk M p.1.toNat then mk M p.2.toNat else mk M p.1.toNat)=max (mk M p.1.toNat) (mk M p.2.toNat):=by rw[Int.max_def];split<;>split<;>lia
   exists _,Z,_,Z,_,_,Z,Z,_,Z,?_;rw[eL,eH];let step:MX M0 (XS ps<|ns.take<|i+1)=pm M p.1.toNat p.2.toNat:=by rw[Zh6 hz,n9,hM,ed]
   show WN (λhc=>?_) (λhc=>?_)
   .show⟨_,Z,m,Z,⟨_,SqL.of Wi⟩,Nb (K:=K) (a:=m) (xs:=IL M) (λj ys H3=>H3=H2/\j<=M.length/\ys=IL ((M.take j).map λk=>if k=max (mk M p.1.toNat) (mk M p.2.toNat) then min (mk M p.1.toNat) (mk M p.2.toNat) else k)) ⟨Z,Ym _,Z⟩ (Zj<|by rw[Xp];grind)
     (λj ys H3 hj zz=>by let⟨e,Uv,ey⟩:=zz;show⟨e▸SqL.of Wi,by rw[ey,Xp,Yb,Yl];lia⟩) ?_ ?_⟩
    .rintro j y ys H3 hj ⟨rfl,Uv,rfl⟩ S Xh;let⟨k,rfl,hk⟩:=Um hj;show cZ ?_;exists _,Z,_,Z,Z,_,Z,?_;let Wa:j<M.length:=(Xy.mp hk).1
     let app:∀r:Int,r=(if k=max (mk M p.1.toNat) (mk M p.2.toNat) then min (mk M p.1.toNat) (mk M p.2.toNat) else k)->
       IL ((M.take j).map λk=>if k=max (mk M p.1.toNat) (mk M p.2.toNat) then min (mk M p.1.toNat) (mk M p.2.toNat) else k)++[.int r]=IL ((M.take<|j+1).map λk=>if k=max (mk M p.1.toNat) (mk M p.2.toNat) then min (mk M p.1.toNat) (mk M p.2.toNat) else k):=by intro r er;rw[WB,hk,er];simp
     show WN (λhe=>?_) (λhe=>?_)
     .exists _,Z,Xh _ _ ⟨Z,Wa,app _ ?_⟩;rw[if_pos (V.int.inj he)]
     .exists _,Z,Xh _ _ ⟨Z,Wa,app _ ?_⟩;rw[if_neg λz=>he (QP V.int z)]
    .rintro ys H3 ⟨rfl,_,rfl⟩ p' GA;exists p',_,_,_,_,Z,Zv s2 GA,.inr<|s2.free GA,?_;rw[XQ,step,Xp,YS];unfold pm;rw[if_pos hc]
   .exists m,_,_,_,_,Z,s2,Py,?_;rw[Wi,step];unfold pm;rw[if_neg hc]
  .rintro σ H2 ⟨m,v3,v4,v5,v6,rfl,s2,Py,Wi⟩;rw[Xp,YS]at Wi;exists _,Z,q m H2 s2 Py Wi
inductive spZf(K:Ad)(C:Addr)(vs:List V)(H:Hp)(Q:VK)(_:XK):Prop
 |mk (w a n ps ns:_) (_:vs=[.ref w,.ref a]) (_:WebAt C H w n ps) (_:Zu n ps) (_:SqT K H a (IL ns)) (_:(∀z∈ns,0<=z/\z<ps⁻¹)) (_:∀m H',Same H H'->H m=none->H' m=some (.lst<|IL<|Xz n.toNat<|XS ps ns)->Q ↑m H')
def Qh(T:Txt K mg t):WR P w base Xb T.qZf 2 (spZf K t.A_Web):=by
 show T.qZf.okI ["web","ties"] DX λXC A outer s H vs Q E hr h=>?_
 .let⟨w,a,n,ps,ns,rfl,hW,hG,hS,hI,q⟩:=h;exists _,(XE<|Zm<|Xf (zq T) hr T.qZe ZD<|XY (pv 0)<|XY (Zo (c9 Z) Ea T.n_list Boot.«list»<|XY (Zo qi Ea T.n_range Boot.«range»<|XY (Zl K (pv 0) Z) XT) XT)<|XY (pv 1) XT),?_;let⟨dx,tl,xs,h1,h2,h3⟩:=id hW;let⟨g1,g2,g3,g4⟩:=id hG;exists _,Z,_,Z,w,_,dx,_,_,Z,h1,T.cl_Web,T.n_Web_places,HU _ _,n,Z,λr Uq=>⟨r,0,n,Z,XQ,⟨sZ,sZ,J,DW⟩,J,λm hm=>?_⟩;let sm:Same H (upd (upd H r<|.rng 0 n) m<|.lst<|(Wr 0 n).map V.int):=Zv (XZ Uq) hm
  exists _,Z,w,m,a,n,ps,(List.range n.toNat).map λ(i:Nat)=>(i:Int),true,ns,Z,hW.same sm,hG,?_,B,Kh sm hS,hI,λm' H' s' hf Ke=>?_
  .rw[XQ,CF]
  .show q m' H' (sm.trans s') ?_ Ke;rcases hf with rfl|hf
   .show(XZ Uq).free hm
   .show sm.free hf
inductive spZg(K:Ad)(C:Addr)(vs:List V)(H:Hp)(Q:VK)(_:XK):Prop
 |mk (w a n ps kd ns:_) (_:vs=[.ref w,.ref a]) (_:WebAt C H w n ps) (_:Zu n ps) (_:SqK kd K H a (IL ns)) (_:IsSet ps.length ns) (_:∀r as H',Same H H'->H r=none->H' r=some (.lst<|as.map V.ref)->r∉as->GrpAt H H' (HQ<|Xz n.toNat<|XS ps ns) as->Q ↑r H')
def iE(T:Txt K mg t):WR P w base Xb T.qZg 4 (spZg K t.A_Web):=by
 show T.qZg.okI ["web","ties","pieces","place","mark"] DX λXC A outer s H vs Q E hr h=>?_
 .let⟨w,a,n,ps,kd,ns,rfl,hW,hG,hS,hI,q⟩:=h;show⟨_,(XH (Zf 2 qF)
   (XH (Sb SI Z (LQ K Z T.n_enumerate<|XY (Xf (Qh T) hr T.qZf ZD<|XY (pv 0)<|XY (Xf (iF T) hr T.qZd ZD<|XY (pv 0)<|XY (pv 1) XT) XT) XT) (VE (n:=2) K Z<|Zn (Zc 3)<|Zn (Zc 4) VI)
   (XE<|VJ<|OI K Nv FZ Ga FA (OI K eK fh PySem.F.type_dict_setdefault qb (pv 2)<|XY (pv 4)<|XY (Tn XT) XT)<|XY (pv 3) XT))
   (XE<|Zm<|Zo (ZF3 Z) Ea T.n_list Boot.«list»<|XY (pT K eK eM PySem.F.type_dict_values ZE8<|pv 2) XT))),?_⟩
  intro d hd;let s0:Same H (upd H d<|.dK []):=XZ hd
  exists _,Z,_,Z,_,Z,w,a,n,ps,kd,ns,Z,hW.same s0,hS.same s0,hI,λr H1 s1 UU=>?_;exists w,r,n,ps,ns,Z,(hW.same s0).same s1,hG,UU,hI.all,λm H2 s2 TR Wi=>?_;let MO:Same H H2:=(s0.trans s1).trans s2
  let hd2:H2 d=some (.dK []):=s2 _ _ (s1 _ _ XQ);let hl:(Xz n.toNat<|XS ps ns).length=n.toNat:=Zw _ _
  generalize hM:Xz n.toNat (XS ps ns)=M at *;let Py:H m=none:=(s0.trans s1).free TR
  let n14:M.length<=14:=by have:=hG.2.1;grind
  exists m,Z,⟨_,SqL.of Wi⟩,?_;show wI (K:=K) (a:=m) (xs:=IL M) (λi σ H3=>∃as v3 v4,σ=[some ↑w,some<|.ref a,some<|.ref d,v3,v4]/\i<=M.length/\Same H H3/\H3 m=some (.lst<|IL M)/\H3 d=some (.dK<|Ul (Xt M i) as)/\d∉as/\m∉as/\GrpAt H H3 (Xt M i) as/\as.length<=i)
   ⟨[],none,none,Z,Ym _,MO,Wi,hd2,B,B,⟨Z,List.nodup_nil,λi kv a e=>by simp[Xt]at e,λa ha=>by simp at ha⟩,XN _⟩ (λi σ H3 _ zz=>by let⟨_,_,_,_,_,_,h,_⟩:=zz;show SqL.of h) ?_ ?_
  .rintro i x σ H3 pt UW hi ⟨as,v3,v4,rfl,Ut,s3,zp,QL,uW,uV,gA,hal⟩;let⟨k,rfl,hk⟩:=Um hi;let Uu:mk M i=k:=ZS hk
   let Xn:i<M.length:=(Xy.mp hk).1;let s4:Same H3 (upd H3 pt<|.tup [.int i,.int k]):=XZ UW
   exists pt,_,Z,SqT.of XQ,Z,_,_,Z,_,_,Z,Z,?_;exists _,Z,.inr<|.inr<|.inl ⟨Z,.inl ⟨_,s4 _ _ QL⟩⟩,_,Z,(by change 0<=sizeLine;show Ym _),λl NS=>?_;let s5:Same H3 (upd (upd H3 pt<|.tup [.int i,.int k]) l<|.lst []):=Zv s4 NS
   let hd5:=s5 _ _ QL;let KQ:H3 l=none:=s4.free NS
   let iD:d≠l:=Za QL KQ;let gl:=gA.len
   exists d,Ul (Xt M i) as,Sum.inl k,.ref l,Z,Z,hd5,?_,λv hv=>?_,λhv=>?_
   .rw[ZB7 gl];show Zj sV
   .-- the mark has XX list
    rcases pN (g:=Xt M i) (as:=as) (k:=k) gl with ⟨h1,_⟩|⟨j,kv,b,e1,e2,e3,e4⟩
    .rw[h1]at hv;cases hv
    .rw[e4]at hv;cases hv;let hb5:=s5 _ _ (gA.at_ j kv b e1 e2)
     let u6:k∈(Xt M i).map (·.1):=YN.mpr ⟨kv,Xg e1,e3⟩;let hlen:kv.2.length<=i:=pP (Xg e1)
     exists .inl ⟨Z,_,SqL.of hb5⟩,_,Z,b,_,.int i,Z,Z,hb5,?_,?_
     .rw[Xp];show Zj sV
     .let Gz:b∈as:=Xg e2;let Tj:d≠b:=λz=>uW (z▸Gz)
      let hmb:m≠b:=λz=>uV (z▸Gz);let Lh:=gA.new b Gz
      let Jr:(Xt M<|i+1).map (·.1)=(Xt M i).map (·.1):=by change(RE (Xt M i) (i:Int)<|mk M i).map (·.1)=_;rw[LP,Uu,if_pos u6]
      exists as,_,_,Z,Xn,ZI Lh<|s3.trans s5,by rw[XJ hmb];show s5 _ _ zp,by rw[XJ Tj,hd5,cR Jr],uW,uV,⟨?_,gA.nd,?_,gA.new⟩,J
      .have:=QP List.length Jr
       rw[Yb,Yb]at this;lia
      .intro i2 uU a2 f1 f2;let f1:(RE (Xt M i) (i:Int)<|mk M i)[i2]?=some uU:=f1
       unfold RE at f1;rw[Uu,if_pos u6,Yp]at f1;cases f3:(Xt M i)[i2]? with
       |none=>rw[f3]at f1;cases f1
       |some EL=>
        rw[f3]at f1;let f1:(if EL.1=k then (EL.1,EL.2++[(i:Int)]) else EL)=uU:=Yi f1
        cases hj:i2=j
        .subst hj;rw[e1]at f3;cases f3;rw[e2]at f2;cases f2;rw[if_pos e3]at f1;subst f1;rw[XQ];simp
        .let Vi:a2≠b:=λz=>by subst z;show hj (Fx gA.nd f2 e2)
         let Lz:¬EL.1=k:=λz=>hj (Fx (pQ M i) (by rw[Yp,f3];show QP some z)<|by rw[Yp,e1];show QP some e3);rw[if_neg Lz]at f1;subst f1;rw[XJ Vi];show s5 _ _ (gA.at_ i2 EL a2 f3 f2)
   .-- a new list
    rcases pN (g:=Xt M i) (as:=as) (k:=k) gl with ⟨h1,Fj⟩|⟨j,kv,b,e1,e2,e3,e4⟩
    .let zm:(upd (upd (upd H3 pt<|.tup [.int i,.int k]) l<|.lst []) d<|.dK<|Ul (Xt M i) as++[(Sum.inl k,.ref l)]) l=some (.lst []):=by rw[XJ (Xc iD),XQ]
     exists .inl ⟨Z,_,SqL.of zm⟩,_,Z,l,[],.int i,Z,Z,zm,(by change 0<sizeLine;decide),?_;let zk:H l=none:=s3.free KQ
     let iC:l∉as:=λz=>by let⟨_,e⟩:=gA.mem z;rw[KQ]at e;cases e
     let LG:m≠l:=Za zp KQ;let hmd:m≠d:=PX zp QL (λz=>nomatch z)
     let iz:Xt M (i+1)=Xt M i++[(k,[(i:Int)])]:=by change RE (Xt M i) (i:Int) (mk M i)=_;unfold RE;rw[Uu,if_neg Fj]
     let hdH:H d=none:=hd;exists as++[l],_,_,Z,Xn,ZI zk<|ZI hdH<|s3.trans s5,by rw[XJ LG,XJ hmd];show s5 _ _ zp,?_,?_,?_,⟨?_,?_,?_,?_⟩,?_
     .rw[XJ iD,XQ,iz,cQ gl]
     .rw[XA,XG];rintro(z|z)
      .show uW z
      .show iD z
     .rw[XA,XG];rintro(z|z)
      .show uV z
      .show LG z
     .rw[iz,Xw,Xw,gl];rfl
     .show cV gA.nd iC
     .intro i2 uU a2 f1 f2;rw[iz]at f1;cases Uz:i2<(Xt M i).length
      .rw[Yn Uz]at f1;rw[Yn J]at f2;let e:=gA.at_ i2 uU a2 f1 f2
       let n1:a2≠l:=Za e KQ;let n2:a2≠d:=PX e QL (λz=>nomatch z)
       rw[XJ n1,XJ n2];show s5 _ _ e
      .let h2:i2=(Xt M i).length:=by
        have:=(Xy.mp f1).1
        rw[Xw,Yt]at this;grind
       subst h2;rw[Yk (XN _),Nn]at f1;rw[Yk J,gl,Nn]at f2;cases f1;cases f2;rw[XQ];rfl
     .intro a2 ha2;rcases XA.mp ha2 with z|z
      .show gA.new a2 z
      .rw[XG.mp z];show zk
     .rw[Xw,Yt];lia
    .rw[e4]at hv;cases hv
  .rintro σ H3 ⟨as,v3,v4,rfl,Ut,s3,zp,QL,uW,uV,gA,hal⟩;rw[Xp]at QL gA;exists _,Z,.inr<|.inr<|.inl ⟨Z,.inl ⟨_,QL⟩⟩,d,_,Z,Z,QL,λp hp=>?_;let s6:Same H3 (upd H3 p<|TX p d):=XZ hp
   exists p,d,_,Z,XQ,s6 _ _ QL,λr Uq=>?_;let s7:Same H3 (upd (upd H3 p<|TX p d) r (.lst ((Ul (Xt M M.length) as).map (·.2)))):=Zv s6 Uq
   show q r as _ (s3.trans s7) ((s3.trans s6).free Uq) (by rw[XQ,cS gA.len]) (λz=>?_) (gA.same s7);let⟨_,e⟩:=gA.mem z;rw[s6.free Uq]at e;cases e
inductive spZh(K:Ad)(C:Addr)(vs:List V)(H:Hp)(Q:VK)(_:XK):Prop
 |mk (w a n ps kd ns:_) (_:vs=[.ref w,.ref a]) (_:WebAt C H w n ps) (_:Zu n ps) (_:SqK kd K H a (IL ns)) (_:IsSet ps.length ns) (_:∀b H',Same H H'->(b=true↔(HQ<|Xz n.toNat<|XS ps ns).length=1)->Q (.bl b) H')
def zj(T:Txt K mg t):WR P w base Xb T.qZh 5 (spZh K t.A_Web):=by
 show T.qZh.okI ["web","ties"] DX λXC A outer s H vs Q E hr h=>?_
 .let⟨w,a,n,ps,kd,ns,rfl,hW,hG,hS,hI,q⟩:=h;exists _,(XE<|Zm<|Nj Rg (Ze (Zk K) Ea T.n_len Boot.«len»<|XY (Xf (iE T) hr T.qZg ZD<|XY (pv 0)<|XY (pv 1) XT) XT) Zb<|Zq _),?_;exists _,Z,_,Z,w,a,n,ps,kd,ns,Z,hW,hG,hS,hI,λr as H' s1 Uq UU hnr gA=>?_;exists r,_,Z,.inl<|SqL.of UU,Z,?_;rw[Yb,gA.len,Zx];show q _ H' s1 ?_;rw[YV];lia
inductive spZi(K:Ad)(C AP:Addr)(vs:List V)(H:Hp)(Q:VK)(E:XK):Prop
 |mk (w:Addr) (n:Int) (ps:Aa) (_:vs=[.ref w]) (_:WebAt C H w n ps) (_:Zu n ps) (_:(Hy n ps->∀H':Hp,Same H H'->Q .non H')) (_:(¬Hy n ps->∀H':Hp,Same H H'->E ↑AP none H'))
def iy(T:Txt K mg t):WR P w base (Va P w) T.qZi 6 (spZi K t.A_Web t.A_Parted):=by
 show T.qZi.okXI ["web"] DX λXC A outer s H vs Q E hr h=>?_
 .let⟨w,n,ps,rfl,hW,hG,q,qe⟩:=h;show⟨_,(XE (VZ (Kr<|IC<|Xf (zj T) hr T.qZh ZD<|XY (pv 0)<|XY (Xf (iH T) hr T.qZ9 ZD<|XY (pv 0) XT) XT)
   (XE<|pE T.x_Parted T.c_Parted<|XY Zal XT)
   Zr)),?_⟩
  show⟨_,Z,_,Z,w,n,ps,Z,hW,by have:=hG.2.2.1;lia,λr H1 s1 Uq UU=>?_⟩;exists w,r,n,ps,true,VS ps.length,Z,hW.same s1,hG,SqT.of UU,Hz _,λb H2 s2 hb=>⟨_,Z,?_⟩;rw[cJ (by have:=hG.1;lia) (ZL hG (Hz _).all)]at hb;show HW (λz=>?_) (λz=>?_)
  .show q (hb.mp z) H2 (s1.trans s2)
  .exists by change 1<=sizeLine;decide,qe (λg=>by rw[hb.mpr g]at z;cases z) H2<|s1.trans s2
inductive spZj(K:Ad)(C:Addr)(vs:List V)(H:Hp)(Q:VK)(_:XK):Prop
 |mk (w b n ps ws:_) (_:vs=[.ref w,.ref b]) (_:WebAt C H w n ps) (_:Zu n ps) (_:SqL K H b (IL ws)) (_:ws.length=ps.length) (_:∀r ys L H',Same H H'->H r=none->TabAt H r n.toNat H' ys L->(∀i j,i<n.toNat->j<n.toNat->fnL L i j=lapE (Vh ps ws) i j)->Q ↑r H')
def ZW6(x:V)(k:Nat):(List.replicate k [x]).flatten=List.replicate k x:=by
 induction k with
 |zero=>rfl
 |succ k ih=>rw[Jg,MB,ih,Jg];rfl
def ix(n i j:Nat):fnL (List.replicate n (List.replicate n 0)) i j=0:=by
 unfold fnL;cases h:(List.replicate n<|List.replicate n (0:Int))[i]? with
 |none=>
  let e:(List.replicate n<|List.replicate n (0:Int)).getD i []=[]:=by rw[Ws,h];rfl
  rw[e];rfl
 |some l=>
  let e:(List.replicate n<|List.replicate n (0:Int)).getD i []=l:=by rw[Ws,h];rfl
  rw[e,xX<|Xg h,Ws,xW];split<;>rfl
def TabAt.get{H0 H:Hp}{r:Addr}{n:Nat}{ys:List V}{L:Ab}(h:TabAt H0 r n H ys L){i j:Nat}(hi:i<n)(hj:j<n):∃A l x,ys[i]?=some ↑A/\H A=some (.lst (IL l))/\l[j]?=some x/\l.length=n/\x=fnL L i j/\H0 A=none/\∀y:Int,∃L':Ab,TabAt H0 r n (upd H A (.lst ((IL l).set j (.int y)))) ys L'/\∀a b,fnL L' a b=if a=i/\b=j then y else fnL L a b:=by
 let⟨A,l,y1,z1,hA,hl,hn,hr⟩:=h.at hi;obtain⟨x,hx⟩:∃x,l[j]?=some x:=⟨_,Xs J⟩;exists A,l,x,y1,hA,hx,hl,(Ui z1 hx).symm,hn,λy=>⟨L.set i<|l.set j y,?_,lq z1 J⟩;let e:(IL l).set j (.int y)=IL (l.set j y):=(List.map_set ..).symm
 rw[e];show h.put y1 z1 hr (by rwa[Mz])
def uS{xs:List V}{i:Int}(h0:0<=i)(h1:i<xs⁻¹):OU xs.length i=some i.toNat:=by unfold OU;rw[if_pos h0,if_pos DW]
def iw:FnScope ["web","weights","table","ends","weight","one","other"] ["web","weights"] (Xe (top 33)):=Rq DX
def iu(T:Txt K mg t):WR P w base Xb T.qZj 1 (spZj K t.A_Web):=by
 show T.qZj.okI ["web","weights","table","ends","weight","one","other"] DX λXC A outer s H vs Q E hr h=>?_
 .let⟨w,b,n,ps,ws,rfl,hW,hG,hS,Kl,q⟩:=h;show⟨_,(XH (RF (i:=2) Z iw.nd Z Z (sc0:=Xe<|top 33) (N0:=["web","weights","table","ends","weight","one","other"]) (N':=["place","web"]) (o:=1) (fr:=[0]) ⟨Z,DX,DX,DX,Z,DX⟩ (rW Z T.n_range<|XY (Zl K (pv 0) Z) XT) (ZF sZ) (λ_ _ _ _=>(Zc 0)) (λ_ _ _ _=>Nh) λ_ _ _ _=>(ZB CW (Tn<|XY Zb XT)<|Zl K (pv 1) Z))
   (XH (Sb SI Z (Hh K Z T.n_zip<|XY (Zl K (pv 0) Z)<|XY (pv 1) XT) (VE (n:=2) K Z<|Zn (Zc 3)<|Zn (Zc 4) VI)
   (XH (Zf 5<|ZK (ZE K) (pv 3) Zb λ_ _=>rfl)
   (XH (Zf 6<|ZK (ZE K) (pv 3) Zb λ_ _=>rfl)
   (XE (VZ (Zh PU (pv 5) (pv 6)<|Zq _)
   (XH (Mf (ZK (Zd K) (pv 2) (pv 5) λ_ _=>rfl) (pv 5) (vD K) (pv 4) DL Di)
   (XH (Mf (ZK (Zd K) (pv 2) (pv 6) λ_ _=>rfl) (pv 6) (vD K) (pv 4) DL Di)
   (XH (Mf (ZK (Zd K) (pv 2) (pv 5) λ_ _=>rfl) (pv 6) (vD K) (pv 4) DK Di)
   (XE<|Mf (ZK (Zd K) (pv 2) (pv 6) λ_ _=>rfl) (pv 5) (vD K) (pv 4) DK Di))))
   Zr)))))
   (XE<|Zm<|pv 2))),?_⟩
  let⟨dx,tl,xs,h1,h2,h3⟩:=id hW;let hl:=h3.1
  let⟨g1,g2,g3,g4⟩:=id hG;let one:1<=sizeLine:=sZ
  exists _,Z,w,_,dx,_,_,Z,h1,T.cl_Web,T.n_Web_places,HU _ _,n,Z,J,J,cW (lo:=0) (n:=n.toNat) (λi zs H2=>Same H H2/\Bears (MZ H2) zs (List.replicate i<|List.replicate n.toNat 0)/\zs.Nodup/\∀A,V.ref A∈zs->H A=none/\∃o,H2 A=some o) ⟨Same.refl _,⟨Z,λi l e=>by simp at e⟩,.nil,λA h=>(by cases h)⟩ (Zj J) (λi zs H2 _ zz=>by let⟨_,e,_⟩:=zz;rw[e.1,YU];show XN _) ?_ ?_
  .rintro i zs H2 hi ⟨s2,hZ,SW,QC⟩ S Xh;show nm ?_;exists one,λp1 Us=>?_;let u1:=XZ (o:=.lst [.int 0]) Us
   exists _,Z,w,_,dx,_,_,Z,u1 _ _<|s2 _ _ h1,T.cl_Web,T.n_Web_places,HU _ _,p1,n,_,Z,Z,XQ,J,J,LS (by change 1*n.toNat<=_;lia),λp2 VT=>?_;let e0:(List.replicate n.toNat [V.int 0]).flatten=IL (List.replicate n.toNat 0):=by rw[ZW6];change _=(List.replicate n.toNat 0).map V.int;rw[List.map_replicate]
   rw[e0];let u2:=u1.trans (XZ (o:=.lst<|IL<|List.replicate n.toNat 0) VT)
   let zh:H2 p2=none:=(XZ Us).free VT;show Xh _ _ ⟨s2.trans u2,?_,?_,λA hA=>?_⟩
   .rw[List.replicate_succ'];show(hZ.imp λ_ _ zz=>by let⟨r',e,h⟩:=zz;exists r',e,u2 _ _ h).snoc ⟨p2,Z,XQ⟩
   .show Wg.mpr ⟨SW,B,λx hx y hy e=>?_⟩;rw[XG.mp hy]at e;let⟨_,o,ho⟩:=QC p2 (e▸hx);rw[zh]at ho;cases ho
   .rcases XA.mp hA with e|e
    .let⟨a1,o,a2⟩:=QC A e;exists a1,o,u2 _ _ a2
    .let e':A=p2:=by simpa using e
     rw[e'];exists s2.free zh,_,XQ
  rintro zs H2 ⟨s2,hZ,SW,QC⟩ tA Gy;let s3:=s2.trans (XZ (o:=.lst zs) Gy)
  let ir:H tA=none:=s2.free Gy;let hT:TabAt H tA n.toNat (upd H2 tA<|.lst zs) zs (List.replicate n.toNat<|List.replicate n.toNat 0):=⟨XQ,hZ.imp λ_ _ zz=>by let⟨r',e,h⟩:=zz;show⟨r',e,XZ Gy _ _ h,Za h Gy⟩,YU,λl h=>by rw[xX h];show YU,SW,λA h=>(QC A h).1⟩
  let hzero:∀i j,fnL (List.replicate n.toNat<|List.replicate n.toNat 0) i j=0:=λi j=>by
   have:=ix n.toNat i j
   show this
  generalize upd H2 tA (.lst zs)=H3 at *;generalize List.replicate n.toNat (List.replicate n.toNat (0:Int))=L0 at *;exists _,Z,w,_,dx,_,_,Z,s3 _ _ h1,T.cl_Web,T.n_Web_ties,OK _ _,_,Z,tl,b,Z,⟨_,_,SqL.of<|s3 _ _ h2,s3.seq hS⟩,aw (K:=K) (a:=tl) (b:=b) (xs:=xs) (ys:=IL ws) (by rw[Xp];lia) (λi σ H4=>∃L v3 v4 v5 v6,σ=[some ↑w,some<|.ref b,some<|.ref tA,v3,v4,v5,v6]/\Same H H4/\TabAt H tA n.toNat H4 zs L/\∀x y,x<n.toNat->y<n.toNat->fnL L x y=lapE (Vh (ps.take i)<|ws.take i) x y) ⟨L0,none,none,none,none,Z,s3,hT,λx y _ _=>hzero x y⟩ (λi σ H4 _ zz=>by let⟨_,_,_,_,_,_,e,_⟩:=zz;exists SqL.of<|e _ _ h2,e.seq hS) ?_ ?_
  .rintro i v v' σ H4 pt UW hi UI ⟨L,v3,v4,v5,v6,rfl,s4,iq,NF⟩;let⟨p,hp,tt,rfl,Uw⟩:=h3.at hi;let⟨wt,rfl,hwt⟩:=Um UI;let⟨e1,e2,e3,e4⟩:=g4 p (Xg hp);let u1:=XZ (o:=.tup [.ref tt,.int wt]) UW
   exists pt,_,Z,SqT.of XQ,Z,_,_,Z,_,_,Z,Z,?_;let wm:=iq.same u1
   let s5:=s4.trans u1;generalize upd H4 pt (.tup [.ref tt,.int wt])=H5 at *;exists _,Z,tt,_,0,.int p.1,Z,Z,SqT.of<|s5 _ _ Uw,Z,?_;exists _,Z,tt,_,1,.int p.2,Z,Z,SqT.of<|s5 _ _ Uw,Z,?_;exists _,Z,_,Z,Z,_,Z,?_;rw[Zx];let esn:=lj hp hwt
   show WH (λheq=>?_) (λXM=>?_)
   .exists L,_,_,_,_,Z,s5,wm,λx y hx hy=>?_;rw[esn,aE (by change p.1.toNat=p.2.toNat;rw[heq])];show NF x y hx hy
   let OG:p.1.toNat≠p.2.toNat:=λe=>XM sV;let⟨A1,l1,x1,y1,PL,cK,RR,l7,Fh,ip⟩:=wm.get (i:=p.1.toNat) (j:=p.1.toNat) sV J;exists _,Z,_,Z,tA,zs,p.1,.ref A1,Z,Z,SqL.of wm.tab,ZJ (n:=p.1.toNat) J y1,_,Z,A1,_,p.1,.int x1,Z,Z,SqL.of PL,J,SN cK,_,Z,_,_,Z,Z,A1,_,p.1,p.1.toNat,Z,Z,PL,uS J (by rw[Xp];grind),?_;let⟨L1,hT6,EK⟩:=ip (x1+wt);let s6:Same H (upd H5 A1<|.lst<|(IL l1).set p.1.toNat (.int<|x1+wt)):=ZI Fh s5
   generalize upd H5 A1 (.lst<|(IL l1).set p.1.toNat (.int<|x1+wt))=H6 at *;rw[l7]at EK;let⟨A2,l2,x2,y2,RX,o3,Vj,ex2,OX,put2⟩:=hT6.get (i:=p.2.toNat) (j:=p.2.toNat) sV J;exists _,Z,_,Z,tA,zs,p.2,.ref A2,Z,Z,SqL.of hT6.tab,ZJ (n:=p.2.toNat) J y2,_,Z,A2,_,p.2,.int x2,Z,Z,SqL.of RX,J,SN o3,_,Z,_,_,Z,Z,A2,_,p.2,p.2.toNat,Z,Z,RX,uS J (by rw[Xp];grind),?_;let⟨L2,hT7,KP⟩:=put2 (x2+wt);let s7:Same H (upd H6 A2<|.lst<|(IL l2).set p.2.toNat (.int<|x2+wt)):=ZI OX s6
   generalize upd H6 A2 (.lst<|(IL l2).set p.2.toNat (.int<|x2+wt))=H7 at *;rw[ex2]at KP;let⟨A3,l3,x3,y3,Fp,hx3,KQ,ex3,hn3,put3⟩:=hT7.get (i:=p.1.toNat) (j:=p.2.toNat) sV sV;exists _,Z,_,Z,tA,zs,p.1,.ref A3,Z,Z,SqL.of hT7.tab,ZJ (n:=p.1.toNat) J y3,_,Z,A3,_,p.2,.int x3,Z,Z,SqL.of Fp,J,SN hx3,_,Z,_,_,Z,Z,A3,_,p.2,p.2.toNat,Z,Z,Fp,uS J (by rw[Xp];grind),?_;let⟨L3,hT8,hf3⟩:=put3 (x3-wt);let s8:Same H (upd H7 A3<|.lst<|(IL l3).set p.2.toNat (.int<|x3-wt)):=ZI hn3 s7
   generalize upd H7 A3 (.lst<|(IL l3).set p.2.toNat (.int<|x3-wt))=H8 at *;rw[ex3]at hf3;let⟨A4,l4,x4,y4,Jq,uR,ik,ex4,ij,ig⟩:=hT8.get (i:=p.2.toNat) (j:=p.1.toNat) sV sV;exists _,Z,_,Z,tA,zs,p.2,.ref A4,Z,Z,SqL.of hT8.tab,ZJ (n:=p.2.toNat) J y4,_,Z,A4,_,p.1,.int x4,Z,Z,SqL.of Jq,J,SN uR,_,Z,_,_,Z,Z,A4,_,p.1,p.1.toNat,Z,Z,Jq,uS J (by rw[Xp];grind),?_;let⟨L4,hT9,uQ⟩:=ig (x4-wt);let s9:Same H (upd H8 A4<|.lst<|(IL l4).set p.1.toNat (.int<|x4-wt)):=ZI ij s8
   generalize upd H8 A4 (.lst<|(IL l4).set p.1.toNat (.int<|x4-wt))=H9 at *;rw[ex4]at uQ;exists L4,_,_,_,_,Z,s9,hT9,λx y hx hy=>?_;rw[esn,lM,<-NF x y hx hy];show four OG x y EK KP hf3 uQ
  .rintro σ H4 ⟨L,v3,v4,v5,v6,rfl,s4,iq,NF⟩;rw[hl,YS,<-Kl,YS]at NF;exists _,Z,q tA zs L H4 s4 ir iq NF
inductive spZk(K:Ad)(C:Addr)(vs:List V)(H:Hp)(Q:VK)(_:XK):Prop
 |mk (w n ps:_) (_:vs=[.ref w]) (_:WebAt C H w n ps) (_:Zu n ps) (_:∀r ys L H',Same H H'->H r=none->TabAt H r n.toNat H' ys L->(∀i j,i<n.toNat->j<n.toNat->fnL L i j=lapE (Vh ps<|List.replicate ps.length 1) i j)->Q ↑r H')
def ie(T:Txt K mg t):WR P w base Xb T.qZk 2 (spZk K t.A_Web):=by
 show T.qZk.okI ["web"] DX λXC A outer s H vs Q E hr h=>?_
 .let⟨w,n,ps,rfl,hW,hG,q⟩:=h;exists _,(XE<|Zm<|Xf (iu T) hr T.qZj ZD<|XY (pv 0)<|XY (ZB CW (Tn<|XY Zb XT)<|Ze (Zk K) Ea T.n_len Boot.«len»<|XY (Zl K (pv 0) Z) XT) XT),?_;let⟨dx,tl,xs,h1,h2,h3⟩:=id hW;let hl:=h3.1
  let g3:=hG.2.2.1;exists _,Z,(by change 1<=sizeLine;decide),λp1 Us=>?_;let u1:=XZ (o:=.lst [.int 1]) Us
  exists _,Z,w,_,dx,_,_,Z,u1 _ _ h1,T.cl_Web,T.n_Web_ties,OK _ _,tl,xs,Z,.inl<|SqL.of<|u1 _ _ h2,p1,xs⁻¹,_,Z,Z,XQ,J,J,LS (by change 1*_<=_;lia),λp2 VT=>?_;let e0:(List.replicate (xs.length:Int).toNat [V.int 1]).flatten=IL (List.replicate ps.length 1):=by
   rw[YK,hl,ZW6];change _=(List.replicate ps.length 1).map V.int
   rw[List.map_replicate]
  rw[e0];let u2:=u1.trans (XZ (o:=.lst<|IL<|List.replicate ps.length 1) VT)
  exists w,p2,n,ps,List.replicate ps.length 1,Z,hW.same u2,hG,SqL.of XQ,YU,λr ys L H' s hr hT hf=>?_;show q r ys L H' (u2.trans s) (u2.free hr) ⟨hT.tab,hT.rows,hT.len,hT.all,hT.nd,λA h=>u2.free<|hT.new A h⟩ hf
inductive spZl(K:Ad)(C:Addr)(vs:List V)(H:Hp)(Q:VK)(_:XK):Prop
 |mk (w n ps:_) (_:vs=[.ref w]) (_:WebAt C H w n ps) (_:Zu n ps) (_:∀c H',TC n ps c->Same H H'->Q (.int c) H')
def ZL9(u v i:Nat):(ind u v i).natAbs<=1:=by unfold ind;split<;>split<;>decide
def ZF9:∀{E:List Ed},(∀e∈E,e.2.2=1)->∀i j,(lapE E i j).natAbs<=E.length
 |[],_,i,j=>XN 0
 |e::E,h,i,j=>by
  let ih:=ZF9 (λf hf=>h f<|Ye _ hf) i j;let h1:=ZL9 e.1 e.2.1 i
  let h2:=ZL9 e.1 e.2.1 j;let h3:(ind e.1 e.2.1 i*ind e.1 e.2.1 j).natAbs<=1:=by rw[II];show Ja h1 h2
  change(e.2.2*(ind e.1 e.2.1 i*ind e.1 e.2.1 j)+lapE E i j).natAbs<=(e::E).length;rw[h e Yc,VR,YF]
  have:=Int.natAbs_add_le (ind e.1 e.2.1 i*ind e.1 e.2.1 j) (lapE E i j)
  lia
def ZX7{α:Type}{l:List α}{i:Nat}(hi:l.length=i+1):cutz l (i:Int)=l.take i:=by unfold cutz;rw[YK,YO J,Yx]
def Gx(T:Txt K mg t):WR P w base Xb T.qZl 3 (spZl K t.A_Web):=by
 show T.qZl.okI ["web"] DX λXC A outer s H vs Q E hr h=>?_
 .let⟨w,n,ps,rfl,hW,hG,q⟩:=h;exists _,(XE<|Zm<|Xf (iR T) hr T.qZ3 ZD<|XY (Xf (iM T) hr T.qZ5 ZD<|XY (Xf (ie T) hr T.qZk ZD<|XY (pv 0) XT)<|XY (ZB Mb (Zl K (pv 0) Z) Zb) XT) XT),?_;let⟨g1,g2,g3,g4⟩:=id hG;exists _,Z,w,n,ps,Z,hW,hG,λr ys L H1 s1 hr hT hf=>?_;let⟨dx,tl,xs,h1,h2,h3⟩:=id hW;exists _,Z,w,_,dx,_,_,Z,s1 _ _ h1,T.cl_Web,T.n_Web_places,HU _ _,_,_,Z,Z,?_;obtain⟨k,hk⟩:∃k:Nat,n-1=(k:Int):=⟨(n-1).toNat,DW⟩;let hnk:n.toNat=k+1:=sV
  let iL:=hT.len;let hTB:Bears (MZ H1) ys L:=hT.rows.imp λ_ _ h=>h.list
  exists r,ys,L,k,?_,SqL.of hT.tab,hTB,sV,λl h=>by rw[hT.all l h];grind,J,λr2 zs H2 s2 UZ hZ=>?_
  .change [V.ref r,V.int (n-1)]=_;rw[hk]
  let w1:∀e∈Vh ps (List.replicate ps.length (1:Int)),e.2.2=1:=λe he=>by
   unfold Vh at he;let⟨i,hi⟩:=YC he;rw[FY]at hi;cases h1:ps[i]? with
   |none=>rw[h1]at hi;cases hi
   |some p=>
    cases h2:(List.replicate ps.length (1:Int))[i]? with
    |none=>rw[h1,h2]at hi;cases hi
    |some w=>
     rw[h1,h2]at hi;let rfl:=Yi hi;show xX (Xg h2)
  let el:(Vh ps<|List.replicate ps.length (1:Int)).length<=30:=by unfold Vh;rw[Ey,YU];lia
  let hM:(cutz L (k:Int)).map (λl=>cutz l (k:Int))=(L.take k).map λl=>l.take k:=by rw[ZX7 J];show VL λl hl=>ZX7 (by rw[hT.all l (Vw hl)];lia)
  rw[hM]at hZ;let Px:((L.take k).map λl=>l.take k).length=k:=by rw[Yb,Yl];grind
  let FF:∀i j,i<k->j<k->fnL ((L.take k).map λl=>l.take k) i j=lapE (Vh ps<|List.replicate ps.length 1) i j:=λi j hi hj=>by
   rw[<-hf i j sV sV];obtain⟨l,hl⟩:∃l,L[i]?=some l:=⟨_,Xs sV⟩;let Lk:=hT.all l (Xg hl)
   obtain⟨x,hx⟩:∃x,l[j]?=some x:=⟨_,Xs sV⟩;rw[Ui hl hx];show Ui (l:=l.take k) (by rw[Yp,VW,if_pos hi,hl];rfl) (by rwa[VW,if_pos hj])
  exists r2,false,zs,(L.take k).map λl=>l.take k,Z,SqL.of UZ,hZ.imp (λ_ _ zz=>by let⟨r',e,h⟩:=zz;exists r',false,e,SqL.of h),by rw[Px];lia,λi j hi hj=>?_,λ_ H3 s3=>?_,λh=>absurd (λl hl=>?_) h
  .rw[Px]at hi hj;rw[FF i j hi hj];show Yr (ZF9 w1 i j) (Yr el<|Yr (by decide:30<=2^5)<|xT sZ sZ)
  .let hd:det ((L.take k).map λl=>l.take k).length (fnL<|(L.take k).map λl=>l.take k)=det (n-1).toNat (lapE<|Vh ps<|List.replicate ps.length 1):=by rw[Px,show(n-1).toNat=k by lia];show Zi λi j hi hj=>FF i j hi hj
   obtain⟨c,M,a1,a2,a3⟩:∃c,TC n ps c:=by let⟨M,a1,a2,_⟩:=vE _ (n-1).toNat (Vh ps<|List.replicate ps.length 1) Z (AL hG _);exists M.length,M,a1,λl=>by rw[a2,az g1 YU],Z
   rw[hd,lu hG a1 a2,a3];show q c H3 ⟨M,a1,a2,a3⟩ (s1.trans<|s2.trans s3)
  .let⟨l0,h0,rfl⟩:=YN.mp hl;rw[Px,Yl,hT.all l0 (Vw h0)];grind
inductive spZm(K:Ad)(C:Addr)(vs:List V)(H:Hp)(Q:VK)(_:XK):Prop
 |mk (w a b n ps Is Os:_) (_:vs=[.ref w,.ref a,.ref b]) (_:WebAt C H w n ps) (_:Zu n ps) (_:SqT K H a (IL Is)) (_:SqT K H b (IL Os)) (_:Is.Nodup) (_:(∀z∈Is,0<=z/\z<ps⁻¹)) (_:Os.length<=30) (_:(∀z∈Is,z∉Os)) (_:∀c H',PC n ps Is Os c->Same H H'->Q (.int c) H')
def ic{K:Ad}{H:Hp}{a b:Addr}{l m:Ac}{Q:VK}(ha:SqT K H a (IL l))(hb:SqT K H b (IL m))(hl:l.length+m.length<=1000)(k:∀r H',Same H H'->SqT K H' r (IL (l++m))->Q ↑r H'):HF K ↑a ↑b H Q:=by
 exists a,b,_,_,Z,Z,ha,hb,by rw[Xp,Xp];show Yr hl sZ,λe=>?_,λ_ e=>?_,λ_ _ p hp=>?_
 .let el:l=[]:=Ez.mp e;rw[el,Pq]at k;show k b H (Same.refl _) hb
 .let em:m=[]:=Ez.mp e;rw[em,Yx]at k;show k a H (Same.refl _) ha
 .show k p _ (XZ hp) (SqT.of ?_);rw[XQ,wN]
def ZF7{gone:Ac}(j:Nat):XD (j+1) gone=XD j gone++(if ((j:Int)∈gone) then [] else [(j:Int)]):=by
 unfold XD;rw[bA,QI];congr 1;cases c:(j:Int)∈gone
 .rw[if_pos c,YZ,if_neg (by simp[c])];rfl
 .rw[if_neg c,YZ,if_pos (by simp[c])];rfl
def KO:FnScope ["web","inside","outside","marks","firsts","numbers","gone","free"] ["web","inside","outside"] (Xe (top 36)):=Rq DX
def h8(T:Txt K mg t):WR P w base Xb T.qZm 4 (spZm K t.A_Web):=by
 show T.qZm.okI ["web","inside","outside","marks","firsts","numbers","gone","free"] DX λXC A outer s H vs Q E hr h=>?_
 .let⟨w,a,b,n,ps,Is,Os,rfl,hW,hG,hA,hB,hIn,Xr,hO,TN,q⟩:=h;show⟨_,(XH (Zf 3<|Xf (Qh T) hr T.qZf ZD<|XY (pv 0)<|XY (pv 1) XT)
   (XH (Rh (i:=4) KO.nd Z (Or.inr Z)<|Zy4 K Z Z T.n_sorted Z T.n_set<|XY (pv 3) XT)
   (XH (VZ (Zh Rf (ZB VH (Ze (Zk K) Ea T.n_len Boot.«len»<|XY (pv 4) XT)<|Ze (Zk K) Ea T.n_len Boot.«len»<|XY (pv 1) XT) (Zl K (pv 0) Z)<|Zq _)
   (XE<|Zm Zb)
   Zr)
   (XH (Rh (i:=5) KO.nd Z (Or.inr Z)<|Wf Z (sc0:=Xe<|top 36) (N0:=["web","inside","outside","marks","firsts","numbers","gone","free"]) (N':=["mark","firsts"]) (o:=1) (fr:=[4]) ⟨Z,DX,DX,DX,Z,DX⟩ (ZU K<|pv 3) (ZF sZ) (λ_ _ _ _=>(Zc 0)) (λ_ _ _ _=>Nh) λ_ _ _ _=>(OI K Nv PySem.F.slot_list_index PySem.F.type_list_index (ZF8 K) (pv 1)<|XY (pv 0) XT))
   (XH (Rh (i:=6) KO.nd Z (Or.inr Z)<|ZB (HE K) (pv 1)<|pv 2)
   (XH (RF (i:=7) Z KO.nd Z Z (sc0:=Xe<|top 36) (N0:=["web","inside","outside","marks","firsts","numbers","gone","free"]) (N':=["tie","ends","gone"]) (o:=2) (fr:=[6]) ⟨Z,DX,DX,DX,Z,DX⟩ (LQ K Z T.n_enumerate<|XY (Zl K (pv 0) Z) XT) (HZ<|ZQ sZ<|ZQ sZ Ia) (λ_ _ _ _=>(VE (n:=2) K Z<|Zn (Zc 0)<|Zn (Zc 1) VI)) (λ_ _ _ _=>(VG<|Zh (HS K) (pv 0) (pv 2) Z)) λ_ _ _ _=>(pv 1))
   (XE<|Zm<|Xf (Gx T) hr T.qZl ZD<|XY (OW T.k_Web (zu T) (hr.mono sZ) Z T.c_Web T.bZ8 .nil ZD<|XY (Ze (Zk K) Ea T.n_len Boot.«len»<|XY (pv 4) XT)<|XY (Wf Z (sc0:=Xe<|top 36) (N0:=["web","inside","outside","marks","firsts","numbers","gone","free"]) (N':=["ends","numbers"]) (o:=1) (fr:=[5]) ⟨Z,DX,DX,DX,Z,DX⟩ (ZU K<|pv 7) (ZF sZ) (λ_ _ _ _=>(Zc 0)) (λ_ _ _ _=>Nh) λ_ _ _ _=>(To<|XY (ZK (Zd K) (pv 1) (ZK (ZE K) (pv 0) Zb λ_ _=>rfl) λ_ _=>rfl)<|XY (ZK (Zd K) (pv 1) (ZK (ZE K) (pv 0) Zb λ_ _=>rfl) λ_ _=>rfl) XT)) XT) XT))))))),?_⟩
  let⟨g1,g2,g3,g4⟩:=id hG;let⟨Js,MN,hJ2⟩:=mT Is;let hJ:IsSet ps.length Js:=XW.mpr ⟨λz hz=>Xr z<|MN.mem_iff.mp hz,(hJ2.and<|MN.nodup_iff.mpr hIn).imp λh=>by have:=h.1;have:=h.2;lia⟩
  let hIl:Is.length<=ps.length:=by rw[<-MN.length_eq];show hJ.len
  let vj:∀i j,Conn (XS ps Js) i j↔Conn (XS ps Is) i j:=λi j=>Tf λy=>MN.mem_iff;let Qx:XD ps.length (Js++Os)=XD ps.length (Is++Os):=SF λz _=>by simp only[XA,MN.mem_iff]
  let back:∀c,PC n ps Js Os c->PC n ps Is Os c:=λc zz=>by let⟨L,l1,l2,l3⟩:=zz;exists L,l1,λl=>(l2 l).trans ⟨λh=>⟨h.1,λz hz=>h.2.1 z<|MN.mem_iff.mpr hz,h.2.2⟩,λh=>⟨h.1,λz hz=>h.2.1 z<|MN.mem_iff.mp hz,h.2.2⟩⟩,l3
  exists _,Z,_,Z,w,a,n,ps,Is,Z,hW,hG,hA,Xr,λmA H1 s1 Py TR=>?_;let Vg:=Zw n.toNat (XS ps Is)
  let Wl:=ZL (ns:=Is) hG Xr;let hel:(XS ps Is).length=Is.length:=Yb ..
  show nm ?_;exists _,Z,mA,_,Z,SqL.of TR,sV,λF hF VP fA Gw=>?_;let s2:=XZ (o:=.lst<|IL F) Gw
  let KP:(upd H1 fA<|.lst<|IL F) fA=some (.lst<|IL F):=XQ;let Wi:=s2 _ _ TR
  let MO:=s1.trans s2;show nm ?_;dsimp only;generalize upd H1 fA (.lst<|IL F)=H2 at *;let⟨g,hfg,h7,hgg⟩:=Av Wl hF VP;let⟨k1,kn,nk⟩:=ZF4 Wl J hF VP;let RX:=Kh MO hA
  let LC:=Kh MO hB;let⟨dx,tl,xs,h1,h2,h3⟩:=hW.same MO;let RT:=h3.1
  exists _,Z,fA,_,Z,.inl<|SqL.of KP,_,Z,a,_,Z,.inr RX,_,_,Z,Z,_,Z,w,_,dx,_,_,Z,h1,T.cl_Web,T.n_Web_places,HU _ _,_,_,Z,Z,_,Z,?_;rw[Xp,Xp];show WN (λhc=>?_) (λhc=>?_)
  .show q 0 H2 (back 0<|kf hG hJ (λi j hi hj=>(hfg i j hi hj).trans (vj i j).symm) h7 hgg k1 kn<|by rw[MN.length_eq];lia) MO
  exists _,Z,mA,Z,⟨_,SqL.of Wi⟩,Nb (K:=K) (a:=mA) (xs:=IL<|Xz n.toNat<|XS ps Is) (λi zs H3=>H3=H2/\i<=n.toNat/\zs=IL (((Xz n.toNat<|XS ps Is).take i).map λz=>(Uy F z:Int))) ⟨Z,Ym _,Z⟩ (Zj<|by rw[Xp,Vg];grind) (λi zs H3 _ zz=>by let⟨e,hi,ez⟩:=zz;show⟨e▸SqL.of Wi,by rw[ez,Xp,Yb,Yl];lia⟩) ?_ ?_
  .rintro i v zs H3 hi ⟨rfl,hin3,rfl⟩ S Xh;let⟨z,rfl,hz⟩:=Um hi;let Fd:z∈F:=(VP z).mpr (Xg hz)
   let Xm:=(Xy.mp hz).1;show nm ?_;show⟨_,Z,.inl ⟨Z,_,SqL.of KP⟩,_,Z,fA,F,z,Uy F z,Z,Z,SqL.of KP,GV Fd,λi hi e=>by have:=Fx (HH hF) e (GV Fd);lia,Xh _ _ ⟨Z,J,?_⟩⟩;rw[WB,hz,YQ];show(ZX _ _).symm
  rintro zs H3 ⟨rfl,_,rfl⟩ nA hnA;rw[Xp,YS];let s3:=XZ (o:=.lst<|IL<|(Xz n.toNat<|XS ps Is).map λz=>(Uy F z:Int)) hnA
  let ij:(upd H3 nA<|.lst<|IL<|(Xz n.toNat<|XS ps Is).map λz=>(Uy F z:Int)) nA=some (.lst<|IL<|(Xz n.toNat<|XS ps Is).map λz=>(Uy F z:Int)):=XQ;let uQ:=s3 _ _ KP
  let Jq:=Kh s3 RX;let g9:=Kh s3 LC
  let g8:=MO.trans s3;generalize upd H3 nA (.lst<|IL<|(Xz n.toNat<|XS ps Is).map λz=>(Uy F z:Int))=H4 at *;let nAt:∀x:Int,0<=x->x<n->((Xz n.toNat<|XS ps Is).map λz=>(Uy F z:Int))[x.toNat]?=some (Uy F (mk (Xz n.toNat<|XS ps Is) x.toNat):Int):=λx x0 x1=>by rw[Yp,Xs sV];unfold mk;rw[Ws,Xs sV];rfl
  show nm ?_;exists _,Z,_,Z,ic Jq g9 J λgA H5 s5 hg5=>?_;let MM:=g8.trans s5
  let⟨dx,tl,xs,h1,h2,h3⟩:=hW.same MM;let RT:=h3.1
  show nm ?_;exists _,Z,w,_,dx,_,_,Z,h1,T.cl_Web,T.n_Web_ties,OK _ _,tl,Z,⟨_,SqL.of h2⟩,Oz (K:=K) (a:=tl) (xs:=xs) (λj zs H6=>Same H5 H6/\j<=ps.length/\PairsV H6 zs ((XD j<|Is++Os).map λz=>ps.getD z.toNat (0,0))) ⟨Same.refl _,Ym _,PairsV.nil⟩ (Zj J) (λj zs H6 hj ⟨e,Qo,ez⟩=>⟨e.seq<|SqL.of h2,by rw[ez.1,Yb];show Yr (YG ..) ?_;rw[ZP];show XN _⟩) ?_ ?_
  .rintro j v zs H6 pt UW hj ⟨s6,Uv,hZ⟩ S Xh;let⟨p,hp,tt,rfl,ht⟩:=h3.at hj;let Wa:=(Xy.mp hp).1
   let s7:=XZ (o:=.tup [.int j,.ref tt]) UW;exists pt,_,Z,SqT.of XQ,Z,_,_,Z,_,_,Z,Z,?_;let zg:=hZ.same s7
   let Jp:=s6.trans s7;generalize upd H6 pt (.tup [.int j,.ref tt])=H7 at *;exists _,Z,_,Z,gA,_,Z,.inr<|Kh Jp hg5,Z,Tg _,_,Z,?_;rw[LO];show WH (λGv=>?_) (λGv=>?_)
   .show Xh _ _ ⟨Jp,Wa,?_⟩;rwa[ZF7,if_pos Gv,Yx]
   .exists _,Z,Xh _ _ ⟨Jp,Wa,?_⟩;rw[ZF7,if_neg Gv,YQ];show zg.app ?_;change PairsV H7 [V.ref tt] [ps.getD ((j:Nat):Int).toNat (0,0)]
    rw[YK,ZS hp];show PairsV.nil.snoc ⟨tt,Z,Jp _ _ ht⟩
  rintro zs H6 ⟨s6,_,hZ⟩ rA KU;rw[RT]at hZ;let s7:=XZ (o:=.lst zs) KU
  let zx:(upd H6 rA<|.lst zs) rA=some (.lst zs):=XQ;let zg:=hZ.same s7
  let Jp:=s6.trans s7;generalize upd H6 rA (.lst zs)=H7 at *;let hf7:=Jp _ _ (s5 _ _ uQ)
  let hn7:=Jp _ _ (s5 _ _ ij);let vQ:=zg.1
  let QB:(XD ps.length<|Is++Os).length<=30:=by show Yr (YG ..) ?_;rw[ZP];lia
  rw[Yb]at vQ;show nm ?_;show⟨_,Z,fA,_,Z,.inl<|SqL.of hf7,_,Z,rA,Z,⟨_,SqL.of zx⟩,Nb (K:=K) (a:=rA) (xs:=zs) (λi ws H8=>Same H7 H8/\i<=(XD ps.length<|Is++Os).length/\PairsV H8 ws (((XD ps.length<|Is++Os).take i).map λz=>((Uy F (mk (Xz n.toNat<|XS ps Is) (Zp ps z).1):Int),(Uy F (mk (Xz n.toNat<|XS ps Is) (Zp ps z).2):Int)))) ⟨Same.refl _,Ym _,PairsV.nil⟩ (Zj J)
   (λi ws H8 hi zz=>by let⟨e,Uz,ew⟩:=zz;show⟨e.seq<|SqL.of zx,by rw[ew.1,Yb,Yl];lia⟩) ?_ ?_⟩
  .rintro i v ws H8 hi ⟨s8,Ut,uP⟩ S Xh;let⟨p,hp,tt,rfl,ht⟩:=zg.at hi;rw[Yp]at hp;obtain⟨z,hz,ez⟩:∃z,(XD ps.length<|Is++Os)[i]?=some z/\ps.getD z.toNat (0,0)=p:=by
    cases hq:(XD ps.length<|Is++Os)[i]? with
    |none=>rw[hq]at hp;cases hp
    |some z=>rw[hq]at hp;exists z,Z,Yi hp
   let hz1:=(WO.mp<|Xg hz).1;obtain⟨p',GA⟩:∃p,ps[z.toNat]?=some p:=⟨_,Xs J⟩;let epp:p'=p:=by rw[<-ez,ZS GA]
   rw[epp]at GA;let⟨e1,e2,e3,e4⟩:=g4 p (Xg GA);let ee:Zp ps z=(p.1.toNat,p.2.toNat):=by unfold Zp;rw[ZS GA]
   let ht8:=s8 _ _ ht;let hn8:=s8 _ _ hn7
   show nm ?_;exists _,Z,_,Z,tt,_,0,.int p.1,Z,Z,SqT.of ht8,Z,nA,_,_,_,Z,Z,SqL.of hn8,ZJ (n:=p.1.toNat) J<|SN<|nAt p.1 e1 e2,?_;exists _,Z,_,Z,tt,_,1,.int p.2,Z,Z,SqT.of ht8,Z,nA,_,_,_,Z,Z,SqL.of hn8,ZJ (n:=p.2.toNat) J<|SN<|nAt p.2 e3 e4,(by change 2<=sizeLine;decide),λpp hpp=>?_;show Xh _ _ ⟨s8.trans<|XZ hpp,by have:=(Xy.mp hz).1;lia,?_⟩;rw[WB,hz,YQ];show(uP.same<|XZ hpp).snoc ⟨pp,Z,?_⟩;dsimp only;rw[ee];show XQ
  rintro ws H8 ⟨s8,_,uP⟩ la GC;rw[vQ,YS]at uP;let s9:=XZ (o:=.lst ws) GC
  let KN:(upd H8 la<|.lst ws) la=some (.lst ws):=XQ;let hP9:=uP.same s9
  let uN:=s8.trans s9;generalize upd H8 la (.lst ws)=H9 at *;let hGc:=Ax (f:=λi=>Uy F<|mk (Xz n.toNat<|XS ps Is) i) hG (Is++Os) h7 k1 kn
  intro x g7 nx ND RD;let t1:Same H9 (upd (upd H9 g7<|.own x) x<|.ins t.A_Web g7 []):=Zv (XZ ND) (by rwa[XJ (Xc RD)])
  exists x,g7,F⁻¹,la,false,ws,_,by rw[Xp];rfl,XQ,λo=>?_,hP9.same t1,hGc,λML hV k10=>⟨Z,?_⟩
  .show SqL.of (by rwa[XJ (Za KN nx),XJ<|Za KN nx,XJ (Za KN ND)])
  let zf:Same H9 ML:=λb o e=>k10 b o (t1 b o e) (Za e nx);exists x,_,_,Z,hV,hGc,λc KL hc Gu=>q c KL (back c<|kg hG hJ (λz hz=>TN z<|MN.mem_iff.mp hz) (λi j hi hj=>(hfg i j hi hj).trans (vj i j).symm) h7 hgg (by rw[MN.length_eq];grind)<|by rwa[Qx])<|MM.trans<|Jp.trans<|uN.trans<|zf.trans Gu
inductive spZn(K:Ad)(C:Addr)(vs:List V)(H:Hp)(Q:VK)(_:XK):Prop
 |mk (w a n ps kd ns:_) (_:vs=[.ref w,.ref a]) (_:WebAt C H w n ps) (_:Zu n ps) (_:SqK kd K H a (IL ns)) (_:∀b H',Same H H'->(b=true↔Zg n ps ns)->Q (.bl b) H')
def g6(T:Txt K mg t):WR P w base Xb T.qZn 6 (spZn K t.A_Web):=by
 show T.qZn.okI ["web","ties"] DX λXC A outer s H vs Q E hr h=>?_
 .let⟨w,a,n,ps,kd,ns,rfl,hW,hG,hS,q⟩:=h;exists _,(XE<|Zm<|IB (Xf (zr T) hr T.qZc ZD<|XY (pv 0)<|XY (pv 1) XT)<|IB (Nj Rg (Ze (Zk K) Ea T.n_len Boot.«len»<|XY (pv 1) XT) (ZB Mb (Zl K (pv 0) Z) Zb)<|Zq _)<|DQ<|Xf (zj T) hr T.qZh ZD<|XY (pv 0)<|XY (pv 1) XT),?_;exists _,Z,_,Z,w,a,n,ps,kd,ns,Z,hW,hS,λb hb=>⟨b,Z,?_⟩;show itb (λe=>?_) (λe=>?_)
  .let hI:=hb.mp e;let⟨dx,tl,xs,h1,h2,h3⟩:=id hW;exists _,Z,a,_,Z,hS.or,_,Z,w,_,dx,_,_,Z,h1,T.cl_Web,T.n_Web_places,HU _ _,_,_,Z,Z,Z,_,Z,?_;rw[Xp,Zx];show WN (λhl=>?_) (λhl=>?_)
   .exists _,Z,_,Z,w,a,n,ps,kd,ns,Z,hW,hG,hS,hI,λb2 H' s GN=>q b2 H' s ?_;rw[GN,cJ (by have:=hG.1;grind) (ZL hG hI.all)];exists λz=>⟨hI,hl,z⟩,λz=>z.2.2
   .show q false H (Same.refl H) ⟨λz=>(nomatch z),λz=>absurd z.2.1 hl⟩
  .show q false H (Same.refl H) ⟨λz=>(nomatch z),λz=>by rw[hb.mpr z.1]at e;cases e⟩
inductive spZo(K:Ad)(C:Addr)(vs:List V)(H:Hp)(Q:VK)(_:XK):Prop
 |mk (w a n ps kd ns:_) (_:vs=[.ref w,.ref a]) (_:WebAt C H w n ps) (_:Zu n ps) (_:SqK kd K H a (IL ns)) (_:(Zg n ps ns->∀H':Hp,Same H H'->Q .non H')) (_:(¬Zg n ps ns->∀H':Hp,Same H H'->False))
def gZ(T:Txt K mg t):WR P w base Xb T.qZo 7 (spZo K t.A_Web):=by
 show T.qZo.okI ["web","tree"] DX λXC A outer s H vs Q E hr h=>?_
 .let⟨w,a,n,ps,kd,ns,rfl,hW,hG,hS,q,qe⟩:=h;show⟨_,(XE (VZ (Kr<|IC<|Xf (g6 T) hr T.qZn ZD<|XY (pv 0)<|XY (pv 1) XT)
   (XE Mh)
   Zr)),?_⟩
  exists _,Z,_,Z,w,a,n,ps,kd,ns,Z,hW,hG,hS,λb H' s hb=>⟨_,Z,?_⟩;show HW (λz=>?_) (λz=>?_)
  .show q (hb.mp z) H' s
  .show qe (λg=>by rw[hb.mpr g]at z;cases z) H' s
inductive spZp(K:Ad)(C:Addr)(vs:List V)(H:Hp)(Q:VK)(_:XK):Prop
 |mk (w a b n ps ka kb ns os:_) (_:vs=[.ref w,.ref a,.ref b]) (_:WebAt C H w n ps) (_:Zu n ps) (_:SqK ka K H a (IL ns)) (_:SqK kb K H b (IL os)) (_:ns.length<=1000) (_:os.length<=1000) (_:(∀z∈ns++os,0<=z/\z<ps⁻¹)) (_:(((WJ n.toNat ps<|ns++os).take ns.length≠ns\/((WJ n.toNat ps<|ns++os).length:Int)<n-1)->∀H':Hp,Same H H'->Q .non H')) (_:((WJ n.toNat ps<|ns++os).take ns.length=ns->¬((WJ n.toNat ps<|ns++os).length:Int)<n-1->∀r ms H',ms.Perm (WJ n.toNat ps<|ns++os)->ms.Pairwise (·<=·)->Same H H'->H r=none->H' r=some (.tup<|IL ms)->Q ↑r H'))
def gY(T:Txt K mg t):WR P w base Xb T.qZp 3 (spZp K t.A_Web):=by
 show T.qZp.okI ["web","inside","order","marks","grown","tie","ends"] DX λXC A outer s H vs Q E hr h=>?_
 .let⟨w,a,b,n,ps,ka,kb,ns,os,rfl,hW,hG,hS,Cr,hnl,PN,hI,q0,q1⟩:=h;show⟨_,(XH (Zf 3<|Xf (Qh T) hr T.qZf ZD<|XY (pv 0)<|XY (To XT) XT)
   (XH (Zf 4<|Tn XT)
   (XH (Sb SI Z (ZU K<|ZB OS (Zo (Fw K) Ea T.n_list Boot.«list»<|XY (pv 1) XT)<|Zo (Fw K) Ea T.n_list Boot.«list»<|XY (pv 2) XT) (Zc 5)
   (XH (Zf 6<|ZK (Zd K) (Zl K (pv 0) Z) (pv 5) λ_ _=>rfl)
   (XE (VZ (Zh PU (ZK (Zd K) (pv 3) (ZK (ZE K) (pv 6) Zb λ_ _=>rfl) λ_ _=>rfl) (ZK (Zd K) (pv 3) (ZK (ZE K) (pv 6) Zb λ_ _=>rfl) λ_ _=>rfl)<|Zq _)
   (XH (Zf 3<|Xf (zq T) hr T.qZe ZD<|XY (pv 0)<|XY (pv 3)<|XY (To<|XY (pv 5) XT) XT)
   (XE<|VJ<|OI K Nv FZ Ga FA (pv 4)<|XY (pv 5) XT))
   Zr))))
   (XH (VZ (PW.pt<|Ri (Zh (wH K<|Nc hr) (LY (LR K) (pv 4) Km<|Ni<|Ze (Zk K) Ea T.n_len Boot.«len»<|XY (pv 1) XT) (Zo (Fw K) Ea T.n_list Boot.«list»<|XY (pv 1) XT)<|Zq _)<|xa<|Zh UR (Ze (Zk K) Ea T.n_len Boot.«len»<|XY (pv 4) XT) (ZB Mb (Zl K (pv 0) Z) Zb)<|Zq _)
   (XE<|Zm xc)
   Zr)
   (XE<|Zm<|Zo (ZN K) Ea T.n_tuple Boot.«tuple»<|XY (Ze (wj K) Ea T.n_sorted Boot.«sorted»<|XY (pv 4) XT) XT))))),?_⟩
  let⟨g1,g2,g3,g4⟩:=id hG;let one:1<=sizeLine:=sZ
  exists _,Z,Ym _,λr0 Uq=>?_;let s0:=XZ (o:=.tup []) Uq
  exists w,r0,n,ps,[],Z,hW.same s0,hG,SqT.of XQ,λ_ e=>(nomatch e),λm H1 s1 Py TR=>?_;let s01:=s0.trans s1
  let hmf:=s0.free Py;exists Ym _,λgl gX=>?_;let s2:=XZ (o:=.lst []) gX
  let MO:=s01.trans s2;let hgf:=s01.free gX
  exists _,Z,a,_,Z,(hS.same MO).or,λl1 RR=>?_;let s3:=XZ (o:=.lst<|IL ns) RR
  let Gs:=MO.trans s3;exists _,Z,b,_,Z,(Cr.same Gs).or,λl2 Vj=>?_;let s4:=XZ (o:=.lst<|IL os) Vj
  let g8:=Gs.trans s4;exists l1,l2,_,_,Z,Z,s4 _ _ XQ,XQ,LS (by rw[Xp,Xp];lia),λcl SM=>?_;let s5:=XZ (o:=.lst<|IL ns++IL os) SM
  let MM:=g8.trans s5;let eI:IL ns++IL os=IL (ns++os):=(wN _ _).symm
  let ze:=s5 _ _ (s4 _ _<|s3 _ _<|XQ (H:=H1) (a:=gl) (o:=.lst []));let uM:=s5 _ _ (s4 _ _<|s3 _ _<|s2 _ _ TR)
  let Gr:=XQ (H:=upd (upd (upd H1 gl<|.lst []) l1<|.lst<|IL ns) l2<|.lst<|IL os) (a:=cl) (o:=.lst<|IL ns++IL os);let ncg:cl≠gl:=λe=>by rw[e]at SM;show absurd ((s4 _ _<|s3 _ _<|XQ (H:=H1) (a:=gl) (o:=.lst [])).symm.trans SM) B
  let nmg:m≠gl:=λe=>by rw[e]at TR;show absurd (TR.symm.trans gX) B
  rw[eI]at s5 MM ze uM Gr ⊢;generalize upd (upd (upd (upd H1 gl<|.lst []) l1<|.lst<|IL ns) l2<|.lst<|IL os) cl (.lst<|IL<|ns++os)=H5 at *;show⟨cl,Z,⟨_,SqL.of Gr⟩,w5 (K:=K) (a:=cl) (xs:=IL<|ns++os) (λi σ H2=>∃mc v5 v6,σ=[some ↑w,some<|.ref a,some<|.ref b,some<|.ref mc,some<|.ref gl,v5,v6]/\Same H H2/\mc≠gl/\
    H2 cl=some (.lst<|IL<|ns++os)/\H2 mc=some (.lst<|IL<|Xz n.toNat<|XS ps<|WJ n.toNat ps<|(ns++os).take i)/\H2 gl=some (.lst<|IL<|WJ n.toNat ps<|(ns++os).take i))
   ⟨m,none,none,Z,MM,nmg,Gr,uM,ze⟩ (λi σ H2 _ zz=>by let⟨_,_,_,_,_,_,e,_⟩:=zz;show SqL.of e) ?_ ?_⟩
  .rintro i x σ H2 hi ⟨mc,v5,v6,rfl,s2,XM,UP,Wi,Lc⟩;let⟨z,rfl,hz⟩:=Um hi;let⟨z0,z1⟩:=hI z (Xg hz);let hIt:∀y∈(ns++os).take i,0<=y/\y<ps⁻¹:=λy hy=>hI y (Vw hy)
   let est:(ns++os).take (i+1)=(ns++os).take i++[z]:=by rw[WB,hz];rfl
   let eG:WJ n.toNat ps ((ns++os).take (i+1))=RA n.toNat ps (WJ n.toNat ps<|(ns++os).take i) z:=by rw[est,LB]
   let Wl:=Fm hG hIt;let zd:=cu hG hIt
   generalize WJ n.toNat ps ((ns++os).take i)=G at *;let⟨dx,tl,xs,h1,h2,h3⟩:=hW.same s2;obtain⟨p,hp⟩:∃p,ps[z.toNat]?=some p:=⟨_,Xs J⟩;let⟨v,hv,tt,rfl,Uw⟩:=h3.2 z.toNat p hp;let⟨e1,e2,e3,e4⟩:=g4 p (Xg hp);let ed:Zp ps z=(p.1.toNat,p.2.toNat):=by unfold Zp;rw[ZS hp]
   let hl:(Xz n.toNat<|XS ps G).length=n.toNat:=Zw _ _;let iA:Wh (IL<|Xz n.toNat<|XS ps G) p.1=some (.int<|mk (Xz n.toNat<|XS ps G) p.1.toNat):=ZJ (n:=p.1.toNat) J (SN<|Qz sV)
   let iB:Wh (IL<|Xz n.toNat<|XS ps G) p.2=some (.int<|mk (Xz n.toNat<|XS ps G) p.2.toNat):=ZJ (n:=p.2.toNat) J (SN<|Qz sV);let t0:Wh ([.int p.1,.int p.2]:List V) 0=some (.int p.1):=rfl
   let t1:Wh ([.int p.1,.int p.2]:List V) 1=some (.int p.2):=rfl;let key:mk (Xz n.toNat<|XS ps G) p.1.toNat=mk (Xz n.toNat<|XS ps G) p.2.toNat↔mk (WX n.toNat<|XS ps G) (Zp ps z).1=mk (WX n.toNat<|XS ps G) (Zp ps z).2:=by rw[ed,Qw Wl sV sV,ZT Wl sV sV]
   exists _,Z,w,_,dx,_,_,Z,h1,T.cl_Web,T.n_Web_ties,OK _ _,_,Z,tl,xs,z,.ref tt,Z,Z,SqL.of h2,ZJ (n:=z.toNat) J hv,?_;exists _,Z,_,Z,tt,_,0,_,Z,Z,SqT.of Uw,t0,mc,_,p.1,_,Z,Z,SqL.of Wi,iA,_,Z,_,Z,tt,_,1,_,Z,Z,SqT.of Uw,t1,mc,_,p.2,_,Z,Z,SqL.of Wi,iB,Z,_,Z,?_;rw[Zx];show WH (λhe=>?_) (λhe=>?_)
   .exists mc,_,_,Z,s2,XM,UP,?_,?_
    .rw[eG];unfold RA;rwa[if_pos (key.mp he)]
    .rw[eG];unfold RA;rwa[if_pos (key.mp he)]
   .let eG2:WJ n.toNat ps ((ns++os).take (i+1))=G++[z]:=by rw[eG];unfold RA;rw[if_neg λe=>he (key.mpr e)]
    exists _,Z,_,Z,_,Z,one,λp2 VT=>?_;let s6:=XZ (o:=.tup [.int z]) VT
    show⟨w,mc,p2,n,ps,_,true,[z],Z,(hW.same s2).same s6,hG,s6 _ _ Wi,hl,SqT.of XQ,λy hy=>by rw[XG.mp hy];show⟨z0,z1⟩,λm' H7 s7 hf uL=>?_⟩;let gW:=s6.trans s7
    let hg7:=gW _ _ Lc;let hc7:=gW _ _ UP
    let nm':m'≠gl:=by
     rcases hf with rfl|hf
     .show XM
     .show λe=>absurd ((s6 _ _ Lc).symm.trans (e▸hf)) B
    exists _,Z,.inl ⟨Z,_,SqL.of hg7⟩,_,Z,gl,_,_,Z,Z,hg7,Zj (by rw[Xp];lia),?_;exists m',_,_,Z,ZI hgf<|s2.trans gW,nm',?_,?_,?_
    .rw[XJ ncg];show hc7
    .rw[XJ nm',uL,eG2,Te,pR];rfl
    .rw[XQ,eG2,ZX]
  .rintro σ H2 ⟨mc,v5,v6,rfl,s2,XM,UP,Wi,Lc⟩;rw[Xp,YS]at Lc;let zd:=cu hG hI
   generalize WJ n.toNat ps (ns++os)=G at *;exists _,Z,_,Z,a,_,Z,(hS.same s2).or,_,Z,gl,_,Z,SqL.of Lc,λr1 UU=>?_;let ec:WK (IL G) none (some ((IL ns).length:Int))=IL (G.take ns.length):=by rw[cx J,YK,Xp,c7]
   rw[ec];let s3:=XZ (o:=.lst<|IL<|G.take ns.length) UU
   exists _,Z,a,_,Z,(hS.same<|s2.trans s3).or,λr2 UZ=>?_;let s4:=XZ (o:=.lst<|IL ns) UZ
   exists 1,_,r1,r2,Z,Z,sZ,cP (SqL.of<|s4 _ _ XQ)<|SqL.of XQ,_,Z,?_;let Jo:=s2.trans (s3.trans s4)
   show WH (λhe=>?_) (λhe=>?_)
   .let⟨dx,tl,xs,h1,h2,h3⟩:=hW.same Jo;let hg4:=s4 _ _ (s3 _ _ Lc)
    exists _,Z,gl,_,Z,.inl<|SqL.of hg4,_,Z,w,_,dx,_,_,Z,h1,T.cl_Web,T.n_Web_places,HU _ _,_,_,Z,Z,_,_,Z,Z,_,Z,?_;rw[Xp];show WN (λhc=>?_) (λhc=>?_)
    .show q0 (.inr hc) _ Jo
    .exists _,Z,gl,G,Z,SqL.of hg4,J,λms Us VT l hl=>?_;let s5:=XZ (o:=.lst<|IL ms) hl
     exists l,_,Z,.inl ⟨SqL.of XQ,λr hr=>?_⟩;show q1 he hc r ms _ Us VT ((Jo.trans s5).trans (XZ hr)) ((Jo.trans s5).free hr) XQ
   .show Th ?_;show q0 (.inl he) _ Jo
inductive spZq(K:Ad)(C:Addr)(vs:List V)(H:Hp)(Q:VK)(_:XK):Prop
 |mk (w a n ps kd ns z:_) (_:vs=[.ref w,.ref a,.int z]) (_:WebAt C H w n ps) (_:Zu n ps) (_:SqK kd K H a (IL ns)) (_:IsSet ps.length ns) (_:∀r H',Same H H'->H r=none->H' r=some (.tup<|IL<|unlike (WX n.toNat<|XS ps<|wo ns z) ps ps.length)->Q ↑r H')
def gV:FnScope ["web","tree","tie","marks"] ["web","tree","tie"] (Xe (top 41)):=Rq DX
def gU(T:Txt K mg t):WR P w base Xb T.qZq 3 (spZq K t.A_Web):=by
 show T.qZq.okI ["web","tree","tie","marks"] DX λXC A outer s H vs Q E hr h=>?_
 .let⟨w,a,n,ps,kd,ns,z,rfl,hW,hG,hS,hI,q⟩:=h;show⟨_,(XH (Rh (i:=3) gV.nd Z (Or.inr Z)<|Xf (Qh T) hr T.qZf ZD<|XY (pv 0)<|XY (Xf (zt T) hr T.qZb ZD<|XY (pv 1)<|XY (pv 2) XT) XT)
   (XE<|Zm<|Zo (ZN K) Ea T.n_tuple Boot.«tuple»<|XY (Wf Z (sc0:=Xe<|top 41) (N0:=["web","tree","tie","marks"]) (N':=["number","ends","marks"]) (o:=2) (fr:=[3]) ⟨Z,DX,DX,DX,Z,DX⟩ (LQ K Z T.n_enumerate<|XY (Zl K (pv 0) Z) XT) (HZ<|ZQ sZ<|ZQ sZ Ia) (λ_ _ _ _=>(VE (n:=2) K Z<|Zn (Zc 0)<|Zn (Zc 1) VI)) (λ_ _ _ _=>(VG<|Zh PU (ZK (Zd K) (pv 2) (ZK (ZE K) (pv 1) Zb λ_ _=>rfl) λ_ _=>rfl) (ZK (Zd K) (pv 2) (ZK (ZE K) (pv 1) Zb λ_ _=>rfl) λ_ _=>rfl)<|Zq _)) λ_ _ _ _=>(pv 0)) XT)),?_⟩
  let⟨g1,g2,g3,g4⟩:=id hG;let hln:=hI.len
  let hb:∀y∈wo ns z,0<=y/\y<ps⁻¹:=λy hy=>hI.all y (Xl.mp hy).1;exists _,Z,_,Z,_,Z,a,kd,ns,z,Z,hS,J,λr1 H1 s1 Uq UU=>?_;exists w,r1,n,ps,wo ns z,Z,hW.same s1,hG,SqT.of UU,hb,λm H2 s2 Py Wi=>?_;let Wl:=ZL hG hb
  let e0:=oG (M:=Xz n.toNat<|XS ps<|wo ns z) hG (Zw _ _) (wC Wl);let hl:(Xz n.toNat<|XS ps<|wo ns z).length=n.toNat:=Zw _ _
  rw[<-e0]at q;generalize Xz n.toNat (XS ps<|wo ns z)=M at *;let Wt:=s1.trans s2
  let⟨dx,tl,xs,h1,h2,h3⟩:=hW.same Wt;let RT:=h3.1
  show⟨_,Z,w,_,dx,_,_,Z,h1,T.cl_Web,T.n_Web_ties,OK _ _,tl,Z,⟨_,SqL.of h2⟩,Oz (K:=K) (a:=tl) (xs:=xs) (λi ys H3=>Same H2 H3/\i<=xs.length/\ys=IL (unlike M ps i)) ⟨Same.refl _,Ym _,Z⟩ (Zj J)
   (λi ys H3 _ zz=>by let⟨e,_,ey⟩:=zz;show⟨SqL.of<|e _ _ h2,by rw[ey,Xp];show Zy6 _ _ _⟩) ?_ ?_⟩
  .rintro i x ys H3 pt UW hi ⟨s3,Ut,rfl⟩ S Xh;let⟨p,Qy,tt,rfl,Uw⟩:=h3.at hi;let⟨e1,e2,e3,e4⟩:=g4 p (Xg Qy);let Xn:i<xs.length:=(Xy.mp hi).1
   let s4:Same H3 (upd H3 pt<|.tup [.int i,.ref tt]):=XZ UW;let Ur:=s3.trans s4
   let Si:=Ur _ _ Uw;let zb:=Ur _ _ Wi
   let ed:ps.getD i (0,0)=p:=ZS Qy;let t0:Wh ([.int p.1,.int p.2]:List V) 0=some (.int p.1):=rfl
   let t1:Wh ([.int p.1,.int p.2]:List V) 1=some (.int p.2):=rfl;let iA:Wh (IL M) p.1=some (.int<|mk M p.1.toNat):=ZJ (n:=p.1.toNat) J (SN<|Qz sV)
   let iB:Wh (IL M) p.2=some (.int<|mk M p.2.toNat):=ZJ (n:=p.2.toNat) J (SN<|Qz sV);exists pt,_,Z,SqT.of XQ,Z,_,_,Z,_,_,Z,Z,?_;exists _,Z,_,Z,tt,_,0,_,Z,Z,SqT.of Si,t0,m,_,p.1,_,Z,Z,SqL.of zb,iA,_,Z,_,Z,tt,_,1,_,Z,Z,SqT.of Si,t1,m,_,p.2,_,Z,Z,SqL.of zb,iB,Z,_,Z,?_;rw[Zx];show WH (λhe=>?_) (λhe=>?_)
   .show Xh _ _ ⟨Ur,Xn,?_⟩;rw[Cn,ed,if_neg (by simpa using he),Yx]
   .exists _,Z,Xh _ _ ⟨Ur,Xn,?_⟩;rw[Cn,ed,if_pos he,ZX]
  .rintro ys H3 ⟨s3,_,rfl⟩ p hp;rw[RT];exists p,_,Z,.inl ⟨SqL.of XQ,λr hr=>?_⟩;show q r _ (Wt.trans<|s3.trans<|Zv (XZ hp) hr) ((Wt.trans<|s3.trans<|XZ hp).free hr) XQ
inductive spZr(K:Ad)(C:Addr)(vs:List V)(H:Hp)(Q:VK)(_:XK):Prop
 |mk (w a n ps kd ns z:_) (_:vs=[.ref w,.ref a,.int z]) (_:WebAt C H w n ps) (_:Zu n ps) (_:SqK kd K H a (IL ns)) (_:-(10^70)<z) (_:z<10^70) (_:(Zg n ps ns->z∉ns->0<=z->z<ps⁻¹->∀ms,ms.Perm (Sq n ps ns z ns++[z])->ms.Pairwise (·<=·)->∀r H',Same H H'->H r=none->H' r=some (.tup<|IL ms)->Q ↑r H')) (_:(Zg n ps ns->(z∈ns\/¬(0<=z/\z<ps⁻¹))->∀H':Hp,Same H H'->False)) (_:(¬Zg n ps ns->∀H':Hp,Same H H'->False))
def gT(T:Txt K mg t):WR P w base Xb T.qZr 8 (spZr K t.A_Web):=by
 show T.qZr.okI ["web","tree","tie"] DX λXC A outer s H vs Q E hr h=>?_
 .let⟨w,a,n,ps,kd,ns,z,rfl,hW,hG,hS,z0,z1,q,q1,q2⟩:=h;show⟨_,(XH (VJ<|Xf (gZ T) hr T.qZo ZD<|XY (pv 0)<|XY (pv 1) XT)
   (XH (VZ (PW.pt<|Ri (Zh (Kg K) (pv 2) (pv 1) Z)<|xa<|Kr<|IC<|Xf (zv T) hr T.qZ6 ZD<|XY (pv 0)<|XY (pv 2) XT)
   (XE Mh)
   Zr)
   (XE<|Zm<|Zo (ZN K) Ea T.n_tuple Boot.«tuple»<|XY (Ze (wj K) Ea T.n_sorted Boot.«sorted»<|XY (ZB OS (Wf Z (sc0:=Xe<|top 42) (N0:=["web","tree","tie"]) (N':=["out","tie","web","tree"]) (o:=1) (fr:=[2,0,1]) ⟨Z,DX,DX,DX,Z,DX⟩ (Kf K<|pv 1) (ZF sZ) (λ_ _ _ _=>(Zc 0)) (λ_ _ _ _=>(VG<|Zh (Kg K) (pv 1) (Xf (gU T) hr T.qZq ZD<|XY (pv 2)<|XY (pv 3)<|XY (pv 0) XT) Z)) λ_ _ _ _=>(pv 0))<|Tn<|XY (pv 2) XT) XT) XT))),?_⟩
  exists _,Z,_,Z,w,a,n,ps,kd,ns,Z,hW,hG,hS,λhT H1 s1=>?_,q2;let one:1<=sizeLine:=sZ
  let tl:ns.length<=20:=by have:=hT.2.1;have:=hG.2.1;lia
  exists _,Z,_,Z,a,_,Z,(hS.same s1).or,Z,Tg _,_,Z,?_;rw[LO];show WN (λhc=>?_) (λhc=>?_)
  .show Th (q1 hT (.inl hc) H1 s1)
  .exists _,Z,_,Z,w,n,ps,z,Z,hW.same s1,_,Z,?_;show WH (λht=>?_) (λht=>?_)
   .show⟨_,Z,a,Z,wJ (k:=kd) (K:=K) (xs:=IL ns) (λi ys H2=>Same H1 H2/\i<=ns.length/\ys=IL (Sq n ps ns z<|ns.take i)) ⟨Same.refl _,Ym _,Z⟩ (Zj<|by rw[Xp];lia)
     (λi ys H2 hi zz=>by let⟨e,Uz,ey⟩:=zz;show⟨(hS.same s1).same e,by rw[ey,Xp];show Yr (Fo ..)<|by rw[Yl];lia⟩) ?_ ?_⟩
    .rintro i x ys H2 hi ⟨s2,Ut,rfl⟩ S Xh;let⟨y,rfl,hy⟩:=Um hi;let Xn:i<ns.length:=(Xy.mp hy).1
     let Wt:=s1.trans s2;show nm ?_;exists _,Z,_,Z,_,Z,_,Z,w,a,n,ps,kd,ns,y,Z,hW.same Wt,hG,hS.same Wt,hT.1,λr H3 s3 Uq UY=>?_;exists r,_,Z,.inr<|SqT.of UY,Z,Tg _,_,Z,?_;rw[LO];show WN (λhe=>?_) (λhe=>?_)
     .exists _,Z,Xh _ _ ⟨s2.trans s3,Xn,?_⟩;rw[cI hy,if_pos he,ZX]
     .show Xh _ _ ⟨s2.trans s3,Xn,?_⟩;rw[cI hy,if_neg he,Yx]
    .rintro ys H2 ⟨s2,_,rfl⟩ p hp;rw[Xp,YS];let rl:=Fo n ps ns z ns
     exists _,Z,one,λp2 VT=>?_;show Ct (l2:=[z]) (by rw[XJ (Za XQ VT)];show XQ) XQ (by simp only[YF,Kv];lia) λp3 MQ=>?_;show⟨p3,_,Z,SqL.of XQ,by simp only[Xw,YF,Kv];lia,λms UG Oy p4 Jt=>?_⟩;exists p4,IL ms,Z,.inl ⟨SqL.of XQ,λr hr=>?_⟩;let s6:=(s1.trans s2).trans (Zv (Zv (XZ (o:=.lst<|IL<|Sq n ps ns z ns) hp) (o:=.lst<|IL [z]) VT) (o:=.lst<|IL<|Sq n ps ns z ns++[z]) MQ)
     show q hT hc ht.1 ht.2 ms UG Oy r _ (s6.trans<|Zv (XZ Jt) hr) ((s6.trans<|XZ Jt).free hr) XQ
   .show q1 hT (.inr ht) H1 s1
inductive spZs(K:Ad)(C:Addr)(vs:List V)(H:Hp)(Q:VK)(_:XK):Prop
 |mk (w a b n ps I O:_) (_:vs=[.ref w,.ref a,.ref b]) (_:WebAt C H w n ps) (_:Zu n ps) (_:SqT K H a (IL I)) (_:SqT K H b (IL O)) (_:I.Nodup) (_:(∀z∈I,0<=z/\z<ps⁻¹)) (_:(∀z∈I,z∉O)) (_:(∀H':Hp,Same H H'->(∀U,¬With n ps I O U)->Q .non H')) (_:(∀r F H',Same H H'->H' r=some (.tup<|IL F)->With n ps I O F->(∀U,With n ps I O U->HT.lexLt U F=false)->Q ↑r H'))
def y9(T:Txt K mg t):WR P w base Xb T.qZs 4 (spZs K t.A_Web):=by
 show T.qZs.okI ["web","inside","outside"] DX λXC A outer s H vs Q E hr h=>?_
 .let⟨w,a,b,n,ps,I,O,rfl,hW,hG,hA,hB,hIn,Xr,hd,q0,q1⟩:=h;exists _,(XE<|Zm<|Xf (gY T) hr T.qZp ZD<|XY (pv 0)<|XY (pv 1)<|XY (Xf (iG T) hr T.qZa ZD<|XY (pv 0)<|XY (pv 2) XT) XT),?_;let g3:=hG.2.2.1
  exists _,Z,_,Z,_,Z,_,Z,w,b,n,ps,true,O,Z,hW,J,hB,λD hDa hD dA H1 s1 gS=>?_;let hDs:IsSet ps.length D:=XW.mpr ⟨λz hz=>((hD z).mp hz).1,hDa⟩
  let hb:∀z∈I++D,0<=z/\z<ps⁻¹:=λz hz=>(XA.mp hz).elim (Xr z) λh=>((hD z).mp h).1;let il:I.length<=ps.length:=by
   have:=Hk (m:=VS ps.length) hIn λz hz=>Xx.mpr (Xr z hz)
   rwa[ZP]at this
  let dl:=hDs.len;exists w,a,dA,n,ps,true,true,I,D,Z,hW.same s1,hG,Kh s1 hA,SqT.of gS,J,J,hb,λh H2 s2=>q0 H2 (s1.trans s2) λU hU=>?_,λht hl r ms H2 UG Oy s2 Uq hr=>?_
  .have:=mM hG hU.1 hIn hU.2.1 (hU.sub hD) hb
   rcases h with h|h
   .show h this.1
   .show this.2 h
  .let hF:With n ps I O ms:=⟨Zd6 hG hb hl UG Oy,λz hz=>UG.mem_iff.mpr<|Vw<|ht▸hz,λz hz h=>(XA.mp<|(BX _ _ _).subset (UG.mem_iff.mp h)).elim (λh=>hd z h hz) λh=>((hD z).mp h).2 hz⟩;show q1 r ms H2 (s1.trans s2) hr hF λU hU=>Zt7 hG hU.1 hU.2.1 (hU.sub hD) hb hDa hF.1 UG hF.2.1
inductive spZt(K:Ad)(C:Addr)(vs:List V)(H:Hp)(Q:VK)(_:XK):Prop
 |mk (w m n ps M z:_) (_:vs=[.ref w,.ref m,.int z]) (_:WebAt C H w n ps) (_:Zu n ps) (_:H m=some (.lst<|IL M)) (_:M.length=n.toNat) (_:0<=z) (_:z<ps⁻¹) (_:∀r l H',l.Perm [mk M (ps.getD z.toNat (0,0)).1.toNat,mk M (ps.getD z.toNat (0,0)).2.toNat]->l.Pairwise (·<=·)->Same H H'->H' r=some (.lst<|IL l)->Q ↑r H')
def y8(T:Txt K mg t):WR P w base Xb T.qZt 1 (spZt K t.A_Web):=by
 show T.qZt.okI ["web","marks","tie","ends"] DX λXC A outer s H vs Q E hr h=>?_
 .let⟨w,m,n,ps,M,z,rfl,hW,hG,hM,Px,z0,z1,q⟩:=h;show⟨_,(XH (Zf 3<|ZK (Zd K) (Zl K (pv 0) Z) (pv 2) λ_ _=>rfl)
   (XE<|Zm<|Ze (wj K) Ea T.n_sorted Boot.«sorted»<|XY (Tn<|XY (ZK (Zd K) (pv 1) (ZK (ZE K) (pv 3) Zb λ_ _=>rfl) λ_ _=>rfl)<|XY (ZK (Zd K) (pv 1) (ZK (ZE K) (pv 3) Zb λ_ _=>rfl) λ_ _=>rfl) XT) XT)),?_⟩
  let⟨g1,g2,g3,g4⟩:=id hG;let⟨dx,tl,xs,h1,h2,h3⟩:=id hW;obtain⟨p,hp⟩:∃p,ps[z.toNat]?=some p:=⟨_,Xs J⟩;let ep:ps.getD z.toNat (0,0)=p:=ZS hp
  rw[ep]at q;let⟨v,hv,tt,rfl,Uw⟩:=h3.2 _ p hp;let⟨e1,e2,e3,e4⟩:=g4 p (Xg hp);let t0:Wh ([.int p.1,.int p.2]:List V) 0=some (.int p.1):=rfl
  let t1:Wh ([.int p.1,.int p.2]:List V) 1=some (.int p.2):=rfl;let iA:Wh (IL M) p.1=some (.int<|mk M p.1.toNat):=ZJ (n:=p.1.toNat) J (SN<|Qz sV)
  let iB:Wh (IL M) p.2=some (.int<|mk M p.2.toNat):=ZJ (n:=p.2.toNat) J (SN<|Qz sV);exists _,Z,w,_,dx,_,_,Z,h1,T.cl_Web,T.n_Web_ties,OK _ _,_,Z,tl,_,_,.ref tt,Z,Z,SqL.of h2,ZJ (n:=z.toNat) J hv,?_;show nm ?_;exists _,Z,_,Z,tt,_,0,_,Z,Z,SqT.of Uw,t0,m,_,p.1,_,Z,Z,SqL.of hM,iA,_,Z,_,Z,tt,_,1,_,Z,Z,SqT.of Uw,t1,m,_,p.2,_,Z,Z,SqL.of hM,iB,(by change 2<=sizeLine;decide),λa ha=>?_;let s1:=XZ (o:=.lst<|IL [mk M p.1.toNat,mk M p.2.toNat]) ha
  exists a,[mk M p.1.toNat,mk M p.2.toNat],Z,SqL.of XQ,(by change 2<64;decide),λl hl hs r hr=>?_;show q r l _ hl hs (s1.trans<|XZ hr) XQ
inductive spZu(K:Ad)(C:Addr)(vs:List V)(H:Hp)(Q:VK)(_:XK):Prop
 |mk (w m a n ps M g:_) (_:vs=[.ref w,.ref m,.ref a]) (_:WebAt C H w n ps) (_:Zu n ps) (_:H m=some (.lst<|IL M)) (_:M.length=n.toNat) (_:SqT K H a (IL g)) (_:∀r H',Same H H'->H r=none->H' r=some (.lst<|IL<|Pz M ps g ps.length)->Q ↑r H')
def y7(T:Txt K mg t):WR P w base Xb T.qZu 1 (spZu K t.A_Web):=by
 show T.qZu.okI ["web","marks","gone"] DX λXC A outer s H vs Q E hr h=>?_
 .let⟨w,m,a,n,ps,M,g,rfl,hW,hG,hM,Px,hA,q⟩:=h;exists _,(XE<|Zm<|Wf Z (sc0:=Xe<|top 48) (N0:=["web","marks","gone"]) (N':=["tie","ends","gone","marks"]) (o:=2) (fr:=[2,1]) ⟨Z,DX,DX,DX,Z,DX⟩ (LQ K Z T.n_enumerate<|XY (Zl K (pv 0) Z) XT) (HZ<|ZQ sZ<|ZQ sZ Ia) (λ_ _ _ _=>(VE (n:=2) K Z<|Zn (Zc 0)<|Zn (Zc 1) VI)) (λ_ _ _ _=>(VG<|PW.pt<|DR (Zh (HS K) (pv 0) (pv 2) Z)<|DS<|Zh PU (ZK (Zd K) (pv 3) (ZK (ZE K) (pv 1) Zb λ_ _=>rfl) λ_ _=>rfl) (ZK (Zd K) (pv 3) (ZK (ZE K) (pv 1) Zb λ_ _=>rfl) λ_ _=>rfl)<|Zq _)) λ_ _ _ _=>(pv 0)),?_;let⟨g1,g2,g3,g4⟩:=id hG;let⟨dx,tl,xs,h1,h2,h3⟩:=id hW;let RT:=h3.1
  show⟨_,Z,w,_,dx,_,_,Z,h1,T.cl_Web,T.n_Web_ties,OK _ _,tl,Z,⟨_,SqL.of h2⟩,Oz (K:=K) (a:=tl) (xs:=xs) (λi ys H3=>Same H H3/\i<=xs.length/\ys=IL (Pz M ps g i)) ⟨Same.refl _,Ym _,Z⟩ (Zj J)
   (λi ys H3 _ h=>by let⟨e,_,ey⟩:=h;show⟨SqL.of<|e _ _ h2,by rw[ey,Xp];show vg _ _ _ _⟩) ?_ ?_⟩
  .rintro i x ys H3 pt UW hi ⟨s3,Ut,rfl⟩ S Xh;let⟨p,Qy,tt,rfl,Uw⟩:=h3.at hi;let⟨e1,e2,e3,e4⟩:=g4 p (Xg Qy);let Xn:i<xs.length:=(Xy.mp hi).1
   let s4:Same H3 (upd H3 pt<|.tup [.int i,.ref tt]):=XZ UW;let Ur:=s3.trans s4
   let Si:=Ur _ _ Uw;let zb:=Ur _ _ hM
   let Jq:=SqK.same (k:=true) Ur hA;let ed:ps.getD i (0,0)=p:=ZS Qy
   let t0:Wh ([.int p.1,.int p.2]:List V) 0=some (.int p.1):=rfl;let t1:Wh ([.int p.1,.int p.2]:List V) 1=some (.int p.2):=rfl
   let iA:Wh (IL M) p.1=some (.int<|mk M p.1.toNat):=ZJ (n:=p.1.toNat) J (SN<|Qz sV);let iB:Wh (IL M) p.2=some (.int<|mk M p.2.toNat):=ZJ (n:=p.2.toNat) J (SN<|Qz sV)
   let hs:=z9 M ps g i;rw[ed]at hs;exists pt,_,Z,SqT.of XQ,Z,_,_,Z,_,_,Z,Z,?_;exists _,Z,_,Z,a,_,Z,.inr Jq,Z,Tg _,_,Z,?_;rw[LO];show WH (λhe=>?_) (λhe=>?_)
   .show Xh _ _ ⟨Ur,Xn,?_⟩;rw[hs,if_neg λh=>h.1 he,Yx]
   exists _,Z,_,Z,tt,_,0,_,Z,Z,SqT.of Si,t0,m,_,p.1,_,Z,Z,SqL.of zb,iA,_,Z,_,Z,tt,_,1,_,Z,Z,SqT.of Si,t1,m,_,p.2,_,Z,Z,SqL.of zb,iB,Z,_,Z,?_;rw[Zx];show WH (λhx=>?_) (λhx=>?_)
   .show Xh _ _ ⟨Ur,Xn,?_⟩;rw[hs,if_neg λh=>h.2 hx,Yx]
   .exists _,Z,Xh _ _ ⟨Ur,Xn,?_⟩;rw[hs,if_pos ⟨he,hx⟩,ZX]
  .rintro ys H3 ⟨s3,_,rfl⟩ p hp;rw[RT];show q p _ (s3.trans<|XZ hp) (s3.free hp) XQ
def gR(st:Stmt):(Pos):=match (ZY st).getD 9 (.Pass ⟨0,0,0,0⟩) with
 | .Assign _ (.Call _ _ [k] _) _=>(match k.value with
  | .Lambda _ _ _ p=>p
  |_=>⟨0,0,0,0⟩)
 |_=>⟨0,0,0,0⟩
def gQ:(Str):=Str.ofString "Part.__init__"++Str.ofString ".<locals>."++Str.ofString "<lambda>"
abbrev WI(H:Hp)(Pt:Addr):Prop:=TabH H Pt (gR sZv) gQ
inductive sp_Part_init(K:Ad)(CP C Pt:Addr)(vs:List V)(H:Hp)(Q:VK)(_:XK):Prop
 |mk (x dx w a b n ps I O ld:_) (_:vs=[.ref x,.ref w,.ref a,.ref b,WY ld]) (_:H x=some (.ins CP dx [])) (_:WebAt C H w n ps) (_:Zu n ps) (_:WI H Pt) (_:SqT K H a (IL I)) (_:SqT K H b (IL O)) (_:I.Nodup) (_:(∀z∈I,0<=z/\z<ps⁻¹)) (_:(∀z∈I,z∉O)) (_:O.length<=30) (_:(∃U,With n ps I O U)) (_:(∀y,ld=some y->0<=y/\y<ps⁻¹)) (_:(ld=none->∀F,With n ps I O F->(∀U,With n ps I O U->HT.lexLt U F=false)->WW n ps I O F=[])) (_:∀F inc fu l i H',With n ps I O F->(∀U,With n ps I O U->HT.lexLt U F=false)->QO (λz=>PyProof.Rows.b2i<|decide<|ld=some z) (Sk n ps I O F ld) inc->(fu=none↔Vz n ps I O F ld=[])->(∀y,fu=some y->y∈Vz n ps I O F ld/\∀z∈Vz n ps I O F ld,y<=z)->H' x=some (.ins CP dx<|vf ↑w ↑a ↑b (WY ld) ↑l ↑i<|WY fu)->H' l=some (.tup<|IL F)->H' i=some (.lst<|IL inc)->(∀b o,b≠x->b≠Pt->H b=some o->H' b=some o)->WI H' Pt->Q .non H')
def KJ:FnScope ["self","web","kept","shut","lead","marks","opened","alike","unlike"] ["self","web","kept","shut","lead"] (Xe sZv):=Rq DX
def Gq{Pt:Addr}(T:Txt K mg t)(hB:MR K mg base t.dZv Pt):FnOk P w K mg base Xb 8 t.aZv t.dZv ["self","web","kept","shut","lead"] (sp_Part_init K t.A_Part t.A_Web Pt):=by
 let⟨cA,TL,hC,hBa,Ao⟩:=hB;show T.fZv.okL TL KJ (λvs H Q E h=>?_) (λA outer s H vs Q E hr h=>?_)
 .let⟨x,dx,w,a,b,n,ps,I,O,ld,rfl,_⟩:=h;rfl
 .let⟨x,dx,w,a,b,n,ps,I,O,ld,rfl,hx,hW,hG,hT,hA,Qg,hIn,Xr,TN,MK,⟨U0,EJ⟩,zJ,PM,q⟩:=h;show⟨_,(XH (Ma (pv 0) (pv 1) Z)
   (XH (Ma (pv 0) (pv 2) Z)
   (XH (Ma (pv 0) (pv 3) Z)
   (XH (Ma (pv 0) (pv 4) Z)
   (XH (Ma (pv 0) (Xf (y9 T) hr T.qZs ZD<|XY (pv 1)<|XY (pv 2)<|XY (pv 3) XT) Z)
   (XH (Rh (i:=5) KJ.nd Z (Or.inr Z)<|Xf (Qh T) hr T.qZf ZD<|XY (pv 1)<|XY (pv 2) XT)
   (XH (Zf 6<|Xf (y7 T) hr T.qZu ZD<|XY (pv 1)<|XY (pv 5)<|XY (ZB (HE K) (ZB (HE K) (pv 2)<|pv 3)<|Zl K (pv 0) Z) XT)
   (XH (Rh (i:=7) KJ.nd Z (Or.inr Z)<|Wf Z (sc0:=Xe sZv) (N0:=["self","web","kept","shut","lead","marks","opened","alike","unlike"]) (N':=["tie","web","marks","lead"]) (o:=1) (fr:=[1,5,4]) ⟨Z,DX,DX,DX,Z,DX⟩ (ZU K<|pv 6) (ZF sZ) (λ_ _ _ _=>(Zc 0)) (λ_ _ _ _=>(VG<|Zh (OJ K<|Nc hr) (Xf (y8 T) hr T.qZt ZD<|XY (pv 1)<|XY (pv 2)<|XY (pv 0) XT) (Xf (y8 T) hr T.qZt ZD<|XY (pv 1)<|XY (pv 2)<|XY (pv 3) XT)<|Zq _)) λ_ _ _ _=>(pv 0))
   (XH (RF (i:=8) Z KJ.nd Z Z (sc0:=Xe sZv) (N0:=["self","web","kept","shut","lead","marks","opened","alike","unlike"]) (N':=["tie","alike"]) (o:=1) (fr:=[7]) ⟨Z,DX,DX,DX,Z,DX⟩ (ZU K<|pv 6) (ZF sZ) (λ_ _ _ _=>(Zc 0)) (λ_ _ _ _=>(VG<|Zh (HS K) (pv 0) (pv 1) Z)) λ_ _ _ _=>(pv 0))
   (XH (Ma (pv 0) (jA (k:=0) (i:=4) (v:="tie") (x:="lead") (pv 7) Ea T.n_sorted (hr.mono sZ) rfl rfl hC hBa Ao (LamScope.of rfl rfl rfl (by first|show .inl rfl|show .inr rfl) sZ) rfl rfl (λ_ _ _ _=>rfl) rfl rfl rfl λ_ _ _ _ _ _ hr=>(Nj Rg (pv 0) (pv 1)<|Zq _)) rfl)
   (XE<|Ma (pv 0) (Zy9 Z Ea T.n_min<|pv 8) Z))))))))))),?_⟩
  let⟨g1,g2,g3,g4⟩:=id hG;exists _,Z,_,Z,x,_,dx,[],Z,hx,T.cl_Part,T.n_Part_web,(by change 0<1000;decide),?_;exists _,Z,_,Z,x,_,dx,_,Z,XQ,T.cl_Part,T.n_Part_kept,(by change 1<1000;decide),?_;exists _,Z,_,Z,x,_,dx,_,Z,XQ,T.cl_Part,T.n_Part_shut,(by change 2<1000;decide),?_;exists _,Z,_,Z,x,_,dx,_,Z,XQ,T.cl_Part,T.n_Part_lead,(by change 3<1000;decide),?_;change Ts _ _ _ [some ↑x,some<|.ref w,some<|.ref a,some<|.ref b,some<|WY ld,none,none,none,none] (upd (upd (upd (upd H x<|.ins t.A_Part dx<|XO "web" ↑w []) x<|.ins t.A_Part dx<|XO "kept" ↑a<|XO "web" ↑w []) x<|.ins t.A_Part dx<|XO "shut" ↑b<|XO "kept" ↑a<|XO "web" ↑w []) x<|.ins t.A_Part dx<|XO "lead" (WY ld)<|XO "shut" ↑b<|XO "kept" ↑a<|XO "web" ↑w []);let QK:SameX x H (upd (upd (upd (upd H x<|.ins t.A_Part dx<|XO "web" ↑w []) x<|.ins t.A_Part dx<|XO "kept" ↑a<|XO "web" ↑w []) x<|.ins t.A_Part dx<|XO "shut" ↑b<|XO "kept" ↑a<|XO "web" ↑w []) x<|.ins t.A_Part dx<|XO "lead" (WY ld)<|XO "shut" ↑b<|XO "kept" ↑a<|XO "web" ↑w []):=((Wv.trans Wv).trans Wv).trans Wv
  let uR:(upd (upd (upd (upd H x<|.ins t.A_Part dx<|XO "web" ↑w []) x<|.ins t.A_Part dx<|XO "kept" ↑a<|XO "web" ↑w []) x<|.ins t.A_Part dx<|XO "shut" ↑b<|XO "kept" ↑a<|XO "web" ↑w []) x<|.ins t.A_Part dx<|XO "lead" (WY ld)<|XO "shut" ↑b<|XO "kept" ↑a<|XO "web" ↑w []) x=some (.ins t.A_Part dx [("web",.ref w),("kept",.ref a),("shut",.ref b),("lead",WY ld)]):=XQ;generalize upd (upd (upd (upd H x<|.ins t.A_Part dx<|XO "web" ↑w []) x<|.ins t.A_Part dx<|XO "kept" ↑a<|XO "web" ↑w []) x<|.ins t.A_Part dx<|XO "shut" ↑b<|XO "kept" ↑a<|XO "web" ↑w []) x (.ins t.A_Part dx<|XO "lead" (WY ld)<|XO "shut" ↑b<|XO "kept" ↑a<|XO "web" ↑w [])=H4 at *;let EI:=hW.but hx QK
  let Jq:=z8 hA hx QK;let g9:=z8 Qg hx QK
  let il:I.length<=ps.length:=by
   have:=Hk (m:=VS ps.length) hIn λz hz=>Xx.mpr (Xr z hz)
   rwa[ZP]at this
  exists _,Z,_,Z,_,Z,w,a,b,n,ps,I,O,Z,EI,hG,Jq,g9,hIn,Xr,TN,λH5 s5 h=>absurd EJ<|h U0,λl F H5 s5 hl hF VP=>?_;exists _,Z,x,_,dx,_,Z,s5 _ _ uR,T.cl_Part,T.n_Part_least,(by change 4<1000;decide),?_;let y6:SameX x H H5:=QK.trans (SameX.same s5)
  let uK:SameX x H (upd H5 x<|.ins t.A_Part dx<|XO "least" ↑l [("web",.ref w),("kept",.ref a),("shut",.ref b),("lead",WY ld)]):=y6.trans Wv;let hx6:(upd H5 x<|.ins t.A_Part dx<|XO "least" ↑l [("web",.ref w),("kept",.ref a),("shut",.ref b),("lead",WY ld)]) x=some (.ins t.A_Part dx [("web",.ref w),("kept",.ref a),("shut",.ref b),("lead",WY ld),("least",.ref l)]):=XQ
  let zm:(upd H5 x<|.ins t.A_Part dx<|XO "least" ↑l [("web",.ref w),("kept",.ref a),("shut",.ref b),("lead",WY ld)]) l=some (.tup<|IL F):=by rwa[XJ (λe=>by rw[e,s5 _ _ uR]at hl;cases hl)]
  change Ts _ _ _ [some ↑x,some<|.ref w,some<|.ref a,some<|.ref b,some<|WY ld,none,none,none,none] (upd H5 x<|.ins t.A_Part dx<|XO "least" ↑l [("web",.ref w),("kept",.ref a),("shut",.ref b),("lead",WY ld)]);generalize upd H5 x (.ins t.A_Part dx<|XO "least" ↑l [("web",.ref w),("kept",.ref a),("shut",.ref b),("lead",WY ld)])=H6 at *;exists _,Z,_,Z,w,a,n,ps,I,Z,hW.but hx uK,hG,z8 hA hx uK,Xr,λm H7 s7 Py uL=>?_;show nm ?_;dsimp only[List.set];let gP:SameX x H H7:=uK.trans (SameX.same s7)
  let hF1:F.length<=ps.length:=hF.1.1.len;let Px:(Xz n.toNat<|XS ps I).length=n.toNat:=Zw _ _
  exists _,Z,_,Z,_,Z,_,Z,?_;show z7 (l:=I) (m:=O) (z8 hA hx gP) (z8 Qg hx gP) J λr1 H8 s8 UU=>?_;let gO:SameX x H H8:=gP.trans (SameX.same s8)
  let gN:=s7.trans s8;exists _,Z,x,_,dx,_,.ref l,Z,gN _ _ hx6,T.cl_Part,T.n_Part_least,Z,?_;show z7 (l:=I++O) (m:=F) UU (SqT.of<|gN _ _ zm) (by rw[Xw];lia) λr2 H9 s9 UZ=>?_;let s69:=gN.trans s9
  let sx9:SameX x H H9:=gO.trans (SameX.same s9);let uN:=s8.trans s9
  exists w,m,r2,n,ps,Xz n.toNat<|XS ps I,I++O++F,Z,hW.but hx sx9,hG,uN _ _ uL,Px,UZ,λpA ML zf hp0 NC=>?_;let NC:ML pA=some (.lst<|IL<|WW n ps I O F):=NC
  show nm ?_;let sxA:SameX x H ML:=sx9.trans (SameX.same zf)
  let s6A:=s69.trans zf;let hmA:=(uN.trans zf) _ _ uL
  let QA:∀z∈WW n ps I O F,0<=z/\z<ps⁻¹:=λz hz=>ZA9 hz;let PN:(WW n ps I O F).length<=ps.length:=vg _ _ _ _
  show⟨_,Z,pA,Z,⟨_,SqL.of NC⟩,Nb (K:=K) (a:=pA) (xs:=IL<|WW n ps I O F) (λi ws KL=>Same ML KL/\i<=(WW n ps I O F).length/\ws=IL (((WW n ps I O F).take i).filter λz=>decide<|∃y,ld=some y/\TJ (Xz n.toNat<|XS ps I) ps z=TJ (Xz n.toNat<|XS ps I) ps y)) ⟨Same.refl _,Ym _,Z⟩ (Zj<|by rw[Xp];lia)
   (λi ws KL hi h=>by let⟨e,Uz,ew⟩:=h;show⟨SqL.of<|e _ _ NC,by rw[ew,Xp];show Yr (YG ..)<|by rw[Yl];lia⟩) ?_ ?_⟩
  .rintro i v ws KL hi ⟨Gu,Ut,rfl⟩ S Xh;let⟨z,rfl,hz⟩:=Um hi;let⟨z0,z1⟩:=QA z (Xg hz);let Xn:i<(WW n ps I O F).length:=(Xy.mp hz).1
   obtain⟨y,rfl⟩:∃y,ld=some y:=by
    cases ld with
    |some y=>exists y,Z
    |none=>
     rw[PM Z F hF VP]at Xn;show absurd Xn (Sf _)
   let⟨y0,y1⟩:=zJ y rfl;show nm ?_;exists _,Z,_,Z,_,Z,w,m,n,ps,_,z,Z,hW.but hx<|sxA.trans<|SameX.same Gu,hG,Gu _ _ hmA,Px,z0,z1,λe1 l1 H12 RR hs1 Wt AI=>?_;let Gp:=Gu.trans Wt
   exists _,Z,_,Z,_,Z,w,m,n,ps,_,y,Z,hW.but hx<|sxA.trans<|SameX.same Gp,hG,Gp _ _ hmA,Px,y0,y1,λe2 l2 H13 Vj Sx s13 ON=>?_;exists 1,_,e1,e2,Z,Z,sZ,cP (SqL.of<|s13 _ _ AI)<|SqL.of ON,_,Z,?_;let ed:decide (l1=l2)=decide (∃y_1,some y=some y_1/\TJ (Xz n.toNat<|XS ps I) ps z=TJ (Xz n.toNat<|XS ps I) ps y_1):=by
    rw[ZQ3 RR hs1,ZQ3 Vj Sx,tW];constructor
    .intro e;injection e with e1 e2
     injection e2 with e2 _;exists y,Z,Prod.ext e1 e2
    .rintro⟨y',e,e'⟩;cases e;let⟨e1,e2⟩:=Prod.mk.inj e';rw[e1,e2]
   let yZ:=Gp.trans s13;change(if decide (l1=l2)=true then _ else _)
   rw[ed];show WN (λhc=>?_) (λhc=>?_)
   .exists _,Z,Xh _ _ ⟨yZ,Xn,?_⟩;rw[ZR hz,if_pos<|Yv hc,ZX]
   .show Xh _ _ ⟨yZ,Xn,?_⟩;rw[ZR hz,if_neg (by simpa using hc),Yx]
  rintro ws KL ⟨Gu,_,rfl⟩ kA hkA;rw[Xp,YS];let ea:((WW n ps I O F).filter λz=>decide<|∃y,ld=some y/\TJ (Xz n.toNat<|XS ps I) ps z=TJ (Xz n.toNat<|XS ps I) ps y)=Sk n ps I O F ld:=rfl
  rw[ea];let hal:(Sk n ps I O F ld).length<=ps.length:=Yr (YG ..) PN
  let v1:=XZ (o:=.lst<|IL<|Sk n ps I O F ld) hkA;let kK:(upd KL kA<|.lst<|IL<|Sk n ps I O F ld) kA=some (.lst<|IL<|Sk n ps I O F ld):=XQ
  show nm ?_;dsimp only[List.set];let sAB:=Gu.trans v1
  change Ts _ _ _ _ (upd KL kA<|.lst<|IL<|Sk n ps I O F ld);generalize upd KL kA (.lst<|IL<|Sk n ps I O F ld)=H14 at *;let hpB:=sAB _ _ NC
  show⟨_,Z,pA,Z,⟨_,SqL.of hpB⟩,Nb (K:=K) (a:=pA) (xs:=IL<|WW n ps I O F) (λi ws Jn=>Jn=H14/\i<=(WW n ps I O F).length/\ws=IL (((WW n ps I O F).take i).filter λz=>decide<|z∉Sk n ps I O F ld)) ⟨Z,Ym _,Z⟩ (Zj<|by rw[Xp];lia)
   (λi ws Jn hi h=>by let⟨e,Uz,ew⟩:=h;show⟨e▸SqL.of hpB,by rw[ew,Xp];show Yr (YG ..)<|by rw[Yl];lia⟩) ?_ ?_⟩
  .rintro i v ws Jn hi ⟨rfl,Ut,rfl⟩ S Xh;let⟨z,rfl,hz⟩:=Um hi;let Xn:i<(WW n ps I O F).length:=(Xy.mp hz).1
   show nm ?_;exists _,Z,_,Z,kA,_,Z,.inl<|SqL.of kK,Z,Tg _,_,Z,?_;rw[LO];show WH (λhe=>?_) (λhe=>?_)
   .show Xh _ _ ⟨Z,Xn,?_⟩;rw[ZR hz,if_neg (by simpa using he),Yx]
   .exists _,Z,Xh _ _ ⟨Z,Xn,?_⟩;rw[ZR hz,if_pos<|Yv he,ZX]
  rintro ws Jn ⟨rfl,_,rfl⟩ uA huA;rw[Xp,YS];let eu:((WW n ps I O F).filter λz=>decide<|z∉Sk n ps I O F ld)=Vz n ps I O F ld:=rfl
  rw[eu];let v2:=XZ (o:=.lst<|IL<|Vz n ps I O F ld) huA
  let kU:(upd Jn uA<|.lst<|IL<|Vz n ps I O F ld) uA=some (.lst<|IL<|Vz n ps I O F ld):=XQ;show nm ?_;let gM:=(s6A.trans sAB).trans v2
  let kKU:=v2 _ _ kK;let sxU:SameX x H (upd Jn uA<|.lst<|IL<|Vz n ps I O F ld):=uK.trans (SameX.same gM)
  let Hj:=gM _ _ hx6;let hlU:=gM _ _ zm
  change Ts _ _ _ _ (upd Jn uA<|.lst<|IL<|Vz n ps I O F ld);generalize upd Jn uA (.lst<|IL<|Vz n ps I O F ld)=H16 at *;let KI:WI H16 Pt:=jr hT hx sxU
  exists _,Z,kA,Sk n ps I O F ld,WY ld,λz=>decide<|ld=some z,Z,SqL.of kKU,J,KI,Z,λyY NB z hz=>?_,λinc iA yY WV NB yX gL=>?_
  .exists _,rfl,_,rfl,(by cases ld<;>rfl),?_,rfl
   change V.bl (decide<|V.int z=WY ld)=V.bl (decide<|ld=some z);cases ld with
   |none=>rfl
   |some y=>
    change V.bl (decide<|V.int z=V.int y)=V.bl (decide<|some y=some z);rw[Zx];congr 1;rw[tW];exists λe=>by rw[e],λe=>(Yi e).symm
  let hxP:x≠Pt:=KI.ne Hj B;let v3:=XZ (o:=.lst<|IL inc) gL
  let yW:=v3 _ _ (NB _ _ hxP Hj);let yV:=v3 _ _ (NB _ _ (KI.ne hlU B) hlU)
  let yU:=v3 _ _ (NB _ _ (KI.ne kU B) kU);let yT:(upd yY iA<|.lst<|IL inc) iA=some (.lst<|IL inc):=XQ
  let yS:WI (upd yY iA<|.lst<|IL inc) Pt:=yX.same v3;let Gn:∀b o,b≠x->b≠Pt->H b=some o->(upd yY iA<|.lst<|IL inc) b=some o:=λb o h1 h2 e=>v3 _ _ (NB _ _ h2<|sxU _ _ h1 e)
  change tVar _ _ _ _;generalize upd yY iA (.lst<|IL inc)=yR at *;exists _,Z,x,_,dx,_,Z,yW,T.cl_Part,T.n_Part_incoming,(by change 5<1000;decide),?_;let NA:∀c o,yR c=some o->(∀a b fs,o≠.ins a b fs)->c≠x:=λc o h ho e=>by rw[e,yW]at h;show ho _ _ _ (Yi h).symm
  let gK:(upd yR x<|.ins t.A_Part dx<|XO "incoming" ↑iA [("web",.ref w),("kept",.ref a),("shut",.ref b),("lead",WY ld),("least",.ref l)]) uA=some (.lst<|IL<|Vz n ps I O F ld):=by rw[XJ (NA _ _ yU B)];show yU
  let fin:∀fu:Option Int,(fu=none↔Vz n ps I O F ld=[])->(∀y,fu=some y->y∈Vz n ps I O F ld/\∀z∈Vz n ps I O F ld,y<=z)->Q .non (upd (upd yR x<|.ins t.A_Part dx<|XO "incoming" ↑iA [("web",.ref w),("kept",.ref a),("shut",.ref b),("lead",WY ld),("least",.ref l)]) x<|.ins t.A_Part dx<|vf ↑w ↑a ↑b (WY ld) ↑l ↑iA<|WY fu):=λfu h1 h2=>by
   let up:∀c o,c≠x->yR c=some o->(upd (upd yR x<|.ins t.A_Part dx<|XO "incoming" ↑iA [("web",.ref w),("kept",.ref a),("shut",.ref b),("lead",WY ld),("least",.ref l)]) x<|.ins t.A_Part dx<|vf ↑w ↑a ↑b (WY ld) ↑l ↑iA<|WY fu) c=some o:=λc o h e=>by rw[XJ h,XJ h];show e
   let⟨tp,t1,t2,t3⟩:=id yS;show q F inc fu l iA _ hF VP WV h1 h2 XQ (up _ _ (NA _ _ yV B) yV) (up _ _ (NA _ _ yT B) yT) (λb o b1 b2 e=>up _ _ b1<|Gn b o b1 b2 e) ⟨tp,up _ _ (NA _ _ t1 B) t1,t2,?_⟩;rcases t3 with h|⟨c,h,h'⟩
   .show .inl h
   .show .inr ⟨c,h,up _ _ (NA _ _ h'<|by unfold EX;simp) h'⟩
  exists _,Z,uA,Vz n ps I O F ld,Z,SqL.of gK,λe=>?_,λmn TR Wi=>?_
  .exists _,Z,x,_,dx,_,Z,XQ,T.cl_Part,T.n_Part_further,(by change 6<1000;decide),?_;show fin none ⟨λ_=>e,λ_=>rfl⟩ λy h=>by cases h
  .exists _,Z,x,_,dx,_,Z,XQ,T.cl_Part,T.n_Part_further,(by change 6<1000;decide),?_;show fin (some mn) ⟨λh=>(by cases h),λh=>(by rw[h]at TR;cases TR)⟩ λy h=>(by cases h;exists TR,Wi)
inductive spZw(K:Ad)(CP C Pt:Addr)(vs:List V)(H:Hp)(Q:VK)(_:XK):Prop
 |mk (w n ps:_) (_:vs=[.ref w]) (_:WebAt C H w n ps) (_:Zu n ps) (_:WI H Pt) (_:(∃U,Zg n ps U)) (_:∀x F inc ld fu H',PartOk n ps [] [] ld F inc fu->(ld=none↔WW n ps [] [] F=[])->(∀y,ld=some y->y∈WW n ps [] [] F/\∀z∈WW n ps [] [] F,y<=z)->PartAt K CP C H' x n ps [] [] F inc ld fu->SameX Pt H H'->WI H' Pt->Q ↑x H')
def gJ{Pt:Addr}(T:Txt K mg t)(hB:MR K mg base t.dZv Pt):WR P w base Xb T.qZw 10 (spZw K t.A_Part t.A_Web Pt):=by
 show T.qZw.okI ["web","opened"] DX λXC A outer s H vs Q E hr h=>?_
 .let⟨w,n,ps,rfl,hW,hG,hT,⟨U0,EJ⟩,q⟩:=h;show⟨_,(XH (Zf 1<|Xf (y7 T) hr T.qZu ZD<|XY (pv 0)<|XY (Xf (Qh T) hr T.qZf ZD<|XY (pv 0)<|XY (To XT) XT)<|XY (Xf (y9 T) hr T.qZs ZD<|XY (pv 0)<|XY (To XT)<|XY (To XT) XT) XT)
   (XE<|Zm<|OW T.k_Part (Gq T hB) (hr.mono sZ) Z T.c_Part T.bZv .nil ZD<|XY (pv 0)<|XY (To XT)<|XY (To XT)<|XY (Zy9 Z Ea T.n_min<|pv 1) XT)),?_⟩
  let hU1:With n ps [] [] U0:=⟨EJ,λz h=>(by cases h),λz h=>(by cases h)⟩;exists _,Z,_,Z,Ym _,λe1 AI=>?_;let s1:=XZ (o:=.tup []) AI
  exists w,e1,n,ps,[],Z,hW.same s1,hG,SqT.of XQ,λz h=>(by cases h),λm H2 s2 Py Wi=>?_;let Wt:=s1.trans s2
  exists _,Z,Ym _,λe2 ON=>⟨Ym _,λe3 he3=>?_⟩;let s3:=XZ (o:=.tup []) ON
  let s4:=XZ (o:=.tup []) he3;let s14:=Wt.trans (s3.trans s4)
  exists w,e2,e3,n,ps,[],[],Z,hW.same s14,hG,SqT.of<|s4 _ _ XQ,SqT.of XQ,.nil,λz h=>(by cases h),λz h=>(by cases h),λH5 s5 h=>absurd hU1<|h U0,λl F H5 s5 hl hF VP=>?_;let s15:=s14.trans s5
  let uM:=((s3.trans s4).trans s5) _ _ Wi;let Px:(Xz n.toNat<|XS ps []).length=n.toNat:=Zw _ _
  exists w,m,l,n,ps,Xz n.toNat<|XS ps [],F,Z,hW.same s15,hG,uM,Px,SqT.of hl,λpA H6 s6 hp0 gI=>?_;let gI:H6 pA=some (.lst<|IL<|WW n ps [] [] F):=gI
  show nm ?_;let s16:=s15.trans s6
  let QA:∀z∈WW n ps [] [] F,0<=z/\z<ps⁻¹:=λz hz=>ZA9 hz;exists _,Z,Ym _,λf1 EK=>⟨Ym _,λf2 KP=>?_⟩;let s7:=XZ (o:=.tup []) EK
  let s8:=XZ (o:=.tup []) KP;let Gm:(upd (upd H6 f1<|.tup []) f2<|.tup []) f1=some (.tup []):=s8 _ _ XQ
  let Gk:(upd (upd H6 f1<|.tup []) f2<|.tup []) f2=some (.tup []):=XQ;let uJ:=s16.trans (s7.trans s8)
  let hp8:=(s7.trans s8) _ _ gI;generalize upd (upd H6 f1<|.tup []) f2 (.tup [])=H8 at *;let main:∀ld:Option Int,(ld=none↔WW n ps [] [] F=[])->(∀y,ld=some y->y∈WW n ps [] [] F/\∀z∈WW n ps [] [] F,y<=z)->∀x dx,H8 x=none->H8 dx=none->dx≠x->sp_Part_init K t.A_Part t.A_Web Pt [.ref x,.ref w,.ref f1,.ref f2,WY ld] (upd (upd H8 dx<|.own x) x<|.ins t.A_Part dx []) (λv H2=>v=.non/\Q ↑x H2) E0:=by
   intro ld hn hs x dx nx ND RD;let s9:Same H8 (upd (upd H8 dx<|.own x) x<|.ins t.A_Part dx []):=Zv (XZ ND) (by rwa[XJ (Xc RD)])
   let s19:=uJ.trans s9;exists x,dx,w,f1,f2,n,ps,[],[],ld,Z,XQ,hW.same s19,hG,hT.same s19,SqT.of<|s9 _ _ Gm,SqT.of<|s9 _ _ Gk,.nil,λz h=>(by cases h),λz h=>(by cases h),Ym _,⟨U0,hU1⟩,λy hy=>QA y (hs y hy).1,λe F' Jm Sh=>?_,λF' inc fu l' i' H' Jm Sh WV h1 h2 Xu QD UI keep Nz=>⟨Z,?_⟩
   .let eF:F'=F:=Xo (VP F' Jm) (Sh F hF);rw[eF];show hn.mp e
   .let eF:F'=F:=Xo (VP F' Jm) (Sh F hF);subst eF;let sx:SameX Pt H8 H':=λb o hb e=>keep b o (Za e nx) hb (s9 _ _ e)
    let KH:WI H8 Pt:=hT.same uJ;show q x F' inc ld fu H' ⟨Jm,Sh,WV,h1,h2⟩ hn hs ⟨dx,w,f1,f2,l',i',Xu,(hW.same uJ).samex KH sx,SqT.of<|sx _ _ (KH.ne Gm B) Gm,SqT.of<|sx _ _ (KH.ne Gk B) Gk,QD,UI⟩ ((SameX.same uJ).trans sx) Nz
  exists _,Z,pA,WW n ps [] [] F,Z,SqL.of hp8,λe=>?_,λmn h1 h2=>?_
  .show main none ⟨λ_=>e,λ_=>rfl⟩ λy h=>by cases h
  .show main (some mn) ⟨λh=>(by cases h),λh=>(by rw[h]at h1;cases h1)⟩ λy h=>(by cases h;exists h1,h2)
inductive spZx(K:Ad)(CP C Pt:Addr)(vs:List V)(H:Hp)(Q:VK)(_:XK):Prop
 |mk (x n ps I O F inc z y:_) (_:vs=[.ref x]) (_:PartAt K CP C H x n ps I O F inc (some z) (some y)) (_:Zu n ps) (_:WI H Pt) (_:(I).Nodup) (_:(∀v∈I,0<=v/\v<ps⁻¹)) (_:(∀v∈I,v∉O++[z])) (_:(O++[z]).length<=30) (_:(∃U,With n ps (I) (O++[z]) U)) (_:0<=y) (_:y<ps⁻¹) (_:∀x' F' VO fu H',PartOk n ps (I) (O++[z]) (some y) F' VO fu->PartAt K CP C H' x' n ps (I) (O++[z]) F' VO (some y) fu->SameX Pt H H'->WI H' Pt->Q ↑x' H')
def gH{Pt:Addr}(T:Txt K mg t)(hB:MR K mg base t.dZv Pt):WR P w base Xb T.qZx 10 (spZx K t.A_Part t.A_Web Pt):=by
 show T.qZx.okI ["part"] DX λXC A outer s H vs Q E hr h=>?_
 .let⟨x,n,ps,I,O,F,inc,z,y,rfl,⟨dx,w,a,b,l,i,hx,hW,hA,Qg,hl,hi⟩,hG,hT,hIn,Xr,TN,MK,hex,y0,y1,q⟩:=h;exists _,(XE<|Zm<|OW T.k_Part (Gq T hB) (hr.mono sZ) Z T.c_Part T.bZv .nil ZD<|XY (Zl K (pv 0) Z)<|XY (Zl K (pv 0) Z)<|XY (ZB (HE K) (Zl K (pv 0) Z)<|To<|XY (Zl K (pv 0) Z) XT)<|XY (Zl K (pv 0) Z) XT),?_;let gG:I.length<=30:=by
   have:=Hk (m:=VS ps.length) hIn λv hv=>Xx.mpr (Xr v hv)
   let e:=hG.2.2.1;rw[ZP]at this
   try simp only[Xw,Yt]at this
   lia
  let NL:O.length<=30:=by
   have:=MK
   try simp only[Xw,Yt]at this
   lia
  exists _,Z,x,_,dx,_,.ref w,Z,hx,T.cl_Part,T.n_Part_web,Z,_,Z,x,_,dx,_,.ref a,Z,hx,T.cl_Part,T.n_Part_kept,Z,_,Z,x,_,dx,_,.ref b,Z,hx,T.cl_Part,T.n_Part_shut,Z,_,Z,x,_,dx,_,.int z,Z,hx,T.cl_Part,T.n_Part_lead,Z,(by change 1<=sizeLine;decide),λp hp=>?_;let s1:=XZ (o:=.tup<|IL [z]) hp
  show z7 (l:=O) (m:=[z]) (SqK.same (k:=true) s1 Qg) (SqT.of XQ) (by rw[Yt];lia) λr1 H2 s2 UU=>?_;let Wt:=s1.trans s2
  exists _,Z,x,_,dx,_,.int y,Z,Wt _ _ hx,T.cl_Part,T.n_Part_further,Z,?_;intro x' KG nx ND RD;let s9:Same H2 (upd (upd H2 KG<|.own x') x'<|.ins t.A_Part KG []):=Zv (XZ ND) (by rwa[XJ (Xc RD)])
  let VN:WI H2 Pt:=hT.same Wt;exists x',KG,w,a,r1,n,ps,I,O++[z],some y,Z,XQ,hW.same<|Wt.trans s9,hG,VN.same s9,SqK.same (k:=true) (Wt.trans s9) hA,SqK.same (k:=true) s9 UU,hIn,Xr,TN,MK,hex,λv e=>(by cases e;exists y0,y1),λe=>(by cases e),λF' VO fu l' i' H' Jm Sh WV h1 h2 Xu QD UI keep Nz=>⟨Z,?_⟩;let sx:SameX Pt H2 H':=λb o hb e=>keep b o (Za e nx) hb (s9 _ _ e)
  show q x' F' VO fu H' ⟨Jm,Sh,WV,h1,h2⟩ ⟨KG,w,a,r1,l',i',Xu,(hW.same Wt).samex VN sx,SqK.samex (kd:=true) (SqK.same (k:=true) Wt hA) VN sx,SqK.samex (kd:=true) (UU) VN sx,QD,UI⟩ ((SameX.same Wt).trans sx) Nz
inductive spZy(K:Ad)(CP C Pt:Addr)(vs:List V)(H:Hp)(Q:VK)(_:XK):Prop
 |mk (x n ps I O F inc z y:_) (_:vs=[.ref x]) (_:PartAt K CP C H x n ps I O F inc (some z) (some y)) (_:Zu n ps) (_:WI H Pt) (_:(I++[z]).Nodup) (_:(∀v∈I++[z],0<=v/\v<ps⁻¹)) (_:(∀v∈I++[z],v∉O)) (_:(O).length<=30) (_:(∃U,With n ps (I++[z]) (O) U)) (_:0<=y) (_:y<ps⁻¹) (_:∀x' F' VO fu H',PartOk n ps (I++[z]) (O) (some y) F' VO fu->PartAt K CP C H' x' n ps (I++[z]) (O) F' VO (some y) fu->SameX Pt H H'->WI H' Pt->Q ↑x' H')
def gF{Pt:Addr}(T:Txt K mg t)(hB:MR K mg base t.dZv Pt):WR P w base Xb T.qZy 10 (spZy K t.A_Part t.A_Web Pt):=by
 show T.qZy.okI ["part"] DX λXC A outer s H vs Q E hr h=>?_
 .let⟨x,n,ps,I,O,F,inc,z,y,rfl,⟨dx,w,a,b,l,i,hx,hW,hA,Qg,hl,hi⟩,hG,hT,hIn,Xr,TN,MK,hex,y0,y1,q⟩:=h;exists _,(XE<|Zm<|OW T.k_Part (Gq T hB) (hr.mono sZ) Z T.c_Part T.bZv .nil ZD<|XY (Zl K (pv 0) Z)<|XY (ZB (HE K) (Zl K (pv 0) Z)<|To<|XY (Zl K (pv 0) Z) XT)<|XY (Zl K (pv 0) Z)<|XY (Zl K (pv 0) Z) XT),?_;let gG:I.length<=30:=by
   have:=Hk (m:=VS ps.length) hIn λv hv=>Xx.mpr (Xr v hv)
   let e:=hG.2.2.1;rw[ZP]at this
   try simp only[Xw,Yt]at this
   lia
  let NL:O.length<=30:=by
   have:=MK
   try simp only[Xw,Yt]at this
   lia
  exists _,Z,x,_,dx,_,.ref w,Z,hx,T.cl_Part,T.n_Part_web,Z,_,Z,x,_,dx,_,.ref a,Z,hx,T.cl_Part,T.n_Part_kept,Z,_,Z,x,_,dx,_,.int z,Z,hx,T.cl_Part,T.n_Part_lead,Z,(by change 1<=sizeLine;decide),λp hp=>?_;let s1:=XZ (o:=.tup<|IL [z]) hp
  show z7 (l:=I) (m:=[z]) (SqK.same (k:=true) s1 hA) (SqT.of XQ) (by rw[Yt];lia) λr1 H2 s2 UU=>?_;let Wt:=s1.trans s2
  exists _,Z,x,_,dx,_,.ref b,Z,Wt _ _ hx,T.cl_Part,T.n_Part_shut,Z,_,Z,x,_,dx,_,.int y,Z,Wt _ _ hx,T.cl_Part,T.n_Part_further,Z,?_;intro x' KG nx ND RD;let s9:Same H2 (upd (upd H2 KG<|.own x') x'<|.ins t.A_Part KG []):=Zv (XZ ND) (by rwa[XJ (Xc RD)])
  let VN:WI H2 Pt:=hT.same Wt;exists x',KG,w,r1,b,n,ps,I++[z],O,some y,Z,XQ,hW.same<|Wt.trans s9,hG,VN.same s9,SqK.same (k:=true) s9 UU,SqK.same (k:=true) (Wt.trans s9) Qg,hIn,Xr,TN,MK,hex,λv e=>(by cases e;exists y0,y1),λe=>(by cases e),λF' VO fu l' i' H' Jm Sh WV h1 h2 Xu QD UI keep Nz=>⟨Z,?_⟩;let sx:SameX Pt H2 H':=λb o hb e=>keep b o (Za e nx) hb (s9 _ _ e)
  show q x' F' VO fu H' ⟨Jm,Sh,WV,h1,h2⟩ ⟨KG,w,r1,b,l',i',Xu,(hW.same Wt).samex VN sx,SqK.samex (kd:=true) (UU) VN sx,SqK.samex (kd:=true) (SqK.same (k:=true) Wt Qg) VN sx,QD,UI⟩ ((SameX.same Wt).trans sx) Nz
inductive spZz(K:Ad)(CP C:Addr)(vs:List V)(H:Hp)(Q:VK)(_:XK):Prop
 |mk (x n ps I O F inc ld fu:_) (_:vs=[.ref x]) (_:PartAt K CP C H x n ps I O F inc ld fu) (_:Zu n ps) (_:I.Nodup) (_:(∀z∈I,0<=z/\z<ps⁻¹)) (_:O.length<=30) (_:(∀z∈I,z∉O)) (_:∀c H',PC n ps I O c->Same H H'->Q (.int c) H')
def gE(T:Txt K mg t):WR P w base Xb T.qZz 8 (spZz K t.A_Part t.A_Web):=by
 show T.qZz.okI ["part"] DX λXC A outer s H vs Q E hr h=>?_
 .let⟨x,n,ps,I,O,F,inc,ld,fu,rfl,⟨dx,w,a,b,l,i,hx,hW,hA,Qg,hl,hi⟩,hG,hI,Xr,hO,TN,q⟩:=h;exists _,(XE<|Zm<|Xf (h8 T) hr T.qZm ZD<|XY (Zl K (pv 0) Z)<|XY (Zl K (pv 0) Z)<|XY (Zl K (pv 0) Z) XT),?_;exists _,Z,x,_,dx,_,.ref w,Z,hx,T.cl_Part,T.n_Part_web,Z,_,Z,x,_,dx,_,.ref a,Z,hx,T.cl_Part,T.n_Part_kept,Z,_,Z,x,_,dx,_,.ref b,Z,hx,T.cl_Part,T.n_Part_shut,Z,?_;exists w,a,b,n,ps,I,O,Z,hW,hG,hA,Qg,hI,Xr,hO,TN,q
def gD{n:Int}{ps:Aa}{I F ms:Ac}{z:Int}(hF:Zg n ps F)(hz:z∉F)(hp:ms.Perm (Sq n ps F z F++[z]))(hs:ms.Pairwise (·<=·)):(ms.filter λt=>decide (t≠z/\t∉I))=WC n ps I F z:=by
 show Cm ((hp.filter _).trans ?_) (hs.filter _) ?_
 .rw[QI,List.filter_cons_of_neg B,tN,Yx];show List.Perm.of_eq (SF λt ht=>?_)
  have:t≠z:=λe=>hz (e▸(Vr.mp ht).1)
  simp[this]
 .show((XW.mp hF.1).2.filter _).filter _ |>.imp λh=>J
inductive spZA(K:Ad)(CP C:Addr)(vs:List V)(H:Hp)(Q:VK)(_:XK):Prop
 |mk (x n ps I O F inc ld fu z:_) (_:vs=[.ref x,.int z]) (_:PartAt K CP C H x n ps I O F inc ld fu) (_:Zu n ps) (_:Zg n ps F) (_:z∉F) (_:0<=z) (_:z<ps⁻¹) (_:∀r xs H',Same H H'->H r=none->H' r=some (.lst xs)->Bears (Xa H') xs ((WC n ps I F z).map λo=>xchT F o z)->Q ↑r H')
def gC:FnScope ["part","into","leaving"] ["part","into"] (Xe (top 54)):=Rq DX
def gB(T:Txt K mg t):WR P w base Xb T.qZA 9 (spZA K t.A_Part t.A_Web):=by
 show T.qZA.okI ["part","into","leaving"] DX λXC A outer s H vs Q E hr h=>?_
 .let⟨x,n,ps,I,O,F,inc,ld,fu,z,rfl,⟨dx,w,a,b,l,i,hx,hW,hA,Qg,hl,hi⟩,hG,hF,hz,z0,z1,q⟩:=h;show⟨_,(XH (RF (i:=2) Z gC.nd Z Z (sc0:=Xe<|top 54) (N0:=["part","into","leaving"]) (N':=["tie","into","part"]) (o:=1) (fr:=[1,0]) ⟨Z,DX,DX,DX,Z,DX⟩ (CH K<|Xf (gT T) hr T.qZr ZD<|XY (Zl K (pv 0) Z)<|XY (Zl K (pv 0) Z)<|XY (pv 1) XT) (ZF sZ) (λ_ _ _ _=>(Zc 0)) (λ_ _ _ _=>(VG<|PW.pt<|DR (Zh PU (pv 0) (pv 1)<|Zq _)<|DS<|Zh (HS K) (pv 0) (Zl K (pv 2) Z) Z)) λ_ _ _ _=>(pv 0))
   (XE<|Zm<|Wf Z (sc0:=Xe<|top 54) (N0:=["part","into","leaving"]) (N':=["out","part","into"]) (o:=1) (fr:=[0,1]) ⟨Z,DX,DX,DX,Z,DX⟩ (ZU K<|pv 2) (ZF sZ) (λ_ _ _ _=>(Zc 0)) (λ_ _ _ _=>Nh) λ_ _ _ _=>(Zo (ZN K) Ea T.n_tuple Boot.«tuple»<|XY (Ze (ZM4 K) Ea T.n_sorted Boot.«sorted»<|XY (ZB (HE K) (Xf (zt T) hr T.qZb ZD<|XY (Zl K (pv 1) Z)<|XY (pv 0) XT)<|To<|XY (pv 2) XT) XT) XT))),?_⟩
  let big:(30:Int)<10^70:=sZ;let g3:=hG.2.2.1
  exists _,Z,x,_,dx,_,.ref w,Z,hx,T.cl_Part,T.n_Part_web,Z,_,Z,x,_,dx,_,.ref l,Z,hx,T.cl_Part,T.n_Part_least,Z,_,Z,?_;exists w,l,n,ps,true,F,z,Z,hW,hG,SqT.of hl,DW,J,λ_ _ _ _ ms TR Wi rA H1 s1 Uq KU=>?_,λ_ h=>absurd h λh=>h.elim hz λh=>h ⟨z0,z1⟩,λh=>absurd hF h;let hm30:ms.length<=40:=by
   rw[TR.length_eq,Xw,Yt]
   have:=Fo n ps F z F
   have:=hF.1.len
   lia
  show⟨rA,Z,⟨_,SqT.of KU⟩,wK (K:=K) (a:=rA) (xs:=IL ms) (λj ws H2=>H2=H1/\j<=ms.length/\ws=IL ((ms.take j).filter λt=>decide<|t≠z/\t∉I)) ⟨Z,Ym _,Z⟩ (Zj<|by rw[Xp];lia)
   (λj ws H2 hj h=>by let⟨e,Qo,ew⟩:=h;show⟨e▸SqT.of KU,by rw[ew,Xp];show Yr (YG ..)<|by rw[Yl];lia⟩) ?_ ?_⟩
  .rintro j v ws H2 hj ⟨rfl,Uv,rfl⟩ S Xh;let⟨y,rfl,hy⟩:=Um hj;let Wa:j<ms.length:=(Xy.mp hy).1
   show nm ?_;exists _,Z,_,Z,Z,_,Z,?_;rw[Zx];show WH (λhe=>?_) (λhe=>?_)
   .show Xh _ _ ⟨Z,Wa,?_⟩;rw[ZR hy,if_neg (by simp[he]),Yx]
   exists _,Z,_,Z,x,_,dx,_,.ref a,Z,s1 _ _ hx,T.cl_Part,T.n_Part_kept,Z,a,_,Z,.inr<|SqK.same (k:=true) s1 hA,Z,Tg _,_,Z,?_;rw[LO];show WH (λhc=>?_) (λhc=>?_)
   .show Xh _ _ ⟨Z,Wa,?_⟩;rw[ZR hy,if_neg (by simp[hc]),Yx]
   .exists _,Z,Xh _ _ ⟨Z,Wa,?_⟩;rw[ZR hy,if_pos<|Yv ⟨he,hc⟩,ZX]
  rintro ws H2 ⟨rfl,_,rfl⟩ lA hlA;rw[Xp,YS,gD hF hz TR Wi];let u1:=XZ (o:=.lst<|IL<|WC n ps I F z) hlA
  let kL:(upd H2 lA<|.lst<|IL<|WC n ps I F z) lA=some (.lst<|IL<|WC n ps I F z):=XQ;show nm ?_;dsimp only[List.set];let s2:=s1.trans u1
  change DO _ _ _ (upd H2 lA<|.lst<|IL<|WC n ps I F z);generalize upd H2 lA (.lst<|IL<|WC n ps I F z)=H3 at *;let lvl:(WC n ps I F z).length<=30:=Yr (YG ..) (by have:=Fo n ps F z F;have:=hF.1.len;lia)
  let hFl:F.length<=30:=by have:=hF.1.len;lia
  show⟨_,Z,lA,Z,⟨_,SqL.of kL⟩,Nb (K:=K) (a:=lA) (xs:=IL<|WC n ps I F z) (λj ys H4=>Same H3 H4/\j<=(WC n ps I F z).length/\Bears (Xa H4) ys (((WC n ps I F z).take j).map λo=>xchT F o z)) ⟨Same.refl _,Ym _,⟨Z,λi l e=>by simp at e⟩⟩ (Zj<|by rw[Xp];lia)
   (λj ys H4 hj h=>by let⟨e,Qo,ey⟩:=h;show⟨SqL.of<|e _ _ kL,by rw[ey.1,Yb,Yl];lia⟩) ?_ ?_⟩
  .rintro j v ys H4 hj ⟨s4,Uv,hY⟩ S Xh;let⟨o,rfl,ho⟩:=Um hj;let Wa:j<(WC n ps I F z).length:=(Xy.mp ho).1
   let Jo:=s2.trans s4;show nm ?_;exists _,Z,x,_,dx,_,.ref l,Z,Jo _ _ hx,T.cl_Part,T.n_Part_least,Z,_,Z,l,true,F,o,Z,SqT.of<|Jo _ _ hl,J,λr1 H5 s5 hr10 UU=>?_;let wl:=wc F o
   exists _,Z,(by change 1<=sizeLine;decide),λp2 VT=>?_;let s6:=XZ (o:=.tup<|IL [z]) VT
   show z7 (l:=wo F o) (m:=[z]) (SqT.of<|s6 _ _ UU) (SqT.of XQ) (by rw[Yt];lia) λr3 H7 s7 UY=>?_;show⟨r3,wo F o++[z],Z,UY,by rw[Xw,Yt];lia,λns Fh OX p4 Jt=>?_⟩;let en:ns=xchT F o z:=Cm (Fh.trans (MP F o z).symm) OX (Jy F o z)
   subst en;let s8:=XZ (o:=.lst<|IL<|xchT F o z) Jt
   exists p4,_,Z,.inl ⟨SqL.of XQ,λp5 uY=>?_⟩;let s9:=XZ (o:=.tup<|IL<|xchT F o z) uY
   let sA:=(s5.trans s6).trans (s7.trans<|s8.trans s9);show Xh _ _ ⟨s4.trans sA,Wa,?_⟩;rw[WB,ho,YQ];show(hY.imp λ_ _ h=>by let⟨q,e,hq⟩:=h;exists q,e,sA _ _ hq).snoc ⟨p5,Z,XQ⟩
  .rintro ys H4 ⟨s4,_,hY⟩ d hd;rw[Xp,YS]at hY;let s5:=XZ (o:=.lst ys) hd
   show q d ys _ (s2.trans<|s4.trans s5) ((s2.trans s4).free hd) XQ (hY.imp λ_ _ h=>by let⟨q,e,hq⟩:=h;exists q,e,s5 _ _ hq)
def ZV5{α:Type}{R:V->α->Prop}{xs ys:List V}{l m:List α}(h1:Bears R xs l)(h2:Bears R ys m):Bears R (xs++ys) (l++m):=by
 show⟨by rw[Xw,Xw,h1.1,h2.1],λi a e=>?_⟩;cases c:i<l.length
 .rw[Yn c]at e;let⟨v,hv,r⟩:=h1.2 i a e;exists v,by rw[Yn (by rwa[h1.1])];show hv,r
 .rw[Yk J]at e;let⟨v,hv,r⟩:=h2.2 _ a e;exists v,by rw[Yk (by rw[h1.1];lia),h1.1];show hv,r
def ZU5{α:Type}{R:V->α->Prop}{xs:List V}{l:List α}(h:Bears R xs l):Bears R xs.reverse l.reverse:=by
 show⟨by rw[VX,VX,h.1],λi a e=>?_⟩;let hi:i<l.length:=by have:=(Xy.mp e).1;rwa[VX]at this
 rw[FX hi]at e;let⟨v,hv,r⟩:=h.2 _ a e;exists v,by rw[FX (by rwa[h.1]),h.1];show hv,r
inductive spZB(K:Ad)(CP C:Addr)(vs:List V)(H:Hp)(Q:VK)(_:XK):Prop
 |mk (x n ps I O F inc ld fu:_) (_:vs=[.ref x]) (_:PartAt K CP C H x n ps I O F inc ld fu) (_:Zu n ps) (_:Zg n ps F) (_:inc.length<=30) (_:(∀z∈inc,z∉F/\0<=z/\z<ps⁻¹)) (_:∀r xs H',Same H H'->H r=none->H' r=some (.lst xs)->Bears (Xa H') xs (zW n ps I F inc)->Q ↑r H')
def gz(T:Txt K mg t):WR P w base Xb T.qZB 10 (spZB K t.A_Part t.A_Web):=by
 show T.qZB.okI ["part","row","ascending","into","trees"] DX λXC A outer s H vs Q E hr h=>?_
 .let⟨x,n,ps,I,O,F,inc,ld,fu,rfl,Jl,hG,hF,Ut,Sj,q⟩:=h;show⟨_,(XH (Zf 1<|Tn<|XY (Zl K (pv 0) Z) XT)
   (XH (Zf 2<|Nj Rg (ZB Sz (Ze (Zk K) Ea T.n_len Boot.«len»<|XY (Zl K (pv 0) Z) XT) Zb) Zb<|Zq _)
   (XH (Sb SI Z (ZU K<|Zl K (pv 0) Z) (Zc 3)
   (XH (Zf 4<|Xf (gB T) hr T.qZA ZD<|XY (pv 0)<|XY (pv 3) XT)
   (XH (VJ<|OI K Nv eN eO dk (pv 1)<|XY (DP (IC<|pv 2) (pv 4)<|Cq K Z Z T.n_list Z T.n_reversed<|XY (pv 4) XT) XT)
   (XE<|Zf 2<|sG<|pv 2))))
   (XE<|Zm<|pv 1)))),?_⟩
  let⟨dx,w,a,b,l,i,hx,hW,hA,Qg,hl,hi⟩:=id Jl;exists _,Z,x,_,dx,_,.ref l,Z,hx,T.cl_Part,T.n_Part_least,Z,(by change 1<=sizeLine;decide),λr hr=>?_;let s1:=XZ (o:=.lst [.ref l]) hr
  show nm ?_;exists _,Z,x,_,dx,_,.ref i,Z,s1 _ _ hx,T.cl_Part,T.n_Part_incoming,Z,i,_,Z,.inl<|SqL.of<|s1 _ _ hi,_,_,Z,Z,(by change(0:Int)<2;decide),Z,?_;show nm ?_;let ea:decide (V.int ((IL inc).length%2:Int)=V.int 1)=(inc.length%2 == 1):=by rw[Zx,Xp,Pp,YV,RM];omega
  change Ts _ _ _ [some ↑x,some<|.ref r,some<|.bl<|decide<|V.int ((IL inc).length%2:Int)=V.int 1,none,none] (upd H r<|.lst [.ref l]);rw[ea];generalize Ux:(inc.length%2 == 1)=asc at *;let kr:(upd H r<|.lst [.ref l]) r=some (.lst [.ref l]):=XQ
  generalize upd H r (.lst [.ref l])=H1 at *;let mz:=s1 _ _ hi
  let fresh:∀b o,H b=some o->b≠r:=λb o e=>Za e hr;show⟨_,rfl,x,_,dx,_,.ref i,rfl,s1 _ _ hx,T.cl_Part,T.n_Part_incoming,rfl,i,rfl,⟨_,SqL.of mz⟩,w5 (K:=K) (a:=i) (xs:=IL inc) (λj σ H2=>∃xs v3 v4,σ=[some ↑x,some<|.ref r,some<|.bl<|asc != (j%2 == 1),v3,v4]/\Same H H2/\H2 r=some (.lst xs)/\Bears (Xa H2) xs (F::Vd n ps I F (inc.take j) asc)) ⟨[.ref l],none,none,by cases asc<;>rfl,s1,kr,⟨rfl,λj m e=>by
   match j,e with
   |0,e=>show⟨_,Z,l,Z,by rw[<-Yi e];show s1 _ _ hl⟩⟩⟩ (λj σ H2 _ h=>by let⟨_,_,_,_,e,_⟩:=h;show SqL.of<|e _ _ hi) ?_ ?_⟩
  rotate_left
  .rintro σ H2 ⟨xs,v3,v4,rfl,s2,UZ,hX⟩;rw[Xp,YS]at hX;show Ln ?_;exists _,Z,?_;rw[<-Ux]at hX;show q r xs H2 s2 hr UZ hX
  rintro j v σ H2 hj ⟨xs,v3,v4,rfl,s2,UZ,hX⟩;let⟨z,rfl,hz⟩:=Um hj;let⟨zF,z0,z1⟩:=Sj z (Xg hz);let RB:j<inc.length:=(Xy.mp hz).1
  show nm ?_;dsimp only[List.set];exists _,Z,_,Z,x,n,ps,I,O,F,inc,ld,fu,z,Z,⟨dx,w,a,b,l,i,s2 _ _ hx,hW.same s2,SqK.same (k:=true) s2 hA,SqK.same (k:=true) s2 Qg,s2 _ _ hl,s2 _ _ hi⟩,hG,hF,zF,z0,z1,λtA ys H3 s3 ht0 Gy hY=>?_;show nm ?_;dsimp only[List.set];let UY:=s3 _ _ UZ
  let yQ:F.length<=30:=by have:=hF.1.len;have:=hG.2.2.1;lia
  let xl:xs.length<=1000:=by
   rw[hX.1,YF];let h1:=Zo9 n ps I F (inc.take j) asc
   let h2:(inc.take j).length*F.length<=30*30:=Ja (by rw[Yl];grind) yQ;lia
  let yl:ys.length<=30:=by rw[hY.1,Yb];show Yr (YG ..) (Yr (Fo n ps F z F) yQ)
  let gy:Vd n ps I F (inc.take<|j+1) asc=Vd n ps I F (inc.take j) asc++Vx n ps I F (asc != (j%2 == 1)) z:=by
   let e:inc.take (j+1)=inc.take j++[z]:=by rw[WB,hz];rfl
   let el:(inc.take j).length=j:=by rw[Yl];lia
   rw[e,jo,el]
  let flip:(!(asc != (j%2 == 1)))=(asc != ((j+1)%2 == 1)):=by rcases(by grind:j%2=0/\(j+1)%2=1\/j%2=1/\(j+1)%2=0) with ⟨a,b⟩|⟨a,b⟩<;>rw[a,b]<;>cases asc<;>rfl
  let fin:∀zs H4,Same H3 H4->zs.length=ys.length->Bears (Xa H4) zs (Vx n ps I F (asc != (j%2 == 1)) z)->Same H (upd H4 r<|.lst<|xs++zs)/\Bears (Xa<|upd H4 r<|.lst<|xs++zs) (xs++zs) (F::Vd n ps I F (inc.take<|j+1) asc):=λzs H4 s4 vQ hZ=>by
   let Ju:=s4 _ _ UY;exists ZI hr<|(s2.trans s3).trans s4,?_;rw[gy];let hX4:Bears (Xa H4) xs (F::Vd n ps I F (inc.take j) asc):=hX.imp λ_ _ h=>by let⟨c,e,hc⟩:=h;exists c,e,(s3.trans s4) _ _ hc
   show(ZV5 hX4 hZ).imp λ_ _ h=>by let⟨c,e,hc⟩:=h;exists c,e,by rwa[XJ (PX hc Ju B)]
  exists _,Z,.inl ⟨Z,_,SqL.of UY⟩,?_;cases hb:(asc != (j%2 == 1)) with
  |true=>
   rw[hb]at fin flip;exists _,Z,_,Z,?_;show Th ?_;exists _,Z,?_;let⟨f1,f2⟩:=fin ys H3 (Same.refl _) Z hY;exists r,tA,xs,ys,Z,Z,UY,Gy,LS J,?_;exists _,Z,_,Z,?_;exists xs++ys,_,_,by rw[<-flip];rfl,f1,XQ,f2
  |false=>
   rw[hb]at fin flip;exists _,Z,_,Z,?_;show iteF ?_;exists _,Z,tA,ys,Z,SqL.of Gy,λd hd=>?_;let s4:=XZ (o:=.lst ys.reverse) hd
   let⟨f1,f2⟩:=fin ys.reverse _ s4 (VX) (ZU5<|hY.imp λ_ _ h=>by let⟨c,e,hc⟩:=h;exists c,e,s4 _ _ hc);exists r,d,xs,ys.reverse,Z,Z,s4 _ _ UY,XQ,LS (by rw[VX];lia),?_;exists _,Z,_,Z,?_;exists xs++ys.reverse,_,_,by rw[<-flip];rfl,f1,XQ,f2
inductive spZC(K:Ad)(CP C Pt:Addr)(d:Nat)(vs:List V)(H:Hp)(Q:VK)(_:XK):Prop
 |mk (x n ps I O F inc ld fu R size start stop:_) (_:vs=[.ref x,.int size,.int start,.int stop]) (_:PartAt K CP C H x n ps I O F inc ld fu) (_:PartOk n ps I O ld F inc fu) (_:Zu n ps) (_:WI H Pt) (_:RowR n ps d I O ld R) (_:size=R.length) (_:0<=start) (_:stop<=size) (_:stop-start<=100000) (_:∀r xs H',SameX Pt H H'->WI H' Pt->H r=none->H' r=some (.lst xs)->Bears (Xa H') xs ((R.drop start.toNat).take (stop-start).toNat)->Q ↑r H')
def gx(xs:List V){a b:Nat}(h2:b<=xs.length):WK xs (some (a:Int)) (some (b:Int))=(xs.drop a).take (b-a):=by
 let e1:HT.Vb xs.length 0 (some (a:Int))=min a xs.length:=rfl;let e2:HT.Vb xs.length xs.length (some (b:Int))=min b xs.length:=rfl
 unfold WK;rw[e1,e2,FP h2];rcases Nat.le_total a xs.length with c|c
 .rw[FP c]
 .rw[tV c,ug<|XN _,ug c,tD,tD]
def Zi9{α:Type}{R:V->α->Prop}{xs:List V}{l:List α}(h:Bears R xs l)(a b:Nat):Bears R ((xs.drop a).take b) ((l.drop a).take b):=by
 show⟨by rw[Yl,Yl,YW,YW,h.1],λi x e=>?_⟩;rw[VW]at e;cases c:i<b
 .rw[if_pos c,MF]at e;let⟨v,hv,r⟩:=h.2 _ x e;exists v,by rw[VW,if_pos c,MF];show hv,r
 .rw[if_neg c]at e;cases e
def gu{α:Type}(A AP:List α){a b:Nat}(h:b<=A.length):((A++AP).drop a).take (b-a)=(A.drop a).take (b-a):=by
 rcases Nat.le_total a A.length with c|c
 .rw[EE c,Gd (by rw[YW];show Nat.sub_le_sub_right h a)]
 .rw[Nat.sub_eq_zero_of_le (Yr h c),IP,IP]
def yP{α:Type}(AP:List α){i k:Nat}(h:i+k<=AP.length):((AP.reverse).drop i).take k=((AP.drop (AP.length-i-k)).take k).reverse:=by rw[List.drop_reverse,List.take_reverse,Yl,FP<|Nat.sub_le _ _,IK,Nat.sub_sub_self (Nat.le_sub_of_add_le' h)]
def gr{α:Type}(A AP:List α){a b c:Nat}(hc:(a<=A.length/\c=A.length)\/(A.length<=a/\c=a))(gq:c<=b)(hb:b<=A.length+AP.length):((A++AP.reverse).drop a).take (b-a)=A.drop a++((AP.drop (A.length+AP.length-b)).take (b-c)).reverse:=by
 rcases hc with ⟨h,rfl⟩|⟨h,rfl⟩
 .rw[EE h,List.take_append,YJ (by rw[YW];show Nat.sub_le_sub_right gq a),YW,Nat.sub_sub_sub_cancel_right h]
  have:=yP AP (i:=0) (k:=b-A.length) sV
  rw[Ku]at this;rw[this,show AP.length-0-(b-A.length)=A.length+AP.length-b by grind]
 .rw[xE,ug h,Pq,Pq,yP AP sV,show AP.length-(c-A.length)-(b-c)=A.length+AP.length-b by grind]
def gn{x y:Int}:∃m,(if x<y then x else y)=m/\m<=x/\m<=y/\(x<y->m=x)/\(¬x<y->m=y):=by
 cases c:x<y
 .exists x,if_pos c,SD _,IW c,λ_=>rfl,λh=>absurd c h
 .exists y,if_neg c,Eh.mp c,SD _,λh=>absurd h c,λ_=>rfl
def ZU3{H H2:Hp}{Pt r:Addr}{pos:Pos}{qual:Str}(t:TabH H2 Pt pos qual)(s:SameX Pt H H2)(h:H2 r=none):H r=none:=by
 cases e:H r with
 |none=>rfl
 |some o=>
  let XM:r≠Pt:=λe'=>by let⟨p,h1,_⟩:=t;rw[<-e',h]at h1;cases h1
  rw[s _ _ XM e]at h;cases h
def gm{Pt:Addr}(T:Txt K mg t)(hB:MR K mg base t.dZv Pt)(d:Nat):WR P w base Xb T.qZC (11+d) (spZC K t.A_Part t.A_Web Pt d):=by
 let key:∀d k sp,WR P w base Xb T.qZC k sp->k<=10+d->(∀e,d=e+1->sp=spZC K t.A_Part t.A_Web Pt e)->WR P w base Xb T.qZC (11+d) (spZC K t.A_Part t.A_Web Pt d):=by
  intro d k sp ih hk Rc;rw[show 11+d=10+d+1 by lia];show T.qZC.ok ["part","size","start","stop","first","middle","trees","turned"] DX (λvs H Q E h=>?_) (λXC A outer s H vs Q E hr h=>?_)
  .let⟨x,n,ps,I,O,F,inc,ld,fu,R,size,start,stop,rfl,_⟩:=h;rfl
  .let⟨x,n,ps,I,O,F,inc,ld,fu,R,size,start,stop,rfl,Jl,QN,hG,hT,hR,hsz,Ft,RZ,Xi,q⟩:=h;show⟨_,(XH (VZ (Zh DC (pv 2) (pv 3)<|Zq _)
   (XE<|Zm<|Tn XT)
   Zr)
   (XH (VZ (Zh DB (Zl K (pv 0) Z) xc<|Zq _)
   (XE<|Zm<|LY (LR K) (Ij (gz T) (hr.mono DW) Z T.qZB.mm T.qZB.fn.kp T.qZB.bi .nil ZD<|XY (pv 0) XT) (Ni<|pv 2)<|Ni<|pv 3)
   Zr)
   (XH (Zf 4<|Ij (gH T hB) (hr.mono DW) Z T.qZx.mm T.qZx.fn.kp T.qZx.bi .nil ZD<|XY (pv 0) XT)
   (XH (Zf 5<|Ij (gE T) (hr.mono DW) Z T.qZz.mm T.qZz.fn.kp T.qZz.bi .nil ZD<|XY (pv 4) XT)
   (XH (Zf 6<|Ij ih (hr.mono DW) Z T.qZC.mm T.qZC.fn.kp T.qZC.bi .nil ZD<|XY (pv 4)<|XY (pv 5)<|XY (pv 2)<|XY (Ze (rL Z) Ea T.n_min Boot.«min»<|XY (pv 3)<|XY (pv 5) XT) XT)
   (XH (VZ (Zh Rf (pv 3) (pv 5)<|Zq _)
   (XH (Zf 7<|Ij ih (hr.mono DW) Z T.qZC.mm T.qZC.fn.kp T.qZC.bi .nil ZD<|XY (Ij (gF T hB) (hr.mono DW) Z T.qZy.mm T.qZy.fn.kp T.qZy.bi .nil ZD<|XY (pv 0) XT)<|XY (ZB Mb (pv 1)<|pv 5)<|XY (ZB Mb (pv 1)<|pv 3)<|XY (ZB Mb (pv 1)<|Ze (dH Z) Ea T.n_max Boot.«max»<|XY (pv 2)<|XY (pv 5) XT) XT)
   (XE<|VJ<|OI K Nv eN eO dk (pv 6)<|XY (Cq K Z Z T.n_list Z T.n_reversed<|XY (pv 7) XT) XT))
   Zr)
   (XE<|Zm<|pv 6))))))),?_⟩
   let⟨dx,w0,a,b,l,i,hx,hW,hA,Qg,hl,hi⟩:=id Jl;exists _,Z,_,Z,_,_,Z,Z,_,Z,?_;show WN (λQV=>?_) (λXm=>?_)
   .exists Ym _,λr hr=>?_;let s1:=XZ (o:=.lst []) hr
    show q r [] _ (SameX.same s1) (hT.same s1) hr XQ ?_;rw[show(stop-start).toNat=0 by lia,IP];exists Z,λi l e=>by simp at e
   show Ln ?_;let⟨a0,rfl⟩:=eD Ft;let⟨b0,rfl⟩:=eD (show 0<=stop by lia);let Vi:a0<=b0:=J
   let gk:b0<=R.length:=by rw[hsz]at RZ;show Int.ofNat_le.mp RZ
   let e0:((b0:Int)-(a0:Int)).toNat=b0-a0:=Int.toNat_sub _ _;rw[YK,e0]at q;subst hsz;exists _,Z,x,_,dx,_,WY fu,Z,hx,T.cl_Part,T.n_Part_further,Z,Z,_,Z,?_;cases hR with
   |und Rp Ut hiz=>
    let⟨rfl,rfl,rfl⟩:=QN.uniq Rp;show Th ?_;exists _,Z,x,n,ps,I,O,F,inc,ld,none,Z,Jl,hG,QN.tr.1,Ut,hiz,λr xs H1 s1 Uq UU hX=>?_;let MT:=hX.1
    exists _,Z,_,Z,_,Z,_,Z,r,xs,Z,SqL.of UU,λq1 Fg=>?_;rw[gx xs (by rwa[MT])];let s2:=XZ (o:=.lst<|(xs.drop a0).take (b0-a0)) Fg
    let Wt:=s1.trans s2;show q q1 _ _ (SameX.same Wt) (hT.same Wt) (s1.free Fg) XQ ?_;show(Zi9 hX _ _).imp λ_ _ h=>by let⟨c,e,hc⟩:=h;exists c,e,s2 _ _ hc
   |div Rp hIn Xr TN MK gj gf y0 y1 hpc hRA hRB=>
    rename_i e F' VO z y A' AP;let⟨rfl,rfl,rfl⟩:=QN.uniq Rp;let esp:=Rc e rfl
    subst esp;show iteF ?_;show Ln ?_;let SW:=Wg.mp hIn
    let yN:I.Nodup:=SW.1;let yM:∀v∈I,0<=v/\v<ps⁻¹:=λv hv=>Xr v (Yf _ hv)
    let yL:∀v∈I,v∉O++[z]:=λv hv h=>(XA.mp h).elim (TN v<|Yf _ hv) λh=>SW.2.2 v hv z B (XG.mp h);let NL:O.length<=30:=by rw[Xw,Yt]at MK;lia
    rw[Xw,VX]at gk;let NG:(((A'++AP.reverse).length:Nat):Int)=A'⁻¹+AP.length:=by rw[Xw,VX,Int.natCast_add]
    let⟨m,em,m1,m2,m3,m4⟩:=gn (x:=A'⁻¹) (y:=(b0:Int));exists _,Z,x,n,ps,I,O,F,inc,z,y,Z,Jl,hG,hT,yN,yM,yL,MK,gf,y0,y1,λx1 F1 KZ va H1 GX PL gd Qf=>?_;show nm ?_;exists _,Z,x1,n,ps,I,O++[z],F1,KZ,some y,va,Z,PL,hG,yN,yM,MK,yL,λc H2 hc s2=>?_;let ec:=hc.uniq hpc
    subst ec;show nm ?_;let yK:SameX Pt H H2:=gd.trans (SameX.same s2)
    let VN:=Qf.same s2;exists _,Z,_,Z,_,Z,_,Z,_,Z,_,_,Z,?_;exists x1,n,ps,I,O++[z],F1,KZ,some y,va,A',_,_,_,Z,PL.samex Qf<|SameX.same s2,GX,hG,VN,hRA,Z,Ft,(by rwa[em]),(by rw[em];show FK (Int.sub_le_sub_right m2 _) Xi),λr xs H3 gc Vl Uq UY hX=>?_;show nm ?_;let Gj:=yK.trans gc
    let gb:H r=none:=ZU3 VN yK Uq;rw[YK,em]at hX;exists _,Z,_,Z,_,_,Z,Z,_,Z,?_;show WN (λhgt=>?_) λhle=>?_;rotate_left
    .change(_:Prop);show Ln ?_;exists _,Z,?_;let f9:¬A'⁻¹<(b0:Int):=hle
     rw[m4 f9,e0]at hX;rw[gu A' AP.reverse J]at q;show q r xs H3 Gj Vl gb UY hX
    let yJ:A'⁻¹<(b0:Int):=hgt;rw[m3 yJ,Int.toNat_sub,YJ (by rw[YW];show XN _)]at hX;clear m1 m2 m3 m4 em m;exists _,Z,x,n,ps,I,O,F,inc,z,y,Z,Jl.samex hT Gj,hG,Vl,hIn,Xr,TN,NL,gj,y0,y1,λx2 F2 GI je H4 Qj RX QK Vk=>?_;exists _,Z,_,Z,_,_,Z,Z,_,Z,_,Z,_,_,Z,Z,_,Z,_,Z,_,Z,_,_,Z,_,_,Z,Z,?_;obtain⟨c0,ec,zw,gq⟩:∃c0:Nat,(if A'⁻¹>(a0:Int) then A'⁻¹ else (a0:Int))=(c0:Int)/\((a0<=A'.length/\c0=A'.length)\/(A'.length<=a0/\c0=a0))/\c0<=b0:=by
     cases c:A'⁻¹>(a0:Int)
     .exists A'.length,if_pos c,.inl ⟨Nm<|Int.ofNat_lt.mp c,Z⟩,Nm<|Int.ofNat_lt.mp yJ
     .exists a0,if_neg c,.inr ⟨Int.ofNat_le.mp<|Eh.mp c,Z⟩,Vi
    rw[gr A' AP zw gq gk]at q;let hAc:A'.length<=c0:=by rcases zw with h|h<;>lia
    let hac:a0<=c0:=by rcases zw with h|h<;>lia
    clear zw;exists x2,n,ps,I++[z],O,F2,GI,some y,je,AP,_,_,_,Z,RX,Qj,hG,Vk,hRB,(by rw[NG];lia),(by rw[NG];lia),(by rw[ec,NG];lia),(by rw[ec,NG];lia),λr2 ys H5 y6 fZ hr20 hr5 hY=>?_;show nm ?_;let Ju:=QK _ _ (Vl.ne UY B) UY
    let yH:=y6 _ _ (Vk.ne Ju B) Ju;let fX:=(Gj.trans QK).trans y6
    let e2:(A'⁻¹+AP.length-(b0:Int)).toNat=A'.length+AP.length-b0:=sV;let e3:(A'⁻¹+AP.length-(c0:Int)-(A'⁻¹+AP.length-(b0:Int))).toNat=b0-c0:=sV
    rw[ec,NG,e2,e3]at hY;let MT:xs.length<=100000:=by rw[hX.1,YW];lia
    let Lq:ys.length<=100000:=by rw[hY.1,Yl];lia
    exists _,Z,.inl ⟨Z,_,SqL.of yH⟩,_,Z,r2,ys,Z,SqL.of hr5,λdA hd=>?_;let s6:=XZ (o:=.lst ys.reverse) hd
    let EO:=s6 _ _ yH;let z1:1000000<=sizeLine:=sZ
    exists r,dA,xs,ys.reverse,Z,Z,EO,XQ,(by rw[VX];lia),?_;exists _,Z,?_;show q r (xs++ys.reverse) _ (λb o hb e=>?_) ((fZ.same s6).put EO) gb XQ ?_
    .rw[XJ (Za e gb)];show s6 _ _ (fX _ _ hb e)
    .let f1:Bears (Xa<|upd H5 dA<|.lst ys.reverse) xs (A'.drop a0):=hX.imp λ_ _ h=>by
      let⟨c,e,hc⟩:=h;let hc4:=QK _ _ (Vl.ne hc B) hc
      exists c,e,s6 _ _<|y6 _ _ (Vk.ne hc4 B) hc4
     let f2:Bears (Xa<|upd H5 dA<|.lst ys.reverse) ys.reverse ((AP.drop<|A'.length+AP.length-b0).take (b0-c0)).reverse:=ZU5 (hY.imp λ_ _ h=>by let⟨c,e,hc⟩:=h;exists c,e,s6 _ _ hc)
     show(ZV5 f1 f2).imp λ_ _ h=>by let⟨c,e,hc⟩:=h;exists c,e,by rwa[XJ (PX hc EO B)]
 induction d with
 |zero=>show key 0 0 _ jc J λe h=>(by cases h)
 |succ d ih=>show key (d+1) (11+d) _ ih J λe h=>(by cases h;rfl)
inductive spZD(vs:List V)(H:Hp)(Q:VK)(_:XK):Prop
 |mk (z:Int) (_:vs=[.int z]) (_:-(10^70)<z) (_:z<10^70) (_:(0<=z->Q .non H)) (_:(z<0->False))
def fW(T:Txt K mg t):WR P w base Xb T.qZD 1 spZD:=by
 show T.qZD.okI ["number"] DX λXC A outer s H vs Q E hr h=>?_
 .let⟨z,rfl,z0,z1,q,qe⟩:=h;show⟨_,(XE (VZ (Zh UR (pv 0) Zb<|Zq _)
   (XE Mh)
   Zr)),?_⟩
  exists _,Z,_,_,Z,Z,_,Z,?_;show WN (λh=>?_) (λh=>?_)
  .show qe h
  .show q J
inductive spZE(K:Ad)(CP C Pt:Addr)(vs:List V)(H:Hp)(Q:VK)(_:XK):Prop
 |mk (w:Addr) (n:Int) (ps:Aa) (num most:Int) (R:Ab) (_:vs=[.ref w,.int num,.int most]) (_:WebAt C H w n ps) (_:Zu n ps) (_:WI H Pt) (_:0<=num) (_:num<10^70) (_:0<=most) (_:most<=100000) (_:((∃U,Zg n ps U)->RowW n ps R)) (_:((∀U,¬Zg n ps U)->R=[])) (_:∀(r:Addr)(xs:List V)(H':Hp),SameX Pt H H'->WI H' Pt->H r=none->H' r=some (.lst xs)->Bears (Xa H') xs ((R.drop num.toNat).take most.toNat)->Q ↑r H')
def yG{Pt:Addr}(T:Txt K mg t)(hB:MR K mg base t.dZv Pt):WR P w base Xb T.qZE 44 (spZE K t.A_Part t.A_Web Pt):=by
 show T.qZE.okI ["web","number","most","size"] DX λXC A outer s H vs Q E hr h=>?_
 .let⟨w,n,ps,num,most,R,rfl,hW,hG,hT,n0,n1,m0,m1,hRw,yE,q⟩:=h;show⟨_,(XH (VJ<|Xf (fW T) hr T.qZD ZD<|XY (pv 1) XT)
   (XH (Zf 3<|Xf (Gx T) hr T.qZl ZD<|XY (pv 0) XT)
   (XH (VZ (Zh DC (pv 1) (pv 3)<|Zq _)
   (XE<|Zm<|Tn XT)
   Zr)
   (XE<|Zm<|Xf (gm T hB 31) hr T.qZC ZD<|XY (Xf (gJ T hB) hr T.qZw ZD<|XY (pv 0) XT)<|XY (pv 3)<|XY (pv 1)<|XY (Ze (rL Z) Ea T.n_min Boot.«min»<|XY (ZB VH (pv 1)<|pv 2)<|XY (pv 3) XT) XT)))),?_⟩
  let big:(0:Int)<10^70:=sZ;exists _,Z,num,Z,J,n1,λ_=>?_,λh=>absurd h J;exists _,Z,w,n,ps,Z,hW,hG,λc H1 hc s1=>?_;show nm ?_;dsimp only[List.set];let NG:R.length=c:=by
   cases hex:∃U,Zg n ps U
   .let⟨_,_,_,_,_,_,_,_,h⟩:=hRw hex;show h.uniq hc
   .let PM:∀U,¬Zg n ps U:=λU hU=>hex ⟨U,hU⟩;rw[yE PM,(jH hc).mpr PM];rfl
  exists _,Z,_,Z,_,_,Z,Z,_,Z,?_;show WN (λQV=>?_) (λXm=>?_)
  .exists Ym _,λr hr=>?_;let s2:=XZ (o:=.lst []) hr
   let Wt:=s1.trans s2;show q r [] _ (SameX.same Wt) (hT.same Wt) (s1.free hr) XQ ?_;rw[YO J,tD];exists Z,λi l e=>by simp at e
  change(_:Prop);show Ln ?_;obtain⟨U0,EJ⟩:∃U,Zg n ps U:=YD λno=>by
   have:=(jH hc).mpr λU hU=>no ⟨U,hU⟩
   lia
  let⟨ld,F,inc,fu,QN,hn,hs,KW,_⟩:=hRw ⟨U0,EJ⟩;let Qf:=hT.same s1
  exists _,Z,w,n,ps,Z,hW.same s1,hG,Qf,⟨U0,EJ⟩,λx F' VO EU EV H2 Rp RJ We Jl yK VN=>?_;let eF:F'=F:=Xo (QN.least F' Rp.tr) (Rp.least F QN.tr)
  subst eF;let el:=iY RJ We hn hs
  subst el;exists _,rfl,_,rfl,_,rfl,_,rfl,_,_,rfl,rfl,_,rfl,_,_,rfl,?_;exists x,n,ps,[],[],F',VO,EU,EV,R,_,_,_,rfl,Jl,Rp,hG,VN,KW,J,n0,(by split<;>lia),(by split<;>lia),λr xs H3 gc Vl Uq UY hX=>?_
  let e1:((R.drop num.toNat).take ((if (c:Int)<num+most then (c:Int) else num+most)-num).toNat)=(R.drop num.toNat).take most.toNat:=by rw[List.take_eq_take_iff,YW];split<;>grind
  rw[e1]at hX;show q r xs H3 ((SameX.same s1).trans (yK.trans gc)) Vl (ZU3 VN ((SameX.same s1).trans yK) Uq) UY hX
inductive spZF(K:Ad)(CP C Pt:Addr)(vs:List V)(H:Hp)(Q:VK)(_:XK):Prop
 |mk (w:Addr) (n:Int) (ps:Aa) (num:Int) (R:Ab) (_:vs=[.ref w,.int num]) (_:WebAt C H w n ps) (_:Zu n ps) (_:WI H Pt) (_:0<=num) (_:num<R.length) (_:RowW n ps R) (_:∀(r:Addr)(T:Ac)(H':Hp),R[num.toNat]?=some T->SameX Pt H H'->WI H' Pt->H' r=some (.tup<|IL T)->Q ↑r H')
def yD{R:Ab}{j:Nat}{T:Ac}(h:R[j]?=some T):(R.drop j).take 1=[T]:=by let hj:=(Xy.mp h);rw[Jh hj.1,hj.2];rfl
def fV{Pt:Addr}(T:Txt K mg t)(hB:MR K mg base t.dZv Pt):WR P w base Xb T.qZF 45 (spZF K t.A_Part t.A_Web Pt):=by
 show T.qZF.okI ["web","number","trees"] DX λXC A outer s H vs Q E hr h=>?_
 .let⟨w,n,ps,num,R,rfl,hW,hG,hT,n0,n1,hR,q⟩:=h;show⟨_,(XH (Zf 2<|Xf (yG T hB) hr T.qZE ZD<|XY (pv 0)<|XY (pv 1)<|XY Zb XT)
   (XH (VZ (Zh Rg (Ze (Zk K) Ea T.n_len Boot.«len»<|XY (pv 2) XT) Zb<|Zq _)
   (XE Mh)
   Zr)
   (XE<|Zm<|ZK (Zd K) (pv 2) Zb λ_ _=>rfl))),?_⟩
  let⟨ld,F,inc,fu,QN,_,_,_,yC⟩:=id hR;let c20:=j0 hG yC
  obtain⟨U,hU⟩:∃U,R[num.toNat]?=some U:=⟨_,Xs J⟩;exists _,Z,_,Z,w,n,ps,num,1,R,Z,hW,hG,hT,n0,J,sZ,sZ,λ_=>hR,λno=>absurd QN.tr.1<|no F,λr xs H1 gd Qf Uq UU hX=>?_;show nm ?_;dsimp only[List.set];rw[show(1:Int).toNat=1 from Z,yD hU]at hX;let⟨v,hv,c,rfl,hc⟩:=hX.2 0 U rfl;let hl:xs.length=1:=hX.1
  exists _,Z,r,xs,Z,.inl<|SqL.of UU,Z,_,Z,?_;rw[Zx];show WN (λh0=>J) λ_=>?_;change(_:Prop)
  show Ln ?_;exists _,Z,r,xs,0,.ref c,Z,Z,SqL.of UU,ZJ (n:=0) Z hv,q c U H1 hU gd Qf hc
inductive spZG(K:Ad)(CP C Pt N:Addr)(vs:List V)(H:Hp)(Q:VK)(E:XK):Prop
 |mk (w:Addr) (n:Int) (ps:Aa) (R:Ab) (_:vs=[.ref w]) (_:WebAt C H w n ps) (_:Zu n ps) (_:WI H Pt) (_:(Hy n ps->RowW n ps R)) (_:(¬Hy n ps->∀H':Hp,Same H H'->E ↑N none H')) (_:∀(r:Addr)(T:Ac)(H':Hp),R[R.length-1]?=some T->SameX Pt H H'->WI H' Pt->H' r=some (.tup<|IL T)->Q ↑r H')
def yB{Pt:Addr}(T:Txt K mg t)(hB:MR K mg base t.dZv Pt):WR P w base (Va P w) T.qZG 46 (spZG K t.A_Part t.A_Web Pt t.A_Parted):=by
 show T.qZG.okXI ["web"] DX λXC A outer s H vs Q E hr h=>?_
 .let⟨w,n,ps,R,rfl,hW,hG,hT,hR,qe,q⟩:=h;show⟨_,(XH (VJ<|Xf (iy T) hr T.qZi pxs<|XY (pv 0) XT)
   (XE<|Zm<|Xf (fV T hB) hr T.qZF ZD<|XY (pv 0)<|XY (ZB Mb (Xf (Gx T) hr T.qZl ZD<|XY (pv 0) XT) Zb) XT)),?_⟩
  exists _,Z,w,n,ps,Z,hW,hG,λhJ H1 s1=>?_,λh H1 s1=>qe h H1 s1;let hR:=hR hJ
  let⟨ld,F,inc,fu,QN,_,_,_,yC⟩:=id hR;let c0:R.length≠0:=λe=>by rw[e]at yC;show(jH yC).mp Z F QN.tr.1
  exists _,Z,_,Z,w,n,ps,Z,hW.same s1,hG,λc H2 hc s2=>⟨_,_,Z,Z,?_⟩;let rfl:=hc.uniq yC;let Wt:=s1.trans s2
  exists w,n,ps,_,R,Z,hW.same Wt,hG,hT.same Wt,(by change(0:Int)<=R⁻¹-1;lia),(by change R⁻¹-1<R.length;lia),hR,λr U H3 hU sx tab UY=>?_;show q r U H3 (by rwa[show(R⁻¹-1).toNat=R.length-1 by lia]at hU) ((SameX.same Wt).trans sx) tab UY
inductive spZH(K:Ad)(vs:List V)(H:Hp)(Q:VK)(_:XK):Prop
 |mk (a:Addr) (ns:Ac) (k:Int) (_:vs=[.ref a,.int k]) (_:SqL K H a (IL ns)) (_:0<=k) (_:∀r:Int,Q (.int r) H)
def KD(T:Txt K mg t):WR P w base Xb T.qZH 1 (spZH K):=by
 show T.qZH.okI ["script","k"] DX λXC A outer s H vs Q E hr h=>?_
 .let⟨a,ns,k,rfl,hS,hk,q⟩:=h;show⟨_,(XH (VZ (Zh UR (pv 1) (Ze (Zk K) Ea T.n_len Boot.«len»<|XY (pv 0) XT)<|Zq _)
   (XE<|Zm<|ZK (Zd K) (pv 0) (pv 1) λ_ _=>rfl)
   Zr)
   (XE<|Zm Zb)),?_⟩
  exists _,Z,_,Z,a,_,Z,.inl hS,_,_,Z,Z,_,Z,?_;show CU (λhc=>?_) (λ_=>?_)
  .let hc:=Yy hc;rw[Xp]at hc;obtain⟨z,hz⟩:∃z,ns[k.toNat]?=some z:=⟨_,Xs J⟩;exists _,Z,_,Z,a,_,k,.int z,Z,Z,hS,ZJ (n:=k.toNat) J (by rw[Yp,hz];rfl),q z
  .show q 0
inductive spZI(vs:List V)(H:Hp)(Q:VK)(_:XK):Prop
 |mk (c k:Int) (_:vs=[.int c,.int k]) (_:0<=k) (_:k<1000000000) (_:∀r:Int,0<=r->Q (.int r) H)
def Gi(T:Txt K mg t):WR P w base Xb T.qZI 1 spZI:=by
 show T.qZI.okI ["cell","k","big"] DX λXC A outer s H vs Q E hr h=>?_
 .let⟨c,k,rfl,k0,k1,q⟩:=h;show⟨_,(XH (Zf 2<|ZB Ob (ZB VH (ZB Sz (pv 0)<|ZB Ip Zb Zb) Zb)<|ZB VH Zb<|ZB Ob (ZB Ob Zb<|pv 1)<|pv 1)
   (XH (Zf 2<|ZB VH (pv 2)<|ZB Ob Zb<|pv 1)
   (XE<|Zm<|ZB Sz (ZB Ob (pv 2)<|pv 2)<|ZB VH (ZB Ip Zb Zb) Zb))),?_⟩
  let a0:0<=c%10^(60:Int).toNat:=Jc _ sZ;let a1:c%10^(60:Int).toNat<10^60:=FU _ sZ
  let b:=Hi (M:=10^20) (N:=10^20) (a:=2*k) (b:=k) J J k0 J;let d:=Hi (M:=10^70) (N:=10^70) (a:=c%10^(60:Int).toNat+3) (b:=16180339887498948482045868343656381177203+2*k*k) J J sV DW
  exists _,Z,_,_,Z,Z,⟨sZ,sZ,sZ⟩,_,_,Z,Z,(by change(0:Int)<10^60;decide),_,_,Z,Z,_,Z,_,_,Z,Z,⟨⟨sZ,sZ⟩,J,J⟩,_,Z,_,_,Z,Z,⟨⟨J,J⟩,DW,DW⟩,_,_,Z,Z,_,_,Z,Z,⟨⟨J,J⟩,DW,DW⟩,?_;exists _,Z,_,Z,_,_,Z,Z,⟨⟨sZ,sZ⟩,DW,DW⟩,_,_,Z,Z,?_;exists _,Z,_,Z,_,_,Z,Z,⟨⟨DW,DW⟩,DW,DW⟩,_,_,Z,Z,⟨sZ,sZ,sZ⟩,_,_,Z,Z,_,_,Z,Z,(by change(0:Int)<10^60+33;decide),?_;show q _ (Jc _ sZ)
inductive spZJ(K:Ad)(vs:List V)(H:Hp)(Q:VK)(_:XK):Prop
 |mk (a:Addr) (ns:Ac) (n most:Int) (_:vs=[.ref a,.int n,.int most]) (_:SqL K H a (IL ns)) (_:ns.length<=63) (_:1<=n) (_:n<=1000) (_:1<=most) (_:most<=30) (_:∀(l:Addr)(xs:List V)(ps:Aa)(H':Hp),Same H H'->H l=none->H' l=some (.lst xs)->PairsV H' xs ps->ps⁻¹<=most->(∀p∈ps,0<=p.1/\p.1<n/\0<=p.2/\p.2<n)->Q ↑l H')
def Zt5{ps:Aa}{n x y:Int}(h:∀p∈ps,0<=p.1/\p.1<n/\0<=p.2/\p.2<n)(h0:0<=x)(h1:x<n)(h2:0<=y)(h3:y<n):∀p∈ps++[(x,y)],0<=p.1/\p.1<n/\0<=p.2/\p.2<n:=λp hp=>by
 rcases XA.mp hp with e|e
 .show h p e
 .rw[XG.mp e];exists h0,h1,h2,h3
def fU{ps:Aa}{n x y:Int}{i:Nat}(h:∀p∈ps,0<=p.1/\p.1<n/\0<=p.2/\p.2<n)(h0:0<=x)(h1:x<n)(h2:0<=y)(h3:y<n):∀p∈ps.set i (x,y),0<=p.1/\p.1<n/\0<=p.2/\p.2<n:=λp hp=>by
 rcases eS hp with e|e
 .show h p e
 .rw[e];exists h0,h1,h2,h3
def PairsV.mutl{H:Hp}{d:Addr}{ys zs xs:List V}{ps:Aa}(hP:PairsV H xs ps)(hl:H d=some (.lst ys)):PairsV (upd H d (.lst zs)) xs ps:=⟨hP.1,λi p e=>by let⟨v,e1,t,e2,e3⟩:=hP.2 i p e;show⟨v,e1,t,e2,by rwa[XJ (PX e3 hl (λz=>nomatch z))]⟩⟩
def fS{s rest:TS}{D:Ends}{σ:L2.St}{H:Hp}(P:L2.St->Hp->Prop)(h1:∀σ' H',P σ' H'->rest D σ' H')(h2:∀K:L2.St->Hp->Prop,(∀σ' H',P σ' H'->K σ' H')->s {D with nx:=K} σ H):Ts s rest D σ H:=h2 _ h1
def fR(T:Txt K mg t):WR P w base Xb T.qZJ 2 (spZJ K):=by
 show T.qZJ.okI ["script","count","most","told","rest","amount","k","digit","cell","m","at"] DX λXC A outer s H vs Q E hr h=>?_
 .let⟨a,ns,n,most,rfl,hA,yA,n1,n2,m1,m2,q⟩:=h;show⟨_,(XH (Zf 3<|Tn XT)
   (XH (VZ (Zh Rg (ZB Sz (Xf (KD T) hr T.qZH ZD<|XY (pv 0)<|XY Zb XT) Zb) Zb<|Zq _)
   (XH (Zf 4<|ZB Sz (Xf (KD T) hr T.qZH ZD<|XY (pv 0)<|XY Zb XT)<|ZB Ip Zb Zb)
   (XH (Zf 5<|ZB Sz (pv 4)<|ZB VH (pv 2) Zb)
   (XH (Zf 4<|ZB Iq (pv 4)<|ZB VH (pv 2) Zb)
   (XH (Sb SI Z (rW Z T.n_range<|XY (pv 5) XT) (Zc 6)
   (XH (VZ (Zh Rg (pv 4) Zb<|Zq _)
   (XE<|Zf 4<|Xf (Gi T) hr T.qZI ZD<|XY (Xf (KD T) hr T.qZH ZD<|XY (pv 0)<|XY Zb XT)<|XY (pv 6) XT)
   Zr)
   (XH (Zf 7<|ZB Sz (pv 4)<|ZB VH (ZB Ir (pv 1)<|pv 1) Zb)
   (XH (VJ<|OI K Nv FZ Ga FA (pv 3)<|XY (To<|XY (ZB Sz (pv 7)<|pv 1)<|XY (ZB Sz (ZB Iq (pv 7)<|pv 1)<|pv 1) XT) XT)
   (XE<|Zf 4<|ZB Iq (pv 4)<|ZB VH (ZB Ir (pv 1)<|pv 1) Zb)))))
   (XE<|Zm<|pv 3)))))
   Zr)
   (XH (Sb SI Z (LQ K Z T.n_enumerate<|XY (LY (LR K) (pv 0) (Ni Zb) Km) XT) (VE (n:=2) K Z<|Zn (Zc 6)<|Zn (Zc 8) VI)
   (XH (Zf 9<|Xf (Gi T) hr T.qZI ZD<|XY (pv 8)<|XY (ZB Sz (pv 6) Zb) XT)
   (XE (VZ (Zh UR (pv 6) (pv 2)<|Zq _)
   (XE<|VJ<|OI K Nv FZ Ga FA (pv 3)<|XY (To<|XY (ZB Sz (ZB Iq (pv 9) Zb)<|pv 1)<|XY (ZB Sz (ZB Iq (pv 9) Zb)<|pv 1) XT) XT)
   (XH (Zf 10<|ZB Sz (pv 6)<|pv 2)
   (XH (Zf 9<|Xf (Gi T) hr T.qZI ZD<|XY (ZB VH (ZB VH (pv 9)<|ZK (ZE K) (ZK (Zd K) (pv 3) (pv 10) λ_ _=>rfl) Zb λ_ _=>rfl)<|ZB Ir Zb<|ZK (ZE K) (ZK (Zd K) (pv 3) (pv 10) λ_ _=>rfl) Zb λ_ _=>rfl)<|XY Zb XT)
   (XE<|si (To<|XY (ZB Sz (ZB Iq (pv 9) Zb)<|pv 1)<|XY (ZB Sz (ZB Iq (pv 9) Zb)<|pv 1) XT)<|sj (pv 3) (pv 10) Di)))))))
   (XE<|Zm<|pv 3)))),?_⟩
  let two:2<=sizeLine:=sZ;let Sg:(0:Int)<n:=J
  let md:∀z:Int,0<=z%n/\z%n<n:=λz=>⟨Jc _ J,FU _ Sg⟩;exists Ym _,λtd EH=>?_;let s0:=XZ (o:=.lst []) EH
  let Gh:(upd H td<|.lst []) td=some (.lst []):=XQ;let ES:=s0.seq hA
  generalize upd H td (.lst [])=H0 at *;exists _,Z,a,ns,1,Z,ES,sZ,λc1=>⟨_,_,Z,Z,(by change(0:Int)<2;decide),Z,_,Z,?_⟩;rw[Zx];show WN (λ_=>?_) (λ_=>?_)
  .exists _,Z,a,ns,2,Z,ES,sZ,λc2=>⟨_,_,Z,Z,⟨sZ,sZ,sZ⟩,_,_,Z,Z,(by change(0:Int)<10^60;decide),?_⟩;exists _,Z,_,Z,_,_,Z,Z,_,_,Z,Z,(by change(0:Int)<most+1;lia),?_;exists _,Z,_,Z,_,_,Z,Z,_,_,Z,Z,⟨by change(0:Int)<most+1;lia,by change most+1<1073741824;lia⟩,?_;let am0:0<=c2%10^(60:Int).toNat%(most+1):=Jc _ J
   let am1:c2%10^(60:Int).toNat%(most+1)<most+1:=FU _ J;let nn:=Hi (M:=1001) (N:=1001) (a:=n) (b:=n) J J J J
   exists _,Z,_,Z,J,J,rQ (lo:=0) (n:=(c2%10^(60:Int).toNat%(most+1)).toNat) (λi σ H2=>∃(xs:List V)(ps:Aa)(rs:Int)(v5 v6 v7:Option V),σ=[some ↑a,some<|.int n,some<|.int most,some<|.ref td,some<|.int rs,v5,v6,v7,none,none,none]/\Same H H2/\H2 td=some (.lst xs)/\PairsV H2 xs ps/\ps.length=i/\∀p∈ps,0<=p.1/\p.1<n/\0<=p.2/\p.2<n) ⟨[],[],_,_,_,_,Z,s0,Gh,PairsV.nil,Z,λp hp=>(by cases hp)⟩ ?_ ?_
   .rintro i σ H2 hi ⟨xs,ps,rs,v5,v6,v7,rfl,s2,h2,hP,NI,hg⟩;show nm ?_;dsimp only;show fS (λσ H3=>∃Jk:Int,H3=H2/\σ=[some ↑a,some<|.int n,some<|.int most,some<|.ref td,some<|.int Jk,v5,some<|.int<|0+(i:Int),v7,none,none,none]) ?_ ?_
    .rintro σ H3 ⟨Jk,rfl,rfl⟩;let dp:(0:Int)<n*n+1:=J
     exists _,Z,_,Z,_,Z,_,_,Z,Z,.inl ⟨by change -(2^64)<n;lia,by change n<2^64;lia⟩,_,_,Z,Z,_,_,Z,Z,dp,?_;let⟨x0,x1⟩:=md (Jk%(n*n+1));let⟨y0,y1⟩:=md (Jk%(n*n+1)/n);exists _,Z,.inl ⟨Z,_,SqL.of h2⟩,_,Z,_,Z,_,_,Z,Z,Sg,_,Z,_,Z,_,_,Z,Z,⟨Sg,by change n<1073741824;lia⟩,_,Z,_,_,Z,Z,Sg,two,λtp OB=>?_;let u1:=XZ (o:=.tup [.int (Jk%(n*n+1)%n),.int (Jk%(n*n+1)/n%n)]) OB
     let h3:=u1 _ _ h2;exists td,xs,_,Z,Z,h3,Zj (by rw[hP.1];lia),?_;exists _,Z,_,Z,_,Z,_,_,Z,Z,.inl ⟨by change -(2^64)<n;lia,by change n<2^64;lia⟩,_,_,Z,Z,_,_,Z,Z,⟨dp,by change n*n+1<1073741824;lia⟩,?_;show⟨_,ps++[(Jk%(n*n+1)%n,Jk%(n*n+1)/n%n)],_,_,_,_,Z,ZI EH<|s2.trans u1,XQ,?_,by rw[Xw,Yt,NI],Zt5 hg x0 x1 y0 y1⟩;show((hP.same u1).snoc ⟨tp,Z,XQ⟩).mutl h3
    .intro Kn hK;exists _,Z,Z,_,Z,?_;rw[Zx];show WN (λ_=>?_) λ_=>hK _ _ ⟨rs,Z,Z⟩;exists _,Z,a,ns,2,Z,s2.seq hA,sZ,λc3=>⟨_,Z,c3,_,Z,J,J,λr3 _=>hK _ _ ⟨r3,Z,Z⟩⟩
   .rintro σ H2 ⟨xs,ps,rs,v5,v6,v7,rfl,s2,h2,hP,NI,hg⟩;exists _,Z,q td xs ps H2 s2 EH h2 hP J hg
  .exists _,Z,_,Z,a,_,Z,ES,λp1 Us=>?_;rw[JV];let cl:(LH ns (some 2) none).length<=63:=by
    have:=wV (IL ns) (some 2) none
    rw[JV,Xp,Xp]at this;lia
   generalize LH ns (some 2) none=cs at *;let u1:=XZ (o:=.lst<|IL cs) Us
   let UW:p1≠td:=λe=>by rw[e,Gh]at Us;cases Us
   exists p1,Z,⟨_,SqL.of XQ⟩,wI (K:=K) (a:=p1) (xs:=IL cs) (λi σ H2=>∃(xs:List V)(ps:Aa)(v6 v8 v9 v10:Option V),σ=[some ↑a,some<|.int n,some<|.int most,some<|.ref td,none,none,v6,none,v8,v9,v10]/\Same H H2/\H2 p1=some (.lst<|IL cs)/\H2 td=some (.lst xs)/\PairsV H2 xs ps/\ps⁻¹=(if (i:Int)<most then (i:Int) else most)/\∀p∈ps,0<=p.1/\p.1<n/\0<=p.2/\p.2<n) ⟨[],[],none,none,none,none,Z,s0.trans u1,XQ,u1 _ _ Gh,PairsV.nil,by rw[if_pos J];rfl,λp hp=>(by cases hp)⟩ (λi σ H2 _ zz=>by let⟨_,_,_,_,_,_,_,_,e,_⟩:=zz;show SqL.of e) ?_ ?_
   .rintro i v σ H2 pt fQ hi ⟨xs,ps,v6,v8,v9,v10,rfl,s2,VT,h2,hP,NI,hg⟩;let⟨c,rfl,hc⟩:=Um hi;let hi63:=(Xy.mp hc).1
    let u2:=XZ (o:=.tup [.int i,.int c]) fQ;exists pt,_,Z,SqT.of XQ,Z,_,_,Z,_,_,Z,Z,?_;let MQ:=u2 _ _ VT
    let h3:=u2 _ _ h2;let yy:=hP.same u2
    let s3:=s2.trans u2;generalize upd H2 pt (.tup [.int i,.int c])=H3 at *;exists _,Z,_,Z,_,_,Z,Z,(by change(0:Int)<37;decide),c,_,Z,Jc _ sZ,Int.lt_trans (FU _ sZ) sZ,λm m0=>?_;exists _,Z,_,Z,_,_,Z,Z,_,Z,?_;show WN (λhk=>?_) (λhk=>?_)
    .rw[if_pos hk]at NI;let⟨x0,x1⟩:=md (m/8);let⟨y0,y1⟩:=md (m/800);exists _,Z,.inl ⟨Z,_,SqL.of h3⟩,_,Z,_,_,Z,Z,⟨sZ,sZ⟩,_,Z,_,_,Z,Z,Sg,_,Z,_,_,Z,Z,⟨sZ,sZ⟩,_,Z,_,_,Z,Z,Sg,two,λtp OB=>?_;let u3:=XZ (o:=.tup [.int (m/8%n),.int (m/800%n)]) OB
     let h4:=u3 _ _ h3;exists td,xs,_,rfl,rfl,h4,Zj (by rw[hP.1];lia),?_;show⟨_,ps++[(m/8%n,m/800%n)],_,_,_,_,rfl,ZI EH<|s3.trans u3,by rw[XJ UW];show u3 _ _ MQ,XQ,((yy.same u3).snoc ⟨tp,rfl,XQ⟩).mutl h4,?_,Zt5 hg x0 x1 y0 y1⟩;rw[Xw,Yt];split<;>lia
    .rw[if_neg hk]at NI;let uH:0<=(i:Int)%most:=Jc _ J
     let uG:(i:Int)%most<most:=FU _ J;obtain⟨p,hp⟩:∃p,ps[((i:Int)%most).toNat]?=some p:=⟨_,Xs J⟩;let⟨v,hv,tt,rfl,Uw⟩:=yy.2 _ p hp;let hix:Wh xs ((i:Int)%most)=some ↑tt:=ZJ (n:=((i:Int)%most).toNat) J hv
     exists _,Z,_,Z,_,_,Z,Z,(by change(0:Int)<most;lia),?_;exists _,Z,_,Z,_,Z,td,_,(i:Int)%most,.ref tt,Z,Z,SqL.of h3,hix,tt,_,0,.int p.1,Z,Z,SqT.of Uw,Z,_,_,Z,Z,_,Z,_,Z,td,_,(i:Int)%most,.ref tt,Z,Z,SqL.of h3,hix,tt,_,1,.int p.2,Z,Z,SqT.of Uw,Z,_,_,Z,Z,.inl ⟨sZ,sZ⟩,_,_,Z,Z,_,5,Z,sZ,sZ,λm' m0'=>?_;let⟨x0,x1⟩:=md (m'/8);let⟨y0,y1⟩:=md (m'/800);exists _,Z,_,_,Z,Z,⟨sZ,sZ⟩,_,Z,_,_,Z,Z,Sg,_,Z,_,_,Z,Z,⟨sZ,sZ⟩,_,Z,_,_,Z,Z,Sg,two,λtp OB=>?_;let u3:=XZ (o:=.tup [.int (m'/8%n),.int (m'/800%n)]) OB
     let h4:=u3 _ _ h3;exists _,Z,_,Z,td,xs,_,((i:Int)%most).toNat,Z,Z,h4,?_,?_
     .have:=hP.1
      unfold OU;rw[if_pos J,if_pos J]
     show⟨_,ps.set ((i:Int)%most).toNat (m'/8%n,m'/800%n),_,_,_,_,rfl,ZI EH<|s3.trans u3,by rw[XJ UW];show u3 _ _ MQ,XQ,((yy.same u3).set _ ⟨tp,rfl,XQ⟩).mutl h4,?_,fU hg x0 x1 y0 y1⟩;rw[Mz];split<;>lia
   .rintro σ H2 ⟨xs,ps,v6,v8,v9,v10,rfl,s2,VT,h2,hP,NI,hg⟩;exists _,rfl,q td xs ps H2 s2 EH h2 hP ?_ hg;split at NI<;>lia
inductive spZK(K:Ad)(vs:List V)(H:Hp)(Q:VK)(_:XK):Prop
 |mk (n:Int) (a:Addr) (xs:List V) (ps:Aa) (_:vs=[.int n,.ref a]) (_:SqL K H a xs) (_:PairsV H xs ps) (_:Zu n ps) (_:ps.length<=10) (_:∀(r:Addr)(ys:List V)(L:Ab)(H':Hp),Same H H'->H' r=some (.lst ys)->TupsV H' ys L->L.length<=1024->(∀l,l∈L↔Zg n ps l)->L.Pairwise VB->Q ↑r H')
def fP{ps:Aa}{z:Nat}{p:Int×Int}(h:ps[z]?=some p):Zp ps (z:Int)=(p.1.toNat,p.2.toNat):=by unfold Zp;rw[YK,ZS h]
def yx:FnScope ["count","ties","told","tie","pair","more","row","marks","low","high"] ["count","ties"] (Xe (top 64)):=Rq DX
def fO(T:Txt K mg t):WR P w base Xb T.qZK 1 (spZK K):=by
 show T.qZK.okI ["count","ties","told","tie","pair","more","row","marks","low","high"] DX λXC A outer s H vs Q E hr h=>?_
 .let⟨n,a,xs,ps,rfl,hA,hP,hG,p10,q⟩:=h;show⟨_,(XH (Zf 2<|Tn<|XY (To<|XY (To XT)<|XY (Zo (c9 Z) Ea T.n_list Boot.«list»<|XY (Zo qi Ea T.n_range Boot.«range»<|XY (pv 0) XT) XT) XT) XT)
   (XH (Sb SI Z (LQ K Z T.n_enumerate<|XY (pv 1) XT) (VE (n:=2) K Z<|Zn (Zc 3)<|Zn (Zc 4) VI)
   (XH (Zf 5<|Tn XT)
   (XH (Sb SI Z (ZU K<|pv 2) (VE (n:=2) K Z<|Zn (Zc 6)<|Zn (Zc 7) VI)
   (XH (Rh (i:=8) yx.nd Z (Or.inr Z)<|ZK (Zd K) (pv 7) (ZK (ZE K) (pv 4) Zb λ_ _=>rfl) λ_ _=>rfl)
   (XH (Rh (i:=9) yx.nd Z (Or.inr Z)<|ZK (Zd K) (pv 7) (ZK (ZE K) (pv 4) Zb λ_ _=>rfl) λ_ _=>rfl)
   (XE (VZ (Zh PU (pv 8) (pv 9)<|Zq _)
   (XE<|VJ<|OI K Nv FZ Ga FA (pv 5)<|XY (To<|XY (ZB (Bf K) (pv 6)<|To<|XY (pv 3) XT)<|XY (Wf Z (sc0:=Xe<|top 64) (N0:=["count","ties","told","tie","pair","more","row","marks","low","high"]) (N':=["mark","low","high"]) (o:=1) (fr:=[8,9]) ⟨Z,DX,DX,DX,Z,DX⟩ (ZU K<|pv 7) (ZF sZ) (λ_ _ _ _=>(Zc 0)) (λ_ _ _ _=>Nh) λ_ _ _ _=>(ZK (Zd K) (Tn<|XY (pv 0)<|XY (pv 1) XT) (Zo Zh9 Ea T.n_int Boot.«int»<|XY (Nj Rg (pv 0) (pv 2)<|Zq _) XT) λ_ _=>rfl)) XT) XT)
   Zr)))))
   (XE<|Zf 2<|ZB OS (pv 2)<|pv 5))))
   (XE<|Zm<|Ze (bH K) Ea T.n_sorted Boot.«sorted»<|XY (Wf Z (sc0:=Xe<|top 64) (N0:=["count","ties","told","tie","pair","more","row","marks","low","high"]) (N':=["row","marks","count"]) (o:=2) (fr:=[0]) ⟨Z,DX,DX,DX,Z,DX⟩ (ZU K<|pv 2) (HZ<|ZQ sZ<|ZQ sZ Ia) (λ_ _ _ _=>(VE (n:=2) K Z<|Zn (Zc 0)<|Zn (Zc 1) VI)) (λ_ _ _ _=>(VG<|Zh Rg (Ze (Zk K) Ea T.n_len Boot.«len»<|XY (pv 0) XT) (ZB Mb (pv 2) Zb)<|Zq _)) λ_ _ _ _=>(pv 0)) XT))),?_⟩
  let⟨g1,g2,g3,g4⟩:=id hG;let RT:=hP.1
  let one:1<=sizeLine:=sZ;let two:2<=sizeLine:=sZ
  exists Ym _,λt0 ht0=>?_;let s0:=XZ (o:=.tup []) ht0
  exists _,Z,n,Z,λrg hrg=>⟨rg,0,n,Z,XQ,⟨sZ,sZ,J,J⟩,J,λh0 hh0=>?_⟩;let s1:=Zv (o:=.lst<|(Wr 0 n).map V.int) (XZ (o:=.rng 0 n) hrg) hh0
  exists two,λpr hpr=>⟨one,λd0 hd0=>?_⟩;let s2:=XZ (o:=.tup [.ref t0,.ref h0]) hpr
  let s3:=XZ (o:=.lst [.ref pr]) hd0;let e0:(Wr 0 n).map V.int=IL (WX n.toNat<|XS ps []):=by rw[CF];rfl
  let f1:=(s2.trans s3) _ _ (XQ (a:=h0) (o:=.lst<|(Wr 0 n).map V.int));let bh0:∀(R:V->Ac->Prop),Bears R [] []:=λR=>⟨Z,λi l e=>by simp at e⟩
  let hB0:Bears (PhL n.toNat ps<|upd (upd (upd (upd (upd H t0<|.tup []) rg<|.rng 0 n) h0<|.lst<|(Wr 0 n).map V.int) pr<|.tup [.ref t0,.ref h0]) d0<|.lst [.ref pr]) [.ref pr] (UA n.toNat ps 0):=
   (bh0 _).snoc ⟨pr,t0,h0,Z,s3 _ _ XQ,(s1.trans<|s2.trans s3) _ _ XQ,by rwa[<-e0]⟩
  let sA:=(s0.trans<|s1.trans<|s2.trans s3).seq hA;show⟨_,Z,a,Z,⟨_,sA⟩,wI (K:=K) (a:=a) (xs:=xs) (λi σ H2=>∃(d:Addr)(ys:List V)(v3 v4 v5 v6 v7 v8 v9:Option V),σ=[some (.int n),some<|.ref a,some<|.ref d,v3,v4,v5,v6,v7,v8,v9]/\Same H H2/\H2 d=some (.lst ys)/\Bears (PhL n.toNat ps H2) ys (UA n.toNat ps i))
   ⟨d0,[.ref pr],none,none,none,none,none,none,none,Z,s0.trans<|s1.trans<|s2.trans s3,XQ,hB0⟩ (λi σ H2 _ zz=>by let⟨_,_,_,_,_,_,_,_,_,_,e,_⟩:=zz;show e.seq hA) ?_ ?_⟩
  .rintro i v σ H2 pt UW hi ⟨d,ys,v3,v4,v5,v6,v7,v8,v9,rfl,s2,hd,hB⟩;let⟨p,hp,tz,rfl,htz⟩:=hP.at hi;let hi10:i<10:=by have:=(Xy.mp hp).1;lia
   let⟨b1,b2,b3,b4⟩:=g4 p (Xg hp);let w1:=XZ (o:=.tup [.int i,.ref tz]) UW
   exists pt,_,Z,SqT.of XQ,Z,_,_,Z,_,_,Z,Z,?_;let QL:=w1 _ _ hd
   let JU:=hB.imp λ_ _ h=>h.same w1;let s3:=s2.trans w1
   generalize upd H2 pt (.tup [.int i,.ref tz])=H3 at *;exists Ym _,λe he=>?_;let w2:=XZ (o:=.lst []) he
   let yl:=Be n.toNat ps (i:=i) J;let Lq:=JU.1
   show⟨_,Z,d,Z,⟨_,SqL.of<|w2 _ _ QL⟩,w5 (K:=K) (a:=d) (xs:=ys) (λj σ H4=>∃(zs:List V)(v6 v7 v8 v9:Option V),σ=[some (.int n),some<|.ref a,some<|.ref d,some<|.int i,some<|.ref tz,some<|.ref e,v6,v7,v8,v9]/\Same H3 H4/\H4 e=some (.lst zs)/\Bears (PhM n.toNat ps e H4) zs ((((UA n.toNat ps i).take j).map (·++[(i:Int)])).filter (Fr n.toNat ps)))
    ⟨[],_,_,_,_,Z,w2,XQ,bh0 _⟩ (λj σ H4 _ zz=>by let⟨_,_,_,_,_,_,e,_⟩:=zz;show SqL.of<|e _ _ QL) ?_ ?_⟩
   .rintro j v σ H4 hj ⟨zs,v6,v7,v8,v9,rfl,s4,QJ,hZ⟩;let⟨l,hl,tt,pA,yw,rfl,Uw,EN,hhA⟩:=JU.at hj;let hFr:=(Wo.mp<|Xg hl).2
    let Lk:=(Wo.mp<|Xg hl).1.len;exists tt,_,Z,SqT.of<|s4 _ _ Uw,Z,_,_,Z,_,_,Z,Z,?_;let fN:=s4 _ _ EN
    let Gg:=s4 _ _ hhA;let yt:=(s3.trans s4) _ _ htz
    let lL:(WX n.toNat<|XS ps l).length=n.toNat:=ZA _ _;let eo:=fP hp
    let lsn:WX n.toNat (XS ps<|l++[(i:Int)])=lm (WX n.toNat<|XS ps l) p.1.toNat p.2.toNat:=by rw[Te,eo,Na]
    let frz:=QU (n:=n.toNat) (ps:=ps) (l:=l) (z:=(i:Int));rw[eo]at frz;let lst:(((UA n.toNat ps i).take (j+1)).map (·++[(i:Int)])).filter (Fr n.toNat ps)=(((UA n.toNat ps i).take j).map (·++[(i:Int)])).filter (Fr n.toNat ps)++(if Fr n.toNat ps (l++[(i:Int)])=true then [l++[(i:Int)]] else []):=by
     rw[WB,hl,YQ,QI];show QP _ ?_;change List.filter _ [l++[(i:Int)]]=_
     rw[YZ];rfl
    let zl:zs.length<=1024:=by rw[hZ.1];show Yr (YG ..) ?_;rw[Yb,Yl];lia
    generalize WX n.toNat (XS ps l)=M at *;let iA:Wh (IL M) p.1=some (.int<|mk M p.1.toNat):=ZJ (n:=p.1.toNat) J (SN<|Qz J)
    let iB:Wh (IL M) p.2=some (.int<|mk M p.2.toNat):=ZJ (n:=p.2.toNat) J (SN<|Qz J);exists _,Z,_,Z,tz,_,0,.int p.1,Z,Z,SqT.of yt,Z,yw,_,p.1,_,Z,Z,SqL.of Gg,iA,?_;exists _,Z,_,Z,tz,_,1,.int p.2,Z,Z,SqT.of yt,Z,yw,_,p.2,_,Z,Z,SqL.of Gg,iB,?_;exists _,Z,_,Z,Z,_,Z,?_;rw[Zx];show WH (λheq=>?_) (λXM=>?_)
    .exists zs,_,_,_,_,Z,s4,QJ,?_;rwa[lst,if_neg λh=>(frz.mp h).2 heq,Yx]
    let hFz:Fr n.toNat ps (l++[(i:Int)])=true:=frz.mpr ⟨hFr,XM⟩;exists _,Z,.inl ⟨Z,_,SqL.of QJ⟩,_,Z,_,Z,one,λp2 VT=>?_;let x1:=XZ (o:=.tup [.int i]) VT
    exists pA,p2,_,_,Z,Z,x1 _ _ fN,XQ,LS (by rw[Xp];change _+1<=_;lia),λr3 H5 x2 UY=>?_;let fM:=x1.trans x2
    let yr:=fM _ _ Gg;show⟨_,Z,yw,Z,⟨_,SqL.of yr⟩,Nb (K:=K) (a:=yw) (xs:=IL M) (λw us H6=>Same H5 H6/\w<=M.length/\us=IL ((M.take w).map λk=>if k=mk M p.2.toNat then mk M p.1.toNat else k)) ⟨Same.refl _,Ym _,Z⟩ (Zj<|by rw[Xp];lia)
     (λw us H6 hw zz=>by let⟨e,uX,ey⟩:=zz;show⟨SqL.of<|e _ _ yr,by rw[ey,Xp,Yb,Yl];lia⟩) ?_ ?_⟩
    .rintro w v us H6 hw ⟨x3,Kl,rfl⟩ S Xh;let⟨y,rfl,hy⟩:=Um hw;let yq:=(Xy.mp hy).1
     show nm ?_;exists _,Z,_,Z,two,λlp NI=>?_;let x4:=XZ (o:=.lst [.int y,.int (mk M p.1.toNat)]) NI
     exists _,Z,_,Z,Z,.inr ⟨_,Z,?_⟩;rw[Zx];let app:∀v:Int,v=(if y=mk M p.2.toNat then mk M p.1.toNat else y)->IL ((M.take w).map λk=>if k=mk M p.2.toNat then mk M p.1.toNat else k)++[.int v]=IL ((M.take<|w+1).map λk=>if k=mk M p.2.toNat then mk M p.1.toNat else k):=λv hv=>by rw[WB,hy,YQ,hv];show(ZX _ _).symm
     cases hc:y=mk M p.2.toNat
     .rw[Yv hc];exists lp,_,1,.int<|mk M p.1.toNat,Z,Z,SqL.of XQ,Z,Xh _ _ ⟨x3.trans x4,yq,app _<|by rw[if_pos hc]⟩
     .rw[Rm hc];exists lp,_,0,.int y,Z,Z,SqL.of XQ,Z,Xh _ _ ⟨x3.trans x4,yq,app _<|by rw[if_neg hc]⟩
    rintro us H6 ⟨x3,_,rfl⟩ la GC;rw[Xp,YS];let elm:(M.map λk=>if k=mk M p.2.toNat then mk M p.1.toNat else k)=WX n.toNat (XS ps<|l++[(i:Int)]):=by rw[lsn];unfold lm;rw[if_pos XM]
    let x5:=XZ (o:=.lst<|IL<|M.map λk=>if k=mk M p.2.toNat then mk M p.1.toNat else k) GC;exists two,λtn htn=>?_;let x6:=XZ (o:=.tup [.ref r3,.ref la]) htn
    let fL:=fM.trans (x3.trans<|x5.trans x6);let he7:=fL _ _ QJ
    let hle:la≠e:=λz=>by rw[z,(fM.trans x3) _ _ QJ]at GC;cases GC
    exists e,zs,_,Z,Z,he7,Zj J,?_;exists zs++[.ref tn],_,_,_,_,Z,ZI he<|s4.trans fL,XQ,?_;rw[lst,if_pos hFz];let hn:PhM n.toNat ps e (upd (upd H6 la<|.lst<|IL<|M.map λk=>if k=mk M p.2.toNat then mk M p.1.toNat else k) tn<|.tup [.ref r3,.ref la]) ↑tn (l++[(i:Int)]):=⟨tn,r3,la,Z,XQ,by rw[(x3.trans<|x5.trans x6) _ _ UY,ZX],by rw[<-elm];show x6 _ _ XQ,hle⟩
    show((hZ.imp λ_ _ h=>h.same fL).snoc hn).imp λ_ _ h=>h.mut he7
   .rintro σ H4 ⟨zs,v6,v7,v8,v9,rfl,s4,QJ,hZ⟩;rw[JU.1,YS]at hZ;let zl:zs.length<=1024:=by rw[hZ.1];show Yr (YG ..) ?_;rw[Yb];lia
    exists _,Z,_,Z,d,e,_,_,Z,Z,s4 _ _ QL,QJ,LS J,λdn hdn=>?_;let x1:=XZ (o:=.lst<|ys++zs) hdn
    exists dn,ys++zs,_,_,_,_,_,_,_,Z,s3.trans<|s4.trans x1,XQ,?_;show((JU.imp λ_ _ h=>h.same s4).app (hZ.imp λ_ _ h=>h.low)).imp λ_ _ h=>h.same x1
  .rintro σ H2 ⟨d,ys,v3,v4,v5,v6,v7,v8,v9,rfl,s2,hd,hB⟩;rw[RT]at hB;let yl:=Be n.toNat ps p10
   let Lq:=hB.1;show⟨_,Z,d,Z,⟨_,SqL.of hd⟩,Nb (K:=K) (a:=d) (xs:=ys) (λi ws H3=>H3=H2/\i<=ys.length/\TupsV H2 ws (((UA n.toNat ps ps.length).take i).filter λl=>decide<|l⁻¹=n-1)) ⟨Z,Ym _,TupsV.nil⟩ (Zj J)
    (λi ws H3 hi zz=>by let⟨e,Uz,ey⟩:=zz;show⟨e▸SqL.of hd,by rw[ey.1];show Yr (YG ..)<|by rw[Yl];lia⟩) ?_ ?_⟩
   .rintro i v ws H3 hi ⟨rfl,Ut,hW⟩ S Xh;let⟨l,hl,tt,pA,yw,rfl,Uw,EN,hhA⟩:=hB.at hi;let Xn:i<ys.length:=(Xy.mp hi).1
    exists tt,_,Z,SqT.of Uw,Z,_,_,Z,_,_,Z,Z,?_;let tk:((UA n.toNat ps ps.length).take (i+1)).filter (λl=>decide<|l⁻¹=n-1)=((UA n.toNat ps ps.length).take i).filter (λl=>decide<|l⁻¹=n-1)++(if l⁻¹=n-1 then [l] else []):=by
     rw[WB,hl,QI];show QP _ ?_;change List.filter _ [l]=_
     rw[YZ];cases h:l⁻¹=n-1
     .rw[if_pos h,if_pos (Yv h)];rfl
     .rw[if_neg h,if_neg (by simp;show h)];rfl
    exists _,Z,pA,_,Z,.inr<|SqT.of EN,_,Z,_,_,Z,Z,Z,_,Z,?_;rw[Xp,Zx];show WN (λh=>?_) (λh=>?_)
    .exists _,Z,Xh _ _ ⟨Z,Xn,?_⟩;rw[tk,if_pos h];show hW.snoc ⟨pA,Z,EN⟩
    .show Xh _ _ ⟨Z,Xn,?_⟩;rwa[tk,if_neg h,Yx]
   .rintro ws H3 ⟨rfl,_,hW⟩ p hp;rw[Lq,YS]at hW;let hm:∀l,l∈(UA n.toNat ps ps.length).filter (λl=>decide<|l⁻¹=n-1)↔Zg n ps l:=λl=>by rw[Yd,YV];show mF hG
    let SW:((UA n.toNat ps ps.length).filter λl=>decide<|l⁻¹=n-1).Nodup:=Mn IT (mG n.toNat ps ps.length);let Lk:((UA n.toNat ps ps.length).filter λl=>decide<|l⁻¹=n-1).length<=1024:=Yr (YG ..) yl
    generalize (UA n.toNat ps ps.length).filter (λl=>decide<|l⁻¹=n-1)=W at *;let s4:=XZ (o:=.lst ws) hp
    let EI:=hW.same s4;let Kl:=hW.1
    exists p,ws,W,Xa<|upd H3 p<|.lst ws,Z,SqL.of XQ,EI,λv l zz=>by let⟨a,e,h⟩:=zz;show⟨a,e,SqT.of h⟩,?_,J,λzs M hZ TF fK r hr=>?_
    .cases h1:n=1
     .show .inl ?_;rw[Kl]
      match W,SW,hm with
      |[],_,_=>show Nat.zero_lt_two
      |[_],_,_=>show Nat.one_lt_two
      |x::y::W,SW,hm=>
       let ex:x=[]:=YM.mp (by have:=((hm x).mp B).2.1;lia);let ey:y=[]:=YM.mp (by have:=((hm y).mp B).2.1;lia)
       show absurd (ex.trans ey.symm) ((YT.mp SW).1 y B)
     .show .inr λl hl e=>?_
      have:=((hm l).mp hl).2.1
      rw[e]at this;simp at this;lia
    .let s5:=XZ (o:=.lst zs) hr;show q r zs M _ (s2.trans<|s4.trans s5) XQ (TupsV.same s5 hZ) (by rwa[TF.length_eq]) (λl=>by rw[TF.mem_iff];show hm l) (bC fK<|TF.nodup_iff.mpr SW)
inductive spZL(K:Ad)(CP C Pt:Addr)(vs:List V)(H:Hp)(Q:VK)(_:XK):Prop
 |mk (w:Addr) (n:Int) (ps:Aa) (_:vs=[.ref w]) (_:WebAt C H w n ps) (_:Zu n ps) (_:WI H Pt) (_:¬Hy n ps) (_:∀H':Hp,Q (.bl true) H')
def fJ:FnScope ["web","kinds","e"] ["web"] (Xe (top 65)):=Rq DX
def fI{Pt:Addr}(T:Txt K mg t)(hB:MR K mg base t.dZv Pt):WR P w base Xb T.qZL 47 (spZL K t.A_Part t.A_Web Pt):=by
 show T.qZL.okI ["web","kinds","e"] DX λXC A outer s H vs Q E hr h=>?_
 .let⟨w,n,ps,rfl,hW,hG,hT,hJ,q⟩:=h;show⟨_,(XH (Zf 1<|Tn XT)
   (XH (ph (i:=2) Z Z Z fJ.nd Z Z T.c_WebError Z (λR _=>(XE<|VJ<|pq (yB T hB) (hr.mono sZ) Z T.qZG.mm T.qZG.fn.kp T.qZG.bi .nil pxT<|XY (pv 0) XT)) λe C oe _ RY=>(XE<|Zf 1<|Tn<|XY (Ze (wk K (Yg _<|XG.mpr Z) RY) Ea T.n_isinstance Boot.«isinstance»<|XY (pv 2)<|XY (sN (v:=V.ty "ValueError") Z T.n_ValueError Boot.«ValueError» Z) XT)<|XY (Ze (wk K (Yg _<|XG.mpr Z) RY) Ea T.n_isinstance Boot.«isinstance»<|XY (pv 2)<|XY (Pd (v:=V.ref t.A_Parted) Z T.c_Parted Z) XT)<|XY (Ze (wk K (Yg _<|XG.mpr Z) RY) Ea T.n_isinstance Boot.«isinstance»<|XY (pv 2)<|XY (Pd (v:=V.ref t.A_NoTree) Z T.c_NoTree Z) XT)<|XY (Ze (wk K (Yg _<|XG.mpr Z) RY) Ea T.n_isinstance Boot.«isinstance»<|XY (pv 2)<|XY (Pd (v:=V.ref t.A_NoSuch) Z T.c_NoSuch Z) XT) XT))
   (XE<|Zm<|Nj (OJ K<|Nc hr) (pv 1) (Tn<|XY Mi<|XY Mi<|XY Mi<|XY Mi XT)<|Zq _))),?_⟩
  exists Ym _,λkl jD=>?_;let s0:=XZ (o:=.lst []) jD
  let fH:=hT.same s0;exists _,Z,w,n,ps,[],Z,hW.same s0,hG,fH,λh=>absurd h hJ,λ_ H1 s1=>⟨_,Z,T.em_Parted,λe he=>?_⟩,λr U H1 hU=>absurd hU B;exists _,Z,_,_,_,Z,λz h=>h,T.x_Parted,T.ki_Parted_ValueError,_,Z,_,_,_,Z,λz h=>h,T.x_Parted,pO,_,Z,_,_,_,Z,λz h=>h,T.x_Parted,T.ki_Parted_NoTree,_,Z,_,_,_,Z,λz h=>h,T.x_Parted,T.ki_Parted_NoSuch,(by change 4<=sizeLine;decide),λkk Lz=>?_;exists _,Z,(by change 4<=sizeLine;decide),λk2 hk2=>⟨1,_,kk,k2,Z,Z,sZ,Zc9 (bs:=[true,true,false,false]) (cs:=[true,true,false,false]) (SqL.of<|XZ hk2 _ _ XQ)<|SqL.of XQ,?_⟩;show q _
inductive spZM(K:Ad)(vs:List V)(H:Hp)(Q:VK)(_:XK):Prop
 |mk (a b:Addr) (U V:Ac) (_:vs=[.ref a,.ref b]) (_:H a=some (.tup<|IL U)) (_:H b=some (.tup<|IL V)) (_:U.length<=20) (_:Qi U V) (_:∀H':Hp,Same H H'->Q (.bl true) H')
def fG(T:Txt K mg t):WR P w base Xb T.qZM 1 (spZM K):=by
 show T.qZM.okI ["one","other"] DX λXC A outer s H vs Q E hr h=>?_
 .let⟨a,b,U,V,rfl,hA,hB,lU,st,q⟩:=h;exists _,(XE<|Zm<|Nj Rg (Ze (Zk K) Ea T.n_len Boot.«len»<|XY (Wf Z (sc0:=Xe<|top 66) (N0:=["one","other"]) (N':=["tie","other"]) (o:=1) (fr:=[1]) ⟨Z,DX,DX,DX,Z,DX⟩ (CH K<|pv 0) (ZF sZ) (λ_ _ _ _=>(Zc 0)) (λ_ _ _ _=>(VG<|Zh (HS K) (pv 0) (pv 1) Z)) λ_ _ _ _=>(pv 0)) XT) Zb<|Zq _),?_;exists _,Z,a,Z,⟨_,SqT.of hA⟩,wK (K:=K) (a:=a) (xs:=IL U) (λi ws ML=>ML=H/\i<=U.length/\ws=IL ((U.take i).filter λy=>decide<|y∉V)) ⟨Z,Ym _,Z⟩ (Zj<|by rw[Xp];lia) (λi ws ML hi h=>by let⟨e,Uz,ew⟩:=h;show⟨e▸SqT.of hA,by rw[ew,Xp];show Yr (YG ..)<|by rw[Yl];lia⟩) ?_ ?_
  .rintro i y ws ML hi ⟨rfl,Ut,rfl⟩ S Xh;let⟨y,rfl,hy⟩:=Um hi;let Xn:i<U.length:=(Xy.mp hy).1
   exists _,Z,_,Z,b,_,Z,.inr<|SqT.of hB,Z,Tg _,_,Z,?_;rw[LO];show WH (λhc=>?_) (λhc=>?_)
   .show Xh _ _ ⟨Z,Xn,?_⟩;rw[ZR hy,if_neg (by simpa using hc),Yx]
   .exists _,Z,Xh _ _ ⟨Z,Xn,?_⟩;rw[ZR hy,if_pos<|Yv hc,ZX]
  rintro ws ML ⟨rfl,_,rfl⟩ dA gS;rw[Xp,YS];let e1:(U.filter λy=>decide<|y∉V).length=1:=st
  exists dA,_,Z,.inl<|SqL.of XQ,Z,?_;rw[Xp,e1];show q _ (XZ gS)
inductive spZN(K:Ad)(vs:List V)(H:Hp)(Q:VK)(_:XK):Prop
 |mk (l b:Addr) (n:Int) (xs ys:List V) (ps:Aa) (L:Ab) (F:Ac) (z o:Int) (_:vs=[.ref l,.ref b]) (_:H l=some (.lst xs)) (_:PairsV H xs ps) (_:Zu n ps) (_:H b=some (.lst ys)) (_:TupsV H ys L) (_:(∀T,T∈L↔Zg n ps T)) (_:L[0]?=some F) (_:z∈WW n ps [] [] F) (_:(∀y∈WW n ps [] [] F,z<=y)) (_:exg n ps F o z) (_:(∀x,exg n ps F x z->x<=o)) (_:∀(r:Addr)(H':Hp),Same H H'->H' r=some (.tup<|IL<|xchT F o z)->Q ↑r H')
def fF:FnScope ["ties","trees","into","others","out","tree"] ["ties","trees"] (Xe (top 67)):=Rq DX
def fE(T:Txt K mg t):WR P w base Xb T.qZN 2 (spZN K):=by
 show T.qZN.okI ["ties","trees","into","others","out","tree"] DX λXC A outer s H vs Q E hr h=>?_
 .let⟨l,b,n,xs,ys,ps,L,F,z,o,rfl,hl,h3,hG,hb,hL,hmem,Jj,hz,hzm,hx,hxm,q⟩:=h;show⟨_,(XH (Zf 2<|ZK (Zd K) (Wf Z (sc0:=Xe<|top 67) (N0:=["ties","trees","into","others","out","tree"]) (N':=["tie","pair","trees"]) (o:=2) (fr:=[1]) ⟨Z,DX,DX,DX,Z,DX⟩ (LQ K Z T.n_enumerate<|XY (pv 0) XT) (HZ<|ZQ sZ<|ZQ sZ Ia) (λ_ _ _ _=>(VE (n:=2) K Z<|Zn (Zc 0)<|Zn (Zc 1) VI)) (λ_ _ _ _=>(VG<|PW.pt<|DR (Zh PU (ZK (ZE K) (pv 1) Zb λ_ _=>rfl) (ZK (ZE K) (pv 1) Zb λ_ _=>rfl)<|Zq _)<|DS<|Zh (HS K) (pv 0) (ZK (Zd K) (pv 2) Zb λ_ _=>rfl) Z)) λ_ _ _ _=>(pv 0)) Zb λ_ _=>rfl)
   (XH (Zf 3<|Tn XT)
   (XH (Sb SI Z (CH K<|ZK (Zd K) (pv 1) Zb λ_ _=>rfl) (dQ (i:=4) fF.nd Z<|Or.inr Z)
   (XH (Zf 5<|Zo (ZN K) Ea T.n_tuple Boot.«tuple»<|XY (Ze (wj K) Ea T.n_sorted Boot.«sorted»<|XY (ZB OS (Wf Z (sc0:=Xe<|top 67) (N0:=["ties","trees","into","others","out","tree"]) (N':=["tie","out"]) (o:=1) (fr:=[4]) ⟨Z,DX,DX,DX,Z,DX⟩ (CH K<|ZK (Zd K) (pv 1) Zb λ_ _=>rfl) (ZF sZ) (λ_ _ _ _=>(Zc 0)) (λ_ _ _ _=>(VG<|Zh PU (pv 0) (pv 1)<|Zq _)) λ_ _ _ _=>(pv 0))<|Tn<|XY (pv 2) XT) XT) XT)
   (XE (VZ (Zh (oz K<|Nc hr) (pv 5) (pv 1) Z)
   (XE<|VJ<|OI K Nv FZ Ga FA (pv 3)<|XY (pv 5) XT)
   Zr))))
   (XE<|Zm<|ZK (Zd K) (pv 3) (OY DF Zb) λ_ _=>rfl)))),?_⟩
  let⟨g1,g2,g3,g4⟩:=id hG;let RT:=h3.1
  let hF:=(hmem F).mp (Xg Jj);let lF:F.length<=13:=by have:=hF.2.1;lia
  let⟨vF,hvF,tF,rfl,yp⟩:=hL.2 0 F Jj;let uH:∀{H':Hp},Same H H'->Wh ys 0=some ↑tF:=λ_=>ZJ (n:=0) Z hvF
  let one:1<=sizeLine:=sZ;show⟨_,Z,l,Z,⟨_,SqL.of hl⟩,Oz (K:=K) (a:=l) (xs:=xs) (λi ys H3=>Same H H3/\i<=xs.length/\ys=IL (Pz (Xz n.toNat<|XS ps []) ps ([]++[]++F) i)) ⟨Same.refl _,Ym _,Z⟩ (Zj J)
   (λi ys H3 _ h=>by let⟨e,_,ey⟩:=h;show⟨SqL.of<|e _ _ hl,by rw[ey,Xp];show vg _ _ _ _⟩) ?_ ?_⟩
  .rintro i x ws H3 pt UW hi ⟨s3,Ut,rfl⟩ S Xh;let⟨p,Qy,tt,rfl,Uw⟩:=h3.at hi;let Xn:i<xs.length:=(Xy.mp hi).1
   let s4:Same H3 (upd H3 pt<|.tup [.int i,.ref tt]):=XZ UW;let Ur:=s3.trans s4
   let Si:=Ur _ _ Uw;let ed:ps.getD i (0,0)=p:=ZS Qy
   let me:=iZ (z:=(i:Int)) hG J J;rw[YK,ed]at me;let t0:Wh ([.int p.1,.int p.2]:List V) 0=some (.int p.1):=rfl
   let t1:Wh ([.int p.1,.int p.2]:List V) 1=some (.int p.2):=rfl;let hs:=z9 (Xz n.toNat<|XS ps []) ps ([]++[]++F) i
   rw[ed]at hs;rw[show XS ps []=[] from Z,me.1,me.2]at hs;exists pt,_,Z,SqT.of XQ,Z,_,_,Z,_,_,Z,Z,?_;exists _,Z,tt,_,0,_,Z,Z,SqT.of Si,t0,_,Z,tt,_,1,_,Z,Z,SqT.of Si,t1,Z,_,Z,?_;rw[Zx];show WH (λhx=>?_) (λhx=>?_)
   .show Xh _ _ ⟨Ur,Xn,?_⟩;rw[show XS ps []=[] from Z,hs,if_neg λh=>h.2 hx];show(QP IL<|Yx _).symm
   exists _,Z,_,Z,b,ys,0,.ref tF,Z,Z,SqL.of<|Ur _ _ hb,uH Ur,tF,_,Z,.inr<|SqT.of<|Ur _ _ yp,Z,Tg _,_,Z,?_;rw[LO];show WH (λhe=>?_) (λhe=>?_)
   .show Xh _ _ ⟨Ur,Xn,?_⟩;rw[show XS ps []=[] from Z,hs,if_neg λh=>h.1 he];show(QP IL<|Yx _).symm
   .exists _,Z,Xh _ _ ⟨Ur,Xn,?_⟩;rw[show XS ps []=[] from Z,hs,if_pos ⟨he,hx⟩,ZX]
  rintro ws H3 ⟨s3,_,rfl⟩ p hp;rw[RT];let Gs:=s3.trans (XZ (o:=.lst<|IL<|Pz (Xz n.toNat<|XS ps []) ps ([]++[]++F) ps.length) hp)
  let first:(WW n ps [] [] F)[0]?=some z:=by
   let asc:(WW n ps [] [] F).Pairwise (·<·):=(XW.mp<|Hz ps.length).2.filter _;generalize WW n ps [] [] F=W at *;cases W with
   |nil=>cases hz
   |cons y W=>
    rcases Yh.mp hz with e|e
    .rw[e];rfl
    .have:=(YT.mp asc).1 z e
     have:=hzm y Yc
     lia
  exists p,_,0,.int z,rfl,rfl,SqL.of XQ,ZJ (n:=0) rfl<|SN first,?_;show nm ?_;dsimp only[List.set];let zo:=hz
  obtain⟨zF,z0,z1⟩:z∉F/\0<=z/\z<ps⁻¹:=⟨((Tc hG hF).mp hx).2.1,((Tc hG hF).mp hx).2.2.1,((Tc hG hF).mp hx).2.2.2.1⟩;generalize upd H3 p (.lst<|IL<|Pz (Xz n.toNat<|XS ps []) ps ([]++[]++F) ps.length)=H4 at *;exists Ym _,λoA hoA=>?_;show nm ?_;dsimp only[List.set];let MM:=Gs.trans (XZ (o:=.lst []) hoA)
  let fD:H oA=none:=Gs.free hoA;let ho5:(upd H4 oA<|.lst []) oA=some (.lst []):=XQ
  generalize upd H4 oA (.lst [])=H5 at *;exists _,Z,b,ys,0,.ref tF,Z,Z,SqL.of<|MM _ _ hb,uH MM,tF,Z,⟨_,SqT.of<|MM _ _ yp⟩,rR (K:=K) (a:=tF) (xs:=IL F) (λi σ H6=>∃(ws:List V)(v4 v5:Option V),σ=[some ↑l,some<|.ref b,some<|.int z,some<|.ref oA,v4,v5]/\Same H H6/\H6 oA=some (.lst ws)/\TupsV H6 ws (((F.take i).filter λx=>decide<|exg n ps F x z).map λx=>xchT F x z)) ⟨[],none,none,Z,MM,ho5,Z,λi l h=>by simp at h⟩ (λi σ H6 _ h=>by let⟨_,_,_,_,e,_⟩:=h;show SqT.of<|e _ _ yp) ?_ ?_
  .rintro i v σ H6 hi ⟨ws,v4,v5,rfl,s6,JL,EG⟩;let⟨x,rfl,Xu⟩:=Um hi;let xF:=Xg Xu
   let il:=(Xy.mp Xu).1;show nm ?_;dsimp only[List.set];show⟨_,Z,b,ys,0,.ref tF,Z,Z,SqL.of<|s6 _ _ hb,uH s6,tF,Z,⟨_,SqT.of<|s6 _ _ yp⟩,wK (K:=K) (a:=tF) (xs:=IL F) (λj zs H7=>H7=H6/\j<=F.length/\zs=IL (wo (F.take j) x)) ⟨Z,Ym _,Z⟩ (Zj<|by rw[Xp];lia)
    (λj zs H7 hj h=>by let⟨e,Qo,ey⟩:=h;show⟨e▸SqT.of (s6 _ _ yp),by rw[ey,Xp];show Yr (wc _ _)<|by rw[Yl];lia⟩) ?_ ?_⟩
   .rintro j v zs H7 hj ⟨rfl,Uv,rfl⟩ S Xh;let⟨y,rfl,hy⟩:=Um hj;let Wa:j<F.length:=(Xy.mp hy).1
    exists _,Z,_,Z,Z,_,Z,?_;rw[Zx];show WH (λhe=>?_) (λhe=>?_)
    .show Xh _ _ ⟨Z,Wa,?_⟩;rw[wb hy,if_neg (by simpa using he),Yx]
    .exists _,Z,Xh _ _ ⟨Z,Wa,?_⟩;rw[wb hy,if_pos he,ZX]
   rintro zs H7 ⟨rfl,_,rfl⟩ p1 Us;rw[Xp,YS];let wl:=wc F x
   exists _,Z,one,λp2 VT=>?_;show Ct (l2:=[z]) (by rw[XJ (Za XQ VT)];show XQ) XQ (by simp only[YF,Kv];lia) λp3 MQ=>?_;show⟨p3,_,Z,SqL.of XQ,by simp only[Xw,YF,Kv];lia,λms UG Oy p4 Jt=>?_⟩;let s7:=Zv (Zv (Zv (XZ (o:=.lst<|IL<|wo F x) Us) (o:=.lst<|IL [z]) VT) (o:=.lst<|IL<|wo F x++[z]) MQ) (o:=.lst<|IL ms) Jt
   let rfl:ms=xchT F x z:=Cm (UG.trans (MP F x z).symm) Oy (Jy F x z);exists p4,IL<|xchT F x z,Z,.inl ⟨SqL.of XQ,λtp OB=>?_⟩;let s8:=s7.trans (XZ (o:=.tup<|IL<|xchT F x z) OB)
   let key:xchT F x z∈L↔exg n ps F x z:=(hmem _).trans (zC hG hF xF zF z0 z1 (MP F x z)<|Jy F x z);let uE:=s6.trans s8
   let uD:=s8 _ _ JL;let yn:=EG.same s8
   let fC:=EG.1;let wsl2:ws.length<=13:=by rw[fC,Yb];show Yr (YG ..) (by rw[Yl];lia)
   show nm ?_;dsimp only[List.set];exists _,Z,_,Z,m9 (z:=xchT F x z) ⟨tp,Z,XQ⟩ (SqL.of<|uE _ _ hb) (hL.same uE) ⟨_,Z,?_⟩;show WN (λh=>?_) (λh=>?_)
   .exists _,Z,.inl ⟨Z,_,SqL.of uD⟩,_,Z,oA,ws,_,Z,Z,uD,Zj J,?_;exists ws++[.ref tp],_,_,Z,ZI fD uE,XQ,?_;rw[ZR Xu,if_pos<|Yv<|key.mp h,YQ];show TupsV.mut (yn.snoc ⟨tp,Z,XQ⟩) uD
   .exists ws,_,_,Z,uE,uD,?_;rwa[ZR Xu,if_neg (by simpa using λq=>h<|key.mpr q),Yx]
  rintro σ H6 ⟨ws,v4,v5,rfl,s6,JL,EG⟩;rw[Xp,YS]at EG;let asc:(F.filter λx=>decide<|exg n ps F x z).Pairwise (·<·):=(XW.mp hF.1).2.filter _
  let om:o∈F.filter λx=>decide (exg n ps F x z):=Yd.mpr ⟨hx.1,Yv hx⟩;let fB:∀x∈F.filter λx=>decide<|exg n ps F x z,x<=o:=λx h=>hxm x (Yy (Yd.mp h).2)
  generalize F.filter (λx=>decide<|exg n ps F x z)=W at *;let fC:=EG.1
  rw[Yb]at fC;let⟨k,hk,ek⟩:=Ex om;let kl:k=W.length-1:=YD λno=>by
   have:=UT.mp asc k (W.length-1) hk J J
   have:=fB _ (Tv<|show W.length-1<W.length by lia)
   lia
  let QD:(W.map λx=>xchT F x z)[W.length-1]?=some (xchT F o z):=by rw[<-kl,Yp,Xs hk,ek];rfl
  let⟨v,hv,tr,rfl,GP⟩:=EG.2 _ _ QD;let uG:Wh ws (-1)=some ↑tr:=by
   unfold Wh OU;rw[if_neg sZ,if_pos J];change ws[(-1+ws⁻¹).toNat]?=_
   rwa[show(-1+ws⁻¹).toNat=W.length-1 by lia]
  show Ln ?_;exists _,Z,_,Z,oA,ws,-1,.ref tr,Z,Z,SqL.of JL,uG,q tr H6 s6 GP
inductive spZO(K:Ad)(Pt:Addr)(vs:List V)(H:Hp)(Q:VK)(_:XK):Prop
 |mk (a:Addr) (ns:Ac) (_:vs=[.ref a]) (_:SqL K H a (IL ns)) (_:ns.length<=63) (_:WI H Pt) (_:∀H',Q (.bl true) H')
def fw(xs:List V):WK xs none (some (-1))=xs.take (xs.length-1):=by
 let e2:HT.Vb xs.length xs.length (some (-1))=xs.length-1:=by change(-1+xs⁻¹).toNat=_;lia
 unfold WK;rw[e2];rfl
def fv(xs:List V):WK xs (some 1) none=xs.drop 1:=mZ sZ
def ft{Pt:Addr}(T:Txt K mg t)(hB:MR K mg base t.dZv Pt):WR P w base Xb T.qZO 48 (spZO K Pt):=by
 show T.qZO.okI ["script","count","ties","web","trees","found","one","other","last"] DX λXC A outer s H vs Q E hr h=>?_
 .let⟨a,ns,rfl,hS,yA,hTb,k⟩:=h;show⟨_,(XH (Zf 1<|ZB VH Zb<|ZB Sz (Xf (KD T) hr T.qZH ZD<|XY (pv 0)<|XY Zb XT) Zb)
   (XH (Zf 2<|Xf (fR T) hr T.qZJ ZD<|XY (pv 0)<|XY (pv 1)<|XY Zb XT)
   (XH (Zf 3<|OW T.k_Web (zu T) (hr.mono sZ) Z T.c_Web T.bZ8 .nil ZD<|XY (pv 1)<|XY (pv 2) XT)
   (XH (Zf 4<|Xf (fO T) hr T.qZK ZD<|XY (pv 1)<|XY (pv 2) XT)
   (XH (Zf 5<|Xf (yG T hB) hr T.qZE ZD<|XY (pv 3)<|XY Zb<|XY Zb XT)
   (XH (VZ (Zh Rg (Ze (Zk K) Ea T.n_len Boot.«len»<|XY (pv 4) XT) Zb<|Zq _)
   (XE<|Zm<|IB (Nj (OJ K<|Nc hr) (pv 5) (Tn XT)<|Zq _)<|DQ<|Xf (fI T hB) hr T.qZL ZD<|XY (pv 3) XT)
   Zr)
   (XH (VZ (PW.pt<|DR (Zh UQ (Ze (Zk K) Ea T.n_len Boot.«len»<|XY (pv 4) XT) Zb<|Zq _)<|DS<|Zh (wH K<|Nc hr) (Ze (bH K) Ea T.n_sorted Boot.«sorted»<|XY (pv 5) XT) (pv 4)<|Zq _)
   (XE<|Zm Mi)
   Zr)
   (XH (Sb SI Z (Hh K Z T.n_zip<|XY (LY (LR K) (pv 5) Km<|Ni<|OY DF Zb)<|XY (LY (LR K) (pv 5) (Ni Zb) Km) XT) (VE (n:=2) K Z<|Zn (Zc 6)<|Zn (Zc 7) VI)
   (XE (VZ (Kr<|IC<|Xf (fG T) hr T.qZM ZD<|XY (pv 6)<|XY (pv 7) XT)
   (XE<|Zm Mi)
   Zr)))
   (XH (Zf 8<|Xf (yB T hB) hr T.qZG oX<|XY (pv 3) XT)
   (XH (VZ (PW.pt<|Ri (Zh (wH K<|Nc hr) (ZK (Zd K) (pv 5) Zb λ_ _=>rfl) (ZK (Zd K) (pv 4) Zb λ_ _=>rfl)<|Zq _)<|xa<|PW.pt<|DR (Zh UQ (Ze (Zk K) Ea T.n_len Boot.«len»<|XY (pv 4) XT) Zb<|Zq _)<|DS<|Zh (wH K<|Nc hr) (ZK (Zd K) (pv 5) (OY DF Zb) λ_ _=>rfl) (pv 8)<|Zq _)
   (XE<|Zm Mi)
   Zr)
   (XH (VZ (Zh Rg (Ze (Zk K) Ea T.n_len Boot.«len»<|XY (pv 4) XT) Zb<|Zq _)
   (XE<|Zm<|Nj (OJ K<|Nc hr) (pv 8) (ZK (Zd K) (pv 4) Zb λ_ _=>rfl)<|Zq _)
   Zr)
   (XE<|Zm<|Nj (OJ K<|Nc hr) (pv 8) (Xf (fE T) hr T.qZN ZD<|XY (pv 2)<|XY (pv 4) XT)<|Zq _)))))))))))),?_⟩
  exists _,Z,a,ns,0,Z,hS,sZ,λhd=>⟨_,_,Z,Z,(by change(0:Int)<6;decide),_,_,Z,Z,?_⟩;let c0:0<=hd%6:=Jc _ sZ
  let c1:hd%6<6:=FU _ sZ;obtain⟨n,hn⟩:∃n:Int,1+hd%6=n:=⟨_,Z⟩;show nm ?_;dsimp only;rw[hn];exists _,Z,_,Z,a,ns,n,10,Z,hS,yA,J,J,sZ,sZ,λl xs ps H1 s1 NS RR hP Vg hpg=>?_;let hG:Zu n ps:=⟨J,J,J,hpg⟩
  let RT:=hP.1;exists _,Z,_,Z,λx dx nx ND RD=>?_;let t1:Same H1 (upd (upd H1 dx<|.own x) x<|.ins t.A_Web dx []):=Zv (XZ ND) (by rwa[XJ (Xc RD)])
  exists x,dx,n,l,false,xs,ps,Z,XQ,λo=>?_,hP.same t1,hG,λH2 hW k3=>⟨Z,?_⟩
  .show SqL.of (by rwa[XJ (Za RR nx),XJ<|Za RR nx,XJ (Za RR ND)])
  let s2:Same H1 H2:=λb o e=>k3 b o (t1 b o e) (Za e nx);let Vj:=s2 _ _ RR
  exists _,Z,_,Z,n,l,xs,ps,Z,SqL.of Vj,hP.same s2,hG,J,λeA ys L H3 s3 heA hL iL hmem Ux=>?_;let EM:=s2.trans s3
  let Gs:=s1.trans EM;let KQ:=s3 _ _ Vj
  let yy:=hP.same EM;let hW3:=hW.same s3
  let Lq:=hL.1;let Vl:=hTb.same Gs
  show nm ?_;dsimp only[List.set];obtain⟨R,hR,hR0⟩:∃R:Ab,((∃U,Zg n ps U)->RowW n ps R/\R.Nodup/\∀U,U∈R↔Zg n ps U)/\((∀U,¬Zg n ps U)->R=[]):=by
   cases h:∃U,Zg n ps U
   .let⟨R,h1,h2,h3⟩:=jd hG h;exists R,λ_=>⟨h1,h2,h3⟩,λno=>absurd h.choose_spec<|no _
   .exists [],λq=>absurd q h,λ_=>rfl
  exists _,Z,x,n,ps,0,300,R,Z,hW3,hG,Vl,sZ,sZ,sZ,sZ,λh=>(hR h).1,hR0,λfA fs H4 QK Vk hf0 Gw hX=>?_;rw[show(0:Int).toNat=0 from Z,show(300:Int).toNat=300 from Z,Ku]at hX;show nm ?_;dsimp only[List.set];let QJ:=QK _ _ (Vl.ne heA B) heA
  let AE:TupsV H4 ys L:=⟨hL.1,λi l h=>by let⟨v,hv,c,rfl,e⟩:=hL.2 i l h;exists _,hv,c,Z,QK _ _ (Vl.ne e B) e⟩;let hP4:PairsV H4 xs ps:=⟨RT,λi p h=>by let⟨v,hv,tt,rfl,e⟩:=yy.2 i p h;exists _,hv,tt,Z,QK _ _ (Vl.ne e B) e⟩
  let ik:=QK _ _ (Vl.ne KQ B) KQ;let EI:=hW3.samex Vl QK
  exists _,Z,eA,ys,Z,.inl<|SqL.of QJ,Z,_,Z,?_;rw[Zx];show WN (λe0=>?_) (λe0=>?_)
  .let no:∀U,¬Zg n ps U:=λU hU=>by
    have:=(hmem U).mpr hU
    rw[YM.mp (show L.length=0 by lia)]at this;cases this
   let rfl:=hR0 no;let fs0:fs=[]:=YM.mp hX.1
   subst fs0;exists _,Z,Ym _,λp hp=>⟨2,_,fA,p,Z,Z,sZ,cz (L:=[]) (M:=[]) (SqL.of<|XZ hp _ _ Gw) (SqL.of XQ) TupsV.nil TupsV.nil,_,Z,?_⟩;let u:=XZ (o:=.lst []) hp
   show Th ?_;exists _,Z,x,n,ps,Z,EI.same u,hG,Vk.same u,λhJ=>no _<|cD hG<|(Zv7 hG).mp hJ,λH'=>k _
  show Ln ?_;obtain⟨F,Jj⟩:∃F,L[0]?=some F:=⟨_,Xs J⟩;let hF:=(hmem F).mp (Xg Jj)
  let⟨hR,yE,ER⟩:=hR ⟨F,hF⟩;let hJ:Hy n ps:=λi j hi hj=>(hF.2.2 i j hi hj).mono (ZG λz hz=>Xx.mpr<|hF.1.all z hz)
  let VP:∀U,Zg n ps U->HT.lexLt U F=false:=λU hU=>by
   let⟨j,hj,ej⟩:=Ex ((hmem U).mpr hU);let RB:L[j]?=some U:=by rw[Xs hj,ej]
   cases c:j=0
   .subst c;rw[Jj]at RB;rw[Yi RB];show WT _
   .show tY.mpr λh=>bE h (mI Ux Jj RB J)
  let eRL:R.length=L.length:=((Kz yE<|Zk7 Ux).mpr λz=>by rw[ER,hmem]).length_eq;let lT:∀U,Zg n ps U->U.length<=20:=λU hU=>by have:=hU.2.1;lia
  let⟨Ny,hAd,_⟩:=ZU6 (L:=F) hG hR hF VP;show Au (λσ H5=>σ=[some ↑a,some<|.int n,some<|.ref l,some<|.ref x,some<|.ref eA,some<|.ref fA,none,none,none]/\Same H4 H5) ?_ ?_;rotate_left
  .intro Kn hK;exists _,Z,eA,ys,Z,.inl<|SqL.of QJ,_,_,Z,Z,_,Z,?_;show WN (λle=>?_) λ_=>iteF (hK _ _ ⟨Z,Same.refl _⟩);rw[YJ J]at hX;exists _,Z,fA,fs,R,Xa H4,Z,SqL.of Gw,hX,λv l h=>by let⟨a,e,h⟩:=h;show⟨a,e,SqT.of h⟩,?_,by have:=hX.1;lia,λzs M hZ TF fK r hr=>?_
   .cases h1:n=1
    .let no:∀V∈R,V=[]:=λV hV=>YM.mp (by have:=((ER V).mp hV).2.1;lia)
     have:R.length<=1:=j4 yE (m:=[[]]) λV hV=>XG.mpr (no V hV)
     show .inl (by have:=hX.1;lia)
    .show .inr λl hl e=>?_
     have:=((ER l).mp hl).2.1
     rw[e]at this;simp at this;lia
   let u:=XZ (o:=.lst zs) hr;exists _,Z,2,_,r,eA,Z,Z,sZ,cz (SqL.of XQ) (SqL.of<|u _ _ QJ) (TupsV.same u hZ)<|AE.same u,_,Z,?_;rw[Yv (bD (bC fK<|TF.nodup_iff.mpr yE) Ux λz=>by rw[TF.mem_iff,ER,hmem])];show iteF (hK _ _ ⟨Z,u⟩)
  rintro σ H5 ⟨rfl,s5⟩;let hf5:=s5 _ _ Gw
  let hX5:Bears (Xa H5) fs (R.take 300):=hX.imp λ_ _ h=>by let⟨c,e,hc⟩:=h;exists c,e,s5 _ _ hc
  let fl:=hX.1;rw[Yl]at fl;exists _,Z,_,Z,_,Z,fA,_,Z,SqL.of hf5,λp1 Us=>?_;rw[fw];let u1:=XZ (o:=.lst<|fs.take<|fs.length-1) Us
  exists _,Z,_,Z,fA,_,Z,SqL.of<|u1 _ _ hf5,λp2 VT=>?_;rw[fv];let u2:=XZ (o:=.lst<|fs.drop 1) VT
  let u12:=u1.trans u2;let k1:=u2 _ _ (XQ (H:=H5) (a:=p1) (o:=.lst<|fs.take<|fs.length-1))
  let k2:=XQ (H:=upd H5 p1<|.lst<|fs.take<|fs.length-1) (a:=p2) (o:=.lst<|fs.drop 1);generalize upd (upd H5 p1<|.lst<|fs.take<|fs.length-1) p2 (.lst<|fs.drop 1)=H6 at *;exists p1,p2,Z,⟨_,_,SqL.of k1,SqL.of k2⟩,aw (K:=K) (a:=p1) (b:=p2) (xs:=fs.take<|fs.length-1) (ys:=fs.drop 1) (by rw[Yl,YW];lia) (λi σ H7=>∃(v6 v7:Option V),σ=[some ↑a,some<|.int n,some<|.ref l,some<|.ref x,some<|.ref eA,some<|.ref fA,v6,v7,none]/\Same H6 H7) ⟨none,none,Z,Same.refl _⟩ (λi σ H7 _ h=>by let⟨_,_,_,e⟩:=h;exists SqL.of<|e _ _ k1,SqL.of<|e _ _ k2) ?_ ?_
  .rintro i v v' σ H7 pt UW hi UI ⟨v6,v7,rfl,s7⟩;let il:i<fs.length-1:=by
    have:=(Xy.mp hi).1
    rw[Yl]at this;lia
   rw[VW,if_pos il]at hi;rw[MF]at UI;obtain⟨A,PL⟩:∃A,R[i]?=some A:=⟨_,Xs J⟩;obtain⟨AP,Cp⟩:∃AP,R[i+1]?=some AP:=⟨_,Xs J⟩;let⟨x1,h1,c1,rfl,hc1⟩:=hX5.2 i A (by rwa[VW,if_pos J]);let⟨x2,h2,c2,rfl,UP⟩:=hX5.2 (i+1) AP (by rwa[VW,if_pos J]);rw[h1]at hi;let rfl:=Yi hi;rw[show 1+i=i+1 by lia,h2]at UI;let rfl:=Yi UI;let st:Qi A AP:=hAd i A AP PL Cp
   let u4:=XZ (o:=.tup [.ref c1,.ref c2]) UW;exists pt,_,Z,SqT.of XQ,Z,_,_,Z,_,_,Z,Z,?_;let s8:=s7.trans u4
   let s58:=u12.trans s8;generalize upd H7 pt (.tup [.ref c1,.ref c2])=H8 at *;exists _,Z,_,Z,c1,c2,A,AP,Z,s58 _ _ hc1,s58 _ _ UP,lT A<|(ER A).mp (Xg PL),st,λH9 s9=>⟨_,Z,?_⟩;show iteF ⟨_,_,Z,s8.trans s9⟩
  rintro σ H7 ⟨v6,v7,rfl,s7⟩;let fq:=s5.trans (u12.trans s7)
  let hW7:=EI.same fq;let fo:=Vk.same fq
  exists _,Z,x,n,ps,R,Z,hW7,hG,fo,λ_=>hR,λno=>absurd hJ no,λr8 U8 H8 ym gO KH fk=>?_;show nm ?_;dsimp only[List.set];let Ro:SameX Pt H4 H8:=(SameX.same fq).trans gO
  let uC:=SqL.of (K:=K) (Ro _ _ (Vk.ne QJ B) QJ);let hf8:=SqL.of (K:=K) (Ro _ _ (Vk.ne Gw B) Gw)
  let hL8:TupsV H8 ys L:=⟨AE.1,λi l h=>by let⟨v,hv,c,rfl,e⟩:=AE.2 i l h;exists _,hv,c,Z,Ro _ _ (Vk.ne e B) e⟩;let hX8:Bears (Xa H8) fs (R.take 300):=hX.imp λ_ _ h=>by let⟨c,e,hc⟩:=h;exists c,e,Ro _ _ (Vk.ne hc B) hc
  let⟨_,hv0,f0,rfl,fj⟩:=hX8.2 0 F (by rwa[VW,if_pos sZ]);let⟨_,u5,y0,rfl,yk⟩:=hL8.2 0 F Jj;show Au (λσ H9=>σ=[some ↑a,some<|.int n,some<|.ref l,some<|.ref x,some<|.ref eA,some<|.ref fA,v6,v7,some ↑r8]/\H9=H8) ?_ ?_;rotate_left
  .intro Kn hK;exists _,Z,fA,fs,0,.ref f0,Z,Z,hf8,ZJ (n:=0) Z hv0,_,Z,eA,ys,0,.ref y0,Z,Z,uC,ZJ (n:=0) Z u5,1,_,f0,y0,Z,Z,sZ,OF (SqT.of fj)<|SqT.of yk,_,Z,?_;rw[Yv Z];show iteF ?_;exists _,Z,eA,ys,Z,.inl uC,_,_,Z,Z,_,Z,?_;show WN (λle=>?_) λ_=>iteF (hK _ _ ⟨Z,Z⟩);let⟨v1,hv1,f1,rfl,EK⟩:=hX8.2 (R.length-1) U8 (by rwa[VW,if_pos J]);let uG:Wh fs (-1)=some ↑f1:=by
    unfold Wh OU;rw[if_neg sZ,if_pos J];change fs[(-1+fs⁻¹).toNat]?=_
    rwa[show(-1+fs⁻¹).toNat=R.length-1 by lia]
   exists _,Z,_,Z,fA,fs,-1,.ref f1,Z,Z,hf8,uG,_,Z,1,_,f1,r8,Z,Z,sZ,OF (SqT.of EK)<|SqT.of fk,_,Z,?_;rw[Yv Z];show iteF (hK _ _ ⟨Z,Z⟩)
  rintro σ H9 ⟨rfl,rfl⟩;exists _,Z,eA,ys,Z,.inl uC,Z,_,Z,?_;rw[Zx];show WN (λe1=>?_) (λe1=>?_)
  .exists _,Z,_,Z,eA,ys,0,.ref y0,Z,Z,uC,ZJ (n:=0) Z u5,1,_,r8,y0,Z,Z,sZ,OF (SqT.of fk)<|SqT.of yk,?_;rw[show R.length-1=0 by lia,Ny]at ym;rw[Yi ym,Yv Z];show k _
  show Ln ?_;let⟨z,o,z1,z2,o1,o2,yj⟩:=Zr8 hG hR hF VP J;rw[yj]at ym;let rfl:=Yi ym;let hl8:=Ro _ _ (Vk.ne ik B) ik
  let hP8:PairsV H9 xs ps:=⟨RT,λi p h=>by let⟨v,hv,tt,rfl,e⟩:=hP4.2 i p h;exists _,hv,tt,Z,Ro _ _ (Vk.ne e B) e⟩;exists _,Z,_,Z,_,Z,l,eA,n,xs,ys,ps,L,F,z,o,Z,hl8,hP8,hG,Ro _ _ (Vk.ne QJ B) QJ,hL8,hmem,Jj,z1,z2,o1,o2,λr H' sH Oq=>?_;exists 1,_,r8,r,Z,Z,sZ,OF (SqT.of<|sH _ _ fk)<|SqT.of Oq,?_;rw[Yv Z];show k _
end
end My
namespace My
open PySem L2
def Qe{K:Ad}{f:Addr}{fd:FuncData}(F:Fun K "law" "law" sZO f fd)(s:Shared)(u:Value):BindsTo s fd ⟨[u],[]⟩ [("script",u)]:=by let⟨oc,od,kV,doc,pm,an,XC,ct,Ti,rfl,lk,SQ⟩:=F.ex;show .of_eq rfl
end My
open PySem PySem.W PyProof.Rows
set_option maxRecDepth 100000 in
set_option maxHeartbeats 0 in
theorem PySem.Challenge.cw_spanrow_k38_whole_each_tree_once_holds : PySem.Challenge.rw_spanrow_k38_whole_each_tree_once.Holds := by
 w_on;o_law;k_head;(case hw=>w_witness2)
 k_fill
 refine L2.NO (l:=PySem.Challenge.rw_spanrow_k38_whole_each_tree_once) (n:=63) (k:=48) (x:="script") (CX:=L2.Xb) (sp:=λK=>My.spZO K 334) (c:=336) (Pt:=334) rfl (by decide) rfl ⟨rfl,by decide,by decide⟩ (λw h Y=>⟨PySem.W.km_in_of Y,PySem.W.km_tabs_of Y 334 (XG.mpr rfl)⟩) ?C ?P ?F (λ_ H a ns hl hO hS=>⟨a,ns,rfl,hS,hl,⟨#[],hO.1,trivial,.inl rfl⟩,λ_=>rfl⟩) (λ_ _ _ _ z=>z)
 case C=>intro w;kernel_rfl
 case P=>intro w;kernel_rfl
 case F =>
  intro w mg fa h KX G CV
  let f x n:=My.FQ (L2.Rb KX) mg x (My.top n)
  obtain⟨⟨aZ0,dZ0,qZ0⟩,⟨aZ1,dZ1,qZ1⟩,⟨aZ2,dZ2,qZ2⟩,⟨aZ3,dZ3,qZ3⟩,⟨aZ4,dZ4,qZ4⟩,⟨aZ5,dZ5,qZ5⟩,⟨aZ6,dZ6,qZ6⟩,⟨aZ7,dZ7,qZ7⟩,⟨aZ9,dZ9,qZ9⟩,⟨aZa,dZa,qZa⟩,⟨aZb,dZb,qZb⟩,⟨aZc,dZc,qZc⟩,⟨aZd,dZd,qZd⟩,⟨aZe,dZe,qZe⟩,⟨aZf,dZf,qZf⟩,⟨aZg,dZg,qZg⟩,⟨aZh,dZh,qZh⟩,⟨aZi,dZi,qZi⟩,⟨aZj,dZj,qZj⟩,⟨aZk,dZk,qZk⟩,⟨aZl,dZl,qZl⟩,⟨aZm,dZm,qZm⟩,⟨aZn,dZn,qZn⟩,⟨aZo,dZo,qZo⟩,⟨aZp,dZp,qZp⟩,⟨aZq,dZq,qZq⟩,⟨aZr,dZr,qZr⟩,⟨aZs,dZs,qZs⟩,⟨aZt,dZt,qZt⟩,⟨aZu,dZu,qZu⟩,⟨aZw,dZw,qZw⟩,⟨aZx,dZx,qZx⟩,⟨aZy,dZy,qZy⟩,⟨aZz,dZz,qZz⟩,⟨aZA,dZA,qZA⟩,⟨aZB,dZB,qZB⟩,⟨aZC,dZC,qZC⟩,⟨aZD,dZD,qZD⟩,⟨aZE,dZE,qZE⟩,⟨aZF,dZF,qZF⟩,⟨aZG,dZG,qZG⟩,⟨aZH,dZH,qZH⟩,⟨aZI,dZI,qZI⟩,⟨aZJ,dZJ,qZJ⟩,⟨aZK,dZK,qZK⟩,⟨aZL,dZL,qZL⟩,⟨aZM,dZM,qZM⟩,⟨aZN,dZN,qZN⟩,⟨aZO,dZO,qZO⟩⟩:f "refuse_not_square" 10 ["table"]/\f "row_taken_off" 11 ["row","pivot","last"]/\f "first_with_some" 12 ["rows"]/\f "determinant" 13 ["table"]/\f "row_without" 14 ["row","number"]/\f "table_without" 15 ["table","number"]/\f "is_tie" 21 ["web","number"]/\f "refuse_bad_web" 20 ["places","ties"]/\f "all_ties" 22 ["web"]/\f "ties_beside" 23 ["web","ties"]/\f "ties_without" 24 ["ties","left_out"]/\f "is_set" 25 ["web","ties"]/\f "made_set" 26 ["web","ties"]/\f "merged_marks" 27 ["web","marks","ties"]/\f "piece_marks" 28 ["web","ties"]/\f "pieces_of" 29 ["web","ties"]/\f "is_joined" 30 ["web","ties"]/\f "refuse_parted" 31 ["web"]/\f "weighted_table" 33 ["web","weights"]/\f "pull_table" 34 ["web"]/\f "tree_count" 35 ["web"]/\f "part_count" 36 ["web","inside","outside"]/\f "is_tree" 38 ["web","ties"]/\f "refuse_no_tree" 39 ["web","tree"]/\f "grown_tree" 40 ["web","inside","order"]/\f "tree_cut" 41 ["web","tree","tie"]/\f "ring_of" 42 ["web","tree","tie"]/\f "least_in" 44 ["web","inside","outside"]/\f "end_pieces" 47 ["web","marks","tie"]/\f "open_ties" 48 ["web","marks","gone"]/\f "whole_part" 50 ["web"]/\f "half_without" 51 ["part"]/\f "half_with" 52 ["part"]/\f "part_size" 53 ["part"]/\f "trees_with_tie" 54 ["part","into"]/\f "undivided_row" 55 ["part"]/\f "trees_between" 56 ["part","size","start","stop"]/\f "refuse_below_nought" 45 ["number"]/\f "row_from" 57 ["web","number","most"]/\f "row_at" 58 ["web","number"]/\f "row_last" 59 ["web"]/\f "_law_at" 61 ["script","k"]/\f "_law_mixed" 62 ["cell","k"]/\f "_law_ties" 63 ["script","count","most"]/\f "_law_trees" 64 ["count","ties"]/\f "_law_parted" 65 ["web"]/\f "_law_one_step" 66 ["one","other"]/\f "_law_last" 67 ["ties","trees"]/\My.FQ (L2.Rb KX) mg "law" My.sZO ["script"]:=by
   dsimp only [L2.Rb,f]
   and_intros
   all_goals (refine' My.zH KX G ?a ?l ?c ?k ?b;(case a | l | c | k=>k_is);(case b=>first | exact λ_ _ _ _ _ _=>My.un1 λ_=>rfl | exact λ_ _ _ _ _ _=>My.qx λ_ _=>rfl | exact λ_ _ _ _ _ _=>My.un3 λ_ _ _=>rfl | exact λ_ _ _ _ _ _=>My.un4 λ_ _ _ _=>rfl))
  have yi:My.c6 (L2.Rb KX) mg "Web" "Web.__init__" My.sZ8 ["places","ties"]:=by
   dsimp only [L2.Rb];refine' My.CJ KX G ?aC ?a ?i ?l ?c ?k ?pg ?hd ?po ?sa ?mk ?kc ?na
   (case aC | a | i | l | c | k | pg | hd | po | sa | mk | kc=>k_is)
   (case na=>(intro f hf;simp only [Yh,tU,or_false]at hf;rcases hf with rfl | rfl <;> k_is))
  have Gf:My.Ah (L2.Rb KX) mg "Part" "Part.__init__" My.sZv ["web","kept","shut","lead","least","incoming","further"] 334:=by
   dsimp only [L2.Rb];refine' My.GK KX G ?aC ?a ?i ?l ?c ?k ?pg ?hd ?po ?sa ?mk ?kc ?na ?z
   (case aC | a | i | l | c | k | pg | hd | po | sa | mk | kc=>k_is)
   (case na=>(intro f hf;simp only [Yh,tU,or_false]at hf;rcases hf with rfl | rfl | rfl | rfl | rfl | rfl | rfl <;> k_is))
   (case z=>kernel_rfl)
  have hX:∃ A_WebError A_NoTree A_NoSuch A_Parted:Addr,mg "WebError"=some (.ref A_WebError)/\mg "NoTree"=some (.ref A_NoTree)/\mg "NoSuch"=some (.ref A_NoSuch)/\mg "Parted"=some (.ref A_Parted)/\L2.XCls (L2.Rb KX) (A_Parted)/\PySem.W.kitOne (L2.Rb KX) (.ref (A_Parted)) (.type "ValueError")=some true/\PySem.W.kitOne (L2.Rb KX) (.ref (A_Parted)) (.ref (A_NoTree))=some false/\PySem.W.kitOne (L2.Rb KX) (.ref (A_Parted)) (.ref (A_NoSuch))=some false/\PySem.W.exmOne (L2.Rb KX) (.ref (A_Parted)) (.ref (A_WebError))=some true:=by
   dsimp only [L2.Rb];refine' My.xI (My.xI (My.xI (My.xI (⟨Kt KX G ?m_WebError,Kt KX G ?m_NoTree,Kt KX G ?m_NoSuch,Kt KX G ?m_Parted,⟨?x_Parted_ex,?x_Parted_ga,?x_Parted_gh,?x_Parted_cl,?x_Parted_ob,?x_Parted_bx⟩,?ki_Parted_ValueError,?ki_Parted_NoTree,?ki_Parted_NoSuch,?em_Parted⟩))))
   (case m_WebError=>k_is)
   (case m_NoTree=>k_is)
   (case m_NoSuch=>k_is)
   (case m_Parted=>k_is)
   (case x_Parted_ex=>k_exc);(case x_Parted_ga=>k_is);(case x_Parted_gh=>k_is);(case x_Parted_cl=>k_is);(case x_Parted_ob=>k_is);(case x_Parted_bx=>k_is)
   (case ki_Parted_ValueError=>kit_is)
   (case ki_Parted_NoTree=>kit_is)
   (case ki_Parted_NoSuch=>kit_is)
   (case em_Parted=>kts_exm)
  have h_MOST_PLACES:∃ tk,mg "MOST_PLACES"=some (.int 14 tk):=by
   refine' My.Ss KX G ?a ?b
   (case a=>k_is);(case b=>exact⟨_,rfl⟩)
  have h_MOST_TIES:∃ tk,mg "MOST_TIES"=some (.int 30 tk):=by
   refine' My.Ss KX G ?a ?b
   (case a=>k_is);(case b=>exact⟨_,rfl⟩)
  obtain⟨h_ValueError,h_enumerate,yh,h_isinstance,yg,Ge,yf,ye,KC,h_reversed,yd,Nx,KA,x9⟩:mg "ValueError"=none/\mg "enumerate"=none/\mg "int"=none/\mg "isinstance"=none/\mg "len"=none/\mg "list"=none/\mg "max"=none/\mg "min"=none/\mg "range"=none/\mg "reversed"=none/\mg "set"=none/\mg "sorted"=none/\mg "tuple"=none/\mg "zip"=none:=by and_intros <;> refine' PySem.W.mg_none_of KX G ?_ <;> k_is
  obtain⟨A_Web,aZ8,dZ8,c_Web,fZ8,cl_Web,k_Web,Nw⟩:=yi;obtain⟨A_Part,aZv,dZv,x8,c_Part,fZv,cl_Part,k_Part,Wn,xZ,xY⟩:=Gf;obtain⟨A_WebError,A_NoTree,A_NoSuch,A_Parted,c_WebError,c_NoTree,c_NoSuch,c_Parted,x_Parted,ki_Parted_ValueError,ki_Parted_NoTree,ki_Parted_NoSuch,em_Parted⟩:=hX;have T:My.Txt (L2.Rb KX) mg ⟨aZ0,aZ1,aZ2,aZ3,aZ4,aZ5,aZ6,aZ7,aZ8,aZ9,aZa,aZb,aZc,aZd,aZe,aZf,aZg,aZh,aZi,aZj,aZk,aZl,aZm,aZn,aZo,aZp,aZq,aZr,aZs,aZt,aZu,aZv,aZw,aZx,aZy,aZz,aZA,aZB,aZC,aZD,aZE,aZF,aZG,aZH,aZI,aZJ,aZK,aZL,aZM,aZN,aZO,A_Web,A_Part,A_WebError,A_NoTree,A_NoSuch,A_Parted,dZ0,dZ1,dZ2,dZ3,dZ4,dZ5,dZ6,dZ7,dZ8,dZ9,dZa,dZb,dZc,dZd,dZe,dZf,dZg,dZh,dZi,dZj,dZk,dZl,dZm,dZn,dZo,dZp,dZq,dZr,dZs,dZt,dZu,dZv,dZw,dZx,dZy,dZz,dZA,dZB,dZC,dZD,dZE,dZF,dZG,dZH,dZI,dZJ,dZK,dZL,dZM,dZN,dZO⟩:=⟨qZ0,qZ1,qZ2,qZ3,qZ4,qZ5,qZ6,qZ7,fZ8,fZ8.binds (λ_ _ _ _ _ _=>My.un3 λ_ _ _=>rfl),qZ9,qZa,qZb,qZc,qZd,qZe,qZf,qZg,qZh,qZi,qZj,qZk,qZl,qZm,qZn,qZo,qZp,qZq,qZr,qZs,qZt,qZu,fZv,fZv.binds (λ_ _ _ _ _ _=>My.un5 λ_ _ _ _ _=>rfl),qZw,qZx,qZy,qZz,qZA,qZB,qZC,qZD,qZE,qZF,qZG,qZH,qZI,qZJ,qZK,qZL,qZM,qZN,qZO,c_Web,cl_Web,k_Web,Nw _ (by simp),Nw _ (by simp),c_Part,cl_Part,k_Part,Wn _ (by simp),Wn _ (by simp),Wn _ (by simp),Wn _ (by simp),Wn _ (by simp),Wn _ (by simp),Wn _ (by simp),c_WebError,c_NoTree,c_NoSuch,c_Parted,x_Parted,ki_Parted_ValueError,ki_Parted_NoTree,ki_Parted_NoSuch,em_Parted,h_MOST_PLACES,h_MOST_TIES,h_ValueError,h_enumerate,yh,h_isinstance,yg,Ge,yf,ye,KC,h_reversed,yd,Nx,KA,x9⟩
  have e0:=CV.symm.trans qZO.mm;cases e0;exact⟨dZO,λs u=>My.Qe qZO.fn s u,λbase _ _ HB=>My.ft T ⟨x8,xZ,xY,HB,by decide⟩⟩
#print axioms PySem.Challenge.cw_spanrow_k38_whole_each_tree_once_holds
