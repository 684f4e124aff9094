import PyProof.Rows.All
import Wide.All
import OpenK.AllK
import Wide.FinOn
import Lean
import PyProof.EqAt
import PyProof.EqKinds
import PyProof.TupleCall
import PySem.Challenge.RW_spanrow_k94_whole_lengths_by_sums
set_option Elab.async false
set_option linter.all false
set_option bootstrap.genMatcherCode false
set_option genSizeOf false
set_option compiler.extract_closed false
set_option compiler.reuse false
set_option maxRecDepth 100000
section
def zN(t:Bool)(k:Lean.Name)(a:Array Lean.Syntax):(Lean.Syntax):=.node .none ((if t then `Lean.Parser.Tactic else `Lean.Parser.Term)++k) a
def zU(a:Array Lean.Syntax):(Lean.Syntax):=.node .none `null a
def zC:(Nat→Lean.Syntax→Lean.Syntax)
|0,s=>s
|n+1,s=>zN true `rcasesPatMed #[zU #[if s.isIdent then zN true `rcasesPat.one #[s] else if s[1].isMissing then zN true `rcasesPat.ignore #[s[0]] else zN true `rcasesPat.tuple #[s[0],zU ((if s.isOfKind `Lean.Parser.Term.tuple then #[s[1][0],s[1][1]]++s[1][2].getArgs else s[1].getArgs).map λx=>if x.isAtom then x else zN true `rcasesPatLo #[zC n x,zU #[]]),s[2]]]]
def zL(s:Lean.Syntax):(Lean.MacroM Lean.Syntax):=
 let d:=s[2][0]
 let p:=if d[0].isOfKind `Lean.Parser.Term.letId then d[0][0] else d[0]
 if d[1].getNumArgs != 0 then Lean.Macro.throwUnsupported else if p.isIdent&&p.getId != `rfl then pure (zN true `tacticHave__ #[s[0],s[1],s[2]]) else pure (zN true `obtain #[s[0],zU #[zC 9 p],zU d[2][0].getArgs,zU #[d[3],zU #[d[4]]]])
local macro_rules(kind:=Lean.Parser.Tactic.tacticLet__)|s=>zL s
local macro_rules(kind:=Lean.Parser.Tactic.show)|s=>pure (zN true `refine #[s[0],s[1]])
local macro_rules(kind:=Lean.Parser.Tactic.«tacticExists_,,»)|s=>pure (zN true `refine #[s[0],zN false `anonymousCtor #[s[0],s[1],s[0]]])
local macro_rules(kind:=Lean.Parser.Tactic.cases)|s=>if s[3].getNumArgs==0&&s[1][0][0].getNumArgs==2 then pure (.node .none `«tacticBy_cases_:_» #[s[0],zU #[s[1][0][0][0][0],s[1][0][0][1]],s[1][0][1]]) else Lean.Macro.throwUnsupported
local macro_rules(kind:=«term~~~_»)|s=>pure (zN false `proj #[s[1],s[0],Lean.mkIdent `heap.objs.size])
local macro_rules(kind:=coeNotation)|s=>pure (zN false `app #[zN false `dotIdent #[s[0],Lean.mkIdent `ref],zU #[s[1]]])
local macro_rules
|`($x⁻¹)=>`((($x).length:Int))
def zG:List (String×String):=[("f","length"),("j","toNat"),("l","trans"),("m","heap"),("o","toArray"),("t","size"),("C","toList"),("D","get?"),("E","getD"),("G","mp"),("H","map"),("L","mpr"),("M","lookup"),("Q","Pairwise"),("R","take"),("S","replicate"),("U","filter"),("X","env"),("Y","ofString")]
def zF(s:String):(Option String):=zG.lookup s
def zJ:Lean.Name→Lean.Name
|.str p s=>.str (zJ p) ((zF s).getD s)
|n=>n
def zI:Lean.Name→Lean.Name
|.str p s=>if p.isAnonymous then .str p s else .str (zI p) ((zF s).getD s)
|n=>n
def zR:Nat→Lean.Syntax→Option Lean.Syntax
|_,.ident i r n p=>if n.hasMacroScopes then none else let m:=zI n;if m==n then none else some (.ident i r m p)
|e+1,.node i k a=>if k== `Lean.Parser.Term.app then (zR e a[0]!).map λx=>.node i k (a.set! 0 x) else if k== `Lean.Parser.Term.proj then let f:Option Lean.Syntax:=if a[2]!.isIdent then let n:=a[2]!.getId;let m:=zJ n;if m==n then none else some (Lean.mkIdent m) else none
 match zR e a[0]!,f with
 |none,none=>none
 |x,f=>some (.node i k #[x.getD a[0]!,a[1]!,f.getD a[2]!])
 else none
|_,_=>none
def zS(s:Lean.Syntax):Lean.MacroM Lean.Syntax:=(zR 20 s).elim Lean.Macro.throwUnsupported pure
local macro_rules(kind:=ident)|s=>zS s
local macro_rules(kind:=Lean.Parser.Term.proj)|s=>zS s
local macro_rules(kind:=Lean.Parser.Term.app)|s=>zS s
local macro_rules(kind:=«term{_}»)|s=>pure (zN false `anonymousCtor #[s[0],s[1],s[2]])
def zE(s:Lean.Syntax)(x:List Char):Lean.Syntax:=s.setArg 1 (s[1].setArg 1 (s[1][1].setArg 0 (Lean.mkIdent (.mkSimple ("tw"++(x.foldl (λn c=>n*57+c.toNat-if c<'a' then 48 else 54) 0).repr)))))
def zK(s:Lean.Syntax):Nat→List Char→Array Lean.Syntax→Array Lean.Syntax
|0,_,a=>a
|n+1,l,a=>zK s n (l.drop 11) (if l.isEmpty then a else a.push (zE s (l.take 11)))
def zH(s:Lean.Syntax)(k:Lean.Name):Bool:=s.isOfKind (`Lean.Parser.Command++k)
def zB(s:Lean.Syntax):Option Lean.Syntax:=
 let d:=s[1]
 if s.getPos?.isNone||zH d `theorem then none else
 let t:=d[2][1][0][1]
 let q:=zH d `definition
 let s:=if q&&!(t.isMissing||t.isOfKind `Lean.Parser.Term.paren) then s.setArg 1 (.node .none `Lean.Parser.Command.theorem #[d[0],d[1],.node .none `Lean.Parser.Command.declSig #[d[2][0],d[2][1][0]],d[3]]) else if q||zH d `abbrev||zH d `instance then s.setArg 0 (s[0].setArg 4 (zU #[.node .none `Lean.Parser.Command.noncomputable #[s[0]]])) else s
 let s:=s.rewriteBottomUp (·.setInfo .none)
 some (if d[1][0].getId==`twz then zU (zK s 999 (d[3][1].isStrLit?.getD "").toList #[]) else s)
def zD(s:Lean.Syntax):Lean.MacroM Lean.Syntax:=(zB s).elim Lean.Macro.throwUnsupported pure
local macro_rules(kind:=Lean.Parser.Command.declaration)|s=>zD s
namespace PySem.W.Fast
def twz:="Id2<8eAhSg7=b1d4TG;?2S<h7<BaKT=WYej;bS>nW;da>>PfTk<gbkHfmUPae?NkaU:3ZLH;@CKH?CmIT4FL1@O?dB<C1AK0?9ORijDh@h8jgD0O=KhQ?GRhmXA33XJf1nA?3cF50K>Q:YaaQQBYO0Y0>nVB=35SHA3BEW7n932:O;KN>;;:W?KYhJNK1TEVK:?d9BQZ2e>=W>8IP<JdO<kWjeeaeVO?UJ<MSAk0e6g:SiBYGbZfgUbMl@nLFgW8C@L1JUXIY;aS8A>41M7>E;5IhVYYRZh8Gn8R36XMYM8JNS<i2EV36ZmXCB0TTdDFmD494PHnGOBTdOlFX?FA;JYV6K=4QcBK:kkXfHD<Zak7i=Fa1iU6>3I?YkGIcVBWARcJMQng=jh;43I@a=RGiPV5MEf69eIc;U036Fj:mj0Y09HfY86bVNPf>WCYcMHFAj267SI;6K5PePM?8gJaCLh5IS:lJXaHjIA72CGXMXNSI96@TW<4CHYBRYNlKNaaaXj0AGRQLWBJd6ecGKQg9Ze1nn60:?BdT3>V4B814jmRTe9EmZDbVnSj:<eOTjRi3L8YA<TZNnO29Dcf@BIDAF1m?J;mI>G@G9ENkVgmBjhKcigk4a6XH=MAYafP0ec<Tef:QGgi29iX=;>bab59JF6P5Hc?=>11JXEjRA@=7B6lRJf6j0km<aUN7PR>7RNZTiUKKRngSGGhIbY?fim=WnTW2@CHZaYm=O2E@dAnQEgO7d5TJGn<NUV?T?R01KPA>2G2X?HC;iDX:e;a6d4lRg7O0ZEL:X?CEMKBdPY4SclYd5GhMK7fXkGXmIi:?=Q=XY0D;THiVUNeMCeE3>CL3WR3?G?e2hFecWc70aKE4N7R<4Sh?Uk0LUjMN2N6dH1=SVLVIMaF9SfD0kI:BB@hWkF;kA3<>DR8hL=NFhnBbMTm9e:RkPJRgaMTcL2APZh?JFI08OmhY<KRhfY<X4AHG0CP5FRMNL8?2X3l2aenW1=L7Ue9J@MCG=eHTYOiGD4Bi4NGj5:36fMFC<Q>IfWYOgb2h<44FEgLK0VnF7gfN327jf?:gZAGK?HM0bTf;=4f41ANiMa6aSIQZ5d=l<bfKkDMBfn>NCc2CTf00kIT;33B52mFW@VEZJLYLE2eBe<5GDmdR36a6EnOE?GfWDeAM7;m>0=e73?QQV;h=1GMV?n1f5l:ZBnAikK>:6gb8RVmEUiKVAFO@>BGJOOf9?Q<ff4b1mR3aaV97824>k:0J7OheaTd:U1POQfV84T80IYCaR:Ob9eS6iA2T<4;7Aa;cEDXXF;G96M>8aiDThiFC6E5B12TKX00OBWOIm@4X:UfU<0V@73K=?BA0@d:XJEGf<AYC3jB8NeHk9W9iKZQlVNn5eEXj6Q5Y?Rhg75>7O?ONgBVIm4UV0DeABaHSg6UhaSaZ3ncS0mCDVlUBaC4iXdFFWYaUaaf;6iUFH:8S=I7V3WdCNZJ2<bim0VibPmEd7MAYGmDQ;CVRWdBfR?022fY22hGJBOl4CUVCe?CWWWHeATPGSLf:cAYCF2F9QDHfWChlUBlLni9@n8FEJeA:E8?AOLeWMfC<RGkFS6V?iPc2S>TV@a1?kWW4CkL>?k5OSET3A;;O>?k?2hhfnjGd>70R>SR>;hP;jTaIZQg<EWFM6FOenJah>IRH>lRZ@nDL=gL8MYUR>Ea@;mTJPQcbAEeKIa?YMCf=3DZd<?Z4=34YhJ7DBh0RiXcl=m6ANaP3Leg1l4Aeb9R3jh21C0C;gcemIadkC5?eeFI1bWQBR=fl2>EmZZ<kmQ85>k3h;Ue6OTd7A3cT5C<OC2GF?WU>2ce=0T<n2V?3Dh76gjRDTbOV;dfmOnIP::@cKge9enBPLc7UeMO4>W9O>1mT9kW:iZDdOBMTiSiIQ>WALEea1idILF6A06NI:P1@g@BRD?:VHVQ?HB@j9@5e3?jnS3aUcYFOVCX0GG:DVBbjIDkHMYO1BLF5h482QbfKSJ3ZdNUC8f@0Ckg=L1Uj<T6?dfaF7X97kLEJGU2@Z3lcd3?XNa1ij>d4iSZR=ec3AfBFSOTH2fkkkaBYKHIEcEdehea21<b2g9=Vc:nX7NdLUCKc1bkTk>cIjKTbFEKmf:;9FDlRn>AaV1GI5;SU@bE1m33l0KkE@V>=?X7JDSR5L:n265f<;eX>R6HSOOgNfgO3b;>j:T7<eENSZ72L61;n2A31OBRYeWb<MEZ;kTNLJT<@ZDMW3dkHE;RP29DkbEYEIciBXAZPGFY1lUc=WLkPI3746Bbj4I=<ebajYFN07GU333DMVXM4<OhVVn1@RWcTH5c0mHC6H1TEBA7eWMXU4P1XnlRTRI9AEfAWQDGa>BknDEA1V@1WLFKD34@F463Qe6aXH>YgZXY5EVf;i7UXOEYIOlhgRjDmH91LeDZGL1H6jcJgn29;:ND7<6RVO=>7l4O@AlU=GGJga9fgGGRdX3hSNOJbBAJl4daKRJPM2F36UKGn71eJ3eDD9=eP:fZi;McGaDcH>HKdNmf1jNRKAKbl9J@:2fdF6J8QYd@B69K:4VIQUJYOPGkD2emMjIYNQ21ckiDX9EkdP1kR>KWQY;akHA=;26N:2;PbNf<hSG5l0BUABLH828JCXOBLXKZ=@RUa;V>aPYOYFjiF73;83K2iGUifOTkcUfaMb5alSmF1YdTPmmgb7lCBVDE>U<4nHHlR?P9>1Dj=@eAE?AK@:h2:iff2JBhW?LEmIFjbIFA910:ZKHSD0nFA?9cA;eOBTCObIg@a5lJM0;Z@eX=193A8GPZ1L5?YUXfZbkKf1mlINXUOk4T10LDIQe7g;?H?3Od4D3hcMZC?f@>OY4eUd::bAbE2O?:UIjBQM18NHj<hd4I1ADZ?JcgA;RI54he9POIZN@@UQ>>93j3N?RAGg4P2QDhSG>jKPcAORMRN<SfB;;T:9WY55U?Bfb8ZERhId:YDE1CHah2HCmdAmbi?fUGeWU6FdO;S;m1O3:0me0NE:@h5NVH0CCjDEamnIk8mK=?>bK:TjD8EjGf?Z?=451@>DiHJ910cJ@:EL8emYU8><>eAkcZ5Ch:ULZbJLlETnndJB5ETiecjCeXH5M:RbPcd3>LTe@FFEMX5HF?YLMWXkmACKbWmA817igg:kkM482jGZ2Zn5Da1OO1RGaWb6D:C7B2hgmmC3;URT?4SGS15jM73;OMg3SjTVMW7C<l7=IQfhLhG1Ei>O20gBdjNd7d22<DQ4I:kfKNiVVYb>nD5GV23J;Q:1KYE0Lc8TMSPmeHPc2TZJ=dYOI=dGGIEPB7Q?QW:E?BFE:TIOJd4N>j?bD>Kmd35;MaFQa4a52XgJmR@5E?V;FfGfakNk7DOeT8N6S7R<D95OdDkdG:dPP;MA4fL4=N0HmNjKgFjnR1LOJ7VIXVWZIUl?J5O1a8RmnK05UE@UX0kOWbnhMO>F8Y=6ba2=3eYY6:<ammjPKM7NW:S@d3VSIXgnNB:;=a=N8CgH>=:ZFZJN:kL<44:8Fh81PFhGC3WcN@34ZWX;ANjL04eTSkQ86;Giij5R22C1cab=A<QbANk487RM8L5QdK@WEL;l"
end PySem.W.Fast
def Z{α:Sort _}{a:α}:a=a:=rfl
abbrev Aa:=List (Int×Int)
abbrev Ab:=List (List Int)
abbrev Ac:=List Int
abbrev Ad:=PySem.W.Frag
abbrev Ae:=PySem.Value->PySem.Shared->Prop
abbrev Af:=PySem.Str->Option PySem.Value
abbrev Ag:=List PySem.Value
def J{p:Prop}(h:p:=by lia):p:=h
def vh{p:Prop}(h:p:=by decide +kernel):p:=h
def vg{p:Prop}(h:p:=by decide):p:=h
def AP{p:Prop}(h:p:=by simp):p:=h
def B{p:Prop}(h:p:=by omega):p:=h
def vk{p:Prop}(h:p:=by grind):p:=h
def vi{p:Prop}(h:p:=by rfl):p:=h
def vm{p:Prop}(h:p:=by kernel_rfl):p:=h
def XI:=@List.getElem?_eq_getElem
def Xs:=@List.getElem?_eq_some_iff
def XY:=@PySem.wpAny_bind
def XD:=@List.mem_singleton
def Xo:=@PySem.Heap.get?_push_of_some
def WW:=@List.getD_eq_getElem?_getD
def Xn:=@List.mem_of_getElem?
def XQ:=@Nat.le_refl
def Xm:=@List.length_append
def Xy:=@List.length_map
def Ya:=@Option.some.inj
def Yb:=@List.mem_append
def Yc:=@List.size_toArray
def Yd:=@List.mem_cons_self
def Ye:=@List.mem_cons
def Yf:=@List.mem_cons_of_mem
def Yg:=@PySem.wpAny_pure
def Yh:=@List.mem_append_right
def Yi:=@PySem.Heap.get?_push_size
def Yj:=@List.mem_filter
def Yk:=@List.getElem?_map
def Yl:=@Nat.zero_le
def Ym:=@PySem.Heap.lt_size
def Yn:=@List.mem_append_left
def Yo:=@List.length_take
def Yp:=@List.mem_map
def Yq:=@Nat.ne_of_lt
def Yr:=@Classical.byContradiction
def Ys:=@decide_eq_true
def Yt:=@Nat.lt_of_lt_of_le
def Yu:=@of_decide_eq_true
def Yv:=@Array.getD_eq_getD_getElem?
def Yw:=@Bool.false_ne_true
def Yx:=@List.length_cons
def Yy:=@Int.toNat_natCast
def Yz:=@List.getElem?_append_left
def YA:=@Array.length_toList
def YB:=@Nat.le_trans
def YC:=@List.getElem?_eq_none
def YD:=@List.map_append
def YE:=@List.getElem?_append_right
def YF:=@List.take_length
def YG:=@List.mem_range
def YH:=@List.getElem?_of_mem
def YI:=@List.take_succ
def YJ:=@List.map_cons
def YK:=@Array.getElem?_toList
def YL:=@Array.getElem?_eq_getElem
def YM:=@List.length_replicate
def YN:=@List.map_congr_left
def YO:=@PySem.F.plainAttrs_list
def QP:=@List.length_eq_zero_iff
def YQ:=@List.length_singleton
def YR:=@decide_eq_false
def YS:=@List.take_of_length_le
def YT:=@List.pairwise_iff_getElem
def YU:=@PySem.Heap.get?_update_other
def YV:=@List.pairwise_append
def YW:=@decide_eq_true_iff
def YX:=@PySem.PassesOwn.never
def YY:=@List.length_range
def YZ:=@congrArg
def WH:=@List.append_nil
def XO:=@Ne.symm
def Vu:=@List.pairwise_singleton
def WQ:=@List.sum_cons
def TX:=@PyProof.Rows.callWith_type1
def VS:=@List.pairwise_cons
def UA:=@List.filter_cons_of_neg
def VR:=@List.nodup_append
def Wg:=@Nat.not_lt_zero
def Vb:=@PySem.Heap.get?_update_self
def NN:=@PySem.F.type_list_append
def NM:=@PySem.F.slot_list_append
def SK:=@PySem.codeAny_builtin
def Sz:=@Int.emod_nonneg
def OD:=@List.length_filter_le
def OC:=@List.getElem?_zipWith
def NL:=@List.filter_cons_of_pos
def QH:=@PySem.Obj.data_mapFields
def WG:=@PyProof.Rows.wpS_bind
def NK:=@PySem.wpAny_callSpecial?_slot
def Rx:=@List.length_drop
def Rw:=@List.all_eq_true
def QG:=@List.ext_getElem?
def QF:=@List.append_assoc
def Qj:=@List.filter_append
def Qi:=@Int.emod_lt_of_pos
def Rv:=@PySem.wpAny_call_entry
def OB:=@List.length_zipWith
def OA:=@List.getElem?_range
def Kv:=@List.perm_ext_iff_of_nodup
def Ru:=@List.nodup_cons
def QE:=@List.getElem_mem
def Rt:=@Bool.eq_iff_iff
def Ku:=@Array.perm_iff_toList_perm
def Qh:=@Nat.lt_succ_of_lt
def Oz:=@PySem.Heap.SameBut.update
def NJ:=@List.mem_of_mem_take
def Qg:=@PySem.wpAny_newObj_type
def RY:=@PySem.Heap.size_push
def Oy:=@List.pairwise_map
def Ox:=@List.getElem?_set
def RX:=@Int.mul_assoc
def Rr:=@PySem.wpAny_seqItems
def SJ:=@PySem.F.called_set
def TF:=@PySem.sizeLine_eq
def NI:=@List.getElem?_take
def Sy:=@Int.mul_zero
def Tt:=@Int.le_refl
def RW:=@PySem.wpAny_holding
def Qf:=@List.length_set
def Ow:=@Nat.lt_succ_self
def Ov:=@List.filter_cons
def Ou:=@Bool.and_eq_true
def NH:=@PySem.wpAny_Call_Name_kw
def LJ:=@PySem.Around.under_plainId
def SI:=@Nat.le_succ
def LI:=@List.replicate_succ
def SH:=@Int.one_mul
def RV:=@Nat.ne_of_gt
def NG:=@PySem.wpAny_truthy_bool
def Rq:=@Int.add_zero
def Ts:=@PySem.wpAny_mono
def Sx:=@PySem.mem_of_lookup
def Va:=@Nat.lt_irrefl
def Rp:=@List.drop_eq_nil_of_le
def Vt:=@Int.mul_comm
def Tq:=@List.lookup_cons
def Ro:=@Nat.pow_le_pow_right
def Rn:=@List.length_eraseIdx
def WO:=@PyProof.Rows.wpS_pure
def VH:=@PySem.wpAny_field
def Rm:=@List.getElem_of_mem
def NF:=@PyProof.Rows.KeyOrd.kle_refl
def Gn:=@PySem.F.slot_str_split
def Gm:=@PySem.F.plainAttrs_str
def Gk:=@Option.map_eq_some_iff
def Ot:=@Nat.zero_add
def Gj:=@List.pairwise_lt_range
def Gi:=@Array.getElem?_eq_none
def LH:=@PySem.wpAny_loadPart'
def LG:=@Nat.mul_le_mul
def Oq:=@PyProof.Rows.listUpdate_at
def ND:=@PySem.wpAny_attempt
def NC:=@PySem.plainId_quiet
def Oo:=@PySem.codeAny_mono
def QD:=@beq_iff_eq
def Kt:=@List.range_succ
def Ks:=@List.nil_append
def Kr:=@List.length_nil
def Kq:=@PySem.F.plain_min_loop
def HH:=@decide_eq_true_eq
def HG:=@List.take_sublist
def HF:=@List.flatten_cons
def HE:=@PySem.wpAny_setField_rec
def LF:=@PySem.wpAny_setField
def HD:=@PySem.wpAny_pyIter_tuple
def HC:=@PySem.SeqAt.EqAt.int_int
def NB:=@Nat.succ.inj
def NA:=@Nat.sub_self
def Nz:=@Int.zero_add
def Ny:=@Int.pow_zero
def Gh:=@PySem.Obj.isFreed_of_fields
def Kp:=@PySem.wpAny_passesOwn
def Hz:=@beq_self_eq_true
def Gg:=@beq_eq_false_iff_ne
def Gf:=@List.filter_eq_self
def zv:=@List.eq_of_mem_replicate
def Hy:=@List.any_eq_true
def zu:=@PySem.F.slot_tuple_iterator_next
def Hx:=@PySem.wpAny_setState_of
def Hw:=@PySem.wpAny_pyIter_list
def Om:=@PySem.wpAny_of_eq
def LD:=@PySem.wpAny_newList
def zt:=@List.getElem?_replicate
def LC:=@Nat.le_of_lt
def Ge:=@List.map_singleton
def LB:=@List.map_map
def Nx:=@Int.mul_one
def Gd:=@Bool.false_eq_true
def Hv:=@List.filter_nil
def Gb:=@PySem.wpAny_setEntries_of
def Hu:=@PySem.wpAny_askSetting
def zr:=@List.length_pos_of_mem
def zq:=@List.filter_eq_nil_iff
def Ko:=@PyProof.Rows.callWith_builtin1
def Qe:=@List.foldl_append
def Qd:=@Array.toList_push
def Km:=@List.take_append_of_le_length
def Kl:=@List.exists_mem_of_length_pos
def Qc:=@PySem.Code.quiet_builtin
def Tp:=@Int.mul_add
def Uz:=@PySem.wpAny_rule
def Uy:=@PySem.call_meets
def Qb:=@Nat.le_of_not_lt
def Ga:=@List.cons_append
def Kk:=@Int.pow_succ
def FZ:=@PySem.wpAny_pyIter_enum
def zp:=@PySem.builtinLookup_eq_fast
def zo:=@List.filterMap_cons
def FY:=@Array.Perm.refl
def Lz:=@PySem.wpAny_letGo
def FX:=@PySem.wpAny_pyIter_zip
def FW:=@PySem.wpAny_isInstance
def zm:=@Nat.lt_of_le_of_lt
def wm:=@List.getElem?_eq_none_iff
def wk:=@List.drop_eq_getElem_cons
def wj:=@PySem.F.type_list_extend
def wg:=@PySem.F.slot_list_extend
def we:=@PySem.F.args_tuple_add_2
def wd:=@PySem.F.args_str_split_2
def wc:=@Option.isSome_iff_exists
def wb:=@List.length_erase_of_mem
def FV:=@Int.natAbs_mul
def Ht:=@Int.le_trans
def zj:=@Int.mul_left_comm
def zh:=@Int.lt_trichotomy
def zg:=@Bool.eq_false_iff
def vZ:=@PySem.F.entry_tuple_add
def vY:=@PySem.F.entry_str_split
def zf:=@decide_eq_decide
def ze:=@PySem.SeqAt.EqAt.of_refs
def FU:=@PySem.W.mg_of
def vX:=@PySem.F.slot_tuple_add
def zd:=@Nat.succ_ne_self
def zc:=@List.length_tail
def vW:=@List.getElem?_set_self
def vV:=@List.getElem?_eraseIdx
def FT:=@List.cons.inj
def FR:=@List.any_cons
def FP:=@PySem.wpAny_runValue
def vU:=@PySem.AutoSeq1.wpAny_loadPart'
def za:=@beq_false_of_ne
def y9:=@Option.map_some
def yZ:=@PySem.Obj.cls_mapFields
def yY:=@List.foldl_cons
def yX:=@List.find?_cons
def yW:=@Int.min_eq_left
def vT:=@List.mem_of_getLast?
def vS:=@List.mem_iff_getElem
def vR:=@List.mem_erase_of_ne
def vQ:=@List.getElem?_set_ne
def FO:=@Int.zero_mul
def FN:=@PyProof.Rows.get?_update_seq
def vP:=@Array.toList_append
def vO:=@Nat.add_sub_cancel
def vN:=@List.map_replicate
def Kj:=@List.map_inj_right
def Rj:=@PyProof.Rows.wpS_forRange
def Nw:=@PySem.wpAny_updateSeq
def Nv:=@PySem.wpAny_execs_nil
def Nu:=@PySem.typeLookup_type
def Nt:=@PySem.SeqAt.EqAt.same
def FL:=@List.eraseIdx_eq_take_drop_succ
def Nr:=@PySem.F.slot_zip_next
def Nq:=@Bool.and_true
def Ki:=@PySem.wpAny_updateSeq_pair
def vM:=@bne_self_eq_false
def gX:=@List.mem_eraseIdx_iff_getElem?
def vL:=@List.filter_congr
def gW:=@List.eq_nil_iff_forall_not_mem
def yV:=@PyProof.Rows.KeyOrd.kle_of_klt
def vK:=@Int.natAbs_add_le
def gV:=@Array.eq_empty_of_size_eq_zero
def vJ:=@PyProof.Rows.F.plain_set_update_loop
def yU:=@PySem.wpAny_tryCatch
def yS:=@PySem.wpAny_newTuple
def yR:=@PySem.wpAny_fieldsOf
def Hs:=@PySem.typeIs_str
def yQ:=@PySem.isSubtype_stop
def gU:=@PySem.F.slot_dict_setdefault
def yP:=@Nat.sub_zero
def yO:=@Nat.mul_comm
def yN:=@Nat.le_of_eq
def vI:=@Nat.le_add_right
def gT:=@List.dropLast_concat_getLast
def yM:=@Int.sub_zero
def FK:=@Int.not_lt
def vH:=@Int.min_eq_right
def yL:=@Int.le_of_lt
def yK:=@PyProof.Rows.KeyOrd.kle_trans
def vG:=@Nat.le_antisymm
def vF:=@List.of_mem_zip
def gS:=@List.length_eraseIdx_of_lt
def vE:=@List.forIn_cons
def gR:=@Int.fdiv_eq_ediv_of_nonneg
def vD:=@PySem.Calls.spliced_cons
def yJ:=@PySem.wpAny_onRaise
def gQ:=@List.getElem?_zip_eq_some
def yI:=@Int.neg_mul
def gP:=@Int.eq_of_mul_eq_mul_left
def yH:=@Int.add_mul
def gO:=@PySem.F.slot_dict_values
def gN:=@List.mem_of_mem_eraseIdx
def gM:=@List.getElem?_take_of_lt
def gL:=@List.Pairwise.imp_of_mem
def vC:=@PySem.Calls.spliced_nil
def FJ:=@PyProof.Rows.listItems_at
def vB:=@PyProof.Rows.entry_proto_collect'
def gK:=@PySem.F.plainAttrs_dict
def gJ:=@PySem.F.args_tuple_lt_2
def yG:=@PySem.wpAny_typeOf
def FI:=@PySem.wpAny_load
def FH:=@PySem.wpAny_call
def vA:=@PySem.noFill_tuple_add
def gI:=@PySem.W.cellsFrom_some
def gH:=@PySem.F.type_str_split
def gG:=@PySem.F.entry_tuple_lt
def vy:=@List.map_take
def Kh:=@PySem.F.entry_min_loop
def FG:=@PySem.F.args_tuple_iterator_next_1
def Kg:=@PyProof.Rows.getElem?_mirror_all
def FF:=@PySem.F.type_str_join
def FE:=@PySem.F.slot_tuple_lt
def FC:=@PySem.F.slot_str_join
def FA:=@List.take_append_drop
def Fz:=@List.getElem?_toArray
def Fy:=@List.eq_replicate_iff
def Fx:=@List.Perm.append_left
def gF:=@List.Pairwise.sublist
def yF:=@PyProof.Rows.IntsAre.int_at
def gE:=@PySem.F.entry_tuple_iterator_next
def gD:=@Classical.choose_spec
/-! THE HAND gC,for ints,bools,texts,own classes,gB and tuples (index,vw,in,append,pop ..),calls,loops. gz it whole ahead of vt own text;what vt proof does not reach may be deleted. -/
namespace L2
open PySem PySem.Spec PyProof.Rows
abbrev Key:=Sum Int Str
def Ri:(Key->Value->Bool)
 | .inl k,v=>Value.isInt k v
 | .inr x,v=>Value.isStrOf x v
def Zaa(w:World):(Key->Int)
 | .inl k=>hashInt k
 | .inr x=>hashStr w x
def ZH:∀{k:Key}{v:Value},Ri k v=true->(∃i t,k=Sum.inl i/\v=Value.int i t)\/(∃x t,k=Sum.inr x/\v=Value.str x t)
 | .inl i,v,h=>by let(t,e):=Value.isInt_shape (k:=i) (v:=v) h;show .inl ⟨i,t,Z,e⟩
 | .inr x,v,h=>by let(t,e):=Value.isStrOf_shape (x:=x) (v:=v) h;show .inr ⟨x,t,Z,e⟩
def ZB8(i:Int)(t:Tok):Ri (.inl i) (.int i t)=true:=by simp[Ri,Value.isInt]
def ZA8(x:Str)(t:Tok):Ri (.inr x) (.str x t)=true:=by simp[Ri,Value.isStrOf]
def Zab(a b:Int):decide ((Sum.inl a:Key)=Sum.inl b)=(a == b):=by
 cases e:a=b
 .subst e;simp
 .let h:¬(Sum.inl a:Key)=Sum.inl b:=λq=>e (Sum.inl.inj q);rw[YR h];show(Gg.L e).symm
def Zac(a b:Str):decide ((Sum.inr a:Key)=Sum.inr b)=decide (a=b):=by
 cases e:a=b
 .subst e;simp
 .let h:¬(Sum.inr a:Key)=Sum.inr b:=λq=>e (Sum.inr.inj q);rw[YR h,YR e]
def Zad(a:Int)(b:Str):decide ((Sum.inl a:Key)=Sum.inr b)=false:=YR (λq=>nomatch q)
def Zae(a:Str)(b:Int):decide ((Sum.inr a:Key)=Sum.inl b)=false:=YR (λq=>nomatch q)
def Rh(prog:Program)(w:World):(PySem.KeyKind prog w Key) where
 is:=Ri
 hash:=Zaa w
 inj:=λv a b ha hb=>by
  rcases ZH ha with ⟨i,t,rfl,rfl⟩|⟨x,t,rfl,rfl⟩
  .rcases ZH hb with ⟨j,u,rfl,e⟩|⟨y,u,rfl,e⟩
   .injection e with e1 _;rw[e1]
   .show nomatch e
  .rcases ZH hb with ⟨j,u,rfl,e⟩|⟨y,u,rfl,e⟩
   .show nomatch e
   .injection e with e1 _;rw[e1]
 byValue:=λk v h=>by rcases ZH h with ⟨i,t,rfl,rfl⟩|⟨x,t,rfl,rfl⟩<;>rfl
 pyHash:=λhv h=>by
  rcases ZH hv with ⟨i,t,rfl,rfl⟩|⟨x,t,rfl,rfl⟩
  .show wpAny_pyHash_int h
  .show wpAny_pyHash_str h
 eqBool:=λhu hv h=>by
  rcases ZH hu with ⟨i,t,rfl,rfl⟩|⟨x,t,rfl,rfl⟩
  .rcases ZH hv with ⟨j,u,rfl,rfl⟩|⟨y,u,rfl,rfl⟩
   .rw[Zab]at h;show wpAny_eqBool_int h
   .rw[Zad]at h;show SeqAt.EqAt.int_str i t y u _ _ _ _ h
  .rcases ZH hv with ⟨j,u,rfl,rfl⟩|⟨y,u,rfl,rfl⟩
   .rw[Zae]at h;show SeqAt.EqAt.str_int x t j u _ _ _ _ h
   .rw[Zac]at h;show wpAny_eqBool_str h
 «strs»:=λk x t v h=>by
  rcases ZH h with ⟨i,u,rfl,e⟩|⟨y,u,rfl,e⟩
  .show nomatch e
  .injection e with e1 _;subst e1;cases v<;>rfl
def ZK5(prog:Program)(w:World)(i:Int)(t:Tok):(Rh prog w).is (.inl i) (.int i t)=true:=ZB8 i t
def ZJ5(prog:Program)(w:World)(x:Str)(t:Tok):(Rh prog w).is (.inr x) (.str x t)=true:=ZA8 x t
inductive V where
 |non|bl (b:Bool)|int (i:Int)|str (x:Str)|byt (b:Array UInt8)|flt (b:UInt64)|ref (a:Addr)|ty (n:String)
 deriving DecidableEq
def RelV:(V->Value->Prop)
 | .non,u=>u=Value.none
 | .bl b,u=>u=Value.bool b
 | .int i,u=>∃t,u=Value.int i t
 | .str x,u=>∃t,u=Value.str x t
 | .byt b,u=>∃t,u=Value.bytes b t
 | .flt b,u=>∃t,u=Value.float b t
 | .ref a,u=>u=Value.ref a
 | .ty n,u=>u=Value.type n
abbrev Vals:List V->List Value->Prop:=Paired RelV
def Vals.length{xs:List V}{us:Ag}(r:Vals xs us):xs.f=us.f:=Paired.f r
def Vals.get{xs:List V}{us:Ag}{i:Nat}{x:V}(h:Vals xs us)(e:xs[i]?=some x):∃u,us[i]?=some u/\RelV x u:=by
 induction h generalizing i with
 |nil=>simp at e
 |cons r t ih=>
  cases i with
  |zero=>simp at e;subst e;exists _,Z,r
  |succ i=>
   let(u,h1,h2):=ih (i:=i) (by simpa using e);exists u,by simpa using h1,h2
def Vals.set(r:RelV x u){xs:List V}{us:Ag}(i:Nat)(h:Vals xs us):Vals (xs.set i x) (us.set i u):=by
 induction h generalizing i with
 |nil=>show .nil
 |cons q t ih=>
  cases i with
  |zero=>show .cons r t
  |succ i=>show .cons q (ih i)
def Vals.append{xs ys:List V}{us ws:Ag}(h:Vals xs us)(s:Vals ys ws):Vals (xs++ys) (us++ws):=by
 induction h with
 |nil=>show s
 |cons r t ih=>show .cons r ih
def Vals.take{xs:List V}{us:Ag}(n:Nat)(h:Vals xs us):Vals (xs.R n) (us.R n):=by
 induction h generalizing n with
 |nil=>cases n<;>show .nil
 |cons r t ih=>
  cases n with
  |zero=>show .nil
  |succ n=>show .cons r (ih n)
def Vals.drop{xs:List V}{us:Ag}(n:Nat)(h:Vals xs us):Vals (xs.drop n) (us.drop n):=by
 induction h generalizing n with
 |nil=>cases n<;>show .nil
 |cons r t ih=>
  cases n with
  |zero=>show .cons r t
  |succ n=>show ih n
def RelO:(Option V->Option Value->Prop)
 |some v,some u=>RelV v u
 |none,none=>True
 |_,_=>False
def KV{κ:Type}:(List (κ×V)->List (κ×Value)->Prop):=Paired λ(p:κ×V) (q:κ×Value)=>p.1=q.1/\RelV p.2 q.2
def kV:(Key->V)
 | .inl i=>.int i
 | .inr x=>.str x
inductive HO where
 |lst (xs:List V)
 |tup (xs:List V)
 |dK (kvs:List (Key×V))|dT (kvs:List (List Key×V))
 |set (S:Int->Bool) (n:Nat)
 |ins (C dx:Addr) (fs:List (Str×V))
 |own (x:Addr)
 |xd (fs:List (Str×V))
 |met (f x:Addr)
 |rng (lo hi:Int)
 |frz (o:Obj) (u:HO)
 |tbl (ps:Array Value)
 |ext (φ:Heap->Prop)
abbrev Hp:=Addr->Option HO
def upd(H:Hp)(a:Addr)(o:HO):(Hp):=λb=>if b=a then some o else H b
def XS:upd H a o a=some o:=by unfold upd;rw[if_pos Z]
def Za(h:b≠a):upd H a o b=H b:=by unfold upd;rw[if_neg h]
def Vs{H:Hp}{a b:Addr}{o u:HO}(h:H a=some o)(h':H b=some u)(d:o≠u):a≠b:=by intro e;subst e;rw[h]at h';show d (Ya h')
def Zb{H:Hp}{a b:Addr}{o:HO}(h:H a=some o)(h':H b=none):a≠b:=by intro e;subst e;rw[h]at h';cases h'
section
variable(P:Program)(w:World)
def ObjOk(H:Hp)(h:Heap)(a:Addr):(HO->Prop)
 | .lst xs=>xs.f<=sizeLine/\∃(XX:Ag)(n:Nat),Vals xs XX/\h.D a=some {cls:=.type "list",data:=.seq XX.o n}
 | .tup xs=>xs.f<=sizeLine/\∃XX:Ag,Vals xs XX/\IsTup h a XX.o
 | .dK kvs=>kvs.f<=sizeLine/\(a == sysModules)=false/\∃vs,KV kvs vs/\h.DictOf (Rh P w) a vs
 | .dT kvs=>kvs.f<=sizeLine/\(a == sysModules)=false/\∃xs:List (List Key×Addr×Value),
   Paired (λ(p:List Key×V) (q:List Key×Addr×Value)=>p.1=q.1/\H q.2.1=some (.tup<|p.1.H kV)/\RelV p.2 q.2.2) kvs xs/\
   ∃o es ep,h.D a=some o/\o.ExactDict/\o.data=.dict es ep/\es.C=xs.H (entryOfKey<|tupleKind<|Rh P w)/\(xs.H (·.1)).Nodup
 | .set S n=>h.SetOf (intKind P w) a S n
 | .ins C dx fs=>H dx=some (.own a)/\fs.f<=1000/\dx≠a/\h.D a=some (PySem.W.instObj C dx)/\
   ∃mA,h.Ns1 dx mA/\(∀f,RelO (fs.M f)<|mA f)/\PySem.Within mA (fs.H (·.1))
 | .own _=>∃o,h.D a=some o
 | .xd fs=>∃mA,h.Ns1 a mA/\∀f,RelO (fs.M f) (mA f)
 | .rng lo hi=>∃t u v,h.D a=some {cls:=.type "range",data:=.fields #[.int lo t,.int hi u,.int 1 v]}
 | .frz o u=>h.D a=some o/\ObjOk H h a u
 | .tbl ps=>h.D a=some {cls:=.none,data:=.fields ps}
 | .met f x=>h.D a=some (PySem.W.methodObj ↑f<|.ref x)
 | .ext φ=>φ h/\(∃o,h.D a=some o)/\∀h1 h2:Heap,φ h1->(∀o,h1.D a=some o->h2.D a=some o)->φ h2
def HOk(H:Hp)(h:Heap):(Prop):=∀a o,H a=some o->ObjOk P w H h a o
end
section
variable{P:Program}{w:World}{H H':Hp}{h h':Heap}{a:Addr}{o:HO}
def ObjOk.lt(x:ObjOk P w H h a o):a<h.objs.t:=by
 cases o with
 |lst xs=>let(_,_,_,_,e):=x;show Ym e
 |tup xs=>let(_,_,_,p):=x;show p.lt
 |dK kvs=>let(_,_,_,_,o,_,_,e,_):=x;show Ym e
 |dT kvs=>let(_,_,_,_,o,_,_,e,_):=x;show Ym e
 |set S n=>let(o,_,_,_,e,_):=x;show Ym e
 |ins C dx fs=>let(_,_,_,e,_):=x;show Ym e
 |own y=>let(_,e):=x;show Ym e
 |xd fs=>let(_,(_,_,_,e,_),_):=x;show Ym e
 |rng lo hi=>let(_,_,_,e):=x;show Ym e
 |frz ob u=>let(e,_):=x;show Ym e
 |tbl ps=>show Ym (show h.D a=some _ from x)
 |met f y=>show Ym (show h.D a=some _ from x)
 |ext φ=>let(_,(_,e),_):=x;show Ym e
def Paired.mapP{α β:Type}{F G:α->β->Prop}{l₁:List α}{l₂:List β}(h:Paired F l₁ l₂)(f:∀a b,F a b->G a b):Paired G l₁ l₂:=by
 induction h with
 |nil=>show .nil
 |cons r t ih=>show .cons (f _ _ r) ih
def ObjOk.stay(x:ObjOk P w H h a o)(k:∀b u,(b=a\/H b=some (.own a))->h.D b=some u->h'.D b=some u)
  (ho:∀b,H b=some (.own a)->H' b=some (.own a))(ht:∀b xs,H b=some (.tup xs)->H' b=some (.tup xs)):ObjOk P w H' h' a o:=by
 induction o with
 |lst xs=>let(z,XX,n,r,e):=x;exists z,XX,n,r,k _ _ (.inl Z) e
 |tup xs=>let(z,XX,r,ob,e,c):=x;exists z,XX,r,ob,k _ _ (.inl Z) e,c
 |dK kvs=>let(z,y,vs,r,ob,es,ep,e,c):=x;exists z,y,vs,r,ob,es,ep,k _ _ (.inl Z) e,c
 |dT kvs=>
  let(z,y,xs,r,ob,es,ep,e,c):=x;exists z,y,xs,Paired.mapP r λp q z=>{z.1,ht _ _ z.2.1,z.2.2},ob,es,ep,k _ _ (.inl Z) e,c
 |set S n=>let(ob,es,ep,t,e,c):=x;exists ob,es,ep,t,k _ _ (.inl Z) e,c
 |ins C dx fs=>
  let(d,z,ne,e,mA,(od,es,ep,e2,c),r):=x;exists ho _ d,z,ne,k _ _ (.inl Z) e,mA,{od,es,ep,k _ _ (.inr d) e2,c},r
 |own y=>let(ob,e):=x;exists ob,k _ _ (.inl Z) e
 |xd fs=>let(mA,(od,es,ep,e,c),r):=x;exists mA,{od,es,ep,k _ _ (.inl Z) e,c},r
 |rng lo hi=>let(t,u,v,e):=x;exists t,u,v,k _ _ (.inl Z) e
 |frz ob u ih=>let(e,q):=x;exists k _ _ (.inl Z) e,ih q
 |tbl ps=>
  let e:h.D a=some {cls:=.none,data:=.fields ps}:=x;change h'.D a=some {cls:=.none,data:=.fields ps}
  show k a _ (.inl Z) e
 |met f y=>
  let e:h.D a=some (PySem.W.methodObj ↑f<|.ref y):=x;change h'.D a=some (PySem.W.methodObj ↑f<|.ref y)
  show k a _ (.inl Z) e
 |ext φ=>let(p,(o,e),st):=x;exists st _ _ p λo q=>k _ _ (.inl Z) q,{o,k _ _ (.inl Z) e},st
def HOk.lt(x:HOk P w H h)(e:H a=some o):a<h.objs.t:=(x a o e).lt
def HOk.fresh(x:HOk P w H h)(e:h.objs.t<=a):H a=none:=by
 cases q:H a with
 |none=>rfl
 |some u=>show absurd (Yt (x.lt q) e) (Va _)
def HOk.kept(x:HOk P w H h)(k:∀b u,h.D b=some u->h'.D b=some u):HOk P w H h':=λa o e=>
 (x a o e).stay (λb u _ q=>k b u q) (λ_ q=>q) λ_ _ q=>q
def HOk.laid(x:HOk P w H h)(k:∀b u,h.D b=some u->h'.D b=some u)(hp:h.objs.t<=a)(new:ObjOk P w (upd H a o) h' a o):HOk P w (upd H a o) h':=λb u e=>by
 let hn:=x.fresh hp;cases hb:b=a
 .subst hb;rw[XS]at e;cases e;show new
 .rw[Za hb]at e;show(x b u e).stay (λc v _ q=>k c v q) (λc q=>by rwa[Za (Zb q hn)]) λc xs q=>by rwa[Za (Zb q hn)]
end
def Rd(H:Hp)(a:Addr)(u:HO):(Prop):=H a=some u\/∃o,H a=some (.frz o u)
def Rd.ok(r:Rd H a u)(x:HOk P w H h):ObjOk P w H h a u:=by
 rcases r with r|⟨o,r⟩
 .show x a u r
 .let⟨_,q⟩:=x a _ r;show q
def Fw:(Option HO->Prop)
 |some (.lst _)=>True
 |some (.dK _)=>True
 |some (.dT _)=>True
 |some (.set _ _)=>True
 |some (.ins _ _ _)=>True
 |some (.ext _)=>True
 |_=>False
section
variable{P:Program}{w:World}{H:Hp}{h h':Heap}{x e:Addr}{o':HO}
def HOk.write(ok:HOk P w H h)(mu:Fw (H x))(he:e=x\/H e=some (.own x))(k:∀b u,b≠e->h.D b=some u->h'.D b=some u)(Hr:∃u,h'.D e=some u)
  (new:ObjOk P w (upd H x o') h' x o'):HOk P w (upd H x o') h':=λb u q=>by
 let Fv:∀c y,H c=some (.own y)->c≠x:=λc y r z=>by subst z;rwa[r]at mu
 let vj:∀c xs,H c=some (.tup xs)->c≠x:=λc xs r z=>by subst z;rwa[r]at mu
 cases hb:b=x
 .subst hb;rw[XS]at q;cases q;show new
 .rw[Za hb]at q;cases Kf:b=e
  .let q':H b=some (.own x):=by
    rcases he with z|z
    .show absurd (Kf.l z) hb
    .rw[Kf];show z
   rw[q]at q';cases q';let(v,hv):=Hr;exists v,by rwa[Kf]
  .show(ok b u q).stay (λc v hc r=>k c v ?_ r) (λc r=>by rwa[Za (Fv c b r)]) λc xs r=>by rwa[Za (vj c xs r)]
   rcases hc with rfl|hc
   .show Kf
   .rintro rfl;rcases he with z|z
    .show Fv c b hc z
    .rw[hc]at z;cases z;show hb rfl
end
structure Un(fs ex:List Addr)(H H':Hp)(h h':Heap):Prop where
 keep:∀b o,h.D b=some o->H b=none->b∉fs->b∉ex->h'.D b=some o
 slot:∀b o,h.D b=some o->H b=none->b∈fs->b∉ex->∃sl,h'.D b=some {o with slots:=sl}
 free:∀b o,h.D b=some o->H b=none->b∉ex->H' b=none
 there:∀b o,h.D b=some o->b∉ex->∃o',h'.D b=some o'
 tups:∀b xs,H b=some (.tup xs)->H' b=some (.tup xs)
 frzs:∀b o u,H b=some (.frz o u)->H' b=some (.frz o u)
 tbls:∀b ps,H b=some (.tbl ps)->∃more,H' b=some (.tbl<|ps++more)
section
variable{fs ex:List Addr}{H H1:Hp}{h h1 h':Heap}{a x e:Addr}{o:HO}
def Un.any(u:Un fs ex H H1 h h1){ob:Obj}(q:h.D b=some ob)(n:H b=none)(hx:b∉ex):∃sl,h1.D b=some {ob with slots:=sl}:=by
 cases hb:b∈fs
 .show u.slot b ob q n hb hx
 .exists ob.slots,u.keep b ob q n hb hx
def Un.kept(k:∀b u,h.D b=some u->h'.D b=some u):Un fs ex H H h h':=
 {λb ob q _ _ _=>k b ob q,λb ob q _ _ _=>{ob.slots,k b ob q},λ_ _ _ n _=>n,λb ob q _=>{ob,k b ob q},λ_ _ q=>q,λ_ _ _ q=>q,λ_ ps q=>{#[],by rw[q];simp}}
def Un.refl:Un fs ex H H h h:=Un.kept λ_ _ q=>q
def Un.laid(k:∀b u,h.D b=some u->h'.D b=some u)(hp:h.objs.t<=a)(hn:H a=none):Un fs ex H (upd H a o) h h' where
 keep:=λb u q _ _ _=>k b u q
 slot:=λb u q _ _ _=>{u.slots,k b u q}
 free:=λb u q n _=>by rwa[Za (Yq<|Yt (Ym q) hp)]
 there:=λb u q _=>{u,k b u q}
 tups:=λb xs q=>by rwa[Za (Zb q hn)]
 frzs:=λb u xs q=>by rwa[Za (Zb q hn)]
 tbls:=λb ps q=>{#[],by rw[Za (Zb q hn),q];simp}
def Un.write(mu:Fw (H x))(he:e=x\/H e=some (.own x))(k:∀b u,b≠e->h.D b=some u->h'.D b=some u)(Hr:∃u,h'.D e=some u):Un fs ex H (upd H x o) h h':=by
 let hx:∀b,H b=none->b≠x:=λb n z=>by subst z;rwa[n]at mu
 let hb:∀b,H b=none->b≠e:=λb n z=>by
  subst z;rcases he with r|r
  .show hx b n r
  .rw[n]at r;cases r
 let hm:∀b u,H b=some u->¬Fw (some u)->b≠x:=λb u q nm z=>by subst z;rw[q]at mu;show nm mu
 show⟨λb u q n _ _=>k b u (hb b n) q,λb u q n _ _=>{u.slots,k b u (hb b n) q},λb u q n _=>by rw[Za (hx b n)];show n,λb u q _=>?_,
  λb xs q=>by rw[Za (hm b _ q λz=>z)];show q,λb u xs q=>by rw[Za (hm b _ q λz=>z)];show q,λb ps q=>{#[],by rw[Za (hm b _ q λz=>z),q];simp}⟩
 cases Kf:b=e
 .subst Kf;show Hr
 .exists u,k b u Kf q
end
def yE(h:Heap)(H:Hp):(List Addr):=(List.range h.objs.t).U λa=>(H a).isSome
def Ux(h:Heap)(H:Hp):(Heap):=PySem.W.hideAll h (yE h H)
def ZG8(h:Heap)(H:Hp):(Ux h H).objs.t=h.objs.t:=PySem.W.hideAll_size _ _
def Zaf{b:Addr}{o:Obj}(e:h.D b=some o)(n:H b=none):(Ux h H).D b=some o:=
 PySem.W.hideAll_get _ e λhm=>by let q:(H b).isSome=true:=(Yj.G hm).2;rw[n]at q;simp at q
def Zag{b:Addr}{o:Obj}(e:(Ux h H).D b=some o):h.D b=some o/\H b=none:=by
 let e':h.D b=some o:=PySem.W.of_hideAll (yE h H) e;exists e',?_;cases q:H b with
 |none=>rfl
 |some x=>
  let hm:b∈yE h H:=Yj.L {YG.L<|Ym e',by simp[q]};let z:(Ux h H).D b=none:=PySem.W.hideAll_none (yE h H) hm
  rw[z]at e;cases e
def Zah(g h:Heap)(L:Addr):(List (Addr×Obj)):=(List.range h.objs.t).filterMap λa=>if a=L\/(g.D a).isSome=true then none else (h.D a).H λo=>(a,o)
def rest(g h:Heap)(L d:Addr):(List (Addr×Obj)):=(Zah g h L).U λp=>decide (p.1≠d)
structure Mod(K:Ad)(mg:Af)(base:Heap):Prop where
 kin:K.In base
 glob:base.Ns mainGlobals mg
 blt:∃mb,base.Ns builtinsNs mb/\∀x:Str,x≠"__name__"->mb x=bootBuiltins x
 nolimit:base.NoLimit
structure Cx where
 prog:Program
 w:World
 K:Ad
 mg:Af
 base:Heap
 A:Around
 N:List Str
 s₀:Shared
 H₀:Hp
 env:Env
 outer:List Env
 stack:List Env
 ex:List Addr
 fn:Str->Bool
 calm:Bool
 pn:List (Addr×Obj)
 xe:Ae
def TV(l:List Env):(List Addr):=l.filterMap (·.frame)
abbrev Cx.fs(X:Cx):List Addr:=TV X.outer
def vf(sc:Scope)(x:Str):(Prop):=sc.names.M x=some .local\/sc.names.M x=some .cell\/sc.names.M x=some .free
def Loc(sc:Scope)(x:Str):(Prop):=sc.names.M x=some .local\/sc.names.M x=some .cell
def Look(env:Env)(h:Heap)(m:Af)(x:Str)(u:Value):(Prop):=
 (env.kindOf x=some .local/\m x=some u)\/((env.kindOf x=some .cell\/env.kindOf x=some .free)/\∃c,env.cells.M x=some c/\h.IsCell c (some u))
structure Cx.Ok(X:Cx):Prop where
 mod:Mod X.K X.mg X.base
 kind:X.X.scope.kind=.function
 glob:X.X.globals=mainGlobals
 blt:X.X.builtins=builtinsNs
 above:(~~~X.s₀)<=X.X.locals
 inj:∀x y c,X.X.cells.M x=some c->X.X.cells.M y=some c->x=y
 has:∀x,(X.X.kindOf x=some .cell\/X.X.kindOf x=some .free)->∃c,X.X.cells.M x=some c
 cab:∀x c,X.fn x=true->X.X.cells.M x=some c->(~~~X.s₀)<=c
 hd:X.calm=true->X.A.handled=none
 frames:X.A.frames=some X.stack
 stk:X.stack=X.outer\/(X.stack=X.X::X.outer/\X.X.frame=some X.X.locals)
 exf:∀b∈X.ex,b≠X.X.locals/\∀x c,X.X.cells.M x=some c->c≠b
 bs:∀b o,X.base.D b=some o->X.s₀.m.D b=some o/\X.H₀ b=none
 bsz:X.base.objs.t<=(~~~X.s₀)
 noex:∀b o,X.base.D b=some o->b∉X.ex
 exfs:∀b∈X.ex,b∉X.fs
 funs:X.s₀.m.FunFrames X.base X.outer
 frf:∀b∈X.fs,X.H₀ b=none
structure Inv(X:Cx)(pins:List (Addr×Obj))(σ:List (Option V))(H:Hp)(s:Shared):Prop where
 ok:X.Ok
 os:s.os=X.s₀.os
 bare:AllBare s.gens
 base:Un X.fs X.ex X.H₀ H X.s₀.m s.m
 loc:∃m,s.m.Ns X.X.locals m/\∀(i:Nat)(x:Str)(v:V),X.N[i]?=some x->σ[i]?=some (some v)->vf X.X.scope x->∃u,RelV v u/\Look X.X s.m m x u
 cell:∀x c,X.X.cells.M x=some c->∃v,s.m.IsCell c v
 free:H X.X.locals=none
 freeC:∀x c,X.X.cells.M x=some c->H c=none
 pin:∀p∈X.pn++pins,s.m.D p.1=some p.2/\H p.1=none/\p.1≠X.X.locals/\p.1∉X.fs/\∀v,p.2.data≠.cell v
 hok:HOk X.prog X.w H s.m
 len:σ.f=X.N.f
section
variable{X:Cx}{pins:List (Addr×Obj)}{σ:List (Option V)}{H H':Hp}{s:Shared}{h':Heap}
def Cx.Ok.nofr(ok:X.Ok){b:Addr}{o:Obj}(e:X.base.D b=some o):b∉X.fs:=λhb=>by
 have:=(ok.funs.mem hb).1
 rw[e]at this;cases this
def Inv.bs(I:Inv X pins σ H s):∀b o,X.base.D b=some o->s.m.D b=some o/\H b=none:=λb o e=>
 {I.base.keep b o (I.ok.bs b o e).1 (I.ok.bs b o e).2 (I.ok.nofr e) (I.ok.noex b o e),I.base.free b o (I.ok.bs b o e).1 (I.ok.bs b o e).2 (I.ok.noex b o e)}
def Inv.bk(I:Inv X pins σ H s):∀b o,X.base.D b=some o->s.m.D b=some o:=λb o e=>(I.bs b o e).1
def Inv.mod(I:Inv X pins σ H s):Mod X.K X.mg X.base:=I.ok.mod
def Inv.kIn(I:Inv X pins σ H s):X.K.In s.m:=I.ok.mod.kin.keeps I.bk
def Inv.lt(I:Inv X pins σ H s):X.X.locals<(~~~s):=by let(_,hn,_):=I.loc;show hn.lt
def Inv.sz(I:Inv X pins σ H s):(~~~X.s₀)<=(~~~s):=YB I.ok.above (LC I.lt)
def Inv.nofs(I:Inv X pins σ H s){a:Addr}(h:(~~~s)<=a):a∉X.fs:=λhb=>by let(_,o,ho,_):=I.ok.funs.mem hb;show absurd (Yt (Ym ho)<|YB I.sz h) (Va _)
def Inv.cne(I:Inv X pins σ H s):∀x c,X.X.cells.M x=some c->c≠X.X.locals:=λx c e z=>by let(v,o,ho,hd):=I.cell x c e;let(m,(o',es,ep,UZ,Hq,_),_):=I.loc;rw[z,UZ]at ho;cases ho;rw[Hq]at hd;cases hd
def Inv.funs(I:Inv X pins σ H s):s.m.FunFrames X.base X.outer:=by
 let all:∀(l:List Env),(∀b∈TV l,b∈X.fs)->X.s₀.m.FunFrames X.base l->s.m.FunFrames X.base l:=by
  intro l
  induction l with
  |nil=>intro _ _;trivial
  |cons env r ih=>
   intro hs hl;let(hk,(L,o,hf,hn,ho,hd),hr):=hl;let hL:L∈X.fs:=hs L (by unfold TV;rw[zo,hf];show Yd)
   let(sl,e):=I.base.slot L o ho (I.ok.frf L hL) hL λz=>I.ok.exfs L z hL;exists hk,{L,_,hf,hn,e,hd},ih (λb hb=>hs b<|by unfold TV;rw[zo,hf];show Yf _ hb) hr
 show all X.outer (λ_ hb=>hb) I.ok.funs
def Inv.stack(I:Inv X pins σ H s):s.m.FunFrames X.base X.stack:=by
 rcases I.ok.stk with e|⟨e,hf⟩
 .rw[e];show I.funs
 .rw[e];let(m,hn,_):=I.loc;show .cons (by rw[I.ok.kind];decide) hf hn ?_ I.funs;show Heap.get?_none_of_le (YB I.ok.bsz I.ok.above)
def Inv.stkSub(I:Inv X pins σ H s):∀b∈TV X.stack,b∈X.X.locals::X.fs:=λb hb=>by
 rcases I.ok.stk with e|⟨e,hf⟩
 .rw[e]at hb;show Yf _ hb
 .rw[e]at hb;unfold TV at hb;rwa[zo,hf]at hb
def Inv.stkFree(I:Inv X pins σ H s):∀b∈TV X.stack,H b=none:=λb hb=>by
 rcases Ye.G (I.stkSub b hb) with e|hb
 .rw[e];show I.free
 .let⟨_,o,ho,_⟩:=I.ok.funs.mem hb;show I.base.free b o ho (I.ok.frf b hb) λz=>I.ok.exfs b z hb
def Inv.step{g':Array GenState}{t':Nat}{d':Drawn}{ch:List Addr}(I:Inv X pins σ H s)
  (Ol:∀b∈ch,(b∈X.ex\/(~~~X.s₀)<=b)/\b≠X.X.locals/\(∀x c,X.X.cells.M x=some c->c≠b)/\∀p∈X.pn++pins,p.1≠b)
  (keep:∀b o,b≠X.X.locals->b∉X.fs->b∉ch->s.m.D b=some o->H b=none->h'.D b=some o)
  (slot:∀b o,b≠X.X.locals->b∈X.fs->b∉ch->s.m.D b=some o->H b=none->∃sl,h'.D b=some {o with slots:=sl})(free:∀b o,b∉ch->s.m.D b=some o->H b=none->H' b=none)
  (there:∀b o,b∉ch->s.m.D b=some o->∃o',h'.D b=some o')
  (tups:∀b xs,H b=some (.tup xs)->H' b=some (.tup xs))(frzs:∀b o u,H b=some (.frz o u)->H' b=some (.frz o u))(tbls:∀b ps,H b=some (.tbl ps)->∃more,H' b=some (.tbl<|ps++more))
  (ns:∀m,s.m.Ns X.X.locals m->h'.Ns X.X.locals m)(hok:HOk X.prog X.w H' h')(hg:AllBare g'):
  Inv X pins σ H' {s with heap:=h',gens:=g',drawn:=d',toks:=t'}:=by
 let gy:∀b o,X.s₀.m.D b=some o->b≠X.X.locals:=λb o e=>Yq (Yt (Ym e) I.ok.above);let yD:∀b o,X.s₀.m.D b=some o->b∉X.ex->b∉ch:=λb o e hx hb=>by
  rcases(Ol b hb).1 with z|z
  .show hx z
  .show absurd (Yt (Ym e) z) (Va _)
 let cellK:∀x c,X.X.cells.M x=some c->∀v,s.m.IsCell c v->h'.IsCell c v:=λx c e v ⟨o,ho,hd⟩=>by
  let Fu:c∉ch:=λz=>(Ol c z).2.2.1 x c e rfl;cases hc:c∈X.fs
  .let⟨sl,q⟩:=slot c o (I.cne x c e) hc Fu ho (I.freeC x c e);exists _,q,hd
  .exists o,keep c o (I.cne x c e) hc Fu ho<|I.freeC x c e,hd
 exists I.ok,I.os,hg,{λb o e n hb hx=>?_,λb o e n hb hx=>?_,λb o e n hx=>?_,λb o e hx=>?_,λb xs e=>tups b xs<|I.base.tups b xs e,λb o xs e=>frzs b o xs<|I.base.frzs b o xs e,λb ps e=>?_},?_,λx c e=>?_,?_,λx c e=>?_,λp hp=>?_,hok,I.len
 .show keep b o (gy b o e) hb (yD b o e hx) (I.base.keep b o e n hb hx) (I.base.free b o e n hx)
 .let⟨sl,e1⟩:=I.base.slot b o e n hb hx;let(sl',e2):=slot b _ (gy b o e) hb (yD b o e hx) e1 (I.base.free b o e n hx);exists sl',e2
 .let⟨o',e1⟩:=I.base.there b o e hx;show free b o' (yD b o e hx) e1 (I.base.free b o e n hx)
 .let⟨o',e1⟩:=I.base.there b o e hx;show there b o' (yD b o e hx) e1
 .let⟨m1,e1⟩:=I.base.tbls b ps e;let(m2,e2):=tbls b _ e1;exists m1++m2,by rw[e2,Array.append_assoc]
 .let⟨m,hn,hl⟩:=I.loc;exists m,ns m hn,λi x v e1 e2 e3=>?_;let(u,r,l):=hl i x v e1 e2 e3;exists u,r,?_;rcases l with l|⟨k,c,e,z⟩
  .show .inl l
  .show .inr {k,c,e,cellK x c e _ z}
 .let⟨v,z⟩:=I.cell x c e;exists v,cellK x c e v z
 .let⟨m,⟨o,_,_,ho,_⟩,_⟩:=I.loc;show free _ o (λz=>(Ol _ z).2.1 Z) ho I.free
 .let⟨v,o,ho,hd⟩:=I.cell x c e;show free c o (λz=>(Ol c z).2.2.1 x c e Z) ho (I.freeC x c e)
 .let⟨e,n,ne,nf,d⟩:=I.pin p hp;let Fu:p.1∉ch:=λz=>(Ol p.1 z).2.2.2 p hp rfl
  exists keep p.1 p.2 ne nf Fu e n,free p.1 p.2 Fu e n,ne,nf,d
def Inv.un{t':Nat}(I:Inv X pins σ H s)(u:Un X.fs [] H H' s.m h')(hok:HOk X.prog X.w H' h'):Inv X pins σ H' {s with heap:=h',toks:=t'}:=by
 let(m,(o,es,ep,ho,r),_):=id I.loc;let(sl,hL):=u.any ho I.free AP;show I.step (g':=s.gens) (d':=s.drawn) (ch:=[]) (λ_ z=>nomatch z) (λb o _ hb _ e n=>u.keep b o e n hb AP) (λb o _ hb _ e n=>u.slot b o e n hb AP) (λb o _ e n=>u.free b o e n AP) (λb o _ e=>u.there b o e AP) u.tups u.frzs u.tbls (λm' hm=>by let(o',ve,vd,UZ,r'):=hm;rw[ho]at UZ;cases UZ;exists _,ve,vd,hL,r') hok I.bare
def Inv.call{t':Nat}{d':Drawn}(I:Inv X pins σ H s)(u:Un (TV X.stack) ch H H' s.m h')(hok:HOk X.prog X.w H' h')(hg:AllBare g')
  (Ol:∀b∈ch,(b∈X.ex\/(~~~X.s₀)<=b)/\b≠X.X.locals/\(∀x c,X.X.cells.M x=some c->c≠b)/\∀p∈X.pn++pins,p.1≠b):
  Inv X pins σ H' {s with heap:=h',gens:=g',drawn:=d',toks:=t'}:=by
 let(m,(o,es,ep,ho,r),_):=id I.loc;let(sl,hL):=u.any ho I.free λz=>(Ol _ z).2.1 rfl;show I.step (ch:=ch) Ol (λb o hL hb hc e n=>u.keep b o e n (λz=>(Ye.G<|I.stkSub b z).elim hL hb) hc) (λb o _ _ hc e n=>u.any e n hc) (λb o hc e n=>u.free b o e n hc) (λb o hc e=>u.there b o e hc) u.tups u.frzs u.tbls (λm' hm=>by let(o',ve,vd,UZ,r'):=hm;rw[ho]at UZ;cases UZ;exists _,ve,vd,hL,r') hok hg
def Inv.turned{t':Nat}(I:Inv X pins σ H s)(k:∀b o,b≠it->s.m.D b=some o->h'.D b=some o)(hn:H it=none)(hL:it≠X.X.locals)
  (h1:it∈X.ex\/(~~~X.s₀)<=it)(h2:∀x c,X.X.cells.M x=some c->c≠it)(h3:∀p∈X.pn++pins,p.1≠it):Inv X pins σ H {s with heap:=h',toks:=t'}:=by
 let gx:∀b u,H b=some u->b≠it:=λb u e z=>by rw[z,hn]at e;cases e
 show I.step (g':=s.gens) (d':=s.drawn) (ch:=[it]) (λb hb=>?_) (λb o _ _ hc e _=>k b o (λz=>hc<|by simp[z]) e) (λb o _ _ hc e _=>{o.slots,k b o (λz=>hc<|by simp[z]) e}) (λ_ _ _ _ n=>n)
  (λb o hc e=>{o,k b o (λz=>hc<|by simp[z]) e}) (λ_ _ e=>e) (λ_ _ _ e=>e) (λb ps e=>{#[],by rw[e];simp}) (λm hm=>?_) (λb u e=>?_) I.bare
 .let e:b=it:=by simpa using hb
  subst e;exists h1,hL,h2,h3
 .let⟨o,es,ep,ho,r⟩:=hm;exists o,es,ep,k _ o (XO hL) ho,r
 .show(I.hok b u e).stay (λc v hc q=>k c v ?_ q) (λ_ q=>q) λ_ _ q=>q;rcases hc with z|z
  .rw[z];show gx b u e
  .show gx c _ z
def Inv.tok(I:Inv X pins σ H s)(t:Nat):Inv X pins σ H {s with toks:=t}:=I.un (h':=s.m) (t':=t) Un.refl I.hok
def Inv.kept{t':Nat}(I:Inv X pins σ H s)(k:∀b u,s.m.D b=some u->h'.D b=some u):Inv X pins σ H {s with heap:=h',toks:=t'}:=I.un (Un.kept k) (I.hok.kept k)
def Inv.laid{t':Nat}(I:Inv X pins σ H s)(k:∀b u,s.m.D b=some u->h'.D b=some u)(hp:(~~~s)<=a)(new:ObjOk X.prog X.w (upd H a o) h' a o):
  Inv X pins σ (upd H a o) {s with heap:=h',toks:=t'}:=I.un (Un.laid k hp<|I.hok.fresh hp) (I.hok.laid k hp new)
def Inv.write{t':Nat}(I:Inv X pins σ H s)(mu:Fw (H x))(he:e=x\/H e=some (.own x))(k:∀b u,b≠e->s.m.D b=some u->h'.D b=some u)(Hr:∃u,h'.D e=some u)
  (new:ObjOk X.prog X.w (upd H x o) h' x o):Inv X pins σ (upd H x o) {s with heap:=h',toks:=t'}:=I.un (Un.write mu he k Hr) (I.hok.write mu he k Hr new)
def Inv.weak(I:Inv X pins σ H s)(hl:σ'.f=σ.f)(w:∀(i:Nat) v,σ'[i]?=some (some v)->σ[i]?=some (some v)):Inv X pins σ' H s:=
 {I.ok,I.os,I.bare,I.base,by let(m,hn,Ft):=I.loc;show{m,hn,λi x v e1 e2 e3=>Ft i x v e1 (w i v e2) e3},I.cell,I.free,I.freeC,I.pin,I.hok,hl.l I.len}
def Inv.pins_of(I:Inv X pins σ H s)(h:∀p∈pins',s.m.D p.1=some p.2/\H p.1=none/\p.1≠X.X.locals/\p.1∉X.fs/\∀v,p.2.data≠.cell v):Inv X pins' σ H s:=
 {I.ok,I.os,I.bare,I.base,I.loc,I.cell,I.free,I.freeC,λp hp=>(Yb.G hp).elim (λz=>I.pin p<|Yn _ z) (h p),I.hok,I.len}
def gu{N:List Str}(hN:N.Nodup){i j:Nat}{x:Str}(a:N[i]?=some x)(b:N[j]?=some x):i=j:=by let(h1,e1):=Xs.G a;let(h2,e2):=Xs.G b;show(List.getElem_inj hN).G (e1.l e2.symm)
def Zc8{E:Ae}{i:Nat}{x:Str}{Q:Unit->Shared->Prop}(I:Inv X pins σ H s)(hN:X.N.Nodup)(hi:X.N[i]?=some x)(hx:Loc X.X.scope x)(r:RelV v u)
  (h:∀s',Inv X pins (σ.set i<|some v) H s'->(∃a,Heap.SameBut a s.m s'.m/\(a=X.X.locals\/X.X.cells.M x=some a))->Q () s')(hf:X.fn x=true\/X.X.scope.names.M x=some .local:=by first|show .inl rfl|show .inr rfl|assumption):wpAny M A (storeName X.X x u) Q E s:=by
 let(m,hn,hl):=id I.loc;let vc:(X.X.scope.kind == .class||(X.X.scope.kind == .module&&X.X.locals != X.X.globals))=false:=by rw[I.ok.kind];rfl
 let Fq:i<σ.f:=by rw[I.len];show(Xs.G hi).1
 let cne:=I.cne;let tracked:∀{a:Addr}{h':Heap},(∃o,s.m.D a=some o/\H a=none)->Heap.SameBut a s.m h'->HOk X.prog X.w H h':=λ{a h'} ha hs b ob e=>by
  let(_,_,Ly):=ha;show(I.hok b ob e).stay (λc w' hc q=>(hs.2 c ?_).l q) (λ_ q=>q) λ_ _ q=>q;rintro rfl;rcases hc with rfl|hc
  .rw[Ly]at e;cases e
  .rw[Ly]at hc;cases hc
 rcases hx with hk|hk
 .show wpAny_storeName_local hk hn (λh' Ke hs=>?_) vc;let(oL,_,_,Kd,_):=id hn;show h _ {I.ok,I.os,I.bare,{λb o e n hb hx=>?_,λb o e n hb hx=>?_,I.base.free,λb o e hx=>?_,I.base.tups,I.base.frzs,I.base.tbls},{_,Ke,λj y v' e1 e2 e3=>?_},λy c e=>?_,I.free,I.freeC,λp hp=>?_,tracked ⟨oL,Kd,I.free⟩ hs,by simpa using I.len} {_,hs,.inl Z}
  .show(hs.2 b<|Yq<|Yt (Ym e) I.ok.above).l (I.base.keep b o e n hb hx)
  .let⟨sl,e1⟩:=I.base.slot b o e n hb hx;exists sl,(hs.2 b<|Yq<|Yt (Ym e) I.ok.above).l e1
  .let⟨o',e1⟩:=I.base.there b o e hx;exists o',(hs.2 b<|Yq<|Yt (Ym e) I.ok.above).l e1
  .cases hj:j=i
   .subst hj;rw[hi]at e1;cases e1;rw[vW Fq]at e2;cases e2;exists u,r,.inl ⟨hk,AP⟩
   .rw[vQ (XO hj)]at e2;let(u',r',q):=hl j y v' e1 e2 e3;exists u',r',?_;rcases q with ⟨k,e⟩|⟨k,c,e,z⟩
    .show .inl {k,?_}
     have:y≠x:=λe=>hj (gu hN e1<|e▸hi)
     simp[this,e]
    .show .inr {k,c,e,z.sameBut hs<|cne y c e}
  .let⟨w',z⟩:=I.cell y c e;exists w',z.sameBut hs<|cne y c e
  .let⟨e,n,ne,nf,d⟩:=I.pin p hp;exists (hs.2 p.1 ne).l e,n,ne,nf,d
 .let Np:X.fn x=true:=by
   rcases hf with z|z
   .show z
   .rw[z]at hk;cases hk
  let(c,hc):=I.ok.has x (.inl hk);let(w',z):=I.cell x c hc;show wpAny_storeName_cell I.ok.kind hk hc z λh' Xe hs=>?_;let(oc,yC,va):=id z;show h {s with heap:=h'} {I.ok,I.os,I.bare,{λb o e n hb hx=>?_,λb o e n hb hx=>?_,I.base.free,λb o e hx=>?_,I.base.tups,I.base.frzs,I.base.tbls},{m,hn.sameBut hs<|XO<|cne x c hc,λj y v' e1 e2 e3=>?_},λy c' e=>?_,I.free,I.freeC,λp hp=>?_,tracked {oc,yC,I.freeC x c hc} hs,by simpa using I.len} {c,hs,.inr hc}
  .show(hs.2 b<|Yq<|Yt (Ym e)<|I.ok.cab x c Np hc).l (I.base.keep b o e n hb hx)
  .let⟨sl,e1⟩:=I.base.slot b o e n hb hx;exists sl,(hs.2 b<|Yq<|Yt (Ym e)<|I.ok.cab x c Np hc).l e1
  .let⟨o',e1⟩:=I.base.there b o e hx;exists o',(hs.2 b<|Yq<|Yt (Ym e)<|I.ok.cab x c Np hc).l e1
  .cases hj:j=i
   .subst hj;rw[hi]at e1;cases e1;rw[vW Fq]at e2;cases e2;exists u,r,.inr {.inl hk,c,hc,Xe}
   .rw[vQ (XO hj)]at e2;let(u',r',q):=hl j y v' e1 e2 e3;exists u',r',?_;rcases q with q|⟨k,c',e,z'⟩
    .show .inl q
    .show .inr {k,c',e,z'.sameBut hs ?_};rintro rfl;show hj (gu hN e1<|I.ok.inj _ _ _ e hc▸hi)
  .cases uZ:c'=c
   .subst uZ;exists _,Xe
   .let⟨w2,z2⟩:=I.cell y c' e;exists w2,z2.sameBut hs uZ
  .let⟨e,n,ne,nf,d⟩:=I.pin p hp;exists (hs.2 p.1 ?_).l e,n,ne,nf,d;intro q;rw[q,yC]at e;let q':oc=p.2:=Ya e
   show d w' (by rwa[<-q'])
def uY{E:Ae}{i:Nat}{x:Str}{Q:Unit->Shared->Prop}(I:Inv X pins σ H s)(hN:X.N.Nodup)(hi:X.N[i]?=some x)(hx:Loc X.X.scope x)(r:RelV v u)
  (h:∀s',Inv X pins (σ.set i<|some v) H s'->Q () s')(hf:X.fn x=true\/X.X.scope.names.M x=some .local:=by first|show .inl rfl|show .inr rfl|assumption):wpAny M A (storeName X.X x u) Q E s:=
 Zc8 I hN hi hx r (λs' I' _=>h s' I') hf
def Inv.call'(I:Inv X pins σ H s)(ho:s'.os=s.os)(u:Un (TV X.stack) ch H H' s.m s'.m)(hok:HOk X.prog X.w H' s'.m)(hg:AllBare s'.gens)
  (Ol:∀b∈ch,(b∈X.ex\/(~~~X.s₀)<=b)/\b≠X.X.locals/\(∀x c,X.X.cells.M x=some c->c≠b)/\∀p∈X.pn++pins,p.1≠b):Inv X pins σ H' s':=by
 let(h',g',d',t',o'):=s';let e:o'=s.os:=ho
 subst e;show I.call (g':=g') (t':=t') (d':=d') u hok hg Ol
end
abbrev XK:=Value->Option Addr->Hp->Prop
abbrev St:=List (Option V)
abbrev VK:=V->Hp->Prop
abbrev TE:=St->Hp->VK->Prop
abbrev TT:=St->Hp->(Bool->Hp->Prop)->Prop
abbrev TA:=St->Hp->(List V->Hp->Prop)->Prop
structure Ends where
 nx:St->Hp->Prop
 rt:VK
 bk:St->Hp->Prop:=λ_ _=>False
 ct:St->Hp->Prop:=λ_ _=>False
abbrev TS:=Ends->St->Hp->Prop
def EP(X:Cx)(pins:List (Addr×Obj))(σ:St)(Q:VK)(u:Value)(s':Shared):(Prop):=∃v H',Inv X pins σ H' s'/\RelV v u/\Q v H'
def TP(X:Cx)(pins:List (Addr×Obj))(σ:St)(Q:Bool->Hp->Prop)(b:Bool)(s':Shared):(Prop):=∃H',Inv X pins σ H' s'/\Q b H'
def Zai(X:Cx)(pins:List (Addr×Obj))(σ:St)(Q:List V->Hp->Prop)(us:Ag)(s':Shared):(Prop):=∃vs H',Inv X pins σ H' s'/\Vals vs us/\Q vs H'
def SP(X:Cx)(pins:List (Addr×Obj))(D:Ends)(f:Flow)(s':Shared):(Prop):=
 match f with
 | .next=>∃σ' H',Inv X pins σ' H' s'/\D.nx σ' H'
 | .brk=>∃σ' H',Inv X pins σ' H' s'/\D.bk σ' H'
 | .cont=>∃σ' H',Inv X pins σ' H' s'/\D.ct σ' H'
 | .ret u=>∃v σ' H',Inv X pins σ' H' s'/\RelV v u/\D.rt v H'
def PE(X:Cx)(e:Expr)(t:TE):(Prop):=
 ∀(pins:List (Addr×Obj))(s:Shared)(σ:St)(H:Hp)(Q:VK),Inv X pins σ H s->t σ H Q->wpAny (model X.prog X.w) X.A (eval e X.X) (EP X pins σ Q) X.xe s
def PT(X:Cx)(e:Expr)(t:TT):(Prop):=
 ∀(pins:List (Addr×Obj))(s:Shared)(σ:St)(H:Hp)(Q:Bool->Hp->Prop),Inv X pins σ H s->t σ H Q->wpAny (model X.prog X.w) X.A (isTrue e X.X<|eval e X.X) (TP X pins σ Q) X.xe s
def PW(X:Cx)(e:Expr)(t:TT):(Prop):=
 ∀(whole:Sem Value)(pins:List (Addr×Obj))(s:Shared)(σ:St)(H:Hp)(Q:Bool->Hp->Prop),Inv X pins σ H s->t σ H Q->wpAny (model X.prog X.w) X.A (isTrue e X.X whole) (TP X pins σ Q) X.xe s
def PW.pt(h:PW X e t):PT X e t:=h _
def PA(X:Cx)(es:List Expr)(t:TA):(Prop):=
 ∀(pos:Pos)(pins:List (Addr×Obj))(s:Shared)(σ:St)(H:Hp)(Q:List V->Hp->Prop),Inv X pins σ H s->t σ H Q->wpAny (model X.prog X.w) X.A (spliced<|backTo pos<|starEach es X.X) (Zai X pins σ Q) X.xe s
def PS(X:Cx)(st:Stmt)(t:TS):(Prop):=
 ∀(pins:List (Addr×Obj))(s:Shared)(σ:St)(H:Hp)(D:Ends),Inv X pins σ H s->t D σ H->wpAny (model X.prog X.w) X.A (exec st X.X) (SP X pins D) X.xe s
def PSs(X:Cx)(st:List Stmt)(t:TS):(Prop):=
 ∀(pins:List (Addr×Obj))(s:Shared)(σ:St)(H:Hp)(D:Ends),Inv X pins σ H s->t D σ H->wpAny (model X.prog X.w) X.A (execs st X.X) (SP X pins D) X.xe s
def thn{α:Type}{t:Sem α}{Q Q':α->Shared->Prop}{M:Model}{A:Around}{E:Ae}{s:Shared}(h:wpAny M A t Q E s)(hQ:∀a s,Q a s->Q' a s):wpAny M A t Q' E s:=Ts h hQ λ_ _ x=>x
section
variable{X:Cx}
inductive isB(x:V)(H:Hp)(Q:Bool->Hp->Prop):Prop
 |mk (k:Bool) (_:x=.bl k) (_:Q k H)
inductive tVar(i:Nat)(σ:St)(H:Hp)(Q:VK):Prop
 |mk (v:_) (_:σ[i]?=some (some v)) (_:Q v H)
def tC(v:V):(TE):=λ_ H Q=>Q v H
def Zaj{x:Str}{pos:Pos}(hN:X.N[i]?=some x)(hv:vf X.X.scope x)(hd:(x == ("__debug__":Str))=false:=by decide)(SG:(x == ("__classdict__":Str))=false:=by decide):PE X (.Name x pos) (tVar i):=by
 intro pins s σ H Q I h;let(v,e,h):=h;let(m,hn,hl):=I.loc;let(u,r,l):=hl i x v hN e hv;let fin:EP X pins σ Q u s:=⟨v,H,I,r,h⟩
 rcases l with ⟨hk,hm⟩|⟨hk,c,hc,RU⟩
 .show wpAny_Name (wpAny_loadName_local I.ok.kind hk hn hm fin) hd
 .rcases hk with hk|hk
  .show wpAny_Name (wpAny_loadName_cell I.ok.kind hk hc RU fin) hd
  .show wpAny_Name (wpAny_loadName_free I.ok.kind hk hc RU fin SG) hd
def XN{i j pos}:PE X (.Constant (.int i) j pos) (tC (.int i)):=λ_ _ _ H _ I h=>wpAny_Constant_int {.int i,H,I.tok _,{_,Z},h}
def Uw{b j pos}:PE X (.Constant (.bool b) j pos) (tC (.bl b)):=λ_ _ _ H _ I h=>Constant_bool {.bl b,H,I,Z,h}
def yB{j pos}:PE X (.Constant .none j pos) (tC .non):=λ_ _ _ H _ I h=>Constant_none ⟨.non,H,I,Z,h⟩
def Qa{x j pos}:PE X (.Constant (.str x) j pos) (tC (.str x)):=λ_ _ _ H _ I h=>Calls.Constant_str {.str x,H,I.tok _,{_,Z},h}
def Gl(X:Cx)(x:Str):(Prop):=X.X.kindOf x=some .globalImplicit
def Kc{E:Ae}{u:Value}{pos:Pos}{Q:Ae}(I:Inv X pins σ H s)(hg:Gl X x)(hm:X.mg x=some u)(h:Q u s)
  (hd:(x == ("__debug__":Str))=false:=by decide):wpAny (model X.prog X.w) X.A (eval (.Name x pos) X.X) Q E s:=
 Calls.Name_function_global I.ok.kind hg (Calls.loadGlobal_global (by rw[I.ok.glob];show I.mod.glob.keeps I.bk) hm h) hd
def Rg{E:Ae}{u:Value}{pos:Pos}{Q:Ae}(I:Inv X pins σ H s)(hg:Gl X x)(hm:X.mg x=none)(hv:bootBuiltins x=some u)(h:Q u s)
  (hn:x≠"__name__":=by decide)(hd:(x == ("__debug__":Str))=false:=by decide):wpAny (model X.prog X.w) X.A (eval (.Name x pos) X.X) Q E s:=by let(mb,h1,h2):=I.mod.blt;show Calls.Name_function_global I.ok.kind hg (Calls.loadGlobal_builtin (by rw[I.ok.glob];show I.mod.glob.keeps I.bk) hm (by rw[I.ok.blt];show h1.keeps I.bk) ((h2 x hn).l hv) h) hd
def yA{u:Value}{pos:Pos}(hg:Gl X x)(hm:X.mg x=some u)(r:RelV v u)(hd:(x == ("__debug__":Str))=false:=by decide):PE X (.Name x pos) (tC v):=
 λ_ _ _ H _ I h=>Kc I hg hm ⟨v,H,I,r,h⟩ hd
variable{a b:Expr}{ta tb:TE}{pos:Pos}
def PC(X:Cx)(op:CmpOp)(a b:Expr)(t:TE):(Prop):=
 ∀(pins:List (Addr×Obj))(s:Shared)(σ:St)(H:Hp)(Q:VK),Inv X pins σ H s->t σ H Q->
  wpAny (model X.prog X.w) X.A (eval a X.X) (λv s₁=>wpAny (model X.prog X.w) X.A (eval b X.X) (λu s₂=>wpAny (model X.prog X.w) X.A (compareOp op v u) (EP X pins σ Q) X.xe s₂) X.xe s₁) X.xe s
def Zak(t:TE):(TT):=λσ H Q=>t σ H λx H1=>isB x H1 Q
def Oj{e:Expr}{t:TE}(h:PE X e t)(he:∀whole,isTrue e X.X whole=(do let v <-whole;standAt e.pos;holding [v] (truthy v)):=by intro _;rfl):PT X e (Zak t):=by intro pins s σ H Q I hw;show isTrue_plain (thn (h pins s σ H _ I hw) λv s1 zz=>?_) (he _);let(x,H1,I1,r1,q1):=zz;let(d,rfl,q):=q1;cases r1;show NG ⟨H1,I1,q⟩
variable{tA yz:TT}{rest:List Expr}
def Zal(t u:TT):(TT):=λσ H Q=>t σ H λc H1=>if c=true then u σ H1 Q else Q false H1
def tOr(t u:TT):(TT):=λσ H Q=>t σ H λc H1=>if c=true then Q true H1 else u σ H1 Q
def uV(t:TT):(TT):=λσ H Q=>t σ H λc H1=>Q (!c) H1
def Fp(ha:PT X a tA):PW X (.BoolOp .And [a] pos) tA:=by
 intro wh pins s σ H Q I h;show isTrue_and (thn (ha pins s σ H Q I h) λc s1 e=>?_);cases c with
 |true=>show isTrue_and_nil e
 |false=>show e
def Ho(ha:PT X a tA):PW X (.BoolOp .Or [a] pos) tA:=by
 intro wh pins s σ H Q I h;show isTrue_or (thn (ha pins s σ H Q I h) λc s1 e=>?_);cases c with
 |false=>show isTrue_or_nil e
 |true=>show e
def Fo(ha:PT X a tA)(hb:PW X (.BoolOp .And (b::rest) pos) yz):PW X (.BoolOp .And (a::b::rest) pos) (Zal tA yz):=by
 intro wh pins s σ H Q I h;show isTrue_and (thn (ha pins s σ H _ I h) λc s1 XA=>?_);let(H1,I1,q1):=XA;cases c with
 |true=>show hb wh pins s1 σ H1 Q I1 q1
 |false=>exists H1,I1,q1
def Rf(ha:PT X a tA)(hb:PW X (.BoolOp .Or (b::rest) pos) yz):PW X (.BoolOp .Or (a::b::rest) pos) (tOr tA yz):=by
 intro wh pins s σ H Q I h;show isTrue_or (thn (ha pins s σ H _ I h) λc s1 XA=>?_);let(H1,I1,q1):=XA;cases c with
 |true=>exists H1,I1,q1
 |false=>show hb wh pins s1 σ H1 Q I1 q1
def Oi(ha:PT X a tA):PT X (.UnaryOp .Not a pos) (uV tA):=by intro pins s σ H Q I h;show isTrue_not (ha pins s σ H (λc H1=>Q (!c) H1) I h)
def uU(ta tb:TE):(TE):=λσ H Q=>ta σ H λx H1=>∃c,x=.bl c/\if c=true then tb σ H1 Q else Q (.bl false) H1
def uT(ta tb:TE):(TE):=λσ H Q=>ta σ H λx H1=>∃c,x=.bl c/\if c=true then Q (.bl true) H1 else tb σ H1 Q
def Kb{op}(h:PE X a t):PE X (.BoolOp op [a] pos) t:=λpins s σ H Q I hw=>BoolOp_one (h pins s σ H Q I hw)
def Ka(ha:PE X a ta)(hb:PE X (.BoolOp .And (b::rest) pos) tb):PE X (.BoolOp .And (a::b::rest) pos) (uU ta tb):=by
 intro pins s σ H Q I h;show BoolOp_and (thn (ha pins s σ H _ I h) λv s1 XA=>?_);let(x,H1,I1,r1,q1):=XA;let(c,rfl,q1):=q1;cases r1;show NG ?_;cases c with
 |true=>show hb pins s1 σ H1 Q I1 q1
 |false=>exists .bl false,H1,I1,Z,q1
def uS(ha:PE X a ta)(hb:PE X (.BoolOp .Or (b::rest) pos) tb):PE X (.BoolOp .Or (a::b::rest) pos) (uT ta tb):=by
 intro pins s σ H Q I h;show BoolOp_or (thn (ha pins s σ H _ I h) λv s1 XA=>?_);let(x,H1,I1,r1,q1):=XA;let(c,rfl,q1):=q1;cases r1;show NG ?_;cases c with
 |false=>show hb pins s1 σ H1 Q I1 q1
 |true=>exists .bl true,H1,I1,Z,q1
def tIf(t:TT)(ta tb:TE):(TE):=λσ H Q=>t σ H λc H1=>if c=true then ta σ H1 Q else tb σ H1 Q
def JZ{c:Expr}(hc:PT X c tA)(ha:PE X a ta)(hb:PE X b tb):PE X (.IfExp c a b pos) (tIf tA ta tb):=by
 intro pins s σ H Q I h;show wpAny_IfExp (thn (hc pins s σ H _ I h) λd s1 XA=>?_);let(H1,I1,q1):=XA;cases d with
 |true=>show ha pins s1 σ H1 Q I1 q1
 |false=>show hb pins s1 σ H1 Q I1 q1
end
def SqL(K:Ad)(H:Hp)(a:Addr)(xs:List V):(Prop):=
 Rd H a (.lst xs)\/
  ∃(o:Obj)(XX:Array Value)(n:Nat),K.M a=some o/\o.cls=.type "list"/\o.dict=none/\o.data=.seq XX n/\XX.t<=sizeLine/\Vals xs XX.C
def SqT(K:Ad)(H:Hp)(a:Addr)(xs:List V):(Prop):=
 Rd H a (.tup xs)\/
  ∃(o:Obj)(XX:Array Value)(n:Nat),K.M a=some o/\o.cls=.type "tuple"/\o.data=.seq XX n/\XX.t<=sizeLine/\Vals xs XX.C
def uR:(Value->Option V)
 | .none=>some .non
 | .bool b=>some (.bl b)
 | .int i _=>some (.int i)
 | .str x _=>some (.str x)
 | .bytes b _=>some (.byt b)
 | .float b _=>some (.flt b)
 | .ref a=>some ↑a
 | .type n=>some (.ty n)
 |_=>none
def RelV.abs(r:RelV x u):uR u=some x:=by
 cases x with
 |non=>cases r;rfl
 |bl _=>cases r;rfl
 |int _=>let(t,rfl):=r;rfl
 |str _=>let(t,rfl):=r;rfl
 |byt _=>let(t,rfl):=r;rfl
 |flt _=>let(t,rfl):=r;rfl
 |ref _=>cases r;rfl
 |ty _=>cases r;rfl
def RelV.inj(r:RelV x u)(q:RelV y u):x=y:=Ya (r.abs.symm.l q.abs)
def Vals.inj{xs ys:List V}{us:Ag}(h:Vals xs us)(h':Vals ys us):xs=ys:=by
 induction h generalizing ys with
 |nil=>cases h';rfl
 |cons r t ih=>cases h' with
  |cons r' t'=>rw[r.inj r',ih t']
section
variable{X:Cx}{pins:List (Addr×Obj)}{σ:St}{H:Hp}{s:Shared}{a:Addr}{xs ys:List V}
def SqL.of{K:Ad}(h:H a=some (.lst xs)):SqL K H a xs:=.inl (.inl h)
def SqT.of{K:Ad}(h:H a=some (.tup xs)):SqT K H a xs:=.inl (.inl h)
def Inv.list(I:Inv X pins σ H s)(h:SqL X.K H a xs):∃XX:Ag,Vals xs XX/\PlainL s.m a XX.o/\xs.f<=sizeLine:=by
 rcases h with h|⟨o,XX,n,hk,hc,hd,hs,hz,r⟩
 .let⟨z,XX,n,r,e⟩:=h.ok I.hok;exists XX,r,{_,n,e,Z,Z,Z},z
 .exists XX.C,r,{o,n,I.kIn a o hk,hc,hd,by simpa using hs},?_;let e:=r.f
  simp only[YA]at e;lia
def Inv.tuple(I:Inv X pins σ H s)(h:SqT X.K H a xs):∃XX:Ag,Vals xs XX/\IsTup s.m a XX.o/\xs.f<=sizeLine:=by
 rcases h with h|⟨o,XX,n,hk,hc,hs,hz,r⟩
 .let⟨z,XX,r,p⟩:=h.ok I.hok;exists XX,r,p,z
 .exists XX.C,r,{o,I.kIn a o hk,hc,n,by simpa using hs},?_;let e:=r.f
  simp only[YA]at e;omega
def Inv.list_inj(I:Inv X pins σ H s)(h:SqL X.K H a xs)(h':SqL X.K H a ys):xs=ys:=by
 let(XX,r,(o,n,e,_,_,d),_):=I.list h;let(its',r',(o',n',e',_,_,d'),_):=I.list h';rw[e]at e';cases e';rw[d]at d';injection d' with d1 _
 have:XX=its':=by simpa using YZ Array.toList d1
 subst this;show r.inj r'
def Inv.tuple_inj(I:Inv X pins σ H s)(h:SqT X.K H a xs)(h':SqT X.K H a ys):xs=ys:=by
 let(XX,r,(o,e,_,n,d),_):=I.tuple h;let(its',r',(o',e',_,n',d'),_):=I.tuple h';rw[e]at e';cases e';rw[d]at d';injection d' with d1 _
 have:XX=its':=by simpa using YZ Array.toList d1
 subst this;show r.inj r'
end
abbrev Cx.wish(X:Cx)(E:Ae):Cx:={X with xe:=E}
abbrev Cx.nox(X:Cx):Cx:=X.wish λ_ _=>False
def Cx.Ok.wish{X:Cx}(ok:X.Ok)(E:Ae):(X.wish E).Ok:=
 ⟨ok.mod,ok.kind,ok.glob,ok.blt,ok.above,ok.inj,ok.has,ok.cab,ok.hd,ok.frames,ok.stk,ok.exf,ok.bs,ok.bsz,ok.noex,ok.exfs,ok.funs,ok.frf⟩
def Cx.Ok.unwish{X:Cx}{E:Ae}(ok:(X.wish E).Ok):X.Ok:=
 ⟨ok.mod,ok.kind,ok.glob,ok.blt,ok.above,ok.inj,ok.has,ok.cab,ok.hd,ok.frames,ok.stk,ok.exf,ok.bs,ok.bsz,ok.noex,ok.exfs,ok.funs,ok.frf⟩
section
variable{X:Cx}{pins:List (Addr×Obj)}{σ:St}{H:Hp}{s:Shared}{E:Ae}
def Inv.wish(I:Inv X pins σ H s)(E:Ae):Inv (X.wish E) pins σ H s:={I.ok.wish E,I.os,I.bare,I.base,I.loc,I.cell,I.free,I.freeC,I.pin,I.hok,I.len}
def Inv.unwish(I:Inv (X.wish E) pins σ H s):Inv X pins σ H s:=⟨I.ok.unwish,I.os,I.bare,I.base,I.loc,I.cell,I.free,I.freeC,I.pin,I.hok,I.len⟩
def SP.unwish(h:SP (X.wish E) pins D f s'):SP X pins D f s':=by
 cases f with
 |next=>let(σ',H',I,q):=h;exists σ',H',I.unwish,q
 |brk=>let(σ',H',I,q):=h;exists σ',H',I.unwish,q
 |cont=>let(σ',H',I,q):=h;exists σ',H',I.unwish,q
 |ret u=>let(v,σ',H',I,r,q):=h;exists v,σ',H',I.unwish,r,q
def PSs.nox{st:List Stmt}{t:TS}(h:PSs X.nox st t):PSs X st t:=λpins s σ H D I hw=>
 Ts (h pins s σ H D (I.wish _) hw) (λ_ _ q=>q.unwish) λ_ _ z=>False.elim z
end
section
variable{X:Cx}{st:Stmt}{rest:List Stmt}{t u:TS}{e:Expr}{te:TE}{pos:Pos}
def uQ:(TS):=λD σ H=>D.nx σ H
def Sw(t u:TS):(TS):=λD σ H=>t {D with nx:=u D} σ H
def Zq:PSs X [] uQ:=λ_ _ σ H _ I h=>Nv ⟨σ,H,I,h⟩
def XM(h1:PS X st t)(h2:PSs X rest u):PSs X (st::rest) (Sw t u):=by
 intro pins s σ H D I h;show wpAny_execs_cons (thn (h1 pins s σ H {D with nx:=u D} I h) λf s1 q=>?_);cases f with
 |next=>
  let(σ',H',I',q):=q;show h2 pins s1 σ' H' D I' q
 |ret v=>show q
 |brk=>show q
 |cont=>show q
def XE(h1:PS X st t):PSs X [st] t:=by
 intro pins s σ H D I h;show wpAny_execs_cons (thn (h1 pins s σ H D I h) λf s1 q=>?_);cases f with
 |next=>show Nv q
 |ret v=>show q
 |brk=>show q
 |cont=>show q
def Inv.quiet(I:Inv X pins σ H s):interactive X.X=false:=by simp[interactive,I.ok.kind]
def Lx(te:TE):(TS):=λD σ H=>te σ H λ_ H1=>D.nx σ H1
def ZI(he:PE X e te)(hs:swapsWith e none pos.line X.X=pure false:=by rfl):PS X (.Expr e pos) (Lx te):=by intro pins s σ H D I h;show wpAny_Expr_any (thn (he pins s σ H _ I h) λv s1 zz=>by let(x,H1,I1,r1,q1):=zz;exists σ,H1,I1,q1) I.quiet hs
def uP(te:TE):(TS):=λD σ H=>te σ H D.rt
def Zm(he:PE X e te):PS X (.Return (some e) pos) (uP te):=by intro pins s σ H D I h;show wpAny_Return_some (thn (he pins s σ H _ I h) λv s1 zz=>by let(x,H1,I1,r1,q1):=zz;exists x,σ,H1,I1,r1,q1)
def uO(c:TT)(t u:TS):(TS):=λD σ H=>c σ H λb H1=>if b=true then t D σ H1 else u D σ H1
def Wm{c:Expr}{a b:List Stmt}{tc:TT}(hc:PT X c tc)(ha:PSs X a t)(hb:PSs X b u):PS X (.If c a b pos) (uO tc t u):=by
 intro pins s σ H D I h;show wpAny_If (thn (hc pins s σ H _ I h) λd s1 XA=>?_);let(H1,I1,q1):=XA;cases d with
 |true=>show ha pins s1 σ H1 D I1 q1
 |false=>show hb pins s1 σ H1 D I1 q1
def Fn:(TS):=λ_ _ _=>False
def Uv:PS X st Fn:=λ_ _ _ _ _ _ h=>h.elim
end
abbrev TG:=V->St->Hp->(St->Hp->Prop)->Prop
abbrev JY:=List V->St->Hp->(St->Hp->Prop)->Prop
def PG(X:Cx)(target:Expr)(t:TG):(Prop):=
 ∀(pins:List (Addr×Obj))(s:Shared)(σ:St)(H:Hp)(v:V)(u:Value)(Q:St->Hp->Prop),Inv X pins σ H s->RelV v u->t v σ H Q->
  wpAny (model X.prog X.w) X.A (assign target X.X u) (λ_ s'=>∃σ' H',Inv X pins σ' H' s'/\Q σ' H') X.xe s
def Fm(X:Cx)(ts:List Expr)(t:JY):(Prop):=
 ∀(pins:List (Addr×Obj))(s:Shared)(σ:St)(H:Hp)(vs:List V)(us:Ag)(Q:St->Hp->Prop),Inv X pins σ H s->Vals vs us->t vs σ H Q->
  wpAny (model X.prog X.w) X.A (assignInOrder ((assignEach ts X.X).H (·.2)) us) (λ_ s'=>∃σ' H',Inv X pins σ' H' s'/\Q σ' H') X.xe s
abbrev PZ:=V->V->V->Hp->(Hp->Prop)->Prop
def JX(X:Cx)(t:PZ):(Prop):=
 ∀(pins:List (Addr×Obj))(s:Shared)(σ:St)(H:Hp)(o i v:V)(ov iv u:Value)(Q:Hp->Prop),Inv X pins σ H s->RelV o ov->RelV i iv->RelV v u->t o i v H Q->
  wpAny (model X.prog X.w) X.A (setItem ov iv u) (λ_ s'=>∃H',Inv X pins σ H' s'/\Q H') X.xe s
abbrev yy:=V->V->Hp->VK->Prop
def uN(X:Cx)(op:Operator)(t:yy):(Prop):=
 ∀(pins:List (Addr×Obj))(s:Shared)(σ:St)(H:Hp)(x y:V)(v u:Value)(Q:VK),Inv X pins σ H s->RelV x v->RelV y u->t x y H Q->
  wpAny (model X.prog X.w) X.A (inplaceOp op v u) (EP X pins σ Q) X.xe s
section
variable{X:Cx}{pos:Pos}
def PY(i:Nat):(TG):=λv σ H Q=>Q (σ.set i<|some v) H
def gr{x:Str}(hN:X.N.Nodup)(hi:X.N[i]?=some x)(hx:Loc X.X.scope x)(hf:X.fn x=true\/X.X.scope.names.M x=some .local:=by first|show .inl rfl|show .inr rfl|assumption):PG X (.Name x pos) (PY i):=by intro pins s σ H v u Q I r h;show wpAny_assign_Name (uY I hN hi hx r (λs' I'=>{_,H,I',h}) hf)
def Zc(i:Nat){x:Str}(hN:decide X.N.Nodup=true:=by kernel_rfl)(hi:X.N[i]?=some x:=by rfl)(hx:Loc X.X.scope x:=by show .inl rfl)(hf:X.fn x=true\/X.X.scope.names.M x=some .local:=by first|show .inl rfl|show .inr rfl|assumption):PG X (.Name x pos) (PY i):=gr (Yu hN) hi hx hf
inductive gNil(vs:List V)(σ:St)(H:Hp)(Q:St->Hp->Prop):Prop
 |mk  (_:vs=[]) (_:Q σ H)
inductive gCons(t:TG)(u:JY)(vs:List V)(σ:St)(H:Hp)(Q:St->Hp->Prop):Prop
 |mk (v r:_) (_:vs=v::r) (_:t v σ H λσ' H'=>u r σ' H' Q)
def Oh:Fm X [] gNil:=by intro pins s σ H vs us Q I r h;let(e,h):=h;subst e;cases r;show assignInOrder_nil ⟨σ,H,I,h⟩
def Zz{e:Expr}{es:List Expr}{t:TG}{u:JY}(h1:PG X e t)(h2:Fm X es u)
  (hs:(assignEach (e::es) X.X).H (·.2)=assign e X.X::(assignEach es X.X).H (·.2):=by rfl):Fm X (e::es) (gCons t u):=by
 intro pins s σ H vs us Q I r h;let(v,vr,e1,h):=h;subst e1;cases r with
 |cons r rr=>
  rw[hs];show assignInOrder_cons (thn (h1 pins s σ H _ _ _ I r h) λ_ s1 XA=>?_);let(σ1,H1,I1,q1):=XA;show h2 pins s1 σ1 H1 _ _ Q I1 rr q1
inductive gTup(K:Ad)(n:Nat)(t:JY)(v:V)(σ:St)(H:Hp)(Q:St->Hp->Prop):Prop
 |mk (a xs:_) (_:v=.ref a) (_:SqT K H a xs) (_:xs.f=n) (_:t xs σ H Q)
def uM{k:Nat}(hc:X.calm=true)(h:Fm X es t)
  (hn:(assignEach es X.X).f=n:=by rfl)(Wl:(assignEach es X.X).findIdx? (·.1)=none:=by rfl):PG X (.Tuple es k pos) (gTup X.K n t):=by
 intro pins s σ H v u Q I r hw;let(a,xs,e1,hq,hl,hw):=hw;subst e1;cases r;let(XX,rv,ht,hz):=I.tuple hq;show assign_Tuple_tuple (I.ok.hd hc) ht (by simp[hn,<-hl,rv.length]) Wl λh' hx=>?_;let I1:Inv X pins σ H {s with heap:=h'}:=I.kept (t':=s.toks) λb o e=>hx b o (Yq<|Ym e) e
 show h pins _ σ H xs _ Q I1 (by simpa using rv) hw
def uL(to ti:TE)(t:PZ):(TG):=λv σ H Q=>to σ H λo H1=>ti σ H1 λi H2=>t o i v H2 λH3=>Q σ H3
def Fl{o i:Expr}{to ti:TE}{t:PZ}(ho:PE X o to)(hi:PE X i ti)(hs:JX X t)
  (ha:∀v,assign (.Subscript o i pos) X.X v=(do
   let ov <-holding [v] (eval o X.X)
   let iv <-holding [v,ov] (eval i X.X)
   standAt pos
   holding [v,ov,iv] (setItem ov iv v)
   release [v,ov,iv] []):=by intro _;rfl):PG X (.Subscript o i pos) (uL to ti t):=by intro pins s σ H v u Q I r h;rw[ha];show XY (RW<|thn (ho pins s σ H _ I h) λov s1 XA=>?_);let(x,H1,I1,r1,q1):=XA;show XY (RW<|thn (hi pins s1 σ H1 _ I1 q1) λiv s2 XA=>?_);let(y,H2,I2,r2,q2):=XA;show XY (wpAny_standAt<|XY<|RW<|thn (hs pins s2 σ H2 x y v ov iv u _ I2 r1 r2 r q2) λ_ s3 XA=>?_);let(H3,I3,q3):=XA;show wpAny_release ⟨σ,H3,I3,q3⟩
def tAsg(te:TE)(g:TG):(TS):=λD σ H=>te σ H λx H1=>g x σ H1 D.nx
def yx{tg e:Expr}{te:TE}{g:TG}(he:PE X e te)(hg:PG X tg g)(hs:swapsWithSole [tg] e pos.line X.X=pure false:=by rfl)(hw:swappedStores [tg] e X.X=pure none:=by rfl)
  (h1:(assignEach [tg] X.X).H (·.2)=[assign tg X.X]:=by rfl):PS X (.Assign [tg] e pos) (tAsg te g):=by intro pins s σ H D I h;show wpAny_Assign_stores (thn (he pins s σ H _ I h) λv s1 XA=>?_) hs hw;let(x,H1,I1,r1,q1):=XA;rw[h1];show thn (hg pins s1 σ H1 x v _ I1 r1 q1) λ_ s2 q=>q
def PX{i:Nat}{x:Str}{e:Expr}{te:TE}{pos':Pos}(hN:X.N.Nodup)(hi:X.N[i]?=some x)(hx:Loc X.X.scope x)(he:PE X e te)(hs:swapsWith e (some (.Name x pos')) pos.line X.X=pure false:=by rfl)(hf:X.fn x=true\/X.X.scope.names.M x=some .local:=by first|show .inl rfl|show .inr rfl|assumption):
  PS X (.Assign [.Name x pos'] e pos) (tAsg te<|PY i):=by intro pins s σ H D I h;show wpAny_Assign_Name (thn (he pins s σ H _ I h) λv s1 XA=>?_) hs;let(y,H1,I1,r1,q1):=XA;show uY I1 hN hi hx r1 (λs2 I2=>{_,H1,I2,q1}) hf
def Zh(i:Nat){x:Str}{e:Expr}{te:TE}{pos':Pos}(he:PE X e te)(hN:decide X.N.Nodup=true:=by kernel_rfl)(hi:X.N[i]?=some x:=by rfl)(hx:Loc X.X.scope x:=by show .inl rfl)(hs:swapsWith e (some<|.Name x pos') pos.line X.X=pure false:=by rfl)(hf:X.fn x=true\/X.X.scope.names.M x=some .local:=by first|show .inl rfl|show .inr rfl|assumption):PS X (.Assign [.Name x pos'] e pos) (tAsg te<|PY i):=PX (Yu hN) hi hx he hs hf
def uK(to ti te:TE)(tget:V->V->Hp->VK->Prop)(yw:yy)(tset:PZ):(TS):=λD σ H=>to σ H λo H1=>ti σ H1 λi H2=>tget o i H2 λx H3=>te σ H3 λy H4=>yw x y H4 λz H5=>tset o i z H5 λH6=>D.nx σ H6
def Fj(X:Cx)(t:V->V->Hp->VK->Prop):(Prop):=
 ∀(pins:List (Addr×Obj))(s:Shared)(σ:St)(H:Hp)(o i:V)(ov iv:Value)(Q:VK),Inv X pins σ H s->RelV o ov->RelV i iv->t o i H Q->
  wpAny (model X.prog X.w) X.A (getItem ov iv) (EP X pins σ Q) X.xe s
def yu{o i e:Expr}{to ti te:TE}{tget:V->V->Hp->VK->Prop}{yw:yy}{tset:PZ}{op:Operator}{UY:Pos}(ho:PE X o to)(hi:PE X i ti)(hg:Fj X tget)(he:PE X e te)(hp:uN X op yw)(hs:JX X tset)
  (ha:∀ov iv new,augStore i ov iv new=(do holding [new,ov,iv] (setItem ov iv new);release [new,ov,iv] [];pure .next):=by intros;rfl):PS X (.AugAssign (.Subscript o i UY) op e pos) (uK to ti te tget yw tset):=by intro pins s σ H D I h;show wpAny_AugAssign_SubscriptAny (thn (ho pins s σ H _ I h) λov s1 XA=>?_) ha;let(x1,H1,I1,r1,q1):=XA;show thn (hi pins s1 σ H1 _ I1 q1) λiv s2 XA=>?_;let(x2,H2,I2,r2,q2):=XA;show thn (hg pins s2 σ H2 x1 x2 ov iv _ I2 r1 r2 q2) λold s3 XA=>?_;let(x3,H3,I3,r3,q3):=XA;show thn (he pins s3 σ H3 _ I3 q3) λv s4 XA=>?_;let(x4,H4,I4,r4,q4):=XA;show thn (hp pins s4 σ H4 x3 x4 old v _ I4 r3 r4 q4) λnew s5 XA=>?_;let(x5,H5,I5,r5,q5):=XA;show thn (hs pins s5 σ H5 x1 x2 x5 ov iv new _ I5 r1 r2 r5 q5) λ_ s6 zz=>by let(H6,I6,q6):=zz;exists σ,H6,I6,q6
def gq(f:Int->Int->Int):(yy):=λx y H Q=>∃i j,x=.int i/\y=.int j/\Q (.int<|f i j) H
def Fi:uN X .Add (gq λi j=>i+j):=by intro pins s σ H x y v u Q I r1 r2 h;let(i,j,e1,e2,q):=h;subst e1;subst e2;let(t,rfl):=r1;let(t',rfl):=r2;show iadd_int {.int _,H,I.tok _,{_,Z},q}
def Fh:uN X .Sub (gq λi j=>i-j):=by intro pins s σ H x y v u Q I r1 r2 h;let(i,j,e1,e2,q):=h;subst e1;subst e2;let(t,rfl):=r1;let(t',rfl):=r2;show isub_int {.int _,H,I.tok _,{_,Z},q}
def Fg(c:TT)(tb:TS):(TS):=λD σ H=>∃W:Nat->St->Hp->Prop,(∃m,W m σ H)/\∀m σ H,W m σ H->
 c σ H λb H1=>if b=true then ∃N:St->Hp->Prop,(∀σ' H',N σ' H'->∃m',m'<m/\W m' σ' H')/\tb {D with nx:=N,ct:=N,bk:=D.nx} σ H1 else D.nx σ H1
def gp{c:Expr}{body:List Stmt}{tc:TT}{tb:TS}(hp:PassesOwn (model X.prog X.w) X.A X.X X.xe)(hc:PT X c tc)(hb:PSs X body tb):PS X (.While c body [] pos) (Fg tc tb):=by
 intro pins s σ H D I h;let(W,(m0,w0),turn):=h;show wpAny_While (codeAny_whileLoop (λn s'=>∃σ' H',Inv X pins σ' H' s'/\W n σ' H') ?_ m0 ⟨σ,H,I,w0⟩);rintro n s1 ⟨σ1,H1,I1,w1⟩;show Kp hp (thn (hc pins s1 σ1 H1 _ I1<|turn n σ1 H1 w1) λb s2 XA=>?_);let(H2,I2,q2):=XA;cases b with
 |true=>
  let(N,hN,q2):=q2;rw[if_pos Z];show Kp hp (thn (hb pins s2 σ1 H2 _ I2 q2) λf s3 q3=>?_);cases f with
  |next=>
   let(σ3,H3,I3,n3):=q3;let(m',hm,w3):=hN σ3 H3 n3;exists m',hm,σ3,H3,I3,w3
  |cont=>
   let(σ3,H3,I3,n3):=q3;let(m',hm,w3):=hN σ3 H3 n3;exists m',hm,σ3,H3,I3,w3
  |brk=>show q3
  |ret v=>show q3
 |false=>
  rw[if_neg Yw];show Nv ⟨σ1,H2,I2,q2⟩
end
structure It where
 go:Nat->Hp->Prop
 yld:Nat->Hp->V->Hp->Prop
 stop:Nat->Hp->Prop
def FpOk(X:Cx)(pins:List (Addr×Obj))(H:Hp)(b:Addr):(Prop):=
 H b=none/\b≠X.X.locals/\b∉X.fs/\(b∈X.ex\/(~~~X.s₀)<=b)/\(∀x c,X.X.cells.M x=some c->c≠b)/\∀p∈X.pn++pins,p.1≠b
def Inv.fpOk{b:Addr}(I:Inv X pins σ H s)(hb:(~~~s)<=b)(hn:H' b=none):FpOk X pins H' b:=by
 exists hn,RV<|Yt I.lt hb,I.nofs hb,.inr<|YB I.sz hb,λx c e z=>?_,λp hp z=>?_
 .let⟨v,q⟩:=I.cell x c e;show absurd (Yt q.lt<|by rwa[z]) (Va _)
 .show absurd (Yt (Ym (I.pin p hp).1)<|by rwa[z]) (Va _)
structure Turn(P:Program)(w:World)(K:Ad)(tg:Expr)(tB:It)(fp:List Addr)(it:Addr)(tn:Nat->Heap->Prop):Prop where
 mem:it∈fp
 obj:∀i h,tn i h->∀b∈fp,∃o,h.D b=some o/\∀v,o.data≠.cell v
 keep:∀i h h',tn i h->(∀b∈fp,∀o,h.D b=some o->h'.D b=some o)->tn i h'
 item:∀(X:Cx),X.prog=P->X.w=w->X.K=K->X.calm=true->∀(i:Nat)(pins:List (Addr×Obj))(s:Shared)(σ:St)(H:Hp)(E:Ae),Inv X pins σ H s->(∀b∈fp,FpOk X pins H b)->tn i s.m->tB.go i H->
  wpAny (model P w) X.A (pyNext<|.ref it) (λr s1=>∃u,r=some u/\
   wpAny (model P w) X.A (letOwnedTupleGo tg ↑it u) (λ_ s2=>∃x H',Inv X pins σ H' s2/\RelV x u/\tB.yld i H x H'/\tn (i+1) s2.m/\∀b∈fp,H' b=none) E s1) E s
 done:∀(X:Cx),X.prog=P->X.w=w->X.K=K->X.calm=true->∀(i:Nat)(pins:List (Addr×Obj))(s:Shared)(σ:St)(H:Hp)(E:Ae),Inv X pins σ H s->(∀b∈fp,FpOk X pins H b)->tn i s.m->tB.stop i H->
  wpAny (model P w) X.A (pyNext<|.ref it) (λr s1=>r=none/\Inv X pins σ H s1) E s
 self:∀(A:Around)(i:Nat)(s:Shared)(Q:Ae)(E:Ae),tn i s.m->Q ↑it s->wpAny (model P w) A (pyIter<|.ref it) Q E s
abbrev TI:=St->Hp->(It->Hp->Prop)->Prop
def gn(X:Cx)(pins:List (Addr×Obj))(σ:St)(tg:Expr)(R:It->Hp->Prop)(uJ:Value)(s2:Shared):(Prop):=
 ∃(it:Addr)(fp:List Addr)(tn:Nat->Heap->Prop)(tB:It)(H':Hp),uJ=.ref it/\Inv X pins σ H' s2/\Turn X.prog X.w X.K tg tB fp it tn/\tn 0 s2.m/\(∀b∈fp,FpOk X pins H' b)/\R tB H'
def PI(X:Cx)(tg iter:Expr)(wi:TI):(Prop):=
 ∀(pins:List (Addr×Obj))(s:Shared)(σ:St)(H:Hp)(R:It->Hp->Prop),Inv X pins σ H s->wi σ H R->
  wpAny (model X.prog X.w) X.A (eval iter X.X) (λv s1=>wpAny (model X.prog X.w) X.A (pyIter v) (gn X pins σ tg R) X.xe s1) X.xe s
def Nn{E:Ae}{s:Shared}{it:Addr}{o:Obj}{n:String}{vs:Array Value}{Q:Unit->Shared->Prop}(ho:s.m.D it=some o)(hc:o.cls=.type n)(hd:o.data=.fields vs)
  (hn:["enumerate","zip","dict_itemiterator","dict_reverseitemiterator","odict_iterator","itertools.zip_longest","itertools.pairwise"].contains n=false)(hQ:Q () s):wpAny M A (letOwnedTupleGo tg ↑it u) Q E s:=by
 unfold letOwnedTupleGo;cases tg<;>first
  |show Yg hQ
  | (cases u<;>first
    |show Yg hQ
    | (show XY (FI ho ?_)
       rw[hc,hd];change wpAny M A (if (["enumerate","zip","dict_itemiterator","dict_reverseitemiterator","odict_iterator","itertools.zip_longest","itertools.pairwise"].contains n&&vs[0]? == some (rawInt _))=true then _ else _) Q E s
       rw[if_neg (by intro h;rw[hn,Bool.false_and]at h;cases h)];show Yg hQ))
def PU(K:Ad)(a:Addr):(It):=
 {λi H=>∃xs x,SqL K H a xs/\xs[i]?=some x,λi H x H'=>H'=H/\∀xs,SqL K H a xs->xs[i]?=some x,λi H=>∃xs,SqL K H a xs/\xs.f<=i}
def PR(K:Ad)(a:Addr):(It):=
 {λi H=>∃xs x,SqT K H a xs/\xs[i]?=some x,λi H x H'=>H'=H/\∀xs,SqT K H a xs->xs[i]?=some x,λi H=>∃xs,SqT K H a xs/\xs.f<=i}
def Lw(lo:Int)(n:Nat):(It):={λi _=>i<n,λi H x H'=>H'=H/\x=.int (lo+i),λi _=>n<=i}
def gm{P:Program}{w:World}{K:Ad}{tg:Expr}(a it:Addr):Turn P w K tg (PU K a) [it] it (λi h=>h.IsListIter it a i) where
 mem:=AP
 obj:=λi h st b hb=>by
  let e:b=it:=by simpa using hb
  subst e;let(o,e,c,d):=st;exists o,e,λv z=>by rw[d]at z;cases z
 keep:=λi h h' st k=>st.at λo e=>k it AP o e
 item:=by
  intro X hP hw hK hc i pins s σ H E I hf st hg;subst hP hw hK;let(xs,x,hq,hx):=hg;let(XX,rv,p,hz):=I.list hq;let(u,hu,ru):=rv.get hx;let(f0,f1,f2,f3,f4,f5):=hf it AP;show wpAny_pyNext_list_item st p.isList (x:=u) (by simpa using hu) λh' XF sb=>?_;let I1:Inv X pins σ H {s with heap:=h'}:=I.turned (t':=s.toks) (λb o hb e=>(sb.2 b hb).l e) f0 f1 f3 f4 f5
  let(o,e,c,d):=id XF;exists u,Z,Nn (s:={s with heap:=h'}) e c d vg {x,H,I1,ru,{Z,λys hy=>by rwa[I.list_inj hy hq]},XF,λb hb=>(hf b hb).1}
 done:=by
  intro X hP hw hK hc i pins s σ H E I hf st hg;subst hP hw hK;let(xs,hq,hx):=hg;let(XX,rv,p,hz):=I.list hq;let(f0,f1,f2,f3,f4,f5):=hf it AP;let hl:=rv.f
  show wpAny_pyNext_list_end (I.ok.hd hc) st p.isList (by simp;lia) λh' eb=>{Z,I.turned (t':=s.toks) (λb o hb e=>eb b o hb e) f0 f1 f3 f4 f5}
 self:=λ_ _ _ _ _ st h=>wpAny_pyIter_listiter st h
def gk{P:Program}{w:World}{K:Ad}{tg:Expr}(a it:Addr):Turn P w K tg (PR K a) [it] it (λi h=>h.IsTupleIter it a i) where
 mem:=AP
 obj:=λi h st b hb=>by
  let e:b=it:=by simpa using hb
  subst e;let(o,e,c,d):=st;exists o,e,λv z=>by rw[d]at z;cases z
 keep:=λi h h' st k=>st.at λo e=>k it AP o e
 item:=by
  intro X hP hw hK hc i pins s σ H E I hf st hg;subst hP hw hK;let(xs,x,hq,hx):=hg;let(XX,rv,p,hz):=I.tuple hq;let(u,hu,ru):=rv.get hx;let(f0,f1,f2,f3,f4,f5):=hf it AP;show wpAny_pyNext_tuple_item st (show s.m.IsTuple a XX.o from p) (x:=u) (by simpa using hu) λh' XF sb=>?_;let I1:Inv X pins σ H {s with heap:=h'}:=I.turned (t':=s.toks) (λb o hb e=>(sb.2 b hb).l e) f0 f1 f3 f4 f5
  let(o,e,c,d):=id XF;exists u,Z,Nn (s:={s with heap:=h'}) e c d vg {x,H,I1,ru,{Z,λys hy=>by rwa[I.tuple_inj hy hq]},XF,λb hb=>(hf b hb).1}
 done:=by
  intro X hP hw hK hc i pins s σ H E I hf st hg;subst hP hw hK;let(xs,hq,hx):=hg;let(XX,rv,p,hz):=I.tuple hq;let(f0,f1,f2,f3,f4,f5):=hf it AP;let hl:=rv.f
  show wpAny_pyNext_tuple_end (I.ok.hd hc) st (show s.m.IsTuple a XX.o from p) (by simp;omega) λh' eb=>{Z,I.turned (t':=s.toks) (λb o hb e=>eb b o hb e) f0 f1 f3 f4 f5}
 self:=λ_ _ _ _ _ st h=>wpAny_pyIter_tupleiter st h
def Zd6{P:Program}{w:World}{K:Ad}{tg:Expr}(it:Addr)(lo:Int)(n:Nat):Turn P w K tg (Lw lo n) [it] it (λi h=>IsRangeIter h it (lo+(i:Nat)*1) ((n:Int)-(i:Nat)) 1) where
 mem:=AP
 obj:=λi h st b hb=>by
  let e:b=it:=by simpa using hb
  subst e;exists _,st,λv z=>by let z':Data.fields _=Data.cell v:=z;cases z'
 keep:=λi h h' st k=>k it AP _ st
 item:=by
  intro X hP hw hK hc i pins s σ H E I hf st hg;subst hP hw hK;let(f0,f1,f2,f3,f4,f5):=hf it AP;let W:=Walks.range (prog:=X.prog) (w:=X.w) (I.ok.hd hc) it lo 1 n
  show W.item i s _ _ hg st λv h' tk hv XF kk=>?_;let(t,rfl):=hv;let I1:Inv X pins σ H {s with heap:=h',toks:=tk}:=I.turned (λb o hb e=>kk b o (by simpa using hb) e) f0 f1 f3 f4 f5
  exists _,Z,Nn (s:={s with heap:=h',toks:=tk}) (n:="range_iterator") XF Z Z vg {.int<|lo+i,H,I1,{t,?_},⟨Z,Z⟩,XF,λb hb=>(hf b hb).1};rw[Nx]
 done:=by intro X hP hw hK hc i pins s σ H E I hf st hg;subst hP hw hK;let(f0,f1,f2,f3,f4,f5):=hf it AP;show wpAny_pyNext_range_end (I.ok.hd hc) st (by have:n<=i:=hg;lia) λh' eb=>{Z,I.turned (t':=s.toks) (λb o hb e=>eb b o hb e) f0 f1 f3 f4 f5}
 self:=λ_ _ _ _ _ st h=>wpAny_pyIter_rangeiter st h
section
variable{X:Cx}{tg:Expr}
inductive xList(K:Ad)(x:V)(H1:Hp)(R:It->Hp->Prop):Prop
 |mk (a:_) (_:x=.ref a) (_:∃xs,SqL K H1 a xs) (_:R (PU K a) H1)
def Ff(K:Ad)(tl:TE):(TI):=λσ H R=>tl σ H λx H1=>xList K x H1 R
inductive xTpl(K:Ad)(x:V)(H1:Hp)(R:It->Hp->Prop):Prop
 |mk (a:_) (_:x=.ref a) (_:∃xs,SqT K H1 a xs) (_:R (PR K a) H1)
def Fe(K:Ad)(tl:TE):(TI):=λσ H R=>tl σ H λx H1=>xTpl K x H1 R
def uI{l:Expr}{tl:TE}(hl:PE X l tl):PI X tg l (Ff X.K tl):=by
 intro pins s σ H R I h;show thn (hl pins s σ H _ I h) λv s1 XA=>?_;let(x,H1,I1,r1,q1):=XA;let(a,e,(xs,hq),q):=q1;subst e;cases r1;let(XX,rv,p,hz):=I1.list hq;show Hw p.isList ?_;exists (~~~s1),[(~~~s1)],_,_,H1,Z,I1.kept (t':=s1.toks) λb o e=>Xo _ e,gm a _,{_,Yi _ Z,Z,Z},λb hb=>?_,q;let e:b=(~~~s1):=by simpa using hb
 subst e;show I1.fpOk (XQ _) (I1.hok.fresh<|XQ _)
def uH{l:Expr}{tl:TE}(hl:PE X l tl):PI X tg l (Fe X.K tl):=by
 intro pins s σ H R I h;show thn (hl pins s σ H _ I h) λv s1 XA=>?_;let(x,H1,I1,r1,q1):=XA;let(a,e,(xs,hq),q):=q1;subst e;cases r1;let(XX,rv,p,hz):=I1.tuple hq;show HD (show s1.m.IsTuple a XX.o from p) ?_;exists (~~~s1),[(~~~s1)],_,_,H1,Z,I1.kept (t':=s1.toks) λb o e=>Xo _ e,gk a _,{_,Yi _ Z,Z,Z},λb hb=>?_,q;let e:b=(~~~s1):=by simpa using hb
 subst e;show I1.fpOk (XQ _) (I1.hok.fresh<|XQ _)
def gj{R:It->Hp->Prop}{E:Ae}{lo hi:Int}{t u v:Tok}{tk:Nat}(I:Inv X pins σ H s)(h1:-(2^62)<=lo)(h2:lo<2^62)(h3:-(2^62)<=hi)(h4:hi<2^62)
  (q:R (Lw lo (hi-lo).j) H):wpAny (model X.prog X.w) X.A (pyIter<|.ref (~~~s)) (gn X pins σ tg R) E {s with heap:=s.m.push {cls:=.type "range",data:=.fields #[.int lo t,.int hi u,.int 1 v]},toks:=tk}:=by
 show wpAny_pyIter_range (IsRange.new ..) (small_one h1 h2 h3 h4) ?_;let I1:Inv X pins σ H {s with heap:=s.m.push {cls:=.type "range",data:=.fields #[.int lo t,.int hi u,.int 1 v]},toks:=tk}:=I.kept λb o e=>Xo _ e
 show⟨(s.m.push {cls:=.type "range",data:=.fields #[.int lo t,.int hi u,.int 1 v]}).objs.t,[(s.m.push {cls:=.type "range",data:=.fields #[.int lo t,.int hi u,.int 1 v]}).objs.t],_,_,H,Z,
  I1.kept (t':=tk) λb o e=>Xo _ e,Zd6 _ lo (hi-lo).j,?_,λb hb=>?_,q⟩
 .let e1:lo+((0:Nat):Int)*1=lo:=AP;let e2:(((hi-lo).j:Nat):Int)-((0:Nat):Int)=Builtin.Range.rangeSize lo hi 1:=by rw[rangeSize_one];split<;>grind
  change IsRangeIter _ _ (lo+((0:Nat):Int)*1) ((((hi-lo).j:Nat):Int)-((0:Nat):Int)) 1;rw[e1,e2];show Yi _ rfl
 .let e:b=(s.m.push {cls:=.type "range",data:=.fields #[.int lo t,.int hi u,.int 1 v]}).objs.t:=by simpa using hb
  subst e;show I1.fpOk (XQ _) (I1.hok.fresh<|XQ _)
inductive xRng(vs:List V)(H1:Hp)(R:It->Hp->Prop):Prop
 |mk (j:Int) (_:vs=[.int j]) (_:-(2^62)<=j) (_:j<2^62) (_:R (Lw 0 j.j) H1)
def uG(ta:TA):(TI):=λσ H R=>ta σ H λvs H1=>xRng vs H1 R
def uF(ta:TA):(TI):=λσ H R=>ta σ H λvs H1=>∃i j:Int,vs=[.int i,.int j]/\(-(2^62)<=i/\i<2^62/\-(2^62)<=j/\j<2^62)/\R (Lw i (j-i).j) H1
def ZP{a:Expr}{ta:TA}{p pos:Pos}(hg:Gl X "range")(hm:X.mg "range"=none)(ha:PA X [a] ta)(hs:starEach [a] X.X=[(false,eval a X.X)]:=by rfl):PI X tg (.Call (.Name "range" p) [a] [] pos) (uG ta):=by
 intro pins s σ H R I h;show Call_ (Rg I hg hm boot_range<|TX (thn (ha pos pins s σ H _ I h) λus s1 XA=>?_) hs Z);let(vs,H1,I1,r1,q1):=XA;let(j,e,q1,q2,q):=q1;subst e;cases r1 with
 |cons r rr=>
  cases rr;let(t,rfl):=r;show call_range_1 (gj I1 J B q1 q2<|by simpa using q)
def Zn8{a b:Expr}{ta:TA}{p pos:Pos}(hg:Gl X "range")(hm:X.mg "range"=none)(ha:PA X [a,b] ta)(hs:starEach [a,b] X.X=[(false,eval a X.X),(false,eval b X.X)]:=by rfl)(VG:starEach [b] X.X=[(false,eval b X.X)]:=by rfl):
  PI X tg (.Call (.Name "range" p) [a,b] [] pos) (uF ta):=by
 intro pins s σ H R I h;show Call_ (Rg I hg hm boot_range<|TX (thn (ha pos pins s σ H _ I h) λus s1 zz=>?_) (by rw[hs,VG])<|by rw[VG];rfl);let(vs,H1,I1,r1,q1):=zz;let(i,j,e,(q1,q2,q3,q4),q):=q1;subst e;cases r1 with
 |cons r rr=>
  cases rr with
  |cons r' rr=>
   cases rr;let(t,rfl):=r;let(t',rfl):=r';show call_range_2 (gj I1 q1 q2 q3 q4 q)
def uE(wi:TI)(g:TG)(tb:TS):(TS):=λD σ H=>wi σ H λtB H1=>∃W:Nat->Nat->St->Hp->Prop,(∃m,W 0 m σ H1)/\∀i m σ H,W i m σ H->
 (tB.stop i H/\D.nx σ H)\/(tB.go i H/\∃N:St->Hp->Prop,(∀σ' H',N σ' H'->∃m',m'<m/\W (i+1) m' σ' H')/\∀x H',tB.yld i H x H'->g x σ H' λσ2 H2=>tb {D with nx:=N,ct:=N,bk:=D.nx} σ2 H2)
def Nm(fp:List Addr)(h:Heap):(List (Addr×Obj)):=fp.filterMap λb=>(h.D b).H λo=>(b,o)
def yt{b:Addr}{o:Obj}(hb:b∈fp)(e:h.D b=some o):(b,o)∈Nm fp h:=List.mem_filterMap.L {b,hb,by rw[e];rfl}
def gh{p:Addr×Obj}(hp:p∈Nm fp h):p.1∈fp/\h.D p.1=some p.2:=by
 let(b,hb,e):=List.mem_filterMap.G hp;cases q:h.D b with
 |none=>rw[q]at e;cases e
 |some o=>
  rw[q]at e;let e':(b,o)=p:=Ya e
  subst e';exists hb,q
def Inv.pinned(I:Inv X pins σ H s)(hf:∀b∈fp,FpOk X pins H b)(ho:∀b∈fp,∃o,s.m.D b=some o/\∀v,o.data≠.cell v):Inv X (pins++Nm fp s.m) σ H s:=
 I.pins_of λp hp=>(Yb.G hp).elim (λz=>I.pin p<|Yh _ z) λz=>by let(hb,e):=gh z;let(f0,f1,f2,_):=hf p.1 hb;let(o,e',d):=ho p.1 hb;rw[e]at e';cases e';exists e,f0,f1,f2,d
def Inv.unpinned{pins pl:List (Addr×Obj)}(I:Inv X (pins++pl) σ H s):Inv X pins σ H s:=I.pins_of λp hp=>I.pin p (Yh _<|Yn _ hp)
def Uu{iter:Expr}{body:List Stmt}{wi:TI}{g:TG}{tb:TS}{pos:Pos}(hp:PassesOwn (model X.prog X.w) X.A X.X X.xe)(hc:X.calm=true)(hi:PI X tg iter wi)(hg:PG X tg g)(hb:PSs X body tb)
  (hs:∀x,foldedSetIterable iter X.X x=pure x:=by intro _;rfl):PS X (.For tg iter body [] pos) (uE wi g tb):=by
 intro pins s σ H D I h;show wpAny_For (thn (hi pins s σ H _ I h) λv s1 h1=>thn h1 λuJ s2 h2=>?_) hs;let(it,fp,tn,tB,H2,e,I2,T,VI,f2,W,(m0,w0),turn):=h2;subst e;let JW:∀{H':Hp},(∀b∈fp,H' b=none)->∀b∈fp,FpOk X pins H' b:=λhn b hb=>{hn b hb,(f2 b hb).2}
 show codeAny_forLoop_any (λn s'=>∃i σ' H',Inv X pins σ' H' s'/\tn i s'.m/\(∀b∈fp,H' b=none)/\W i n σ' H') ?_ m0 {0,σ,H2,I2,VI,λb hb=>(f2 b hb).1,w0};rintro n s3 ⟨i,σ3,H3,I3,Wk,gf,w3⟩;rcases turn i n σ3 H3 w3 with ⟨stop,qn⟩|⟨go,N,hN,step⟩
 .show Kp hp (thn (T.done X Z Z Z hc i pins s3 σ3 H3 X.xe I3 (JW gf) Wk stop) λr s4 zz=>?_);let(hr,I4):=zz;subst hr;show Nv ⟨σ3,H3,I4,qn⟩
 .show Kp hp (thn (T.item X Z Z Z hc i pins s3 σ3 H3 X.xe I3 (JW gf) Wk go) λr s4 XA=>?_);let(u,hr,h4):=XA;subst hr;show Kp hp (thn h4 λ_ s5 XA=>?_);let(x,H5,I5,r5,y5,To,uD):=XA;let uC:=I5.pinned (JW uD) (T.obj _ _ To)
  show Kp hp (thn (hg _ s5 σ3 H5 x u _ uC r5<|step x H5 y5) λ_ s6 XA=>?_);let(σ6,H6,I6,q6):=XA;show Kp hp (thn (hb _ s6 σ6 H6 _ I6 q6) λf s7 q7=>?_);let again:∀{σ7:St}{H7:Hp},Inv X (pins++Nm fp s5.m) σ7 H7 s7->N σ7 H7->∃m,m<n/\∃i σ' H',Inv X pins σ' H' s7/\tn i s7.m/\(∀b∈fp,H' b=none)/\W i m σ' H':=λ{σ7 H7} I7 n7=>by let(m',hm,w7):=hN σ7 H7 n7;exists m',hm,i+1,σ7,H7,I7.unpinned,T.keep _ _ _ To λb hb o e=>(I7.pin (b,o)<|Yh _<|Yh _<|yt hb e).1,λb hb=>?_,w7;let(o,e,d):=T.obj _ _ To b hb;show(I7.pin (b,o)<|Yh _<|Yh _<|yt hb e).2.1
  cases f with
  |next=>let(σ7,H7,I7,n7):=q7;show again I7 n7
  |cont=>let(σ7,H7,I7,n7):=q7;show again I7 n7
  |brk=>let(σ7,H7,I7,q7):=q7;exists σ7,H7,I7.unpinned,q7
  |ret v=>let(x7,σ7,H7,I7,r7,q7):=q7;exists x7,σ7,H7,I7.unpinned,r7,q7
end
def Fd{K:Ad}{a:Addr}{xs:List V}{g:TG}{tb:TS}{D:Ends}{σ:St}{H:Hp}(Pv:Nat->St->Hp->Prop)(h0:Pv 0 σ H)(hl:∀i σ H,i<=xs.f->Pv i σ H->SqL K H a xs)
  (hs:∀i x σ H,xs[i]?=some x->Pv i σ H->g x σ H λσ2 H2=>tb {D with nx:=Pv<|i+1,ct:=Pv<|i+1,bk:=D.nx} σ2 H2)(hd:∀σ H,Pv xs.f σ H->D.nx σ H):
  ∃W:Nat->Nat->St->Hp->Prop,(∃m,W 0 m σ H)/\∀i m σ H,W i m σ H->
   ((PU K a).stop i H/\D.nx σ H)\/((PU K a).go i H/\∃N:St->Hp->Prop,(∀σ' H',N σ' H'->∃m',m'<m/\W (i+1) m' σ' H')/\∀x H',(PU K a).yld i H x H'->g x σ H' λσ2 H2=>tb {D with nx:=N,ct:=N,bk:=D.nx} σ2 H2):=by
 exists λi m σ H=>m=xs.f-i/\i<=xs.f/\Pv i σ H,{xs.f,AP,Yl _,h0},?_;rintro i m σ H ⟨rfl,hi,p⟩;let q:=hl i σ H hi p
 cases Xt:i<xs.f
 .show .inr {{xs,xs[i],q,by simp[Xt]},Pv<|i+1,λσ' H' p'=>{xs.f-(i+1),B,Z,Xt,p'},λx H' y=>?_};let(e,y):=y;subst e;show hs i x σ _ (y xs q) p
 .let e:i=xs.f:=J;subst e;show .inl {{xs,q,XQ _},hd σ H p}
def uB{K:Ad}{a:Addr}{xs:List V}{g:TG}{tb:TS}{D:Ends}{σ:St}{H:Hp}(Pv:Nat->St->Hp->Prop)(h0:Pv 0 σ H)(hl:∀i σ H,i<=xs.f->Pv i σ H->SqT K H a xs)
  (hs:∀i x σ H,xs[i]?=some x->Pv i σ H->g x σ H λσ2 H2=>tb {D with nx:=Pv<|i+1,ct:=Pv<|i+1,bk:=D.nx} σ2 H2)(hd:∀σ H,Pv xs.f σ H->D.nx σ H):
  ∃W:Nat->Nat->St->Hp->Prop,(∃m,W 0 m σ H)/\∀i m σ H,W i m σ H->
   ((PR K a).stop i H/\D.nx σ H)\/((PR K a).go i H/\∃N:St->Hp->Prop,(∀σ' H',N σ' H'->∃m',m'<m/\W (i+1) m' σ' H')/\∀x H',(PR K a).yld i H x H'->g x σ H' λσ2 H2=>tb {D with nx:=N,ct:=N,bk:=D.nx} σ2 H2):=by
 exists λi m σ H=>m=xs.f-i/\i<=xs.f/\Pv i σ H,{xs.f,AP,Yl _,h0},?_;rintro i m σ H ⟨rfl,hi,p⟩;let q:=hl i σ H hi p
 cases Xt:i<xs.f
 .show .inr {{xs,xs[i],q,by simp[Xt]},Pv<|i+1,λσ' H' p'=>{xs.f-(i+1),B,Z,Xt,p'},λx H' y=>?_};let(e,y):=y;subst e;show hs i x σ _ (y xs q) p
 .let e:i=xs.f:=B;subst e;show .inl {{xs,q,XQ _},hd σ H p}
def Tn{lo:Int}{n:Nat}{g:TG}{tb:TS}{D:Ends}{σ:St}{H:Hp}(Pv:Nat->St->Hp->Prop)(h0:Pv 0 σ H)
  (hs:∀i σ H,i<n->Pv i σ H->g (.int<|lo+i) σ H λσ2 H2=>tb {D with nx:=Pv<|i+1,ct:=Pv<|i+1,bk:=D.nx} σ2 H2)(hd:∀σ H,Pv n σ H->D.nx σ H):
  ∃W:Nat->Nat->St->Hp->Prop,(∃m,W 0 m σ H)/\∀i m σ H,W i m σ H->
   ((Lw lo n).stop i H/\D.nx σ H)\/((Lw lo n).go i H/\∃N:St->Hp->Prop,(∀σ' H',N σ' H'->∃m',m'<m/\W (i+1) m' σ' H')/\∀x H',(Lw lo n).yld i H x H'->g x σ H' λσ2 H2=>tb {D with nx:=N,ct:=N,bk:=D.nx} σ2 H2):=by
 exists λi m σ H=>m=n-i/\i<=n/\Pv i σ H,{n,AP,Yl _,h0},?_;rintro i m σ H ⟨rfl,hi,p⟩;cases Xt:i<n
 .show .inr {Xt,Pv<|i+1,λσ' H' p'=>{n-(i+1),B,Z,Xt,p'},λx H' y=>?_};let(e,y):=y;subst e y;show hs i σ _ Xt p
 .let e:i=n:=J;subst e;show .inl {XQ _,hd σ H p}
abbrev R2:=V->V->Hp->VK->Prop
def Wx(X:Cx)(f:Value->Value->Sem Value)(r:R2):(Prop):=
 ∀(pins:List (Addr×Obj))(s:Shared)(σ:St)(H:Hp)(x y:V)(v u:Value)(Q:VK),Inv X pins σ H s->RelV x v->RelV y u->r x y H Q->
  wpAny (model X.prog X.w) X.A (f v u) (EP X pins σ Q) X.xe s
def uA(X:Cx)(f:Value->Sem Value)(r:V->Hp->VK->Prop):(Prop):=
 ∀(pins:List (Addr×Obj))(s:Shared)(σ:St)(H:Hp)(x:V)(v:Value)(Q:VK),Inv X pins σ H s->RelV x v->r x H Q->
  wpAny (model X.prog X.w) X.A (f v) (EP X pins σ Q) X.xe s
def Vf(X:Cx)(f:Value)(r:List V->Hp->VK->Prop):(Prop):=
 ∀(pins:List (Addr×Obj))(s:Shared)(σ:St)(H:Hp)(xs:List V)(us:Ag)(Q:VK),Inv X pins σ H s->Vals xs us->r xs H Q->
  wpAny (model X.prog X.w) X.A (call f us) (EP X pins σ Q) X.xe s
def Fc(r:R2)(ta tb:TE):(TE):=λσ H Q=>ta σ H λx H1=>tb σ H1 λy H2=>r x y H2 Q
def tUn(r:V->Hp->VK->Prop)(ta:TE):(TE):=λσ H Q=>ta σ H λx H1=>r x H1 Q
inductive rI(C:Int->Int->Prop)(g:Int->Int->V)(x:V)(y:V)(H:Hp)(Q:VK):Prop
 |mk (i j:_) (_:x=.int i) (_:y=.int j) (_:C i j) (_:Q (g i j) H)
inductive rI0(g:Int->Int->V)(x:V)(y:V)(H:Hp)(Q:VK):Prop
 |mk (i j:_) (_:x=.int i) (_:y=.int j) (_:Q (g i j) H)
inductive rU(g:Int->V)(x:V)(H:Hp)(Q:VK):Prop
 |mk (i:_) (_:x=.int i) (_:Q (g i) H)
section
variable{X:Cx}{a b:Expr}{ta tb:TE}{pos:Pos}
def JV(ha:PE X a ta)(hb:PE X b tb){pins:List (Addr×Obj)}{s:Shared}{σ:St}{H:Hp}{R:V->V->Hp->Prop}(I:Inv X pins σ H s)
  (h:ta σ H λx H1=>tb σ H1 λy H2=>R x y H2){Q:Ae}{f:Value->Value->Sem Value}
  (hf:∀v u s2 x y H2,Inv X pins σ H2 s2->RelV x v->RelV y u->R x y H2->wpAny (model X.prog X.w) X.A (f v u) Q X.xe s2):
  wpAny (model X.prog X.w) X.A (eval a X.X) (λv s₁=>wpAny (model X.prog X.w) X.A (eval b X.X) (λu s₂=>wpAny (model X.prog X.w) X.A (f v u) Q X.xe s₂) X.xe s₁) X.xe s:=by show thn (ha pins s σ H _ I h) λv s1 XA=>?_;let(x,H1,I1,r1,q1):=XA;show thn (hb pins s1 σ H1 _ I1 q1) λu s2 XA=>?_;let(y,H2,I2,r2,q2):=XA;show hf v u s2 x y H2 I2 r1 r2 q2
def Zt(ho:Wx X (binaryOp op) r)(ha:PE X a ta)(hb:PE X b tb):PE X (.BinOp a op b pos) (Fc r ta tb):=by intro pins s σ H Q I h;show wpAny_BinOp (JV ha hb I h λv u s2 x y H2 I2 rx ry q=>ho pins s2 σ H2 x y v u Q I2 rx ry q)
def Fb{op:UnaryOp}{r:V->Hp->VK->Prop}(ho:uA X (unaryOp op) r)(ha:PE X a ta):PE X (.UnaryOp op a pos) (tUn r ta):=by intro pins s σ H Q I h;show UnaryOp_ (thn (ha pins s σ H _ I h) λv s1 zz=>by let(x,H1,I1,r1,q1):=zz;show ho pins s1 σ H1 x v Q I1 r1 q1)
def Hn{f:Value->Value->Sem Value}{C:Int->Int->Prop}{g:Int->Int->Int}
  (rule:∀(i j:Int)(t u:Tok)(s:Shared)(Q:Ae)(E:Ae),C i j->Q (.int (g i j) s.toks) {s with toks:=s.toks+1}->wpAny (model X.prog X.w) X.A (f (.int i t)<|.int j u) Q E s):
  Wx X f (rI C λi j=>.int<|g i j):=by intro pins s σ H x y v u Q I rx ry h;let(i,j,rfl,rfl,hc,q):=h;let(t,rfl):=rx;let(t',rfl):=ry;show rule i j t t' s _ _ hc {.int<|g i j,H,I.tok _,{_,Z},q}
def EZ{f:Value->Value->Sem Value}{g:Int->Int->Int}
  (rule:∀(i j:Int)(t u:Tok)(s:Shared)(Q:Ae)(E:Ae),Q (.int (g i j) s.toks) {s with toks:=s.toks+1}->wpAny (model X.prog X.w) X.A (f (.int i t)<|.int j u) Q E s):
  Wx X f (rI0 λi j=>.int<|g i j):=by intro pins s σ H x y v u Q I rx ry h;let(i,j,rfl,rfl,q):=h;let(t,rfl):=rx;let(t',rfl):=ry;show rule i j t t' s _ _ {.int<|g i j,H,I.tok _,{_,Z},q}
def JU{f:Value->Value->Sem Value}{g:Int->Int->Bool}
  (rule:∀(i j:Int)(t u:Tok)(s:Shared)(Q:Ae)(E:Ae),Q (.bool<|g i j) s->wpAny (model X.prog X.w) X.A (f (.int i t)<|.int j u) Q E s):
  Wx X f (rI0 λi j=>.bl<|g i j):=by intro pins s σ H x y v u Q I rx ry h;let(i,j,rfl,rfl,q):=h;let(t,rfl):=rx;let(t',rfl):=ry;show rule i j t t' s _ _ {.bl<|g i j,H,I,Z,q}
def EY(i j:Int):(Prop):=0<j/\j<1073741824
def uz(i j:Int):(Prop):=0<=j/\j<=1000000/\i.natAbs<2^64
def CMul(i j:Int):(Prop):=(-(2^64)<i/\i<2^64)\/(-(2^64)<j/\j<2^64)
def CMul.ok(h:CMul i j):IntMulOk i j:=by
 rcases h with ⟨h1,h2⟩|⟨h1,h2⟩
 .show .of_left (intBits_le_64 h1 h2)
 .show .of_right (intBits_le_64 h1 h2)
def Sv:Wx X (binaryOp .Add) (rI0 λi j=>.int (i+j)):=EZ λ_ _ _ _ _ _ _ q=>add_int q
def Lv:Wx X (binaryOp .Sub) (rI0 λi j=>.int (i-j)):=EZ λ_ _ _ _ _ _ _ q=>sub_int q
def Og:Wx X (binaryOp .Mult) (rI CMul λi j=>.int (i*j)):=Hn λ_ _ _ _ _ _ _ hc q=>mul_int q hc.ok
def Nl:Wx X (binaryOp .FloorDiv) (rI EY λi j=>.int (i/j)):=Hn λi j _ _ _ _ _ hc q=>by
 let h1:(0:Int)<j:=hc.1;let h2:j<1073741824:=hc.2
 show floordiv_int J (by rwa[gR i J]) (.inl<|PyProof.noPylong_small B)
def ZW:Wx X (binaryOp .Mod) (rI (λ_ j=>0<j) λi j=>.int (i%j)):=Hn λi j _ _ _ _ _ hc q=>by let h1:(0:Int)<j:=hc;show mod_int' B (by rwa[Int.fmod_eq_emod_of_nonneg i J])
def Lu:Wx X (binaryOp .Pow) (rI uz λi j=>.int (i^j.j)):=Hn λ_ _ _ _ _ _ _ hc q=>pow_int_small hc.1 hc.2.1 hc.2.2 q
def unI{f:Value->Sem Value}{g:Int->Int}
  (rule:∀(i:Int)(t:Tok)(s:Shared)(Q:Ae)(E:Ae),Q (.int (g i) s.toks) {s with toks:=s.toks+1}->wpAny (model X.prog X.w) X.A (f<|.int i t) Q E s):
  uA X f (rU λi=>.int<|g i):=by intro pins s σ H x v Q I rx h;let(i,rfl,q):=h;let(t,rfl):=rx;show rule i t s _ _ {.int<|g i,H,I.tok _,{_,Z},q}
def Lr:uA X (unaryOp .USub) (rU λi=>.int (-i)):=unI λ_ _ _ _ _ q=>neg_int q
end
def EX:(V->V->Bool)
 | .non,.non=>true | .non,.int _=>true | .int _,.non=>true | .non,.bl _=>true | .bl _,.non=>true | .non,.str _=>true | .str _,.non=>true
 | .int _,.int _=>true | .bl _,.bl _=>true | .str _,.str _=>true | .byt _,.byt _=>true
 | .int _,.str _=>true | .str _,.int _=>true | .bl _,.str _=>true | .str _,.bl _=>true
 |_,_=>false
inductive rEq(x:V)(y:V)(H:Hp)(Q:VK):Prop
 |mk  (_:EX x y=true) (_:Q (.bl<|decide<|x=y) H)
inductive rNe(x:V)(y:V)(H:Hp)(Q:VK):Prop
 |mk  (_:EX x y=true) (_:Q (.bl<|!decide (x=y)) H)
def ZO:decide (V.int i=V.int j)=(i == j):=by rw[Rt];simp
def EW:decide (V.bl i=V.bl j)=(i == j):=by rw[Rt];simp
def gd:decide (V.str i=V.str j)=(i == j):=by rw[Rt];simp
def gc:decide (V.byt i=V.byt j)=(i.C == j.C):=by rw[Rt];cases i;cases j;simp
section
variable{X:Cx}{a b c:Expr}{ta tb tc:TE}{pos:Pos}
def ZK{k k':Bool}(I:Inv X pins σ H s)(q:Q (.bl k) H)(e:k=k'):EP X pins σ Q (.bool k') s:=by subst e;exists .bl k,H,I,Z,q
def PQ:Wx X (compareOp .Eq) rEq:=by
 intro pins s σ H x y v u Q I rx ry h;let(hs,q):=h;cases x with
 |non=>
  cases rx;cases y with
  |non=>cases ry;show PySem.EqNone.eq_none_none (ZK I q AP)
  |bl j=>cases ry;show PySem.EqNone.eq_none_bool (ZK I q AP)
  |int j=>let(t',rfl):=ry;show PySem.EqNone.eq_none_int (ZK I q AP)
  |str j=>let(t',rfl):=ry;show PySem.EqNone.eq_none_str (ZK I q AP)
  |_=>show absurd (show false=true from hs) Yw
 |bl i=>
  cases rx;cases y with
  |non=>cases ry;show PySem.EqNone.eq_bool_none (ZK I q AP)
  |bl j=>cases ry;show eq_bool (ZK I q EW)
  |str j=>let(t',rfl):=ry;show PySem.EqMixed.eq_bool_str (ZK I q AP)
  |_=>show absurd (show false=true from hs) Yw
 |int i=>
  let(t,rfl):=rx;cases y with
  |non=>cases ry;show PySem.EqNone.eq_int_none (ZK I q AP)
  |int j=>let(t',rfl):=ry;show eq_int (ZK I q ZO)
  |str j=>let(t',rfl):=ry;show PySem.EqMixed.eq_int_str (ZK I q AP)
  |_=>show absurd (show false=true from hs) Yw
 |str i=>
  let(t,rfl):=rx;cases y with
  |non=>cases ry;show PySem.EqNone.eq_str_none (ZK I q AP)
  |bl j=>cases ry;show PySem.EqMixed.eq_str_bool (ZK I q AP)
  |int j=>let(t',rfl):=ry;show PySem.EqMixed.eq_str_int (ZK I q AP)
  |str j=>let(t',rfl):=ry;show eq_str (ZK I q gd)
  |_=>show absurd (show false=true from hs) Yw
 |byt i=>
  let(t,rfl):=rx;cases y with
  |byt j=>let(t',rfl):=ry;show PySem.W.eq_bytes (ZK I q gc)
  |_=>show absurd (show false=true from hs) Yw
 |_=>cases y<;>show absurd (show false=true from hs) Yw
def Vr:Wx X (compareOp .NotEq) rNe:=by
 intro pins s σ H x y v u Q I rx ry h;let(hs,q):=h;cases x with
 |non=>
  cases rx;cases y with
  |non=>cases ry;show PySem.EqNone.ne_none_none (ZK I q AP)
  |bl j=>cases ry;show PySem.EqNone.ne_none_bool (ZK I q AP)
  |int j=>let(t',rfl):=ry;show PySem.EqNone.ne_none_int (ZK I q AP)
  |str j=>let(t',rfl):=ry;show PySem.EqNone.ne_none_str (ZK I q AP)
  |_=>show absurd (show false=true from hs) Yw
 |bl i=>
  cases rx;cases y with
  |non=>cases ry;show PySem.EqNone.ne_bool_none (ZK I q AP)
  |bl j=>cases ry;show ne_bool (ZK I q<|YZ not EW)
  |str j=>let(t',rfl):=ry;show PySem.EqMixed.ne_bool_str (ZK I q AP)
  |_=>show absurd (show false=true from hs) Yw
 |int i=>
  let(t,rfl):=rx;cases y with
  |non=>cases ry;show PySem.EqNone.ne_int_none (ZK I q AP)
  |int j=>let(t',rfl):=ry;show ne_int (ZK I q<|YZ not ZO)
  |str j=>let(t',rfl):=ry;show PySem.EqMixed.ne_int_str (ZK I q AP)
  |_=>show absurd (show false=true from hs) Yw
 |str i=>
  let(t,rfl):=rx;cases y with
  |non=>cases ry;show PySem.EqNone.ne_str_none (ZK I q AP)
  |bl j=>cases ry;show PySem.EqMixed.ne_str_bool (ZK I q AP)
  |int j=>let(t',rfl):=ry;show PySem.EqMixed.ne_str_int (ZK I q AP)
  |str j=>let(t',rfl):=ry;show ne_str (ZK I q<|YZ not gd)
  |_=>show absurd (show false=true from hs) Yw
 |byt i=>
  let(t,rfl):=rx;cases y with
  |byt j=>let(t',rfl):=ry;show PySem.W.ne_bytes (ZK I q<|YZ not gc)
  |_=>show absurd (show false=true from hs) Yw
 |_=>cases y<;>show absurd (show false=true from hs) Yw
def Nk:Wx X (compareOp .Lt) (rI0 λi j=>.bl (decide (i<j))):=JU λ_ _ _ _ _ _ _ q=>lt_int q
def Su:Wx X (compareOp .LtE) (rI0 λi j=>.bl (decide (i<=j))):=JU λ_ _ _ _ _ _ _ q=>le_int q
def Lq:Wx X (compareOp .Gt) (rI0 λi j=>.bl (decide (j<i))):=JU λ_ _ _ _ _ _ _ q=>gt_int q
def EU:Wx X (compareOp .Is) (λx y H Q=>y=.non/\Q (.bl (decide (x=.non))) H):=by
 intro pins s σ H x y v u Q I rx ry h;let(rfl,q):=h;cases ry;show is_none_gen (ZK I q ?_);cases x<;>first
  | (cases rx;rfl)
  | (let(t,rfl):=rx;rfl)
def uw:Wx X (compareOp .NotIn) (λx y H Q=>∃i j,x=.str i/\y=.str j/\Q (.bl (!(!(Builtin.Str.occurrences j i 0 j.f 1).isEmpty))) H):=by intro pins s σ H x y v u Q I rx ry h;let(i,j,rfl,rfl,q):=h;let(t,rfl):=rx;let(t',rfl):=ry;show notIn_str (ZK I q Z)
def Zs(b:Expr)(h:op≠.In:=by decide)(h2:op≠.NotIn:=by decide):behindInMarks op b=false:=by
 let e1:(op == CmpOp.In)=false:=by cases op<;>first|rfl|show absurd rfl h
 let e2:(op == CmpOp.NotIn)=false:=by cases op<;>first|rfl|show absurd rfl h2
 cases b<;>simp[behindInMarks,e1,e2]
def Nj(ho:Wx X (compareOp op) r)(ha:PE X a ta)(hb:PE X b tb)(hm:behindInMarks op b=false):PE X (.Compare a [op] [b] pos) (Fc r ta tb):=by intro pins s σ H Q I h;show wpAny_Compare1 (JV ha hb I h λv u s2 x y H2 I2 rx ry q=>ho pins s2 σ H2 x y v u Q I2 rx ry q) hm
def Lp(t:TE):(TT):=λσ H Q=>t σ H λx H'=>isB x H' Q
def Zl{op:CmpOp}{r:R2}(ho:Wx X (compareOp op) r)(ha:PE X a ta)(hb:PE X b tb)(hm:behindInMarks op b=false):PT X (.Compare a [op] [b] pos) (Lp (Fc r ta tb)):=by
 intro pins s σ H Q I h;show wpAny_isTrue_Compare1 (thn (ha pins s σ H _ I h) λv s1 ⟨x,H1,I1,r1,q1⟩=>thn (hb pins s1 σ H1 _ I1 q1) λu s2 ⟨y,H2,I2,r2,q2⟩=>
  thn (ho pins s2 σ H2 x y v u _ I2 r1 r2 q2) λc s3 ⟨z,H3,I3,r3,k,e,q3⟩=>?_) hm
 subst e;cases r3;show NG ⟨H3,I3,q3⟩
def ET(r r':R2)(ta tb tc:TE):(TE):=λσ H Q=>ta σ H λx H1=>tb σ H1 λy H2=>r x y H2 λz H3=>∃k,z=.bl k/\
 (if k=true then tc σ H3 λw' H4=>r' y w' H4 Q else Q (.bl false) H3)
def uv{op JT:CmpOp}{r r':R2}(ho:Wx X (compareOp op) r)(UZ:Wx X (compareOp JT) r')(ha:PE X a ta)(hb:PE X b tb)(hc:PE X c tc)
  (hm:lastMarks [op,JT] [b,c]=false:=by with_unfolding_all rfl):PE X (.Compare a [op,JT] [b,c] pos) (ET r r' ta tb tc):=by
 intro pins s σ H Q I h;show Compare_chain (thn (ha pins s σ H _ I h) λv s1 ⟨x,H1,I1,r1,q1⟩=>chain_link (thn (hb pins s1 σ H1 _ I1 q1) λu s2 ⟨y,H2,I2,r2,q2⟩=>
  thn (ho pins s2 σ H2 x y v u _ I2 r1 r2 q2) λd s3 ⟨z,H3,I3,r3,k,e,q3⟩=>?_)) hm
 subst e;cases r3;show NG ?_;cases k with
 |false=>show ite_ff {.bl false,H3,I3,Z,q3}
 |true=>show ite_tt (chain_last<|thn (hc pins s3 σ H3 _ I3 q3) λw' s4 zz=>by let(z',H4,I4,r4,q4):=zz;show UZ pins s4 σ H4 y z' u w' Q I4 r2 r4 q4)
def uu{op JT:CmpOp}{r r':R2}(ho:Wx X (compareOp op) r)(UZ:Wx X (compareOp JT) r')(ha:PE X a ta)(hb:PE X b tb)(hc:PE X c tc)
  (hm:lastMarks [op,JT] [b,c]=false:=by with_unfolding_all rfl):PT X (.Compare a [op,JT] [b,c] pos) (Lp<|ET r r' ta tb tc):=by
 intro pins s σ H Q I h;show isTrue_chain (thn (ha pins s σ H _ I h) λv s1 ⟨x,H1,I1,r1,q1⟩=>test_link (thn (hb pins s1 σ H1 _ I1 q1) λu s2 ⟨y,H2,I2,r2,q2⟩=>
  thn (ho pins s2 σ H2 x y v u _ I2 r1 r2 q2) λd s3 ⟨z,H3,I3,r3,k,e,q3⟩=>?_)) hm
 subst e;cases r3;show NG ?_;cases k with
 |false=>
  let(k',e',q'):=q3;cases e';show ite_ff ⟨H3,I3,q'⟩
 |true=>
  show ite_tt (test_last<|thn (hc pins s3 σ H3 _ I3 q3) λw' s4 zz=>?_);let(z',H4,I4,r4,q4):=zz;show thn (UZ pins s4 σ H4 y z' u w' _ I4 r2 r4 q4) λd' s5 XA=>?_;let(z2,H5,I5,r5,k2,e2,q5):=XA;subst e2;cases r5;show NG ⟨H5,I5,q5⟩
def JS:(sizeLine:Nat)<2^63:=by rw[TF];decide
def ZO6:Wx X (binaryOp .Add) (λx y H Q=>∃i j,x=.str i/\y=.str j/\i.f+j.f<=sizeLine/\Q (.str (i++j)) H):=by intro pins s σ H x y v u Q I rx ry h;let(i,j,rfl,rfl,hz,q):=h;let(t,rfl):=rx;let(t',rfl):=ry;show add_str (λt' tk=>{.str<|i++j,H,I.tok _,{_,Z},q}) hz
def Ut{us:Ag}(r:Vals [x] us):∃u,us=[u]/\RelV x u:=by
 cases r with
 |cons r1 r2=>cases r2;exists _,Z,r1
def Ni{us:Ag}(r:Vals [x,y] us):∃u w',us=[u,w']/\RelV x u/\RelV y w':=by
 cases r with
 |cons r1 r2=>
  cases r2 with
  |cons r3 r4=>cases r4;exists _,_,Z,r1,r3
def ur(hc:X.calm=true):Vf X (.builtin "max") (λxs H Q=>∃i j,xs=[.int i,.int j]/\Q (.int (if j>i then j else i)) H):=by
 intro pins s σ H xs us Q I r h;let(i,j,rfl,q):=h;let(u,w',rfl,(t,rfl),(t',rfl)):=Ni r;show max_two_ints (I.ok.hd hc) λh' tk k=>{_,H,I.kept k,?_,q};cases hj:j>i
 .rw[if_pos hj,if_pos hj];exists _,Z
 .rw[if_neg hj,if_neg hj];exists _,Z
def JR(hc:X.calm=true):Vf X (.builtin "min") (λxs H Q=>∃i j,xs=[.int i,.int j]/\Q (.int (if j<i then j else i)) H):=by
 intro pins s σ H xs us Q I r h;let(i,j,rfl,q):=h;let(u,w',rfl,(t,rfl),(t',rfl)):=Ni r;show min_two_ints (I.ok.hd hc) λh' tk k=>{_,H,I.kept k,?_,q};cases hj:j<i
 .rw[if_pos hj,if_pos hj];exists _,Z
 .rw[if_neg hj,if_neg hj];exists _,Z
def Zp4:Vf X (.type "str") (λxs H Q=>∃i,xs=[.int i]/\i.natAbs.log2<1920/\Q (.str (toString i)) H):=by intro pins s σ H xs us Q I r h;let(i,rfl,hz,q):=h;let(u,rfl,t,rfl):=Ut r;show PySem.P.str_of_int hz {.str _,H,I.tok _,{_,Z},q}
end
structure ObjM(h:Heap)(x dx C:Addr)(mA:Af):Prop where
 obj:h.D x=some (PySem.W.instObj C dx)
 ns:h.Ns1 dx mA
 ne:dx≠x
def Zw8{h:Heap}{mA:Af}(n:h.Ns1 dx mA):∃od,h.D dx=some od/\∀name,PySem.W.lookIn name od=some (mA name):=by
 let(o,es,ep,ho,hd,hk,_,hm):=n;exists o,ho,λname=>?_;let e:=hm name
 unfold nsFind findBy at e;rw[<-Array.find?_toList]at e;unfold PySem.W.lookIn;rw[hd];dsimp only;split
 .rename_i y q;rw[q]at e;show YZ some e
 .rename_i q;rw[q]at e;let a:es.C.any (·.refKey)=false:=by rw[List.any_eq_false];intro y hy;let(z,t,uq):=hk y (Array.mem_toList_iff.G hy);simp[DictEntry.refKey,uq]
  let a':¬es.C.any (·.refKey)=true:=by rw[a];show Yw
  rw[if_neg a'];show YZ some e
def ObjM.look{mA:Af}(I:ObjM h x dx C mA):∃od,PySem.W.InstAt h x (PySem.W.instObj C dx) C (some od)/\∀name,PySem.W.lookIn name od=some (mA name):=
 let ⟨od,ho,hl⟩:=Zw8 I.ns
 {od,⟨I.obj,Z,Z,ho⟩,hl}
section
variable{prog:Program}{w:World}{A:Around}{E:Ae}{s:Shared}{K:Ad}{x dx C f:Addr}{mA:Af}{name:Str}{v:Value}
def uo{Q:Ae}(X:K.In s.m)(I:ObjM s.m x dx C mA)(hg:PySem.W.plainGet K C name=true)(hh:PySem.W.hasDictIn K C=true)
  (ha:PySem.W.findIn K ↑C name=some none)(hv:mA name=some v)(Lo:PySem.W.handedIn v=true)(h:Q v {s with toks:=s.toks+1}):
  wpAny (model prog w) A (getAttr ↑x name expr) Q E s:=by let(od,tB,hl):=I.look;show PySem.W.get_value X tB (PySem.W.plainGet_of hg).1 (PySem.W.findObj_own hh ha Z<|by rw[hl,hv]) Lo h
def um{Q:Unit->Shared->Prop}(X:K.In s.m)(I:ObjM s.m x dx C mA)
  (hs:PySem.W.findIn K ↑C "__setattr__"=some (some<|.builtin "object.__setattr__"))(hp:PySem.W.plainOver K C=true)(ht:PySem.W.takerIn K C name=some none)(hh:PySem.W.hasDictIn K C=true)
  (hw:PySem.Within mA ns)(hsz:ns.f<=sizeLine)
  (h:∀h',ObjM h' x dx C (λy=>if y=name then some v else mA y)->Heap.SameBut dx s.m h'->Q () {s with heap:=h',toks:=s.toks+2}):
  wpAny (model prog w) A (setAttr ↑x name v) Q E s:=by
 let(od,tB,hl):=I.look;show PySem.W.set_plain X tB hs (PySem.W.osa_open (s:={s with toks:=s.toks+1}) (r:=none) X tB hp ht λb=>?_);let(cd,hc,Hq):=PySem.W.any_some hh;let hx:s.m.D x=some ⟨.ref C,some dx,.plain,#[]⟩:=I.obj
 show XY (Yg<|XY<|XY<|wpAny_loadPart hx<|XY<|PySem.W.Looks.here (s:={s with toks:=s.toks+1}) (PySem.W.looks_clsIn X hc) ?_);rw[Hq];show Yg (a:=some dx) (XY<|Yg<|XY ?_);show wpAny_nsSet1 (s:={s with toks:=s.toks+1}) I.ns λh' PN VG=>?_;let(oD,esD,epD,yr,gb,hcD):=PN.count (PySem.Within.cons name v hw);show XY (wpAny_lookBehind yr (by rw[gb];show pastItsLine_dict<|YB hcD<|by rw[Yx];lia) ?_);show Yg (h _ {(VG.2 _<|XO I.ne).l I.obj,PN,I.ne} VG)
def uj{R:Result->Shared->Prop}{vs:Ag}{kw:List (Str×Value)}(X:K.In s.m)(hm:PySem.W.makesIn K C=true)
  (hi:PySem.W.findIn K ↑C "__init__"=some (some<|.ref f))(hf:PySem.W.typeIn K ↑f=some (.type "function"))
  (h:codeAny (model prog w) (A.under<|.builtin "type.__call__" {.ref C::vs,kw}) (.call ↑f {.ref ((~~~s)+1)::vs,kw}) (PySem.W.InitBack ((~~~s)+1) R)
   {s with heap:=(s.m.push PySem.W.emptyDict).push (PySem.W.instObj C (~~~s))}):
  codeAny (model prog w) A (.call ↑C ⟨vs,kw⟩) R s:=by let(hh,g,d,t,os):=s;show PySem.W.make_core (PySem.W.makes_of X hm) (PySem.W.looks_findIn X hi) (λself=>PySem.W.bind_fn X self hf) (.inl Z) h
end
def WE(f:Str)(v:V):(List (Str×V)->List (Str×V))
 |[]=>[(f,v)]
 | (g,x)::r=>if g=f then (g,v)::r else (g,x)::WE f v r
def ES(f g:Str)(v:V):∀fs:List (Str×V),(WE f v fs).M g=if g=f then some v else fs.M g
 |[]=>by
  change List.M g [(f,v)]=_;cases h:g=f
  .let hb:(g == f)=true:=QD.L h;simp only[List.lookup,hb,if_pos h]
  .let hb:(g == f)=false:=Gg.L h;simp only[List.lookup,hb,if_neg h]
 | (k,x)::r=>by
  let ih:=ES f g v r;rw[show WE f v ((k,x)::r)=(if k=f then (k,v)::r else (k,x)::WE f v r) from Z];cases hk:k=f
  .rw[if_pos hk];cases h:g=k
   .let hb:(g == k)=true:=QD.L h;simp only[List.lookup,hb,if_pos (h.trans hk)]
   .let hb:(g == k)=false:=Gg.L h;simp only[List.lookup,hb,if_neg λe:g=f=>h (e.trans hk.symm)]
  .rw[if_neg hk];cases h:g=k
   .let hb:(g == k)=true:=QD.L h;simp only[List.lookup,hb,if_neg λe:g=f=>hk (h.symm.trans e)]
   .let hb:(g == k)=false:=Gg.L h;simp only[List.lookup,hb];show ih
def ui(f:Str)(v:V):∀fs:List (Str×V),f∈(WE f v fs).H (·.1)/\∀g,g∈fs.H (·.1)->g∈(WE f v fs).H (·.1)
 |[]=>{by simp[WE],λg h=>by simp at h}
 | (k,x)::r=>by
  let(i1,i2):=ui f v r;rw[show WE f v ((k,x)::r)=(if k=f then (k,v)::r else (k,x)::WE f v r) from Z];cases hk:k=f
  .rw[if_pos hk];subst hk;exists AP,λg h=>by simpa using h
  .rw[if_neg hk];exists ?_,λg h=>?_
   .rw[YJ];show Yf _ i1
   .rw[YJ]at h ⊢;rcases Ye.G h with e|e
    .show Ye.L (.inl e)
    .show Yf _ (i2 g e)
def f9(f:Str)(v:V):∀fs:List (Str×V),(WE f v fs).f<=fs.f+1
 |[]=>by simp[WE]
 | (k,x)::r=>by
  let ih:=f9 f v r;rw[show WE f v ((k,x)::r)=(if k=f then (k,v)::r else (k,x)::WE f v r) from Z];cases hk:k=f
  .rw[if_pos hk,Yx,Yx];lia
  .rw[if_neg hk,Yx,Yx];lia
def RelO.some_of{v:V}(r:RelO (some v) o):∃u,o=some u/\RelV v u:=by
 cases o with
 |none=>show(show False from r).elim
 |some u=>exists u,Z,r
def ZH8(r:RelV v u):PySem.W.handedIn u=true:=by
 cases v with
 |non=>cases (show u=Value.none from r);rfl
 |bl b=>cases (show u=Value.bool b from r);rfl
 |int i=>let(t,e):=(show ∃t,u=Value.int i t from r);cases e;rfl
 |str x=>let(t,e):=(show ∃t,u=Value.str x t from r);cases e;rfl
 |byt b=>let(t,e):=(show ∃t,u=Value.bytes b t from r);cases e;rfl
 |flt b=>let(t,e):=(show ∃t,u=Value.float b t from r);cases e;rfl
 |ref a=>cases (show u=Value.ref a from r);rfl
 |ty n=>cases (show u=Value.type n from r);rfl
section
variable{P:Program}{w:World}{H:Hp}{h:Heap}{a C dx:Addr}{fs:List (Str×V)}
def f7(hok:HOk P w H h)(e:H a=some (.ins C dx fs)):∃mA,ObjM h a dx C mA/\(∀f,RelO (fs.M f) (mA f))/\PySem.Within mA (fs.H (·.1))/\fs.f<=1000/\H dx=some (.own a):=by let(d,z,ne,ob,mA,n,r,q):=(show ObjOk P w H h a (.ins C dx fs) from hok a _ e);exists mA,⟨ob,n,ne⟩,r,q,z,d
end
structure Cls(K:Ad)(C:Addr):Prop where
 pg:PySem.W.plainGet K C Str.empty=true
 hd:PySem.W.hasDictIn K C=true
 po:PySem.W.plainOver K C=true
 sa:PySem.W.findIn K ↑C "__setattr__"=some (some<|.builtin "object.__setattr__")
def Cls.get{K:Ad}{C:Addr}(c:Cls K C)(f:Str):PySem.W.plainGet K C f=true:=c.pg
def NoAttr(K:Ad)(C:Addr)(f:Str):(Prop):=PySem.W.findIn K ↑C f=some none
def NoAttr.taker{K:Ad}{C:Addr}{f:Str}(n:NoAttr K C f):PySem.W.takerIn K C f=some none:=by unfold PySem.W.takerIn;rw[show PySem.W.findIn K ↑C f=some none from n];rfl
section
variable{X:Cx}{pins:List (Addr×Obj)}{σ:St}{H:Hp}{s:Shared}{a C dx:Addr}{fs:List (Str×V)}{f:Str}{v:V}{A:Around}{E:Ae}
def Zr7{Q:Ae}(I:Inv X pins σ H s)(e:H a=some (.ins C dx fs))(c:Cls X.K C)(n:NoAttr X.K C f)(l:fs.M f=some v)
  (h:∀u s',Inv X pins σ H s'->RelV v u->Q u s'):wpAny (model X.prog X.w) A (getAttr ↑a f b) Q E s:=by let(mA,O,r,_,_,_):=f7 I.hok e;let(u,hu,ru):=RelO.some_of (v:=v) (o:=mA f) (by rw[<-l];show r f);show uo I.kIn O (c.get f) c.hd n hu (ZH8 ru) (h u _ (I.tok _) ru)
def Zt6{Q:Unit->Shared->Prop}(I:Inv X pins σ H s)(e:H a=some (.ins C dx fs))(c:Cls X.K C)(n:NoAttr X.K C f)(hl:fs.f<1000)(ry:RelV y u)
  (h:∀s',Inv X pins σ (upd H a<|.ins C dx<|WE f y fs) s'->Q () s'):wpAny (model X.prog X.w) A (setAttr ↑a f u) Q E s:=by
 let(mA,O,r,wi,_,ho):=f7 I.hok e;let hz:(fs.H (·.1)).f<=sizeLine:=by rw[Xy,TF];lia
 show um I.kIn O c.sa c.po n.taker c.hd wi hz λh' O' sb=>h _ ?_;let hd:∃o,h'.D dx=some o:=by let(o,_,_,e',_):=O'.ns;exists o,e'
 show I.write (x:=a) (e:=dx) (by rw[e];show True.intro) (.inr ho) (λb q hb z=>(sb.2 b hb).l z) hd ?_;exists by rw[Za O.ne];show ho,?_,O.ne,O'.obj,_,O'.ns,λg=>?_,λg hg=>?_
 .have:=f9 f y fs;lia
 .change RelO ((WE f y fs).M g) (if g=f then some u else mA g);rw[ES];cases q:g=f
  .rw[if_pos q,if_pos q];show ry
  .rw[if_neg q,if_neg q];show r g
 .cases q:g=f
  .rw[q];show(ui f y fs).1
  .show(ui f y fs).2 g (wi g λz=>hg ?_);change(if g=f then some u else mA g)=none
   rwa[if_neg q]
def Inv.made(I:Inv X pins σ H s):Inv X pins σ (upd (upd H (~~~s) (.own ((~~~s)+1))) ((~~~s)+1) (.ins C (~~~s) []))
  {s with heap:=(s.m.push PySem.W.emptyDict).push (PySem.W.instObj C (~~~s))}:=by
 let e1:(s.m.push PySem.W.emptyDict).D (~~~s)=some PySem.W.emptyDict:=Yi s.m rfl;let e2:((s.m.push PySem.W.emptyDict).push (PySem.W.instObj C (~~~s))).D ((~~~s)+1)=some (PySem.W.instObj C (~~~s)):=by
  have:=Yi (s.m.push PySem.W.emptyDict) (o:=PySem.W.instObj C (~~~s)) rfl
  rwa[RY]at this
 let e3:(s.m.push PySem.W.emptyDict).Ns (~~~s) (λ_=>none):={PySem.W.emptyDict,#[],_,e1,Z,λe he=>absurd he AP,λ_=>rfl};let I1:=I.laid (a:=(~~~s)) (o:=.own<|(~~~s)+1) (h':=s.m.push PySem.W.emptyDict) (t':=s.toks) (λb u q=>Xo _ q) (XQ _) {_,e1}
 show I1.laid (a:=(~~~s)+1) (o:=.ins C (~~~s) []) (t':=s.toks) (λb u q=>Xo _ q) (yN<|RY _ _) ?_;let ne:(~~~s)≠(~~~s)+1:=Yq (Ow _)
 exists by rw[Za ne,XS],Yl _,ne,e2,λ_=>none,(Heap.Ns1.of_empty e3).at λo q=>Xo _ q,λ_=>True.intro,λy hy=>absurd Z hy
def uh{pos:Pos}{Q:Ae}(hb:attributeBase e f env (eval e env)=eval e env)
  (h:wpAny (model prog w) A (eval e env) (λo s₁=>wpAny (model prog w) A (getAttr o f true) Q E s₁) E s):wpAny (model prog w) A (eval (.Attribute e f pos) env) Q E s:=
 Attribute_any_ h (by rw[arm_eval_Attribute,hb])
end
inductive xFld(K:Ad)(f:Str)(x:V)(H1:Hp)(Q:VK):Prop
 |mk (a C dx fs v:_) (_:x=.ref a) (_:H1 a=some (.ins C dx fs)) (_:Cls K C) (_:NoAttr K C f) (_:fs.M f=some v) (_:Q v H1)
def ER(K:Ad)(ta:TE)(f:Str):(TE):=λσ H Q=>ta σ H λx H1=>xFld K f x H1 Q
def ug(K:Ad)(ta tv:TE)(f:Str):(TS):=λD σ H=>tv σ H λy H1=>ta σ H1 λx H2=>∃a C dx fs,x=.ref a/\H2 a=some (.ins C dx fs)/\Cls K C/\NoAttr K C f/\fs.f<1000/\
 D.nx σ (upd H2 a<|.ins C dx<|WE f y fs)
section
variable{X:Cx}{o e value:Expr}{f:Str}{pos pos':Pos}{ta tv:TE}
def uf(he:PE X e ta)(hb:attributeBase e f X.X (eval e X.X)=eval e X.X):PE X (.Attribute e f pos) (ER X.K ta f):=by intro pins s σ H Q I h;show uh hb (thn (he pins s σ H _ I h) λu s1 XA=>?_);let(x,H1,I1,rx,a,C,dx,fs,v,ex,ea,c,n,l,q):=XA;subst ex;let rfl:u=Value.ref a:=rx;show Zr7 I1 ea c n l λu' s2 I2 ru=>⟨v,H1,I2,ru,q⟩
def EO(ha:PE X o ta)(hv:PE X value tv)(hs:swapsWith value (some (.Attribute o f pos')) pos.line X.X=pure false):PS X (.Assign [.Attribute o f pos'] value pos) (ug X.K ta tv f):=by intro pins s σ H D I h;show plainObj_wpAny_Assign_Attribute (thn (hv pins s σ H _ I h) λu s1 zz=>?_) hs;let(y,H1,I1,ry,q):=zz;show thn (ha pins s1 σ H1 _ I1 q) λov s2 XA=>?_;let(x,H2,I2,rx,a,C,dx,fs,ex,ea,c,n,l,q2):=XA;subst ex;let rfl:ov=Value.ref a:=rx;show Zt6 I2 ea c n l ry λs3 I3=>{σ,_,I3,q2}
end
structure Room(k:Nat)(A:Around):Prop where
 hd:A.handled=none
 dp:A.depth+3*k+5<recursionLimit
 un:A.units+16*k+200<cLine
def Room.mono(r:Room k A)(h:j<=k):Room j A:={r.hd,by have:=r.dp;lia,by have:=r.un;lia}
def Room.deeper(r:Room (k+1) A)(env:Env):Room k (A.deeper env):=
 {r.hd,by have:=r.dp;change A.depth+1+3*k+5<_;lia,by have:=r.un;change A.units+3+16*k+200<_;lia}
def Room.in1(r:Room (k+1) A):Room k A.in1:=
 {r.hd,by have:=r.dp;change A.depth+3*k+5<_;lia,by have:=r.un;change A.units+1+16*k+200<_;lia}
def ue{A:Around}{C:Addr}{us:Ag}{kw:List (Str×Value)}:(A.under (.builtin "type.__call__" {.ref C::us,kw})).depth=A.depth+1:=by
 first|rfl|simp[Around.under,Code.weight,Code.isCreation,Code.isGuard,Code.isCaller,Code.frames,Code.isFrame,guardIds]
def ud{A:Around}{C:Addr}{us:Ag}{kw:List (Str×Value)}:(A.under (.builtin "type.__call__" {.ref C::us,kw})).units=A.units+1:=by
 first|rfl|simp[Around.under,Code.cUnits,Code.frames,Code.isFrame]
def Room.make(r:Room (k+1) A)(C:Addr)(us:Ag)(kw:List (Str×Value)):Room k (A.under (.builtin "type.__call__" {.ref C::us,kw})):=
 {r.hd,by have:=r.dp;rw[ue];lia,by have:=r.un;rw[ud];lia}
def Room.depth(r:Room k A):A.depth<recursionLimit:=by have:=r.dp;lia
def Room.units(r:Room k A):A.units+64<cLine:=by have:=r.un;lia
def JQ:(TA):=λ_ H Q=>Q [] H
def JP(ta:TE)(tr:TA):(TA):=λσ H Q=>ta σ H λx H1=>tr σ H1 λxs H2=>Q (x::xs) H2
section
variable{X:Cx}{e:Expr}{es:List Expr}{te:TE}{t:TA}{pos:Pos}
def XT:PA X [] JQ:=λ_ _ _ _ H Q I h=>vC {[],H,I,.nil,h}
def XZ(ha:PE X e te)(hr:PA X es t)(hs:starEach (e::es) X.X=(false,eval e X.X)::starEach es X.X:=by rfl):PA X (e::es) (JP te t):=by
 intro pos pins s σ H Q I h;rw[hs];change wpAny _ _ (spliced<|(false,eval e X.X)::backTo pos (starEach es X.X)) _ _ s
 show vD (thn (ha pins s σ H _ I h) λu s1 XA=>?_);let(x,H1,I1,r1,q1):=XA;show thn (hr pos pins s1 σ H1 _ I1 q1) λus s2 zz=>by let(xs,H2,I2,r2,q2):=zz;exists x::xs,H2,I2,.cons r1 r2,q2
inductive xTup(xs:List V)(H1:Hp)(Q:VK):Prop
 |mk (_:xs.f<=sizeLine) (_:∀p,H1 p=none->Q ↑p (upd H1 p<|.tup xs))
def EN(t:TA):(TE):=λσ H Q=>t σ H λxs H1=>xTup xs H1 Q
inductive xLst(xs:List V)(H1:Hp)(Q:VK):Prop
 |mk (_:xs.f<=sizeLine) (_:∀p,H1 p=none->Q ↑p (upd H1 p<|.lst xs))
def uc(t:TA):(TE):=λσ H Q=>t σ H λxs H1=>xLst xs H1 Q
def TU{x1}(h:PA X es t):PE X (.Tuple es x1 pos) (EN t):=by
 intro pins s σ H Q I hq;show wpAny_Tuple_spliced (thn (h pos pins s σ H _ I hq) λus s1 ⟨xs,H1,I1,r,z,q⟩=>{by rw[<-r.f];show z,?_});let hf:H1 (~~~s1)=none:=I1.hok.fresh (XQ _)
 exists .ref (~~~s1),upd H1 (~~~s1)<|.tup xs,I1.laid (t':=s1.toks) (λb u e=>Xo _ e) (XQ _) ?_,Z,q _ hf;exists z,us,r,{_,Yi _ Z,Z,_,Z}
def TB(h:PA X es t):PE X (.List es pos) (uc t):=by
 intro pins s σ H Q I hq;show wpAny_List_spliced (thn (h pos pins s σ H _ I hq) λus s1 ⟨xs,H1,I1,r,z,q⟩=>{by rw[<-r.f];show z,?_});let hf:H1 (~~~s1)=none:=I1.hok.fresh (XQ _)
 exists .ref (~~~s1),upd H1 (~~~s1)<|.lst xs,I1.laid (t':=s1.toks) (λb u e=>Xo _ e) (XQ _) ?_,Z,q _ hf;exists z,us,0,r,Yi _ Z
end
abbrev Sp:=List V->Hp->VK->XK->Prop
abbrev QC:=List Env->Hp->Shared->XK->Ae
structure Env0(P:Program)(w:World)(K:Ad)(mg:Af)(base:Heap)(A:Around)(outer:List Env)(s:Shared)(H:Hp):Prop where
 frames:A.frames=some outer
 mod:Mod K mg base
 bs:∀b o,base.D b=some o->s.m.D b=some o/\H b=none
 bsz:base.objs.t<=(~~~s)
 funs:s.m.FunFrames base outer
 frf:∀b∈TV outer,H b=none
 hok:HOk P w H s.m
 bare:AllBare s.gens
def CE(outer:List Env)(P:Program)(w:World)(H:Hp)(s:Shared)(Q:VK)(u:Value)(s':Shared):(Prop):=
 ∃v H',s'.os=s.os/\AllBare s'.gens/\Un (TV outer) [] H H' s.m s'.m/\HOk P w H' s'.m/\RelV v u/\Q v H'
def CR(CX:QC)(outer:List Env)(P:Program)(w:World)(H:Hp)(s:Shared)(Q:VK)(E:XK)(r:Result)(s':Shared):(Prop):=
 match r with
 | .ok (.ret u)=>CE outer P w H s Q u s'
 | .ok _=>False
 | .error e=>CX outer H s E e s'
structure FnOk(P:Program)(w:World)(K:Ad)(mg:Af)(base:Heap)(CX:QC)(k:Nat)(f:Addr)(fd:FuncData)(ps:List Str)(sp:Sp):Prop where
 len:∀vs H Q E,sp vs H Q E->vs.f=ps.f
 run:∀(A:Around)(outer:List Env)(s:Shared)(H:Hp)(args:Args)(us:Ag)(vs:List V)(Q:VK)(E:XK),Room k A->Env0 P w K mg base A outer s H->BindsTo s fd args (ps.zip us)->Vals vs us->sp vs H Q E->
  codeAny (model P w) A (.call ↑f args) (CR CX outer P w H s Q E) s
def Env0.make{P:Program}{w:World}{K:Ad}{mg:Af}{base:Heap}{A:Around}{outer:List Env}{s:Shared}{H:Hp}(e:Env0 P w K mg base A outer s H)(C:Addr)(us:Ag)(kw:List (Str×Value)):
  Env0 P w K mg base (A.under<|.builtin "type.__call__" {.ref C::us,kw}) outer s H:={by first|show e.frames|(simpa[Around.under,Code.envs,Code.isFrame,pushEnvs] using e.frames),e.mod,e.bs,e.bsz,e.funs,e.frf,e.hok,e.bare}
def Env0.in1{P:Program}{w:World}{K:Ad}{mg:Af}{base:Heap}{A:Around}{outer:List Env}{s:Shared}{H:Hp}(e:Env0 P w K mg base A outer s H):
  Env0 P w K mg base A.in1 outer s H:=⟨e.frames,e.mod,e.bs,e.bsz,e.funs,e.frf,e.hok,e.bare⟩
section
variable{X:Cx}{pins:List (Addr×Obj)}{σ:St}{H:Hp}{s s':Shared}
def Inv.env0(I:Inv X pins σ H s):Env0 X.prog X.w X.K X.mg X.base X.A X.stack s H:=
 {I.ok.frames,I.ok.mod,I.bs,YB I.ok.bsz I.sz,I.stack,I.stkFree,I.hok,I.bare}
def Inv.after(I:Inv X pins σ H s)(h:CE X.stack X.prog X.w H s Q u s'):EP X pins σ Q u s':=by let(v,H',os,bare,un,hok,r,q):=h;let(hh,g,d,t,EM):=s';let rfl:EM=s.os:=os;exists v,H',I.call (h':=hh) (g':=g) (d':=d) (t':=t) (ch:=[]) un hok bare λb z=>absurd z AP,r,q
end
def Ln(sp:Sp)(Ss:List V)(E:XK)(t:TA):(TE):=λσ H Q=>t σ H λvs H1=>sp (vs++Ss) H1 Q E
def t9(C:Addr)(sp:Sp)(Ss:List V)(E:XK)(t:TA):(TE):=λσ H Q=>t σ H λvs H1=>∀x dx,H1 x=none->H1 dx=none->dx≠x->
 sp (.ref x::(vs++Ss)) (upd (upd H1 dx<|.own x) x<|.ins C dx []) (λv H2=>v=.non/\Q ↑x H2) E
def Binds(K:Ad)(fd:FuncData)(ps:List Str)(ds:Ag):(Prop):=
 ∀(s:Shared)(us:Ag),K.In s.m->(us++ds).f=ps.f->BindsTo s fd {us,[]} (ps.zip<|us++ds)
def Binds.all{K:Ad}{fd:FuncData}{ps:List Str}(h:∀us:Ag,us.f=ps.f->bindArgs fd {us,[]}=pure (ps.zip us)):Binds K fd ps []:=λs us _ hl=>by rw[WH]at hl ⊢;show .of_eq (h us hl)
def Hm(CX:QC)(X:Cx)(E:XK):(Prop):=∀(pins:List (Addr×Obj))(σ:St)(H:Hp)(s:Shared)(e:Value)(s':Shared),Inv X pins σ H s->CX X.stack H s E e s'->X.xe e s'
section
variable{X:Cx}{CX:QC}{k:Nat}{f C:Addr}{fd:FuncData}{ps:List Str}{sp:Sp}{Ss:List V}{ds:Ag}{E:XK}{x:Str}{p pos:Pos}{e:Expr}{es:List Expr}{t:TA}
def t8(F:FnOk X.prog X.w X.K X.mg X.base CX k f fd ps sp)(hr:Room k X.A)(hb:Binds X.K fd ps ds)(hd:Vals Ss ds)(hx:Hm CX X E)
  (I:Inv X pins σ H s)(r:Vals vs us)(h:sp (vs++Ss) H Q E):wpAny (model X.prog X.w) X.A (call ↑f us) (EP X pins σ Q) X.xe s:=by
 let r2:Vals (vs++Ss) (us++ds):=r.append hd;let hl:(us++ds).f=ps.f:=by rw[<-r2.f];show F.len _ _ _ _ h
 show FH (Oo (F.run X.A X.stack s H {us,[]} (us++ds) (vs++Ss) Q E hr I.env0 (hb s us I.kIn hl) r2 h) λr s' hq=>?_);cases r with
 |error e=>show hx pins σ H s e s' I hq
 |ok fl=>
  cases fl with
  |ret u=>show I.after hq
  |next=>show False.elim hq
  |brk=>show False.elim hq
  |cont=>show False.elim hq
def t7(F:FnOk X.prog X.w X.K X.mg X.base CX k f fd ps sp)(hr:Room k X.A)(hg:Gl X x)(hm:X.mg x=some ↑f)(hk:PySem.W.keepIn X.K ↑f=true)(hb:Binds X.K fd ps ds)(hd:Vals Ss ds)(hx:Hm CX X E)
  (ha:PA X (e::es) t)(Sr:(x == ("__debug__":Str))=false:=by decide)(he:starEach (e::es) X.X=(false,eval e X.X)::starEach es X.X:=by rfl)(Ve:(backTo pos<|starEach es X.X).any (·.1)=false:=by rfl):
  PE X (.Call (.Name x p) (e::es) [] pos) (Ln sp Ss E t):=by intro pins s σ H Q I h;show NH (Kc I hg hm ?_ Sr);show PySem.W.callWith_K (h₀:=X.base) I.ok.mod.kin hk (thn (ha pos pins s σ H _ I h) λus s1 ⟨vs,H1,I1,r,q⟩=>{I1.kIn,?_}) he Ve;show t8 F hr hb hd hx I1 r q
structure Mk(K:Ad)(C f:Addr):Prop where
 makes:PySem.W.makesIn K C=true
 init:PySem.W.findIn K ↑C "__init__"=some (some<|.ref f)
 fn:PySem.W.isFn K ↑f=true
 kp:PySem.W.keepIn K ↑C=true
def t6(M:Mk X.K C f)(F:FnOk X.prog X.w X.K X.mg X.base CX k f fd ps sp)(hr:Room (k+1) X.A)(hb:Binds X.K fd ps ds)(hd:Vals Ss ds)
  (hx:Hm CX X E)(I:Inv X pins σ H s)(r:Vals vs us)
  (h:∀x dx,H x=none->H dx=none->dx≠x->sp (.ref x::(vs++Ss)) (upd (upd H dx<|.own x) x<|.ins C dx []) (λv H2=>v=.non/\Q ↑x H2) E):
  wpAny (model X.prog X.w) X.A (call ↑C us) (EP X pins σ Q) X.xe s:=by
 let hq:=h ((~~~s)+1) (~~~s) (I.hok.fresh<|SI _) (I.hok.fresh<|XQ _) (Yq<|Ow _);let I2:=Inv.made (C:=C) I
 let r2:Vals (V.ref ((~~~s)+1)::(vs++Ss)) (Value.ref ((~~~s)+1)::(us++ds)):=.cons Z (r.append hd);let hl:(Value.ref ((~~~s)+1)::us++ds).f=ps.f:=by let e:=r2.f;rw[F.len _ _ _ _ hq]at e;show e.symm
 show FH (uj (f:=f) I.kIn M.makes M.init (QD.G M.fn) (Oo (F.run _ X.stack _ _ {Value.ref ((~~~s)+1)::us,[]} (Value.ref ((~~~s)+1)::(us++ds)) _ _ E (hr.make C us [])
  (I2.env0.make C us []) (hb _ (Value.ref ((~~~s)+1)::us) I2.kIn hl) r2 hq) λr s' Nh=>?_))
 cases r with
 |error e=>show hx pins σ _ _ e s' I2 Nh
 |ok fl=>
  cases fl with
  |ret u=>
   let(v,H',I3,rv,ev,q3):=I2.after Nh;subst ev;exists rv,{V.ref<|(~~~s)+1,H',I3,Z,q3}
  |next=>show False.elim Nh
  |brk=>show False.elim Nh
  |cont=>show False.elim Nh
def t5(M:Mk X.K C f)(F:FnOk X.prog X.w X.K X.mg X.base CX k f fd ps sp)(hr:Room (k+1) X.A)(hg:Gl X x)(hm:X.mg x=some ↑C)(hb:Binds X.K fd ps ds)(hd:Vals Ss ds)(hx:Hm CX X E)
  (ha:PA X (e::es) t)(Sr:(x == ("__debug__":Str))=false:=by decide)(he:starEach (e::es) X.X=(false,eval e X.X)::starEach es X.X:=by rfl)(Ve:(backTo pos<|starEach es X.X).any (·.1)=false:=by rfl):
  PE X (.Call (.Name x p) (e::es) [] pos) (t9 C sp Ss E t):=by intro pins s σ H Q I h;show NH (Kc I hg hm ?_ Sr);show PySem.W.callWith_K (h₀:=X.base) I.ok.mod.kin M.kp (thn (ha pos pins s σ H _ I h) λus s1 ⟨vs,H1,I1,r,q⟩=>{I1.kIn,?_}) he Ve;show t6 M F hr hb hd hx I1 r q
end
structure FnScope(N P:List Str)(sc:Scope):Prop where
 kind:sc.kind=.function
 co:sc.isCoroutine=false
 gen:sc.isGenerator=false
 nd:N.Nodup
 pre:N.R P.f=P
 par:∀x∈P,sc.names.M x=some .local\/sc.names.M x=some .cell
 nofree:∀y∈sc.names,y.2≠.free
def fZ{kindOf:Str->Option NameKind}:∀{binds:List (Str×Value)}{m:Af},(∀v,(x,v)∉binds)->bindL kindOf binds m x=m x
 |[],_,_=>rfl
 | (n,v)::r,m,h=>by
  unfold bindL;rw[fZ λw hw=>h w (Yf _ hw)];split
  .have:x≠n:=by rintro rfl;show h v Yd
   simp[this]
  .rfl
def fY{kindOf:Str->Option NameKind}:∀{binds:List (Str×Value)}{m:Af},(∀v,(x,v)∉binds)->bindC kindOf binds m x=m x
 |[],_,_=>rfl
 | (n,v)::r,m,h=>by
  unfold bindC;rw[fY λw hw=>h w (Yf _ hw)];split
  .rfl
  .have:x≠n:=by rintro rfl;show h v Yd
   simp[this]
def fX{kindOf:Str->Option NameKind}{x:Str}{v:Value}:∀{P:List Str}{vs:Ag}{i:Nat}{m:Af},P.Nodup->P[i]?=some x->vs[i]?=some v->kindOf x=some .local->
  bindL kindOf (P.zip vs) m x=some v
 |[],_,_,_,_,h,_,_=>by simp at h
 |_::_,[],_,_,_,_,h,_=>by simp at h
 |p::P,w::vs,0,m,nd,h1,h2,hk=>by
  simp at h1 h2;subst h1;subst h2;change bindL kindOf ((p,w)::P.zip vs) m p=_
  unfold bindL;rw[fZ λv hv=>(Ru.G nd).1 (vF hv).1,if_pos hk];simp
 |p::P,w::vs,i+1,m,nd,h1,h2,hk=>by change bindL kindOf ((p,w)::P.zip vs) m x=_;unfold bindL;show fX (i:=i) (Ru.G nd).2 (by simpa using h1) (by simpa using h2) hk
def fW{kindOf:Str->Option NameKind}{x:Str}{v:Value}:∀{P:List Str}{vs:Ag}{i:Nat}{m:Af},P.Nodup->P[i]?=some x->vs[i]?=some v->kindOf x≠some .local->
  bindC kindOf (P.zip vs) m x=some v
 |[],_,_,_,_,h,_,_=>by simp at h
 |_::_,[],_,_,_,_,h,_=>by simp at h
 |p::P,w::vs,0,m,nd,h1,h2,hk=>by
  simp at h1 h2;subst h1;subst h2;change bindC kindOf ((p,w)::P.zip vs) m p=_
  unfold bindC;rw[fY λv hv=>(Ru.G nd).1 (vF hv).1,if_neg hk];simp
 |p::P,w::vs,i+1,m,nd,h1,h2,hk=>by change bindC kindOf ((p,w)::P.zip vs) m x=_;unfold bindC;show fW (i:=i) (Ru.G nd).2 (by simpa using h1) (by simpa using h2) hk
def start(N:List Str)(vs:List V):(St):=vs.H some++List.S (N.f-vs.f) none
def Tj(CX:QC)(P:Program)(w:World)(K:Ad)(mg:Af)(base:Heap)(N:List Str)(qual:Str)(scope:Scope)(f:Addr)(cd:Value)(A:Around)(outer:List Env)(s:Shared)(H:Hp)(E:XK):(Cx) where
 prog:=P
 w:=w
 K:=K
 mg:=mg
 base:=base
 A:=A.deeper (envOfC qual scope (~~~s) f cd)
 N:=N
 s₀:=s
 H₀:=H
 env:=envOfC qual scope (~~~s) f cd
 outer:=outer
 stack:=envOfC qual scope (~~~s) f cd::outer
 ex:=[]
 calm:=true
 fn:=λ_=>true
 pn:=[]
 xe:=λe s'=>wpAny (model P w) (A.deeper<|envOfC qual scope (~~~s) f cd) (leaving (envOfC qual scope (~~~s) f cd) e) (λ_ SF=>CX outer H s E e SF) (λe' SF=>CX outer H s E e' SF) s'
def fV{sc:Scope}(h:sc.names.M x=some .cell):∃c,(cellsFrom n sc.names []).M x=some c:=by let q:=gI sc.names n [] (.inl h);show wc.G q
def ZE8{CX:QC}{P:Program}{w:World}{K:Ad}{mg:Af}{base:Heap}{N ps:List Str}{qual:Str}{scope:Scope}{f:Addr}{cd:Value}{A:Around}{outer:List Env}{s s1:Shared}{H:Hp}{E:XK}{us:Ag}{vs:List V}
  (S:FnScope N ps scope)(hd:A.handled=none)(e0:Env0 P w K mg base A outer s H)(hl:vs.f=ps.f)(r:Vals vs us)
  (x:InCallC s (~~~s) (bindL (envOfC qual scope (~~~s) f cd).kindOf (ps.zip us) λ_=>none) (cellsFrom ((~~~s)+1) scope.names []) (bindC (envOfC qual scope (~~~s) f cd).kindOf (ps.zip us) λ_=>none) s1):
  Inv (Tj CX P w K mg base N qual scope f cd A outer s H E) [] (start N vs) H s1:=by
 let Ve:ps.f<=N.f:=by have:=YZ List.f S.pre;rw[Yo]at this;lia
 let(h1,tk,rfl,hk):=x.done;let JO:∀b:Addr,b∉(Tj CX P w K mg base N qual scope f cd A outer s H E).ex:=λb z=>absurd (show b∈([]:List Addr) from z) AP
 show⟨{e0.mod,S.kind,Z,Z,XQ _,λy z c h1 h2=>?_,λy hy=>?_,λy c _ h=>?_,λ_=>hd,Around.frames_deeper e0.frames,.inr ⟨Z,Z⟩,λb z=>absurd z<|JO b,e0.bs,e0.bsz,λb _ _=>JO b,λb z=>absurd z<|JO b,e0.funs,e0.frf},
  rfl,e0.bare,Un.kept hk,{_,x.toInCall.ns,λi y v h1 h2 h3=>?_},λy c h=>{_,x.cell y c h},e0.hok.fresh<|XQ _,λy c h=>?_,λp hp=>absurd (show p∈([]:List (Addr×Obj)) from hp) AP,e0.hok.kept hk,?_⟩
 .show name_of_addr x.apart (Sx h1) (Sx h2)
 .let hy:scope.names.M y=some .cell\/scope.names.M y=some .free:=hy;rcases hy with hy|hy
  .show fV hy
  .show absurd Z (S.nofree _<|Sx hy)
 .show LC (x.above y c<|Sx h)
 .let hi:i<vs.f:=by
   unfold start at h2;cases hi:i<vs.f
   .show hi
   .rw[YE (by simpa using hi)]at h2;rw[zt]at h2;split at h2<;>cases h2
  let ha:vs[i]?=some v:=by
   unfold start at h2;rw[Yz (by simpa using hi),Yk]at h2;cases e:vs[i]? with
   |none=>rw[e]at h2;cases h2
   |some a=>rw[e]at h2;cases h2;rfl
  let(u,hu,rv):=r.get ha;let hp:ps[i]?=some y:=by rwa[<-S.pre,gM J]
  let fU:ps.Nodup:=by rw[<-S.pre];show S.nd.sublist (HG _ _)
  exists u,rv,?_;rcases S.par y (Xn hp) with k|k
  .show .inl {k,fX fU hp hu k}
  .let⟨c,e⟩:=fV (n:=(~~~s)+1) k;show .inr {.inl k,c,e,?_};let q:=x.cell y c e
   rwa[fW fU hp hu (by change scope.names.M y≠_;rw[k];decide)]at q
 .show e0.hok.fresh (LC<|x.above y c<|Sx h)
 .unfold start;change _=N.f
  rw[Xm,Xy,YM];grind
def EL{CX:QC}{P:Program}{w:World}{K:Ad}{mg:Af}{base:Heap}{k:Nat}{f:Addr}{name qual:Str}{params:Arguments}{body:List Stmt}{scope:Scope}{dV kV doc pm Xw ct oc:Value}{an od:Option Addr}
  {Tz:Array (Option Value)}{N ps:List Str}{sp:Sp}(lk:K.M f=some {oc,od,.func<|PySem.W.fnOf name qual params body scope dV kV doc pm an Xw ct,Tz})(SG:PySem.W.codeIn K Xw qual=true)(S:FnScope N ps scope)
  (len:∀vs H Q E,sp vs H Q E->vs.f=ps.f)
  (UX:∀(A:Around)(outer:List Env)(s:Shared)(H:Hp)(vs:List V)(Q:VK)(E:XK),Room k (A.deeper<|envOfC qual scope (~~~s) f Xw)->sp vs H Q E->
   ∃t,PSs (Tj CX P w K mg base N qual scope f Xw A outer s H E) body t/\t {nx:=λ_ H'=>Q .non H',rt:=Q} (start N vs) H):
  FnOk P w K mg base CX (k+1) f (PySem.W.fnOf name qual params body scope dV kV doc pm an Xw ct) ps sp:=by
 exists len,λA outer s H args us vs Q E hr e0 hb r TR=>?_;let hl:=len _ _ _ _ TR
 let KX:K.In s.m:=e0.mod.kin.keeps λb o e=>(e0.bs b o e).1;let lim:s.m.NoLimit:=e0.mod.nolimit.keeps λb o e=>(e0.bs b o e).1
 let EK:∀y∈ps.zip us,scope.names.M y.1=some .local\/(scope.names.M y.1=some .cell/\((cellsFrom ((~~~s)+1) scope.names []).M y.1).isSome=true):=λ⟨n,v⟩ hy=>by
  rcases S.par n (vF hy).1 with q|q
  .show .inl q
  .show .inr {q,gI _ _ _<|.inl q}
 show codeAny_call_function hr.depth (KX _ _ lk) Z S.co S.gen Z (PySem.W.codeRec_of KX SG) (hb _ _ _ _ ?_);show wpAny_newFunctionEnv_cells S.kind EK λenv he s1 x=>?_;subst he;exists lim.keeps x.toInCall.keep,codeAny_func ?_;let(t,ht,hq):=UX A outer s H vs Q E (hr.deeper _) TR;let I:Inv (Tj CX P w K mg base N qual scope f Xw A outer s H E) [] (start N vs) H s1:=ZE8 S hr.hd e0 hl r x
 show Ts (ht [] s1 (start N vs) H _ I hq) (λfl s' hs=>?_) λe s' hs=>hs;let fin:∀{σ':St}{H':Hp}{v:V}{u:Value},Inv (Tj CX P w K mg base N qual scope f Xw A outer s H E) [] σ' H' s'->RelV v u->Q v H'->CE outer P w H s Q u s':=
  λ{σ' H' v u} tB rv q=>⟨v,H',tB.os,tB.bare,tB.base,tB.hok,rv,q⟩
 cases fl with
 |ret u=>
  let(v,σ',H',tB,rv,q):=hs;show fin tB rv q
 |next=>
  let(σ',H',tB,q):=hs;show fin (v:=V.non) (u:=Value.none) tB Z q
 |brk=>
  let(_,_,_,q):=hs;show False.elim q
 |cont=>
  let(_,_,_,q):=hs;show False.elim q
section
variable{X:Cx}{x:Str}{p pos:Pos}{e:Expr}{es:List Expr}{t:TA}{id T:String}{r:List V->Hp->VK->Prop}
def fS(r:List V->Hp->VK->Prop)(t:TA):(TE):=λσ H Q=>t σ H λvs H1=>r vs H1 Q
def Zg(hc:Vf X (.builtin id) r)(hg:Gl X x)(hm:X.mg x=none)(hv:bootBuiltins x=some (.builtin id))(ha:PA X (e::es) t)(hn:x≠"__name__":=by decide)(Sr:(x == ("__debug__":Str))=false:=by decide)
  (he:starEach (e::es) X.X=(false,eval e X.X)::starEach es X.X:=by rfl)(Ve:(backTo pos<|starEach es X.X).any (·.1)=false:=by rfl):PE X (.Call (.Name x p) (e::es) [] pos) (fS r t):=by intro pins s σ H Q I h;show NH (Rg I hg hm hv ?_ hn Sr);show Ko (thn (ha pos pins s σ H _ I h) λus s1 zz=>by let(vs,H1,I1,r1,q1):=zz;show hc pins s1 σ H1 vs us Q I1 r1 q1) he Ve
def Zo(hc:Vf X (.type T) r)(hg:Gl X x)(hm:X.mg x=none)(hv:bootBuiltins x=some (.type T))(ha:PA X (e::es) t)(hn:x≠"__name__":=by decide)(Sr:(x == ("__debug__":Str))=false:=by decide)
  (he:starEach (e::es) X.X=(false,eval e X.X)::starEach es X.X:=by rfl)(Ve:(backTo pos<|starEach es X.X).any (·.1)=false:=by rfl):PE X (.Call (.Name x p) (e::es) [] pos) (fS r t):=by intro pins s σ H Q I h;show NH (Rg I hg hm hv ?_ hn Sr);show TX (thn (ha pos pins s σ H _ I h) λus s1 zz=>by let(vs,H1,I1,r1,q1):=zz;show hc pins s1 σ H1 vs us Q I1 r1 q1) he Ve
end
end L2
namespace HT
open PySem PyProof.Rows
def lexLt:(Ac->Ac->Bool)
 |[],[]=>false
 |[],_::_=>true
 |_::_,[]=>false
 |x::xs,y::ys=>if x=y then lexLt xs ys else decide (x<y)
def Xz(x y:Int)(xs ys:Ac):lexLt (x::xs) (y::ys)=if x=y then lexLt xs ys else decide (x<y):=rfl
def ZC3:lexLt [] []=false:=rfl
def ZU2(y:Int)(ys:Ac):lexLt [] (y::ys)=true:=rfl
def ZV2(x:Int)(xs:Ac):lexLt (x::xs) []=false:=rfl
def tZ(A:Around)(s:Shared)(a:Int)(t:Tok)(c:Int)(u:Tok):∃e,SeqAt.EqAt A s (.int a t) (.int c u) e/\(e=true↔a=c):=
 {(a == c),HC a t c u,AP}
def fR(A:Around)(s:Shared)(a:Int)(t:Tok)(c:Int)(u:Tok)(prog:Program)(w:World)(E:Ae)(Q:Ae)(h:Q (.bool (decide (a<c))) s):
  wpAny (model prog w) A (richCompare .Lt (.int a t)<|.int c u) Q E s:=
 (PyProof.Rows.lt_int h:wpAny (model prog w) A (compareOp .Lt (.int a t)<|.int c u) Q E s)
section
open PySem.SeqAt
open PySem.AutoSeq1 (wpAny_loadPart')
open PySem.MeetsSeq PySem.MeetsSeq2 PySem.MeetsSeq3
def Zj3(l b:Addr)(items WB:Array Value)(n n2:Nat)(dd QB:Option Addr)(sl QA:Array (Option Value))(ns ms:Ac)(hi:IntsAre items.C ns)(hj:IntsAre WB.C ms):
  Meets (Builtin.«tuple.__lt__» {[.ref l,.ref b],[]})
   (λ_ R s=>s.m.D l=some {cls:=.type "tuple",dict:=dd,data:=.seq items n,slots:=sl}/\s.m.D b=some {cls:=.type "tuple",dict:=QB,data:=.seq WB n2,slots:=QA}/\
    R (.ok<|.ret<|.bool<|lexLt ns ms) s):=
 .of_wp λprog w A R s h=>by
  let(hp,g,d,tk,os):=s;let(hl,hb,h):=h;let f2:=AutoSeq1.sub_tuple_tuple
  let z1:items.t=ns.f:=by rw[<-hi.f];simp
  let z2:WB.t=ms.f:=by rw[<-hj.f];simp
  wp_walk using LH hl,LH hb,wpAny_forIn_list _ (λrest b s'=>b.1=none/\s'=⟨hp,g,d,tk,os⟩/\∃(vs ws:Ag)(Hl Hk:Ac),rest=vs.zip ws/\
   IntsAre vs Hl/\IntsAre ws Hk/\Hl.f+WB.t=Hk.f+items.t/\R (.ok<|.ret<|.bool<|lexLt Hl Hk) ⟨hp,g,d,tk,os⟩) _
  case turn=>
   rintro⟨y,x⟩ rest b s' ⟨TQ,rfl,vs,ws,Hl,Hk,hz,tY,yq,hlen,hR⟩;cases tY with
   |nil=>rw[List.zip_nil_left]at hz;cases hz
   |cons a t tX=>
    cases yq with
    |nil=>rw[List.zip_nil_right]at hz;cases hz
    |cons c u tW=>
     rw[List.zip_cons_cons]at hz;injection hz with EJ PM
     injection EJ with hy hx;subst hy hx;rw[Xz]at hR;simp only[Yx]at hlen;let(e,he,EI):=tZ A.in1 ⟨hp,g,d,tk,os⟩ a t c u;show XY (he prog w _ _ ?_);cases e with
     |true=>
      rw[if_pos (EI.G Z)]at hR
      wp_walk
      exists Z,Z,_,_,_,_,PM,tX,tW,J,hR
     |false=>
      rw[if_neg λq=>absurd (EI.L q) Yw]at hR;let tV:=fR A.in1 ⟨hp,g,d,tk,os⟩ a t c u prog w
      wp_walk using tV
      exists _,Z,by simpa using hR
  case fin=>
   rintro⟨b1,b2⟩ s' ⟨TQ,rfl,vs,ws,Hl,Hk,hz,tY,yq,hlen,hR⟩;simp only at TQ;subst TQ;let hv:lexLt Hl Hk=decide (items.t<WB.t):=by
    cases tY with
    |nil=>
     cases yq with
     |nil=>
      simp only[Kr]at hlen;rw[ZC3];show(YR J).symm
     |cons c u hw=>
      simp only[Kr,Yx]at hlen;rw[ZU2];show(Ys J).symm
    |cons a t hv=>
     cases yq with
     |nil=>
      simp only[Kr,Yx]at hlen;rw[ZV2];show(YR J).symm
     |cons c u hw=>
      rw[List.zip_cons_cons]at hz;cases hz
   rw[hv]at hR
   wp_walk
   exists _,Z,by simpa[Builtin.Tuple.tupleCompareSizes] using hR
  case h=>
   exists Z,Z,items.C,WB.C,ns,ms,Z,hi,hj,J,h
end
section
variable{prog:Program}{w:World}{A:Around}{E:Ae}{s:Shared}
def UW{Q:Ae}(hl:IsTup s.m l items)(hb:IsTup s.m b WB)(hi:IntsAre items.C ns)(hj:IntsAre WB.C ms)
  (hu:A.units<cLine)(h:Q (.bool<|lexLt ns ms) s):wpAny (model prog w) A (compareOp .Lt ↑l<|.ref b) Q E s:=by
 let((cls,dd,data,sl),ho,hc,n,hd):=id hl;let((JN,QB,data2,QA),UU,VY,n2,hd2):=id hb;simp only at hc hd VY hd2;subst hc hd VY hd2;show richCompare_meets_room (op:=.Lt) {_,ho,Z} {_,UU,Z} FE gG (gJ _ _) (Zj3 l b items WB n n2 dd QB sl QA ns ms hi hj)
  {ho,UU,show Value.bool (lexLt ns ms)≠Value.notImplemented/\Q (.bool<|lexLt ns ms) s from⟨(λx=>nomatch x),h⟩} hu
def Ng{vs ws:Ag}{Q:Ae}(ht:IsTup s.m t vs.o)(hb:IsTup s.m b ws.o)(hv:vs≠[])
  (h1:ws=[]->Q ↑t s)(h2:ws≠[]->Q (.ref (~~~s)) {s with heap:=s.m.push {cls:=.type "tuple",data:=.seq (vs++ws).o} })
  (hsz:vs.f+ws.f<=sizeLine):wpAny (model prog w) A (binaryOp .Add ↑t<|.ref b) Q E s:=by
 let((cls,dd,data,sl),ho,hc,n,hd):=id ht;let((JN,QB,data2,QA),UU,VY,n2,hd2):=id hb;simp only at hc hd VY hd2;subst hc hd VY hd2;let e:vs.o++ws.o=(vs++ws).o:=AP
 cases hw:ws=[]
 .show concat_meets {_,ho,Z} {_,UU,Z} vA seq_tuple_add vX vZ (we _ _)
   (tuple_addW1 t b vs.o ws.o n n2 dd QB sl QA (by simpa using hv)<|by simp[hw]) {ho,UU,h1 hw}
 .show concat_meets {_,ho,Z} {_,UU,Z} vA seq_tuple_add vX vZ (we _ _)
   (tuple_addW2 t b vs.o ws.o n n2 dd QB sl QA (by simpa using hv) (by simpa using hw)<|by rwa[Yc,Yc]) {ho,UU,?_}
  rw[e];show h2 hw
def TN(n d:Nat):(Option Int->Nat)
 |none=>d
 |some v=>if v<0 then (v+(n:Int)).j else min v.j n
def VQ(n d:Nat):TN n d none=d:=rfl
end
end HT
namespace L2
open PySem PySem.Spec PyProof.Rows
abbrev TO:=St->Hp->(Option Int->Hp->Prop)->Prop
def PO(X:Cx)(e:Option Expr)(t:TO):(Prop):=
 ∀(pins:List (Addr×Obj))(s:Shared)(σ:St)(H:Hp)(Q:Option Int->Hp->Prop),Inv X pins σ H s->t σ H Q->
  wpAny (model X.prog X.w) X.A (evalPart e X.X) (λu s'=>∃o H',Inv X pins σ H' s'/\IsPart u o/\Q o H') X.xe s
def tU:(TO):=λ_ H Q=>Q none H
inductive xPart(x:V)(H1:Hp)(Q:Option Int->Hp->Prop):Prop
 |mk (i:Int) (_:x=.int i) (_:Q (some i) H1)
def tS(t:TE):(TO):=λσ H Q=>t σ H λx H1=>xPart x H1 Q
section
variable{X:Cx}{e:Expr}{te:TE}{lo hi:Option Expr}{tl th:TO}{pos p2:Pos}
def Qz:PO X none tU:=by intro pins s σ H Q I h;rw[evalPart_none];show Yg ⟨none,H,I,.none,h⟩
def Qy(h:PE X e te):PO X (some e) (tS te):=by intro pins s σ H Q I hw;rw[evalPart_some];show thn (h pins s σ H _ I hw) λu s1 XA=>?_;let(x,H1,I1,r1,q1):=XA;let(i,rfl,q):=q1;let(t,rfl):=r1;exists some i,H1,I1,.int i t,q
def yp(X:Cx)(r:V->Option Int->Option Int->Hp->VK->Prop):(Prop):=
 ∀(pins:List (Addr×Obj))(s:Shared)(σ:St)(H:Hp)(x:V)(v vl vu:Value)(lo hi:Option Int)(sl:Addr)(Q:VK),Inv X pins σ H s->RelV x v->s.m.IsSliceOf sl vl vu .none->IsPart vl lo->IsPart vu hi->r x lo hi H Q->
  ∃T id,typeLookup (.type T) "__getitem__"=pure (some<|.builtin id)/\s.TypeIs v T/\wpAny (model X.prog X.w) X.A (getItem v<|.ref sl) (EP X pins σ Q) X.xe s
def tSl(r:V->Option Int->Option Int->Hp->VK->Prop)(te:TE)(tl th:TO):(TE):=λσ H Q=>te σ H λx H1=>tl σ H1 λl H2=>th σ H2 λu H3=>r x l u H3 Q
def ZT{r:V->Option Int->Option Int->Hp->VK->Prop}(hr:yp X r)(he:PE X e te)(hl:PO X lo tl)(hu:PO X hi th):PE X (.Subscript e (.Slice lo hi none p2) pos) (tSl r te tl th):=by
 intro pins s σ H Q I h;show Subscript_ (thn (he pins s σ H _ I h) λv s1 XA=>?_);let(x,H1,I1,r1,q1):=XA;show wpAny_Slice (thn (hl pins s1 σ H1 _ I1 q1) λvl s2 zz=>?_);let(l,H2,I2,pl,q2):=zz;show thn (hu pins s2 σ H2 _ I2 q2) λvu s3 XA=>?_;let(u,H3,I3,pu,q3):=XA;rw[evalPart_none];show Yg ?_;let I4:Inv X pins σ H3 {s3 with heap:=s3.m.push {cls:=.type "slice",data:=.fields #[vl,vu,.none]} }:=I3.kept (t':=s3.toks) λb ob q=>Xo _ q
 let(T,id,hT,ht,hg):=hr pins {s3 with heap:=s3.m.push {cls:=.type "slice",data:=.fields #[vl,vu,.none]} } σ H3 x v vl vu l u (~~~s3) Q I4 r1 (Heap.IsSliceOf.new ..) pl pu q3;change wpAny (model X.prog X.w) X.A (subscriptTail e (.Slice lo hi none p2) v<|.ref (~~~s3)) (EP X pins σ Q) X.xe {s3 with heap:=s3.m.push {cls:=.type "slice",data:=.fields #[vl,vu,.none]} }
 show tail_any (ops:=[.ref (~~~s3),v]) ht hT hg (by with_unfolding_all rfl)
def Xk(xs:List V)(lo hi:Option Int):(List V):=(xs.drop<|HT.TN xs.f 0 lo).R (HT.TN xs.f xs.f hi-HT.TN xs.f 0 lo)
def tR(xs:List V)(lo hi:Option Int):(Xk xs lo hi).f<=xs.f:=by unfold Xk;rw[Yo,Rx];lia
def EH(K:Ad):(R2):=λx y H Q=>∃a b xs ys,x=.ref a/\y=.ref b/\SqT K H a xs/\SqT K H b ys/\xs≠[]/\xs.f+ys.f<=sizeLine/\
 (ys=[]->Q ↑a H)/\(ys≠[]->∀p,H p=none->Q ↑p (upd H p<|.tup<|xs++ys))
def Vals.nil_iff(r:Vals xs us):us=[]↔xs=[]:=by
 cases r with
 |nil=>simp
 |cons _ _=>simp
def tQ:Wx X (binaryOp .Add) (EH X.K):=by intro pins s σ H x y v u Q I rx ry h;let(a,b,xs,ys,rfl,rfl,ha,hb,hx,hz,q1,q2):=h;cases rx;cases ry;let(XX,r1,p1,_):=I.tuple ha;let(WD,r2,p2,_):=I.tuple hb;show HT.Ng p1 p2 (λz=>hx<|r1.nil_iff.G z) (λz=>{.ref a,H,I,Z,q1<|r2.nil_iff.G z}) (λz=>?_) (by rwa[<-r1.f,<-r2.f]);exists .ref (~~~s),_,I.laid (t':=s.toks) (o:=.tup<|xs++ys) (λb ob q=>Xo _ q) (XQ _) ?_,Z,q2 (λw=>z<|r2.nil_iff.L w) _<|I.hok.fresh<|XQ _;exists by rw[Xm];show hz,_,r1.append r2,IsTup.new _ _
end
def PL(n:Nat)(i:Int):(Option Nat):=if 0<=i then (if i<n then some i.j else none) else if -(n:Int)<=i then some (i+n).j else none
def Vq{α:Type}(xs:List α)(i:Int):(Option α):=(PL xs.f i).bind λj=>xs[j]?
def fQ{j:Nat}(h:PL n i=some j):seqIndex? i n=some j/\j<n/\-(n:Int)<=i/\i<n:=by
 unfold PL at h;cases h0:0<=i
 .rw[if_pos h0]at h;cases h1:i<n
  .rw[if_pos h1]at h;let e:i.j=j:=Ya h
   exists by rw[seqIndex_of h0 h1,e],J,J,h1
  .rw[if_neg h1]at h;cases h
 .rw[if_neg h0]at h;cases h1:-(n:Int)<=i
  .rw[if_pos h1]at h;let e:(i+n).j=j:=Ya h
   exists by rw[seqIndex_neg J h1,e],J,h1,J
  .rw[if_neg h1]at h;cases h
def tP{α:Type}{xs:List α}{i:Int}{v:α}(h:Vq xs i=some v):∃j,seqIndex? i xs.f=some j/\xs[j]?=some v/\j<xs.f/\-xs⁻¹<=i/\i<xs.f:=by
 unfold Vq at h;cases e:PL xs.f i with
 |none=>rw[e]at h;cases h
 |some j=>
  rw[e]at h;let(h1,h2,h3,h4):=fQ e;exists j,h1,h,h2,h3,h4
def tO(b:Expr):(Prop):=∀o i,subscripted b false o i=operate [o,i] (getItem o i)
def JM(X:Cx)(r:R2):(Prop):=
 ∀(value slice:Expr)(pins:List (Addr×Obj))(s:Shared)(σ:St)(H:Hp)(x y:V)(v u:Value)(Q:VK),Inv X pins σ H s->RelV x v->RelV y u->r x y H Q->
  subscripted slice false v u=operate [v,u] (getItem v u)->wpAny (model X.prog X.w) X.A (subscriptTail value slice v u) (EP X pins σ Q) X.xe s
def yo(X:Cx)(id:String)(r:V->List V->Hp->VK->Prop):(Prop):=
 ∀(pins:List (Addr×Obj))(s:Shared)(σ:St)(H:Hp)(x:V)(xs:List V)(v:Value)(us:Ag)(Q:VK),Inv X pins σ H s->RelV x v->Vals xs us->r x xs H Q->
  wpAny (model X.prog X.w) X.A (call (.builtin id)<|v::us) (EP X pins σ Q) X.xe s
section
variable{X:Cx}{a b:Expr}{ta tb:TE}{pos:Pos}
def Zw(hr:JM X r)(ha:PE X a ta)(hb:PE X b tb)(hs:tO b):PE X (.Subscript a b pos) (Fc r ta tb):=by intro pins s σ H Q I h;show Subscript_ (JV ha hb I h λv u s2 x y H2 I2 rx ry q=>hr a b pins s2 σ H2 x y v u Q I2 rx ry q<|hs _ _)
inductive rIxL(K:Ad)(x:V)(y:V)(H:Hp)(Q:VK):Prop
 |mk (p xs i v:_) (_:x=.ref p) (_:y=.int i) (_:SqL K H p xs) (_:Vq xs i=some v) (_:Q v H)
inductive rIxT(K:Ad)(x:V)(y:V)(H:Hp)(Q:VK):Prop
 |mk (p xs i v:_) (_:x=.ref p) (_:y=.int i) (_:SqT K H p xs) (_:Vq xs i=some v) (_:Q v H)
def tN:(R2):=λx y H Q=>∃z i c,x=.str z/\y=.int i/\z.f<=sizeLine/\Vq z.cps.C i=some c/\Q (.str {#[c]}) H
def EG:JM X (rIxL X.K):=by
 intro value slice pins s σ H x y v u Q I rx ry h hs;let(p,xs,i,z,rfl,rfl,hq,he,q):=h;cases rx;let(t,rfl):=ry;let(XX,r,pl,hz):=I.list hq;let(j,h1,h2,h3,h4,h5):=tP he;let(w,ew,Nf):=r.get h2;let hl:=r.f
 let hn:=JS;let fin:EP X pins σ Q w s:=⟨z,H,I,Nf,q⟩
 cases h0:0<=i
 .let hj:i.j=j:=by rw[seqIndex_of h0 h5]at h1;show Ya h1
  show item_listR pl.isList h0 J (by rw[hj];simpa using ew) fin hs
 .let hj:(i+(XX.o.t:Int)).j=j:=by rw[seqIndex_neg J h4]at h1;rw[Yc,<-hl];show Ya h1
  show subscriptTail_builtinR (x:=w) pl.isList.typeIs slot_list_getitem.M
   (wpAny_getItem_list_neg (Q:=λr s'=>r=w/\EP X pins σ Q r s') pl.isList B (by rw[Yc]<;>lia) J (by rw[hj];simpa using ew) ⟨rfl,fin⟩) hs
def tL:JM X (rIxT X.K):=by
 intro value slice pins s σ H x y v u Q I rx ry h hs;let(p,xs,i,z,rfl,rfl,hq,he,q):=h;cases rx;let(t,rfl):=ry;let(XX,r,pl,hz):=I.tuple hq;let(j,h1,h2,h3,h4,h5):=tP he;let(w,ew,Nf):=r.get h2;let hl:=r.f
 let hn:=JS;let fin:EP X pins σ Q w s:=⟨z,H,I,Nf,q⟩
 show subscriptTail_builtinR (x:=w) pl.typeIs slot_tuple_getitem.M
  (getItem_tuple (j:=j) (Q:=λr s'=>r=w/\EP X pins σ Q r s') pl J J (by rwa[Yc,<-hl]) (by simpa using ew) ⟨Z,fin⟩) hs
def tK:JM X tN:=by
 intro value slice pins s σ H x y v u Q I rx ry h hs;let(z,i,c,rfl,rfl,hz,he,q):=h;let(t,rfl):=rx;let(t',rfl):=ry;let(j,h1,h2,h3,h4,h5):=tP he;let hl:z.cps.C.f=z.f:=by simp[Str.length]
 rw[hl]at h1 h4 h5;let hn:=JS
 show tail_any (Hs s z t) slot_str_getitem.M (getItem_str (c:=c) (by
  let e1:decide (i < -(2^63:Int))=false:=YR J;let e2:decide (i >= 2^63)=false:=YR J
  rw[e1,e2,Bool.or_false]) (by rw[h1];simpa using h2) {.str {#[c]},H,I.tok _,{_,Z},q}) hs
def tJ(XX:Ag)(n j:Nat)(u:Value):Obj.mapSeq (·.setIfInBounds j u) {cls:=.type "list",data:=.seq XX.o n}={cls:=.type "list",data:=.seq (XX.set j u).o n}:=by simp[Obj.mapSeq]
def Inv.lst{pins:List (Addr×Obj)}{σ:St}{H:Hp}{s:Shared}{p:Addr}{xs:List V}(I:Inv X pins σ H s)(h:H p=some (.lst xs)):
  ∃(XX:Ag)(n:Nat),Vals xs XX/\s.m.D p=some {cls:=.type "list",data:=.seq XX.o n}/\xs.f<=sizeLine:=by let(z,XX,n,r,e):=I.hok p _ h;exists XX,n,r,e,z
def Inv.lstUpd{p:Addr}{xs ys:List V}{XX its':Ag}{f:Obj->Obj}(I:Inv X pins σ H s)(h:H p=some (.lst xs))
  (ho:s.m.D p=some {cls:=.type "list",data:=.seq XX.o n})(hf:f {cls:=.type "list",data:=.seq XX.o n}={cls:=.type "list",data:=.seq its'.o n'})(r:Vals ys its')(hz:ys.f<=sizeLine)(t:Nat):
  Inv X pins σ (upd H p<|.lst ys) {s with heap:=s.m.update p f,toks:=t}:=by
 let e:(s.m.update p f).D p=some {cls:=.type "list",data:=.seq its'.o n'}:=by rw[Vb f ho (by rw[hf]<;>rfl),hf]
 show I.write (x:=p) (e:=p) (by rw[h];trivial) (.inl Z) (λb u hb q=>(YU _ _<|XO hb).l q) {_,e} ?_;exists hz,its',n',r,e
inductive rSetL(o:V)(i:V)(v:V)(H:Hp)(Q:Hp->Prop):Prop
 |mk (p xs k j:_) (_:o=.ref p) (_:i=.int k) (_:H p=some (.lst xs)) (_:PL xs.f k=some j) (_:Q (upd H p<|.lst<|xs.set j v))
def Hj:JX X rSetL:=by
 intro pins s σ H o i v ov iv u Q I ro ri rv h;let(p,xs,k,j,rfl,rfl,hp,hj,q):=h;cases ro;let(t,rfl):=ri;let(XX,n,r,ho,hz):=I.lst hp;let(h1,h2,h3,h4):=fQ hj;let hl:=r.f
 let hn:=JS;let I':Inv X pins σ (upd H p<|.lst<|xs.set j v) {s with heap:=s.m.update p (Obj.mapSeq (·.setIfInBounds j u))}:=
  I.lstUpd hp ho (tJ XX n j u) (r.set rv j) (by rwa[Qf]) s.toks
 cases h0:0<=k
 .let hk:k.j=j:=by rw[seqIndex_of h0 h4]at h1;show Ya h1
  show PySem.W.ki_setAt ho h0 J (by rwa[Yc,<-hl]) (by rw[hk];exists _,I',q)
 .let hk:(k+(XX.o.t:Int)).j=j:=by rw[seqIndex_neg J h3]at h1;rw[Yc,<-hl];show Ya h1
  show PySem.W.ki_setBack ho B (by rwa[Yc,<-hl]) J (by rw[hk];exists _,I',q)
def EF(i:Int)(n:Nat):max 0 (min (if i<0 then i+n else i) n)=((if i<0 then (i+n).j else min i.j n:Nat):Int):=by
 cases h:i<0
 .rw[if_pos h,if_pos h,yW J,Int.ofNat_toNat,Int.max_comm]
 .let⟨m,rfl⟩:=Int.eq_ofNat_of_zero_le (FK.G h);rw[if_neg h,if_neg h,Yy];lia
def ZW3(lo hi:Option Int)(n:Nat):(sliceBounds lo hi none n).1=((HT.TN n 0 lo:Nat):Int)/\(sliceBounds lo hi none n).2.1=((HT.TN n n hi:Nat):Int)/\(sliceBounds lo hi none n).2.2=1:=by exists by cases lo<;>first|rfl|show EF _ n,by cases hi<;>first|rfl|show EF _ n,rfl
def Zo3(XX:Ag)(lo hi:Option Int):slicePick XX.o lo hi none=((XX.drop (HT.TN XX.f 0 lo)).R (HT.TN XX.f XX.f hi-HT.TN XX.f 0 lo)).o:=by let(h1,h2,h3):=ZW3 lo hi XX.o.t;unfold slicePick;rw[h1,h2,h3];simp only[sliceRange_one,pick_run,Yc]<;>rfl
inductive rSlL(K:Ad)(x:V)(lo:Option Int)(hi:Option Int)(H:Hp)(Q:VK):Prop
 |mk (a xs:_) (_:x=.ref a) (_:SqL K H a xs) (_:∀p,H p=none->Q ↑p (upd H p<|.lst<|Xk xs lo hi))
def tI:yp X (rSlL X.K):=by
 intro pins s σ H x v vl vu lo hi sl Q I rx hs pl pu h;let(a,xs,rfl,hx,q):=h;cases rx;let(XX,r,ht,hz):=I.list hx;let hlen:=r.f
 exists "list",_,slot_list_getitem.M,ht.isList.typeIs,?_;show wpAny_getItem_list_slice ht.isList hs pl pu .none AP ?_ (by rw[Yc]<;>lia)
 rw[Zo3,<-hlen];exists .ref (~~~s),_,I.laid (t':=s.toks) (o:=.lst<|Xk xs lo hi) (λb ob q=>Xo _ q) (XQ _) ?_,Z,q _<|I.hok.fresh<|XQ _;exists YB (tR xs lo hi) hz,_,0,(r.drop<|HT.TN xs.f 0 lo).R (HT.TN xs.f xs.f hi-HT.TN xs.f 0 lo),Yi _ Z
def VP:(V->Bool)
 | .non=>true
 | .bl _=>true
 | .int _=>true
 | .str _=>true
 |_=>false
def PK:(V->V->Bool)
 | .non,.non=>true
 | .bl a,.bl b=>a == b
 | .bl a,.int b=>(if a then 1 else 0) == b
 | .int a,.bl b=>a == (if b then 1 else 0)
 | .int a,.int b=>a == b
 | .str a,.str b=>a == b
 |_,_=>false
def EE(ry:RelV y u)(rx:RelV x v)(fy:VP y=true)(fx:VP x=true):SeqAt.EqAt A s u v (PK y x):=by
 cases y with
 |non=>
  cases ry;cases x with
  |non=>cases rx;show Nt _
  |bl b=>cases rx;show SeqAt.EqAt.none_bool b
  |int b=>let(t,rfl):=rx;show SeqAt.EqAt.none_int b t
  |str b=>let(t,rfl):=rx;show SeqAt.EqAt.none_str b t
  |_=>show absurd (show false=true from fx) Yw
 |bl a=>
  cases ry;cases x with
  |non=>cases rx;show SeqAt.EqAt.bool_none a
  |bl b=>cases rx;show SeqAt.EqAt.bool_bool a b
  |int b=>let(t,rfl):=rx;show SeqAt.EqAt.bool_int a b t
  |str b=>let(t,rfl):=rx;show SeqAt.EqAt.bool_str a b t
  |_=>show absurd (show false=true from fx) Yw
 |int a=>
  let(t',rfl):=ry;cases x with
  |non=>cases rx;show SeqAt.EqAt.int_none a t'
  |bl b=>cases rx;show SeqAt.EqAt.int_bool a t' b
  |int b=>let(t,rfl):=rx;show HC a t' b t
  |str b=>let(t,rfl):=rx;show SeqAt.EqAt.int_str a t' b t
  |_=>show absurd (show false=true from fx) Yw
 |str a=>
  let(t',rfl):=ry;cases x with
  |non=>cases rx;show SeqAt.EqAt.str_none a t'
  |bl b=>cases rx;show SeqAt.EqAt.str_bool a t' b
  |int b=>let(t,rfl):=rx;show SeqAt.EqAt.str_int a t' b t
  |str b=>let(t,rfl):=rx;show SeqAt.EqAt.str_str a t' b t
  |_=>show absurd (show false=true from fx) Yw
 |_=>show absurd (show false=true from fy) Yw
def Of(x:V)(u:Value):(Bool):=match u with
 | .none=>PK .non x
 | .bool b=>PK (.bl b) x
 | .int i _=>PK (.int i) x
 | .str z _=>PK (.str z) x
 |_=>false
def ED(r:RelV y u)(f:VP y=true):Of x u=PK y x:=by
 cases y with
 |non=>cases r;rfl
 |bl b=>cases r;rfl
 |int i=>let(t,rfl):=r;rfl
 |str z=>let(t,rfl):=r;rfl
 |_=>show absurd (show false=true from f) Yw
def fP{xs:List V}{us:Ag}(h:Vals xs us)(f:xs.all VP=true):us.any (Of x)=xs.any λy=>PK y x:=by
 induction h with
 |nil=>rfl
 |cons r t ih=>
  rw[List.all_cons,Ou]at f;rw[FR,FR,ED r f.1,ih f.2]
def JL(rx:RelV x v)(fx:VP x=true){xs:List V}{us:Ag}(h:Vals xs us)(f:xs.all VP=true):∀u∈us,SeqAt.EqAt A s u v (Of x u):=by
 induction h with
 |nil=>intro u hu;cases hu
 |cons r t ih=>
  intro u' hu;rw[List.all_cons,Ou]at f;rcases Ye.G hu with rfl|hu
  .rw[ED r f.1];show EE r rx f.1 fx
  .show ih f.2 u' hu
def EC(x:V)(xs:List V):(Bool):=xs.any λy=>PK y x
def rIn(K:Ad)(neg:Bool):(R2):=λx y H Q=>∃p xs,y=.ref p/\(SqL K H p xs\/SqT K H p xs)/\VP x=true/\xs.all VP=true/\Q (.bl<|if neg then !EC x xs else EC x xs) H
def tH:Wx X (compareOp .NotIn) (rIn X.K true):=by
 intro pins s σ H x y v u Q I rx ry h;let(p,xs,rfl,hq,fx,fs,q):=h;cases ry;rcases hq with hq|hq
 .let⟨XX,r,pl,hz⟩:=I.list hq;show SeqAt.notIn_listAt (Of x) pl.isList (λw hw=>JL rx fx r fs w<|by simpa using hw) ⟨.bl _,H,I,Z,?_⟩;rwa[show XX.o.any (Of x)=XX.any (Of x) by simp,fP r fs]
 .let⟨XX,r,pl,hz⟩:=I.tuple hq;show SeqAt.notIn_tupleAt (Of x) pl (λw hw=>JL rx fx r fs w<|by simpa using hw) ⟨.bl _,H,I,Z,?_⟩;rwa[show XX.o.any (Of x)=XX.any (Of x) by simp,fP r fs]
inductive yR0(K:Ad)(xs:List V)(H:Hp)(Q:VK):Prop
 |mk (p ys:_) (_:xs=[.ref p]) (_:(SqL K H p ys\/SqT K H p ys)) (_:Q (.int ys.f) H)
def Zt4:Vf X (.builtin "len") (yR0 X.K):=by
 intro pins s σ H xs us Q I r h;let(p,ys,rfl,hq,q):=h;let(u,rfl,rx):=Ut r;cases rx;let hn:=JS
 rcases hq with hq|hq
 .let⟨XX,r',pl,hz⟩:=I.list hq;let hlen:=r'.f
  show Calls.call_len_list pl.isList (by simp only[Yc]<;>lia) {.int ys.f,H,I.tok _,{s.toks+1,by rw[Yc,hlen]},q}
 .let⟨XX,r',pl,hz⟩:=I.tuple hq;let hlen:=r'.f
  show len_tuple pl (by simp only[Yc]<;>omega) {.int ys.f,H,I.tok _,{s.toks+1,by rw[Yc,hlen]},q}
def Zs4:Vf X (.builtin "len") (λxs H Q=>∃z,xs=[.str z]/\z.f<=sizeLine/\Q (.int z.f) H):=by
 intro pins s σ H xs us Q I r h;let(z,rfl,hz,q):=h;let(u,rfl,t,rfl):=Ut r;let hn:=JS
 show len_str J {.int z.f,H,I.tok _,{_,Z},q}
def Zr4:Vf X (.type "list") (λxs H Q=>∃p ys,xs=[.ref p]/\(SqL X.K H p ys\/SqT X.K H p ys)/\∀l,H l=none->Q ↑l (upd H l (.lst ys))):=by
 intro pins s σ H xs us Q I r h;let(p,ys,rfl,hq,q):=h;let(u,rfl,rx):=Ut r;cases rx;let fin:∀(XX:Ag),Vals ys XX->ys.f<=sizeLine->∀(h':Heap)(c':Nat),(∀b o',s.m.D b=some o'->h'.D b=some o')->
   h'.D (~~~s)=some {cls:=.type "list",dict:=none,data:=.seq XX.o c',slots:=#[]}->EP X pins σ Q (.ref (~~~s)) {s with heap:=h'}:=λXX r' hz h' c' kp e=>
  {.ref (~~~s),_,I.laid (t':=s.toks) kp (XQ _)<|show ObjOk X.prog X.w _ h' _ (.lst ys) from⟨hz,XX,c',r',e⟩,Z,q _<|I.hok.fresh<|XQ _}
 rcases hq with hq|hq
 .let⟨XX,r',pl,hz⟩:=I.list hq;let hlen:=r'.f
  let(o,ho,hc,n,hd):=pl.isList;show call_list_seq p (.inl rfl) ho hc hd (λh' c' kp e=>fin XX r' hz h' c' kp e) (by simp only[Yc]<;>omega)
 .let⟨XX,r',pl,hz⟩:=I.tuple hq;let hlen:=r'.f
  let(o,ho,hc,n,hd):=pl;show call_list_seq p (.inr rfl) ho hc hd (λh' c' kp e=>fin XX r' hz h' c' kp e) (by simp only[Yc]<;>omega)
def ZI3:Vf X (.type "tuple") (λxs H Q=>∃p ys,xs=[.ref p]/\((SqL X.K H p ys/\∀l,H l=none->Q ↑l (upd H l (.tup ys)))\/(SqT X.K H p ys/\Q ↑p H))):=by
 intro pins s σ H xs us Q I r h;let(p,ys,rfl,h):=h;let(u,rfl,rx):=Ut r;cases rx;rcases h with ⟨hq,q⟩|⟨hq,q⟩
 .let⟨XX,r',pl,hz⟩:=I.list hq;let hlen:=r'.f
  show call_tuple_list pl.isList (λh' kp=>?_) (by simp only[Yc]<;>omega)
  let I1:Inv X pins σ H {s with heap:=h'}:=I.kept (t':=s.toks) kp;let I2:Inv X pins σ (upd H h'.objs.t<|.tup ys) {s with heap:=h'.push {cls:=.type "tuple",data:=.seq XX.o} }:=
   I1.laid (t':=s.toks) (λb o e=>Xo _ e) (XQ _) (show ObjOk X.prog X.w _ _ _ (.tup ys) from{hz,XX,r',IsTup.new _ _})
  exists .ref h'.objs.t,_,I2,Z,q _<|I1.hok.fresh<|XQ _
 .let⟨XX,r',pl,hz⟩:=I.tuple hq;show call_tuple_same pl {.ref p,H,I,Z,q}
def tG(K:Ad)(T:String)(x:V)(H:Hp):(Prop):=match x with
 | .str _=>T="str"
 | .int _=>T="int"
 | .ref p=>(T="list"/\∃xs,SqL K H p xs)\/(T="tuple"/\∃o,K.M p=some o/\o.cls=.type "tuple"/\o.dict=none)\/
   (T="dict"/\((∃kvs,H p=some (.dK kvs))\/∃kvs,H p=some (.dT kvs)))\/(T="set"/\∃S n,H p=some (.set S n))
 |_=>False
def Lm(I:Inv X pins σ H s)(r:RelV x v)(ty:tG X.K T x H):
  s.TypeIs v T/\∀a,v=.ref a->∃ob,s.m.D a=some ob/\ob.dict=none:=by
 cases x with
 |str z=>
  let(t,rfl):=r;cases (show T="str" from ty);exists Hs s z t,λ_ e=>nomatch e
 |int i=>
  let(t,rfl):=r;cases (show T="int" from ty);exists typeIs_int s i t,λ_ e=>nomatch e
 |ref p=>
  cases r;rcases ty with ⟨rfl,xs,hq⟩|⟨rfl,o,hk,hc,hd⟩|⟨rfl,hk⟩|⟨rfl,S,n,hk⟩
  .let⟨XX,_,pl,_⟩:=I.list hq;exists pl.isList.typeIs,λa e=>?_;cases e;let(o,n,e,c,hd,_):=pl;exists o,e,hd
  .exists {o,I.kIn p o hk,hc},λa e=>?_;cases e;exists o,I.kIn _ o hk,hd
  .let z:∃o,s.m.D p=some o/\o.ExactDict:=by
    rcases hk with ⟨kvs,hk⟩|⟨kvs,hk⟩
    .let⟨_,_,_,_,o,_,_,e,ex,_⟩:=I.hok p _ hk;exists o,e,ex
    .let⟨_,_,_,_,o,_,_,e,ex,_⟩:=I.hok p _ hk;exists o,e,ex
   let(o,e,ex):=z;exists ⟨o,e,ex.1⟩,λa e2=>?_;cases e2;exists o,e,ex.2.1
  .let⟨o,_,_,_,e,ex,_⟩:=I.hok p _ hk;exists ⟨o,e,ex.1⟩,λa e2=>?_;cases e2;exists o,e,ex.2.1
 |_=>show False.elim ty
def EB(K:Ad)(T:String)(r:V->List V->Hp->VK->Prop)(to:TE):(TE):=λσ H Q=>to σ H λx H1=>tG K T x H1/\r x [] H1 Q
def fO(K:Ad)(T:String)(r:V->List V->Hp->VK->Prop)(to:TE)(t:TA):(TE):=λσ H Q=>to σ H λx H1=>tG K T x H1/\t σ H1 λxs H2=>r x xs H2 Q
variable{o e:Expr}{es:List Expr}{to:TE}{t:TA}{name:Str}{apos Ww:Pos}{T id:String}{r:V->List V->Hp->VK->Prop}
def tF(pa:PlainAttrs T)(slot:Slot T name id)(JK:typeOf (.builtin id)=pure (.type "method_descriptor"))(hm:yo X id r)(ho:PE X o to)
  (UT:attributeBase o name X.X (eval o X.X)=eval o X.X:=by rfl)(US:(apos.endLine == Ww.line)=true:=by rfl):PE X (.Call (.Attribute o name apos) [] [] Ww) (EB X.K T r to):=by intro pins s σ H Q I h;show wpAny_Call_method0_late UT US (thn (ho pins s σ H _ I h) λv s1 XA=>?_);let(x,H1,I1,r1,ty,q1):=XA;let(h1,h2):=Lm I1 r1 ty;exists T,id,pa,slot,JK,h1,h2,Calls.callWith_builtin Z<|PySem.evalArgs_none<|hm pins s1 σ H1 x [] v [] Q I1 r1 .nil q1
def tE(pa:PlainAttrs T)(slot:Slot T name id)(JK:typeOf (.builtin id)=pure (.type "method_descriptor"))(hm:yo X id r)(ho:PE X o to)(ha:PA X (e::es) t)
  (UT:attributeBase o name X.X (eval o X.X)=eval o X.X:=by rfl)
  (Nd:((backTo Ww<|starEach (e::es) X.X).all (λx=>!x.1)&&(backToKw Ww<|keywordEach [] X.X).all (λx=>x.1.isSome)
   && decide ((e::es).f+([]:List Keyword).f+(if ([]:List Keyword).isEmpty then 0 else 1)<30))=true:=by rfl)
  (US:(apos.endLine == Ww.line)=true:=by rfl)(hs:starEach (e::es) X.X=(false,eval e X.X)::starEach es X.X:=by rfl)(Sq:(backTo Ww<|starEach es X.X).any (·.1)=false:=by rfl):
  PE X (.Call (.Attribute o name apos) (e::es) [] Ww) (fO X.K T r to t):=by
 intro pins s σ H Q I h;show wpAny_Call_method_late UT Nd US Z (thn (ho pins s σ H _ I h) λv s1 XA=>?_);let(x,H1,I1,r1,ty,q1):=XA;let(h1,h2):=Lm I1 r1 ty;exists T,id,pa,slot,JK,h1,h2,?_;let hA:=ha Ww pins s1 σ H1 _ I1 q1
 rw[hs]at hA ⊢;show Calls.callWith_builtin (by change(false||(backTo Ww<|starEach es X.X).any (·.1))=false;rw[Sq]<;>rfl) (Calls.evalArgs_plain ?_)
 show thn hA λus s2 zz=>by let(vs,H2,I2,r2,q2):=zz;show hm pins s2 σ H2 x vs v us Q I2 r1 r2 q2
end
def Oe(X:Cx)(id:String)(r:V->List V->Hp->VK->Prop):(Prop):=
 ∀(pins:List (Addr×Obj))(s:Shared)(σ:St)(H:Hp)(x:V)(xs:List V)(v:Value)(us:Ag)(Q:VK),Inv X pins σ H s->RelV x v->Vals xs us->r x xs H Q->
  wpAny (model X.prog X.w) X.A (call (.builtin id)<|v::us) (EP X pins σ Q) X.xe s
def Vals.one{x:V}{us:Ag}(r:Vals [x] us):∃u,us=[u]/\RelV x u:=by
 cases r with
 |cons a r=>cases r;exists _,Z,a
def Vals.eraseIdx{xs:List V}{us:Ag}(i:Nat)(h:Vals xs us):Vals (xs.eraseIdx i) (us.eraseIdx i):=by
 induction h generalizing i with
 |nil=>show .nil
 |cons r t ih=>
  cases i with
  |zero=>show t
  |succ i=>show .cons r (ih i)
def Vals.rep(h:Vals xs us):∀k:Nat,Vals (List.S k xs).flatten (List.S k us).flatten
 |0=>.nil
 |k+1=>by rw[LI,LI,HF,HF];show Vals.append h (Vals.rep h k)
def fN{α:Type}:∀(l:List α)(i:Nat),(l.eraseIdx i).f<=l.f
 |[],_=>XQ _
 |_::_,0=>SI _
 |_::r,i+1=>Nat.succ_le_succ (fN r i)
def EA(XX:Ag):∀(k:Nat)(acc:Ag),
  List.foldl (λx1 x2=>x1++x2) acc.o (List.S k XX.o)=(acc++(List.S k XX).flatten).o
 |0,acc=>AP
 |k+1,acc=>by
  let e:acc.o++XX.o=(acc++XX).o:=AP;let e2:(acc++XX)++(List.S k XX).flatten=acc++(List.S (k+1) XX).flatten:=by rw[LI,HF,QF]
  rw[<-e2,<-EA XX k (acc++XX),<-e,LI,yY]
section
variable{X:Cx}{pins:List (Addr×Obj)}{σ:St}{H:Hp}{s:Shared}{l:Addr}{xs ys:List V}
def Inv.lset{XX its':Ag}{f:Array Value->Array Value}{t':Nat}(I:Inv X pins σ H s)(hH:H l=some (.lst xs))
  (e:s.m.D l=some {cls:=.type "list",data:=.seq XX.o n})(hf:f XX.o=its'.o)(hv:Vals ys its')(hz:ys.f<=sizeLine):
  Inv X pins σ (upd H l<|.lst ys) {s with heap:=s.m.update l<|Obj.mapSeq f,toks:=t'}:=by let q:=PySem.IsL.update e f;rw[hf]at q;show I.write (x:=l) (e:=l) (by rw[hH];show trivial) (.inl Z) (λb' u hb hu=>(YU s.m (Obj.mapSeq f)<|XO hb).l hu) {_,q} ?_;exists hz,its',_,hv,q
def Inv.lnew{t':Nat}(I:Inv X pins σ H s)(hv:Vals ys XX)(hz:ys.f<=sizeLine):
  Inv X pins σ (upd H (~~~s)<|.lst ys) {s with heap:=s.m.push {cls:=.type "list",data:=.seq XX.o},toks:=t'}:=
 I.laid (λ_ _ q=>Xo _ q) (XQ _) {hz,XX,0,hv,Yi _ Z}
def Inv.fresh(I:Inv X pins σ H s):H (~~~s)=none:=I.hok.fresh (XQ _)
def Inv.lstM(I:Inv X pins σ H s)(hH:H l=some (.lst xs)):xs.f<=sizeLine/\∃(XX:Ag)(n:Nat),Vals xs XX/\xs.f=XX.f/\s.m.D l=some {cls:=.type "list",data:=.seq XX.o n}:=by let(z,XX,n,r,e):=I.hok l _ hH;exists z,XX,n,r,r.f,e
def fM(h:n<=sizeLine):Builtin.List.listTooLong n=false:=by unfold Builtin.List.listTooLong;show YR J
end
section
variable{X:Cx}
inductive rAppend(x:V)(vs:List V)(H:Hp)(Q:VK):Prop
 |mk (l xs y:_) (_:x=.ref l) (_:vs=[y]) (_:H l=some (.lst xs)) (_:xs.f<sizeLine) (_:Q .non (upd H l<|.lst<|xs++[y]))
def ZX:Oe X "list.append" rAppend:=by intro pins s σ H x vs v us Q I rx rv h;let(l,xs,y,rfl,rfl,hH,hz,q):=h;cases rx;let(u,rfl,ru):=rv.one;let(z,XX,n,r,hl,e):=I.lstM hH;show Uy F.slot_list_append {_,e,Z} F.entry_list_append (F.args_list_append_2 _ _) (PySem.list_append l XX.o n u<|by rw[Yc];lia) {e,?_};exists .non,_,I.lset (its':=XX++[u]) hH e AP (r.append<|.cons ru .nil) ?_,Z,q;rw[Xm,YQ];lia
def fL:(V->List V->Hp->VK->Prop):=λx vs H Q=>∃l b xs zs,x=.ref l/\vs=[.ref b]/\H l=some (.lst xs)/\H b=some (.lst zs)/\xs.f+zs.f<=sizeLine/\Q .non (upd H l<|.lst<|xs++zs)
def tD:Oe X "list.extend" fL:=by
 intro pins s σ H x vs v us Q I rx rv h;let(l,b,xs,zs,rfl,rfl,hH,hB,hz,q):=h;cases rx;let(u,rfl,ru):=rv.one;cases ru;let(z,XX,n,r,hl,e):=I.lstM hH;let(z2,WD,n2,r2,Ti,e2):=I.lstM hB;let hsz:XX.o.t+WD.o.t<=sizeLine:=by rw[Yc,Yc];grind
 let PJ:¬(!XX.o.isEmpty&&Builtin.List.listTooLong (XX.o.t+WD.o.t))=true:=by rw[fM hsz,Bool.and_false];show Yw
 show Uy F.slot_list_extend {_,e,Z} F.entry_list_extend (F.args_list_extend_2 _ _)
  (AutoSeq1.list_extend_list_list_0 l XX.o n b WD.o n2 PJ (by rw[Yc];grind) J) {e,e2,?_}
 exists .non,_,I.lset (its':=XX++WD) hH e AP (r.append r2) ?_,Z,q;rw[Xm];lia
def tw:(V->List V->Hp->VK->Prop):=λx vs H Q=>∃ l xs i k y,x=.ref l/\vs=[.int i]/\H l=some (.lst xs)/\-(2 ^ 63)<=i/\i<2 ^ 63/\seqIndex? i xs.f=some k/\xs[k]?=some y/\Q y (upd H l (.lst (xs.eraseIdx k)))
def tu:Oe X "list.pop" tw:=by
 intro pins s σ H x vs v us Q I rx rv h;let(l,xs,i,k,y,rfl,rfl,hH,h1,h2,hk,hy,q):=h;cases rx;let(u,rfl,ru):=rv.one;let(t,rfl):=ru;let(z,XX,n,r,hl,e):=I.lstM hH;let(w,hw,Nf):=r.get hy;show Uy F.slot_list_pop {_,e,Z} F.entry_list_pop (F.args_list_pop_2 _ _)
  (MeetsSeq.list_pop_at l XX.o n i t k w (fitsIndex_both h1 h2) (by rwa[Yc,<-hl]) (by rwa[<-YK])<|by rw[Yc];lia) {e,?_}
 exists y,_,I.lset (its':=XX.eraseIdx k) hH e ?_ (r.eraseIdx k) ?_,Nf,q
 .change XX.o.eraseIdxIfInBounds k=(XX.eraseIdx k).o;rw[List.eraseIdxIfInBounds_toArray]
 .have:=fN xs k
  lia
inductive rCat(x:V)(y:V)(H:Hp)(Q:VK):Prop
 |mk (l b xs zs:_) (_:x=.ref l) (_:y=.ref b) (_:H l=some (.lst xs)) (_:H b=some (.lst zs)) (_:xs.f+zs.f<=sizeLine) (_:∀p,H p=none->Q ↑p (upd H p<|.lst<|xs++zs))
def yn:Wx X (binaryOp .Add) rCat:=by
 intro pins s σ H x y v u Q I rx ry h;let(l,b,xs,zs,rfl,rfl,hH,hB,hz,q):=h;cases rx;cases ry;let(z,XX,n,r,hl,e):=I.lstM hH;let(z2,WD,n2,r2,Ti,e2):=I.lstM hB;show PySem.P.add_list e e2 ?_ (by rw[Yc,Yc];omega);let ea:XX.o++WD.o=(XX++WD).o:=AP
 rw[ea];exists .ref _,_,I.lnew (t':=s.toks) (r.append r2) (by rw[Xm];omega),Z,q _ I.fresh
def tj:(R2):=λx y H Q=>∃l k xs,x=.ref l/\y=.int k/\H l=some (.lst xs)/\-(2^63)<=k/\k<2^63/\xs.f*k.j<=sizeLine/\
 ∀p,H p=none->Q ↑p (upd H p<|.lst (List.S k.j xs).flatten)
def sZ{α:Type}(xs:List α)(k:Nat):(List.S k xs).flatten.f=k*xs.f:=by
 induction k with
 |zero=>simp
 |succ k ih=>rw[LI,HF,Xm,ih,Nat.succ_mul,Nat.add_comm]
def JJ:Wx X (binaryOp .Mult) tj:=by
 intro pins s σ H x y v u Q I rx ry h;let(l,k,xs,rfl,rfl,hH,h1,h2,hz,q):=h;cases rx;let(t,rfl):=ry;let(z,XX,n,r,hl,e):=I.lstM hH;let hlen:XX.o.t*k.j<=sizeLine:=by rwa[Yc,<-hl]
 let sY:¬XX.o.t*k.j>(2^63-1)/8:=by
  have:(sizeLine:Nat)<=(2^63-1)/8:=vg
  grind
 let sX:¬(!Builtin.List.listFitsIndex k)=true:=by rw[fitsIndex_both h1 h2];show Yw
 let PJ:¬Builtin.List.listTooLong (XX.o.t*k.j)=true:=by rw[fM hlen];show Yw
 let Rc:List.foldl (λx1 x2=>x1++x2) #[] (List.S (if XX.o.isEmpty=true then 0 else k.j) XX.o)=(List.S k.j XX).flatten.o:=by
  let f0:∀m:Nat,List.foldl (λx1 x2=>x1++x2) #[] (List.S m XX.o)=(List.S m XX).flatten.o:=λm=>by
   have:=EA XX m []
   rwa[Ks]at this
  rw[f0];cases XX with
  |nil=>simp
  |cons a r'=>rw[if_neg AP]
 show wpAny_binaryOp_repeat_ref (T:="list") (U:="int") vg {_,e,Z} (λs'=>typeIs_int s' k t) noFill_list_mul F.fills_int_mul F.slot_int_rmul repeat_list F.slot_int_index.M
  (Uy F.slot_int_rmul (typeIs_int s k t) F.entry_int_rmul (F.args_int_rmul_2 _ _) (int___rmul___int_list k t l XX.o n)
   {e,Z,{_,e,Z},Uy F.slot_list_mul {_,e,Z} F.entry_list_mul (F.args_list_mul_2 _ _) (AutoListH.list___mul___list_int_3 l XX.o n k t sX sY PJ) {e,?_}})
 rw[Rc];exists .ref _,_,I.lnew (t':=s.toks) (r.rep k.j) (by rwa[sZ,yO]),Z,q _ I.fresh
end
section
variable{κ:Type}[DecidableEq κ]
def Wv(kvs:List (κ×V))(k:κ):(Option V):=(kvs.find? λkv=>decide<|kv.1=k).H (·.2)
def putK(kvs:List (κ×V))(k:κ)(v:V):(List (κ×V)):=
 if (kvs.any λkv=>decide<|kv.1=k)=true then kvs.H (λkv=>if kv.1=k then (kv.1,v) else kv) else kvs++[(k,v)]
def sW{p:κ×V}{r:List (κ×V)}(e:p.1=k):Wv (p::r) k=some p.2:=by simp[Wv,yX,e]
def sV{p:κ×V}(e:¬p.1=k):Wv (p::r) k=Wv r k:=by simp[Wv,yX,e]
def fK(k:κ):∀kvs:List (κ×V),(kvs.any λkv=>decide (kv.1=k))=(Wv kvs k).isSome
 |[]=>rfl
 |p::r=>by
  rw[FR];cases e:p.1=k
  .simp only[sW e,Ys e,Bool.true_or,Option.isSome_some]
  .rw[sV e,YR e,Bool.false_or];show fK k r
def ZM5(kvs:List (κ×V))(k:κ)(v:V):(putK kvs k v).f<=kvs.f+1:=by
 unfold putK;split
 .rw[Xy];lia
 .rw[Xm,Yx,Kr];lia
def sU{kvs:List (κ×V)}{k:κ}(v:V)(h:Wv kvs k=none):putK kvs k v=kvs++[(k,v)]:=by unfold putK;rw[fK,h];show if_neg vg
def KV.val(r:KV kvs vs)(k:κ):RelO (Wv kvs k) (valueAt vs k):=by
 unfold KV at r
 induction r with
 |nil=>show True.intro
 |@cons p q ps qs h t ih=>
  let(h1,h2):=h;cases e:p.1=k
  .let e':q.1=k:=h1.symm.l e;let b:valueAt (q::qs) k=some q.2:=by simp[valueAt,yX,e']
   rwa[sW e,b]
  .let e':¬q.1=k:=λz=>e (h1.l z);let b:valueAt (q::qs) k=valueAt qs k:=by simp[valueAt,yX,e']
   rwa[sV e,b]
def KV.any(r:KV kvs vs)(k:κ):(kvs.any λkv=>decide (kv.1=k))=vs.any λkv=>decide (kv.1=k):=by
 unfold KV at r
 induction r with
 |nil=>rfl
 |cons h t ih=>rw[FR,FR,ih,h.1]
def KV.repl(r:KV kvs vs)(k:κ)(ry:RelV y u):
  KV (kvs.H λkv=>if kv.1=k then (kv.1,y) else kv) (vs.H λkv=>if kv.1=k then (kv.1,u) else kv):=by
 unfold KV at r ⊢
 induction r with
 |nil=>show .nil
 |@cons p q ps qs h t ih=>
  rw[YJ,YJ];show .cons ?_ ih;let(h1,h2):=h;cases e:p.1=k
  .rw[if_pos e,if_pos (h1.symm.l e)];exists h1,ry
  .rw[if_neg e,if_neg λz=>e (h1.l z)];exists h1,h2
def KV.put(r:KV kvs vs)(k:κ)(ry:RelV y u):KV (putK kvs k y) (stored vs k u):=by
 unfold putK stored;rw[r.any k];cases e:(vs.any λkv=>decide<|kv.1=k)=true
 .rw[if_pos e,if_pos e];show r.repl k ry
 .rw[if_neg e,if_neg e];show Paired.snoc r ⟨Z,ry⟩
def KV.length{kvs:List (κ×V)}{vs:List (κ×Value)}(r:KV kvs vs):kvs.f=vs.f:=Paired.f r
end
def sT(r:RelV (kV k) u):(Rh P w).is k u=true:=by
 cases k with
 |inl i=>let(t,e):=(show ∃t,u=Value.int i t from r);subst e;show ZK5 P w i t
 |inr x=>let(t,e):=(show ∃t,u=Value.str x t from r);subst e;show ZJ5 P w x t
section
variable{P:Program}{w:World}{H:Hp}{h:Heap}{a:Addr}
def sS(ok:HOk P w H h)(e:Rd H a u):ObjOk P w H h a u:=e.ok ok
def sR(ok:HOk P w H h)(e:Rd H a (.dK kvs)):kvs.f<=sizeLine/\(a == sysModules)=false/\∃vs,KV kvs vs/\h.DictOf (Rh P w) a vs:=
 show ObjOk P w H h a (.dK kvs) from sS ok e
def JI(ok:HOk P w H h)(e:H a=some (.dK kvs)):kvs.f<=sizeLine/\(a == sysModules)=false/\∃vs,KV kvs vs/\h.DictOf (Rh P w) a vs:=sR ok (.inl e)
end
section
variable{X:Cx}{pins:List (Addr×Obj)}{σ:St}{H:Hp}{s:Shared}{a:Addr}
def Inv.big(I:Inv X pins σ H s):sysModules<(~~~s):=by let h:mainGlobals<(~~~s):=(I.mod.glob.keeps I.bk).lt;show Nat.lt_trans vg h
def sQ{t':Nat}(I:Inv X pins σ H s)(mu:Fw (H a))(hs:Heap.SameBut a s.m h')(he:∃q,h'.D a=some q)(new:ObjOk X.prog X.w (upd H a ob) h' a ob):
  Inv X pins σ (upd H a ob) {s with heap:=h',toks:=t'}:=
 I.write (x:=a) (e:=a) mu (.inl Z) (λb q hb z=>(hs.2 b hb).l z) he new
def sP(z:kvs.f<=sizeLine)(hd:(a == sysModules)=false)(rel:KV kvs vs)(dd:h'.DictOf (Rh P w) a vs):
  ObjOk P w H' h' a (.dK kvs):=⟨z,hd,vs,rel,dd⟩
end
def sO(h:Heap)(hb:sysModules<h.objs.t):ObjOk P w H (h.push {cls:=.type "dict",data:=.dict #[]}) h.objs.t (.dK []):=
 {Yl _,Gg.L<|XO<|Yq hb,[],.nil,Heap.DictOf.new h}
def sN:(TE):=λ_ H Q=>∀p,H p=none->Q ↑p (upd H p<|.dK [])
section
variable{X:Cx}{pos:Pos}
def sL:PE X (.Dict [] [] pos) sN:=λpins s σ H Q I h=>
 wpAny_Dict_empty {.ref (~~~s),_,I.laid (a:=(~~~s)) (o:=.dK []) (t':=s.toks) (λ_ _ q=>Xo _ q) (XQ _)<|sO s.m I.big,Z,h _<|I.hok.fresh<|XQ _}
end
end L2
namespace Att
open PySem PySem.W PySem.Calls PyProof.Rows
def ZC2:∀(ns:Ac)(vs:Ag),WellAll P h vs (ns.H WData.int)->IntsAre vs ns:=by
 intro ns
 induction ns with
 |nil=>
  intro vs w;rw[List.map_nil]at w;cases w;show .nil
 |cons n ns ih=>
  intro vs w;rw[YJ]at w;cases w with
  |cons a b=>
   cases a;show .cons _ _ (ih _ b)
def Zf8{l:OpenLaw}{n:Nat}(hn:l.most=some n) 
  (Nc:l.row.toRowW.claim.pre args=true)(Hi:WellAll P h vals args):
  ∃a vs ns,vals=[Value.ref a]/\args=[WData.list (ns.H WData.int)]/\h.D a=some {cls:=.type "list",data:=.seq vs.o}/\IntsAre vs ns/\ns.f<=n:=by
 let hsh:WShape.hasAll [] args [.list .int]=true:=(pre_splitW Nc).1;let hc:l.pre.holds [] {args:=args}=true:=(pre_splitW Nc).2
 let(d,r,rfl,h1,h2):=hasAllW_cons hsh;let rfl:=hasAllW_nil h2;let(xs,rfl,h3):=hasW_list h1;let(ns,rfl):=items_int h3;let hlen:ns.f<=n:=by
  unfold OpenLaw.pre at hc;let h4:(WTm.not<|.lt (.lit<|.int (n:Int))<|.len<|.arg 0).holds [] {args:=[.list (ns.H .int)]}=true:=by let h4:=(holds_andW hc).1;rwa[hn]at h4
  let h5:=condW_of h4 (w_not<|w_lt w_lit<|w_len_list<|w_arg Z);rw[Xy]at h5;show Qb λq=>?_;let q':(n:Int)<((ns.f:Nat):Int):=B
  first
   | (rw[Ys q']at h5;show absurd h5 vg)
   | (simp at h5;omega)
 cases Hi with
 |cons w1 w2=>
  cases w2;cases w1 with
  |list ho WA=>exists _,_,ns,Z,Z,ho,ZC2 ns _ WA,hlen
def Zm8(l:OpenLaw)(args:List WData):l.row.toRowW.claim.post args (.bool true) args=true:=
 postW_of (r:=l.row.toRowW) (X:=(true == true))
  (show WShape.has [] (.bool true) .bool=true by first|rfl|decide|simp[WShape.has,WShape.arms,WShape.armsAll])
  (show(WTm.eq .res<|.lit<|.bool true).value [] {args:=args,res:=some<|.bool true,after:=args}=some (.bool<|true == true) from w_eq_bool (w_res Z) w_lit) rfl
def Th{l:OpenLaw}{n:Nat}{XP:Af->Heap->Prop}{YP:World->Heap->Prop} 
  (hn:l.most=some n)(sJ:d.params.defaults=[])
  (call:∀(w:World)(s₀ s₁:Shared)(mg mb:Af)(fa:Addr)(o:Obj)(pm cd doc:Value)(a:Addr)(vs:Ag)(ns:Ac),
   Ground q loose [] XP w s₀ mg mb s₁.m->YP w s₁.m->
   s₁.m.D fa=some o->o.data=.func (docDef d.name d.params d.body d.scope pm cd doc)->s₁.m.CodeRec cd d.name->mg d.name=some ↑fa->
   s₁.m.D a=some {cls:=.type "list",data:=.seq vs.o}->IntsAre vs ns->ns.f<=n->s₁.gens=#[]->
   codeAny (model l.prog w) callerA (.call ↑fa {[.ref a],[]}) (λr s'=>r=.ok (.ret<|.bool true)/\OldK s₁.m s'.m/\s'.os=s₁.os/\AllBare s'.gens) s₁):
  WalkO q loose XP YP l.row.toRowW d [] (λf vs=>PySem.call f vs):=by intro w s₀ s₁ mg mb G Y fa o pm cd doc dV kV ho hd SG hD Ez hg args vals as Nc hlay hrd Hi RT;let rfl:dV=.none:=Dflts.none hD sJ;let rfl:kV=.none:=Dflts.noKw hD;let(a,vs,ns,rfl,rfl,JH,hints,hlen):=Zf8 hn Nc Hi;show enter_call (Oo (call w s₀ s₁ mg mb fa o pm cd doc a vs ns G Y ho (fd_plain hd) SG Ez JH hints hlen hg) λr s' hq=>?_);let(rfl,h2,h3,h4):=hq;exists .inl {.bool true,.bool true,[],Z,λ_=>rfl,.bool true,Zm8 l _,λ_=>{List.Q.nil,λ_ hm=>(nomatch hm)}},h2,h3,h4
section
def ZG15(h:Heap)(L d:Addr):(List (Addr×Obj)):=(List.range h.objs.t).filterMap λa=>if a=L\/a=d then none else (h.D a).H λo=>(a,o)
end
end Att
namespace L2
open PySem PySem.Spec PyProof.Rows
def sI{vs:Ag}{ns:Ac}(h:IntsAre vs ns):Vals (ns.H V.int) vs:=by
 induction h with
 |nil=>show .nil
 |cons n t h ih=>show .cons ⟨t,Z⟩ ih
abbrev Ll{K:Ad}{h:Heap}(_:K.In h):Ad:=K
def sH(s:Stmt)(j:Nat):(Stmt):=match s with
 | .ClassDef _ _ _ body _ _ _ _ _ _ _=>body.E j (.Pass ⟨0,0,0,0⟩)
 |_=>.Pass ⟨0,0,0,0⟩
def Lk(s:Stmt):(Arguments):=match s with
 | .FunctionDef _ a _ _ _ _ _ _ _ _=>a
 |_=>{posonlyargs:=[],args:=[],vararg:=none,kwonlyargs:=[],kw_defaults:=[],kwarg:=none,defaults:=[]}
def Qx(s:Stmt):(List Stmt):=match s with
 | .FunctionDef _ _ b _ _ _ _ _ _ _=>b
 |_=>[]
def Zd(s:Stmt):(Scope):=match s with
 | .FunctionDef _ _ _ _ _ _ sc _ _ _=>sc
 |_=>{kind:=.function,names:=[],isGenerator:=false,isCoroutine:=false}
abbrev Xd:QC:=λ_ _ _ _ _ _=>False
abbrev E0:XK:=λ_ _ _=>False
def ZB:Hm Xd X E0:=λ_ _ _ _ _ _ _ h=>h.elim
structure Fun(K:Ad)(x qual:Str)(st:Stmt)(f:Addr)(fd:FuncData):Prop where
 ex:∃(oc:Value)(od:Option Addr)(kV doc pm:Value)(an:Option Addr)(Xw ct:Value)(Tz:Array (Option Value)),
  fd=PySem.W.fnOf x qual (Lk st) (Qx st) (Zd st) .none kV doc pm an Xw ct/\K.M f=some {oc,od,.func fd,Tz}/\PySem.W.codeIn K Xw qual=true
 kp:PySem.W.keepIn K ↑f=true
section
variable{P:Program}{w:World}{K:Ad}{mg:Af}{base:Heap}
def Fun.ok{x qual:Str}{st:Stmt}{f:Addr}{fd:FuncData}{N ps:List Str}{k:Nat}{sp:Sp}(F:Fun K x qual st f fd)(S:FnScope N ps (Zd st))(len:∀vs H Q E,sp vs H Q E->vs.f=ps.f)
  (UX:∀(Xw:Value)(A:Around)(outer:List Env)(s:Shared)(H:Hp)(vs:List V)(Q:VK)(E:XK),Room k (A.deeper<|envOfC qual (Zd st) (~~~s) f Xw)->sp vs H Q E->
   ∃t,PSs (Tj Xd P w K mg base N qual (Zd st) f Xw A outer s H E).nox (Qx st) t/\t {nx:=λ_ H'=>Q .non H',rt:=Q} (start N vs) H):FnOk P w K mg base Xd (k+1) f fd ps sp:=by let(oc,od,kV,doc,pm,an,Xw,ct,Tz,rfl,lk,SG):=F.ex;show EL lk SG S len λA outer s H vs Q E hr TR=>?_;let(t,h,q):=UX Xw A outer s H vs Q E hr TR;exists t,h.nox,q
def Fun.binds{x qual:Str}{st:Stmt}{f:Addr}{fd:FuncData}{ps:List Str}(F:Fun K x qual st f fd)
  (h:∀(kV doc pm:Value)(an:Option Addr)(Xw ct:Value)(us:Ag),us.f=ps.f->bindArgs (PySem.W.fnOf x qual (Lk st) (Qx st) (Zd st) .none kV doc pm an Xw ct) {us,[]}=pure (ps.zip us)):Binds K fd ps []:=by let(oc,od,kV,doc,pm,an,Xw,ct,Tz,rfl,lk,SG):=F.ex;show .all (h kV doc pm an Xw ct)
def ym{x qual:Str}{st:Stmt}{f:Addr}{oc:Value}{od an:Option Addr}{Tz:Array (Option Value)}{kV doc pm Xw ct:Value}(l:K.M f=some {oc,od,.func (PySem.W.fnOf x qual (Lk st) (Qx st) (Zd st) .none kV doc pm an Xw ct),Tz})
  (c:PySem.W.codeIn K Xw qual=true)(k:PySem.W.keepIn K ↑f=true):Fun K x qual st f (PySem.W.fnOf x qual (Lk st) (Qx st) (Zd st) .none kV doc pm an Xw ct):={⟨oc,od,kV,doc,pm,an,Xw,ct,Tz,Z,l,c⟩,k}
end
section
variable{X:Cx}
def pv(i:Nat){x:Str}{pos:Pos}(hN:X.N[i]?=some x:=by rfl)(hv:vf X.X.scope x:=by first|show Or.inl rfl|show Or.inr (Or.inl rfl)|show Or.inr<|Or.inr rfl)(hd:(x == ("__debug__":Str))=false:=by decide)
  (SG:(x == ("__classdict__":Str))=false:=by decide):PE X (.Name x pos) (tVar i):=Zaj hN hv hd SG
end
def Vp{A uX:Prop}(h:uX):if false=true then A else uX:=by rwa[if_neg Yw]
def Us{A uX:Prop}(h:A):if true=true then A else uX:=by rwa[if_pos Z]
def Ey{c A uX:Prop}[Decidable c](h1:c->A)(h2:¬c->uX):if c then A else uX:=by
 cases h:c
 .rw[if_pos h];show h1 h
 .rw[if_neg h];show h2 h
def Same(H H':Hp):(Prop):=∀b o,H b=some o->H' b=some o
def Same.refl(H:Hp):Same H H:=λ_ _ h=>h
def Same.trans{H H1 H2:Hp}(a:Same H H1)(b:Same H1 H2):Same H H2:=λc o h=>b c o (a c o h)
def Same.free(e:Same H H'){l:Addr}(h:H' l=Option.none):H l=Option.none:=by
 cases q:H l with
 |none=>rfl
 |some o=>
  rw[e l o q]at h;cases h
def Same.seq{K:Ad}{H H':Hp}{a:Addr}{xs:List V}(e:Same H H')(h:SqL K H a xs):SqL K H' a xs:=by
 rcases h with (h|⟨o,h⟩)|h
 .show .inl (.inl<|e _ _ h)
 .show .inl (.inr {o,e _ _ h})
 .show .inr h
def Ex(X:Cx)(ifs:List Expr)(t:TT):(Prop):=
 ∀pins s σ H Q,Inv X pins σ H s->t σ H Q->
  wpAny (model X.prog X.w) X.A (forIn ifs true λc r=>if r=true then do let ok <-isTrue c X.X (eval c X.X);pure (ForInStep.yield ok) else pure (ForInStep.yield r)) (TP X pins σ Q) X.xe s
def tYes:(TT):=λ_ H Q=>Q true H
def ZM:Ex X [] tYes:=λ_ _ _ H _ I h=>wpAny_tests_nil ⟨H,I,h⟩
def Hh(hc:PT X c t):Ex X [c] t:=λpins s σ H Q I h=>wpAny_tests_one (hc pins s σ H Q I h)
def Zn4{R:Result->Shared->Prop}{elt target iter:Expr}{scope:Scope}{pos:Pos}{it acc:Value}(tB:Nat->Shared->Prop)
  (turn:∀n s,tB n s->wpAny (model prog w) A (pyNext it) (λr s1=>match r with
   |none=>R (.ok .next) s1
   |some v=>wpAny (model prog w) A (letOwnedTupleGo target it v) (λ_ s2=>wpAny (model prog w) A (assign target env v) (λ_ s3=>
     wpAny (model prog w) A (forIn ifs true λc r=>if r=true then do let ok <-isTrue c env (eval c env);pure (ForInStep.yield ok) else pure (ForInStep.yield r)) (λok s4=>
      if ok=true then wpAny (model prog w) A (eval elt env) (λx s5=>
       wpAny (model prog w) A (call (.builtin "list.append") [acc,x]) (λ_ s6=>∃m,m<n/\tB m s6) (λ_ _=>False) s5) (λ_ _=>False) s4
      else ∃m,m<n/\tB m s4) (λ_ _=>False) s3) (λ_ _=>False) s2) (λ_ _=>False) s1) (λ_ _=>False) s)
  (n:Nat)(h:tB n s):codeAny (model prog w) A (.compLoop (.ListComp elt [⟨target,iter,ifs,0⟩] scope pos) 0 it acc env) R s:=by
 show codeAny_loop Z tB (λn s hI=>?_) n h;change wpAny _ A ((compTurn (.ListComp elt [⟨target,iter,ifs,0⟩] scope pos) 0 it acc env).onRaise λx=>do noteFrame x env;theTreesLotGoes x) _ _ s
 show wpAny_noted ?_;rw[compTurn_list];show XY (wpAny_standAt<|XY<|Ts (turn n s hI) (λr s1 h1=>?_) λ_ _ z=>z.elim);cases r with
 |none=>show Yg h1
 |some v=>
  show XY (Ts h1 (λ_ s2 h2=>?_) λ_ _ z=>z.elim);show XY (Ts h2 (λ_ s3 h3=>XY<|Ts h3 (λok s4 h4=>?_) λ_ _ z=>z.elim) λ_ _ z=>z.elim);cases ok with
  |false=>show Yg ⟨Z,h4⟩
  |true=>
   show XY (XY<|Ts h4 (λx s5 h5=>XY<|Ts h5 (λ_ s6 h6=>Yg<|Yg ⟨Z,h6⟩) λ_ _ z=>z.elim) λ_ _ z=>z.elim)
def RS(cells:List (Str×Addr)):(List (Str×NameKind)->List (Str×Addr)->List (Str×Addr))
 |[],acc=>acc
 | (n,k)::r,acc=>if k == .free then RS cells r ((n,(cells.M n).E 0)::acc) else RS cells r acc
def fJ:∀names acc,(∀y∈names,y.2=.free->∃c,env.cells.M y.1=some c)->
  (forIn names acc λ(x:Str×NameKind) (cs:List (Str×Addr))=>(if (x.2 == .free)=true then do let a <-cellOf env x.1;pure (ForInStep.yield<|(x.1,a)::cs) else pure (ForInStep.yield cs):Sem (ForInStep<|List<|Str×Addr)))=pure (RS env.cells names acc)
 |[],acc,_=>rfl
 | (n,k)::r,acc,h=>by
  let ih:=λacc=>fJ r acc λy hy=>h y (Yf _ hy);rw[vE];unfold RS;cases hk:(k == NameKind.free)=true
  .let⟨c,hc⟩:=h (n,k) Yd (by simpa using hk);let e:cellOf env n=pure c:=by unfold cellOf;rw[show env.cells.M n=some c from hc]
   simp only[hk,if_true,e,pure_bind];rw[ih,show env.cells.M n=some c from hc];rfl
  .simp only[hk,Gd,if_false,pure_bind];show ih acc
def ZR7(h:∀y∈scope.names,y.2=.free->∃c,env.cells.M y.1=some c):closureFor scope env=pure (RS env.cells scope.names []):=by let e:=fJ scope.names [] h;unfold closureFor;simp only[bind_pure]at e ⊢;show e
def JG{env:Env}:∀names acc,(∀y∈names,y.2=.free->∃c,env.cells.M y.1=some c)->(∀x c,acc.M x=some c->env.cells.M x=some c)->
  ∀x c,(RS env.cells names acc).M x=some c->env.cells.M x=some c
 |[],acc,_,ha,x,c,e=>ha x c e
 | (n,k)::r,acc,h,ha,x,c,e=>by
  unfold RS at e;cases hk:(k == NameKind.free)=true
  .rw[if_pos hk]at e;let(d,hd):=h (n,k) Yd (by simpa using hk);show JG r _ (λy hy=>h y<|Yf _ hy) (λy b q=>?_) x c e;rw[Tq]at q;cases hy:(y == n)=true
   .rw[hy]at q;let PH:y=n:=by simpa using hy
    let Hq:env.cells.M n=some d:=hd;rw[Hq]at q;let q':d=b:=Ya q
    rw[PH,Hq,q']
   .let PH:(y == n)=false:=by simpa using hy
    rw[PH]at q;show ha y b q
  .rw[if_neg hk]at e;show JG r acc (λy hy=>h y<|Yf _ hy) ha x c e
def JF:∀names acc x,(acc.M x).isSome=true->((RS cells names acc).M x).isSome=true
 |[],_,_,h=>h
 | (n,k)::r,acc,x,h=>by
  unfold RS;cases hk:(k == NameKind.free)=true
  .rw[if_pos hk];show JF r _ x ?_;rw[Tq];cases hx:(x == n)=true
   .rw[hx];rfl
   .let Tg:(x == n)=false:=by simpa using hx
    rwa[Tg]
  .rw[if_neg hk];show JF r acc x h
def Nb:∀names acc x,(x,NameKind.free)∈names->((RS cells names acc).M x).isSome=true
 |[],_,_,h=>nomatch h
 | (n,k)::r,acc,x,h=>by
  unfold RS;rcases Ye.G h with e|h
  .cases e;rw[if_pos vi];show JF r _ _ ?_;rw[Tq];simp
  .cases hk:(k == NameKind.free)=true
   .rw[if_pos hk];show Nb r _ x h
   .rw[if_neg hk];show Nb r _ x h
def ZY{env:Env}:∀{names:List (Str×NameKind)}{x:Str}{k:NameKind},(names.H λ(n,k)=>if (k == NameKind.free&&env.scope.kind == .function&&env.kindOf n == some .cell) then (n,NameKind.cell) else (n,k)).M x=some k->
  (k=.cell\/k=.free)->(x,NameKind.free)∈names\/(x,NameKind.cell)∈names
 |[],_,_,h,_=>by simp at h
 | (n,q)::r,x,k,h,hk=>by
  let h':List.M x ((if (q == NameKind.free&&env.scope.kind == .function&&env.kindOf n == some .cell)=true then (n,NameKind.cell) else (n,q))::r.H λ(n,k)=>if (k == NameKind.free&&env.scope.kind == .function&&env.kindOf n == some .cell) then (n,NameKind.cell) else (n,k))=some k:=h;cases hc:(q == NameKind.free&&env.scope.kind == .function&&env.kindOf n == some .cell)=true
  .rw[if_pos hc,Tq]at h';let hq:q=.free:=by simp only[Ou,QD]at hc;show hc.1.1
   cases hx:(x == n)=true
   .let Tg:x=n:=by simpa using hx
    subst Tg;subst hq;show .inl Yd
   .let Tg:(x == n)=false:=by simpa using hx
    rw[Tg]at h';rcases ZY (env:=env) h' hk with z|z
    .show .inl (Yf _ z)
    .show .inr (Yf _ z)
  .rw[if_neg hc,Tq]at h';cases hx:(x == n)=true
   .rw[hx]at h';let Tg:x=n:=by simpa using hx
    subst Tg;let e:q=k:=Ya h'
    subst e;rcases hk with rfl|rfl
    .show .inr Yd
    .show .inl Yd
   .let Tg:(x == n)=false:=by simpa using hx
    rw[Tg]at h';rcases ZY (env:=env) h' hk with z|z
    .show .inl (Yf _ z)
    .show .inr (Yf _ z)
def sG{env:Env}:∀{names:List (Str×NameKind)}{x:Str},names.M x=some .free->
  (names.H λ(n,k)=>if (k == NameKind.free&&env.scope.kind == .function&&env.kindOf n == some .cell) then (n,NameKind.cell) else (n,k)).M x=some .cell\/
  (names.H λ(n,k)=>if (k == NameKind.free&&env.scope.kind == .function&&env.kindOf n == some .cell) then (n,NameKind.cell) else (n,k)).M x=some .free
 |[],_,h=>by simp at h
 | (n,q)::r,x,h=>by
  change List.M x ((if (q == NameKind.free&&env.scope.kind == .function&&env.kindOf n == some .cell)=true then (n,NameKind.cell) else (n,q))::_)=_\/List.M x ((if (q == NameKind.free&&env.scope.kind == .function&&env.kindOf n == some .cell)=true then (n,NameKind.cell) else (n,q))::_)=_;rw[Tq]at h;cases hc:(q == NameKind.free&&env.scope.kind == .function&&env.kindOf n == some .cell)=true
  .rw[if_pos hc,Tq];cases hx:(x == n)=true
   .rw[hx];show .inl rfl
   .let Tg:(x == n)=false:=by simpa using hx
    rw[Tg]at h ⊢;show sG h
  .rw[if_neg hc,Tq];cases hx:(x == n)=true
   .rw[hx]at h ⊢;show .inr h
   .let Tg:(x == n)=false:=by simpa using hx
    rw[Tg]at h ⊢;show sG h
def Ug(X:Cx)(N':List Str)(scope:Scope)(C:Addr)(s:Shared)(H:Hp)(fp:List Addr):(Cx) where
 prog:=X.prog
 w:=X.w
 K:=X.K
 mg:=X.mg
 base:=X.base
 A:=X.A
 N:=N'
 s₀:=s
 H₀:=H
 env:=compEnvC scope (RS X.X.cells scope.names []) C X.X
 outer:=X.stack
 stack:=X.stack
 ex:=fp
 fn:=λ_=>false
 calm:=X.calm
 pn:=[]
 xe:=λ_ _=>False
def σC(o:Nat)(fr:List Nat)(σ:St):(St):=List.S o none++fr.H λj=>(σ[j]?).join
structure CompScope(sc0:Scope)(N N':List Str)(o:Nat)(fr:List Nat)(scope:Scope):Prop where
 kind:scope.kind=.function
 nocell:(scope.names.all λy=>y.2 != .cell)=true
 loc:(scope.names.all λy=>y.2 != .local||scope.names.M y.1 == some .local)=true
 free:(scope.names.all λy=>y.2 != .free||sc0.names.M y.1 == some .cell||sc0.names.M y.1 == some .free)=true
 len:N'.f=o+fr.f
 sees:((List.range fr.f).all λj=>match fr[j]? with
  |none=>false
  |some y=>match N[y]? with
   |none=>false
   |some x=>N'[o+j]? == some x&&scope.names.M x == some .free)=true
def Od(tB:It)(g:TG)(tt:TT)(te:TE)(o:Nat)(fr:List Nat)(σ:St)(H1:Hp)(Q:VK):(Prop):=∃W:Nat->Nat->List V->Hp->Prop,(∃m,W 0 m [] H1)/\∀i m ys H,W i m ys H->
 (tB.stop i H/\ys.f<=sizeLine/\∀p,H p=none->Q ↑p (upd H p<|.lst ys))\/
 (tB.go i H/\ys.f<sizeLine/\∀x H',tB.yld i H x H'->g x (σC o fr σ) H' λσ2 H2=>tt σ2 H2 λb H3=>if b=true then te σ2 H3 λy H4=>∃m',m'<m/\W (i+1) m' (ys++[y]) H4 else ∃m',m'<m/\W (i+1) m' ys H3)
def sF(wi:TI)(g:TG)(tt:TT)(te:TE)(o:Nat)(fr:List Nat):(TE):=λσ H Q=>wi σ H λtB H1=>Od tB g tt te o fr σ H1 Q
def PF(o:Nat)(g:TG):(Prop):=∀x ow fr H Q,ow.f=o->g x (ow++fr) H Q->g x (ow++fr) H λσ2 H2=>(∃Ew,Ew.f=o/\σ2=Ew++fr)/\Q σ2 H2
def Zu(h:i<o):PF o (PY i):=λx ow fr H Q hl q=>{{ow.set i<|some x,by rw[Qf];show hl,by rw[List.set_append_left _ _ J]},q}
def RR(o:Nat)(g:JY):(Prop):=∀xs ow fr H Q,ow.f=o->g xs (ow++fr) H Q->g xs (ow++fr) H λσ2 H2=>(∃Ew,Ew.f=o/\σ2=Ew++fr)/\Q σ2 H2
def Eu:RR o gNil:=λ_ ow _ _ _ hl zz=>by let(e,q):=zz;exists e,⟨ow,hl,Z⟩,q
def Oc(h:i<o)(h2:RR o u):RR o (gCons (PY i) u):=by
 rintro xs ow fr H Q hl ⟨v,r,rfl,q⟩;exists v,r,Z,?_;let q':u r ((ow++fr).set i (some v)) H Q:=q
 change u r ((ow++fr).set i (some v)) H _;rw[List.set_append_left _ _ B]at q' ⊢;show h2 r (ow.set i<|some v) fr H Q (by rwa[Qf]) q'
def Et{K:Ad}{o n:Nat}{u:JY}(h:RR o u):PF o (gTup K n u):=by rintro x ow fr H Q hl ⟨a,xs,rfl,hs,hn,q⟩;exists a,xs,Z,hs,hn,h xs ow fr H Q hl q
section
variable{X:Cx}{pins:List (Addr×Obj)}{σ:St}{H:Hp}{s:Shared}{N':List Str}{o:Nat}{fr:List Nat}{scope:Scope}{fp:List Addr}
abbrev Ue(us:Ag):Obj:={cls:=.type "list",data:=.seq us.o us.f}
def CompScope.nocell'(S:CompScope sc0 N N' o fr scope):∀y∈scope.names,y.2≠.cell:=λy hy e=>by let q:=Rw.G S.nocell y hy;rw[e]at q;show absurd q vg
def CompScope.loc'(S:CompScope sc0 N N' o fr scope):∀y∈scope.names,y.2=.local->scope.names.M y.1=some .local:=λy hy e=>by let q:=Rw.G S.loc y hy;rw[e]at q;simpa using q
def CompScope.free'(S:CompScope sc0 N N' o fr scope)(hs:X.X.scope=sc0):∀y∈scope.names,y.2=.free->X.X.kindOf y.1=some .cell\/X.X.kindOf y.1=some .free:=λy hy e=>by
 let q:=Rw.G S.free y hy;rw[e]at q;change X.X.scope.names.M y.1=_\/X.X.scope.names.M y.1=_
 rw[hs];simpa using q
def CompScope.sees'(S:CompScope sc0 N N' o fr scope):∀j y,fr[j]?=some y->∃x,N[y]?=some x/\N'[o+j]?=some x/\scope.names.M x=some .free:=λj y e=>by
 let hj:j<fr.f:=(Xs.G e).1;let q:=Rw.G S.sees j (YG.L hj)
 rw[e]at q;dsimp only at q;cases ex:N[y]? with
 |none=>rw[ex]at q;cases q
 |some x=>
  rw[ex]at q;dsimp only at q;rw[Ou,QD,QD]at q;exists x,Z,q.1,q.2
def CompScope.cells(S:CompScope sc0 N0 N' o fr scope)(hs:X.X.scope=sc0)(I:Inv X pins σ H s):∀y∈scope.names,y.2=.free->∃c,X.X.cells.M y.1=some c:=λy hy e=>I.ok.has y.1 (S.free' hs y hy e)
def CompScope.sub(S:CompScope sc0 N0 N' o fr scope)(hs:X.X.scope=sc0)(I:Inv X pins σ H s):∀x c,(RS X.X.cells scope.names []).M x=some c->X.X.cells.M x=some c:=
 JG (env:=X.X) scope.names [] (S.cells hs I) (λ_ _ z=>nomatch z)
def Inv.block(S:CompScope sc0 N0 N' o fr scope)(hs:X.X.scope=sc0)(hN:X.N=N0)(I:Inv X pins σ H s)(hf:∀b∈fp,FpOk X pins H b)(RQ:∀b∈fp,b<(~~~s)){h1:Heap}{C D:Addr}{m:Af}{t:Nat}
  (hC:(~~~s)<=C)(hD:(~~~s)<=D)(Ob:D≠C)
  (old:∀b ob,s.m.D b=some ob->h1.D b=some ob)(hn:h1.Ns C m)(ha:h1.D D=some (Ue us)):Inv (Ug X N' scope C s H fp) [(D,Ue us)] (σC o fr σ) H {s with heap:=h1,toks:=t}:=by
 let sub:=S.sub hs I;let frC:∀b∈TV X.stack,b<(~~~s):=λb hb=>by let(_,ob,ho,_):=I.stack.mem hb;show Ym ho
 show⟨{I.ok.mod,S.kind,I.ok.glob,I.ok.blt,hC,λx y c h1 h2=>I.ok.inj x y c (sub x c h1)<|sub y c h2,λx hx=>?_,λx c hfx _=>(nomatch hfx),I.ok.hd,I.ok.frames,.inl Z,λb hb=>?_,I.bs,YB I.ok.bsz I.sz,λb ob e hb=>?_,λb hb TQ=>?_,I.stack,I.stkFree},
  rfl,I.bare,Un.kept old,{m,hn,λi x v e1 e2 e3=>?_},λx c e=>?_,I.hok.fresh hC,λx c e=>I.freeC x c<|sub x c e,λp hp=>?_,I.hok.kept old,?_⟩
 .let Tg:(relabel scope X.X).names.M x=some .cell\/(relabel scope X.X).names.M x=some .free:=hx;let key:(x,NameKind.free)∈scope.names:=by
   rcases Tg with z|z
   .rcases ZY (env:=X.X) z (.inl rfl) with q|q
    .show q
    .show absurd Z (S.nocell' _ q)
   .rcases ZY (env:=X.X) z (.inr rfl) with q|q
    .show q
    .show absurd Z (S.nocell' _ q)
  show wc.G (Nb (cells:=X.X.cells) scope.names [] x key)
 .let⟨f0,f1,f2,f3,f4,f5⟩:=hf b hb;exists Yq<|Yt (RQ b hb) hC,λx c e=>f4 x c<|sub x c e
 .let⟨f0,f1,f2,f3,f4,f5⟩:=hf b hb;rcases f3 with z|z
  .show I.ok.noex b ob e z
  .show absurd (Yt (Ym e)<|YB I.ok.bsz z) (Va _)
 .let⟨f0,f1,f2,f3,f4,f5⟩:=hf b hb;rcases Ye.G (I.stkSub b TQ) with z|z
  .show f1 z
  .show f2 z
 .unfold σC at e2;cases hi:i<o
  .rw[Yz (by rwa[YM]),zt,if_pos hi]at e2;cases e2
  .rw[YE (by rw[YM];show Nat.not_lt.G hi),YM,Yk]at e2;cases hy:fr[i-o]? with
   |none=>rw[hy]at e2;cases e2
   |some y=>
    rw[hy]at e2;let yk:(σ[y]?).join=some v:=Ya e2
    let e3':σ[y]?=some (some v):=by
     cases q:σ[y]? with
     |none=>rw[q]at yk;cases yk
     |some z=>rw[q]at yk;show YZ some yk
    let(x',s2,s1,s3):=S.sees' (i-o) y hy;rw[<-hN]at s2;rw[show o+(i-o)=i by grind]at s1;let ex:x=x':=by let e1':N'[i]?=some x:=e1;rw[e1']at s1;show Ya s1
    subst ex;let VO:=Sx s3
    let(m0,_,hl):=I.loc;let hk:=S.free' hs (x,.free) VO rfl
    let(u,ru,lk):=hl y x v s2 e3' (by rcases hk with z|z;show .inr (.inl z);show .inr<|.inr z);exists u,ru,.inr {sG (env:=X.X) s3,?_};let(c',Xe):=wc.G (Nb (cells:=X.X.cells) scope.names [] x VO);exists c',Xe,?_;rcases lk with ⟨z,_⟩|⟨_,c,e,ob,ho,hd⟩
    .rcases hk with z'|z'
     .rw[z]at z';cases z'
     .rw[z]at z';cases z'
    .let ec:c=c':=by
      have:=sub x c' Xe
      rw[e]at this;show Ya this
     subst ec;exists ob,old _ _ ho,hd
 .let⟨v,ob,ho,hd⟩:=I.cell x c (sub x c e);exists v,ob,old _ _ ho,hd
 .let e:p=(D,Ue us):=by simpa using (show p∈([]:List (Addr×Obj))++[(D,Ue us)] from hp)
  subst e;exists ha,I.hok.fresh hD,Ob,λz=>absurd (Yt (frC D z) hD)<|Va _,λv z=>nomatch z
 .change(σC o fr σ).f=N'.f;unfold σC;rw[Xm,YM,Xy,S.len]
def Inv.unblock(I:Inv X pins σ H s)(hf:∀b∈fp,FpOk X pins H b){σ':St}{s':Shared}(hC:(~~~s)<=C)(hD:(~~~s)<=D)(Ob:D≠C)
  (I':Inv (Ug X N' scope C s H fp) [(D,Ue us)] σ' H' s')(r:Vals ys us)(hz:ys.f<=sizeLine):∃oC m,s'.m.D C=some oC/\s'.m.Ns C m/\Inv X (pins++[(C,oC)]) σ (upd H' D<|.lst ys) s':=by
 let(aD,nD,_,_,_):=I'.pin (D,Ue us) AP;let aD:s'.m.D D=some (Ue us):=aD
 let nD:H' D=none:=nD;let un:Un (TV X.stack) fp H H' s.m s'.m:=I'.base
 let lt:∀b u,H b=some u->b≠D:=λb u e=>Yq (Yt (I.hok.lt e) hD);let sE:Un (TV X.stack) fp H (upd H' D<|.lst ys) s.m s'.m:=by
  exists un.keep,un.slot,λb ob e n hx=>?_,un.there,λb xs e=>?_,λb ob u e=>?_,λb ps e=>?_
  .rw[Za (Yq<|Yt (Ym e) hD)];show un.free b ob e n hx
  .rw[Za (lt b _ e)];show un.tups b xs e
  .rw[Za (lt b _ e)];show un.frzs b ob u e
  .let⟨more,q⟩:=un.tbls b ps e;exists more,by rwa[Za (lt b _ e)]
 let hok:HOk X.prog X.w (upd H' D<|.lst ys) s'.m:=λb u e=>by
  cases hb:b=D
  .subst hb;rw[XS]at e;cases e;exists hz,us,us.f,r,aD
  .rw[Za hb]at e;show(I'.hok b u e).stay (λc v _ q=>q) (λc q=>by rwa[Za (Zb q nD)]) λc xs q=>by rwa[Za (Zb q nD)]
 let os:s'.os=s.os:=I'.os;let tB:Inv X pins σ (upd H' D<|.lst ys) s':=I.call' (ch:=fp) os sE hok I'.bare λb hb=>by let(f0,f1,f2,f3,f4,f5):=hf b hb;exists f3,f1,f4,f5
 let(m,hn,_):=I'.loc;let hn:s'.m.Ns C m:=hn
 let(oC,es,ep,sD,hdC,_):=id hn;exists oC,m,sD,hn,tB.pins_of λp hp=>?_;rcases Yb.G hp with z|z
 .show tB.pin p (Yh _ z)
 .let e:p=(C,oC):=by simpa using z
  subst e;let nC:H' C=none:=I'.free
  show{sD,by rw[Za (XO Ob)];show nC,RV<|Yt I.lt hC,I.nofs hC,λv z=>?_};let z':oC.data=.cell v:=z
  rw[hdC]at z';cases z'
end
section
variable{X:Cx}{N':List Str}{o:Nat}{fr:List Nat}{scope:Scope}{elt tg iter:Expr}{ifs:List Expr}{pos:Pos}{wi:TI}{g:TG}{tt:TT}{te:TE}
def Lj(hc:X.calm=true)(S:CompScope sc0 N0 N' o fr scope)(hi:PI X tg iter wi)(ho:PF o g)
  (hg:∀C s H fp,PG (Ug X N' scope C s H fp) tg g)
  (ht:∀C s H fp,Ex (Ug X N' scope C s H fp) ifs tt)
  (he:∀C s H fp,PE (Ug X N' scope C s H fp) elt te)
  (hs:∀x,foldedSetIterable iter X.X x=pure x)(Qw:X.X.scope=sc0)(Er:X.N=N0)(I:Inv X pins σ H s)(h:sF wi g tt te o fr σ H Qv)
  {use:Option (Value->Sem Unit)}{Q:Ae}{E:Ae}
  (hE:∀e s',X.xe e s'->E e s')
  (fin:∀C oC D m H' ys s',Inv X (pins++[(C,oC)]) σ (upd H' D<|.lst ys) s'->Qv ↑D (upd H' D<|.lst ys)->s'.m.Ns C m->H' C=none->C≠D->
   C≠X.X.locals->(~~~X.s₀)<=C->(∀x c,X.X.cells.M x=some c->c≠C)->(∀p∈X.pn++pins,p.1≠C)->compPost (model X.prog X.w) X.A E use Q ↑D C (.ok .next) s'):
  wpAny (model X.prog X.w) X.A (comprehension (.ListComp elt [⟨tg,iter,ifs,0⟩] scope pos) scope X.X (firstIterPos [⟨tg,iter,ifs,0⟩] pos) (newList []) false (eval iter X.X) use) Q E s:=by
 show wpAny_comprehension_free (use:=use) Z hs (ZR7<|S.cells Qw I) S.kind S.loc' (Ts (hi pins s σ H _ I h) (λxv s1 h1=>Ts h1 (λuJ s2 h2=>?_) hE) hE);let(it,fp,tn,tB,H2,rfl,I2,T,VI,f2,W,(m0,w0),turn):=h2;let RQ:∀b∈fp,b<(~~~s2):=λb hb=>by let(ob,e,_):=T.obj 0 _ VI b hb;show Ym e
 show Qg (wpAny_newFunctionEnv S.nocell' (by intro y hy;simp at hy) (λh1 JE Na=>?_) S.kind);dsimp only at JE Na ⊢;generalize sC:s2.m.push {cls:=.type "list",dict:=none,data:=.seq ([]:Ag).o}=G at JE Na ⊢;let fI:G.objs.t=(~~~s2)+1:=by rw[<-sC,RY]
 let hC:(~~~s2)<=G.objs.t:=by rw[fI];show SI _
 let Ob:(~~~s2)≠G.objs.t:=by rw[fI];show Yq (Ow _)
 let old:∀b ob,s2.m.D b=some ob->h1.D b=some ob:=λb ob e=>
  Na.extBut b ob (Yq<|Yt (Ym e) hC) (Xo _<|sC▸Xo _ e)
 let Ur:h1.D (~~~s2)=some (Ue []):=Na.extBut _ _ Ob (Xo _<|sC▸Yi _ Z);let Rb:tn 0 h1:=T.keep _ _ _ VI λb _ ob e=>old b ob e
 let sy:∀{us:Ag}{H':Hp},(∀b∈fp,H' b=none)->∀b∈fp,FpOk (Ug X N' scope G.objs.t s2 H2 fp) [((~~~s2),Ue us)] H' b:=λ{us H'} hn b hb=>by
  let(f0,f1,f3,f4,f5,f6):=f2 b hb;exists hn b hb,Yq<|Yt (RQ b hb) hC,λz=>?_,.inl hb,λx c e=>f5 x c<|S.sub Qw I2 x c e,λp hp=>?_
  .rcases Ye.G (I2.stkSub b z) with q|q
   .show f1 q
   .show f3 q
  .let e:p=((~~~s2),Ue us):=by simpa using (show p∈([]:List (Addr×Obj))++[((~~~s2),Ue us)] from hp)
   subst e;show RV (RQ b hb)
 let loop:∀s3:Shared,s3={s2 with heap:=h1,toks:=s2.toks+([]:List (Str×Value)).f}->
   codeAny (model X.prog X.w) X.A (.compLoop (.ListComp elt [⟨tg,iter,ifs,0⟩] scope pos) 0 ↑it (.ref (~~~s2))<|compEnvC scope (RS X.X.cells scope.names []) G.objs.t X.X)
    (compPost (model X.prog X.w) X.A E use Q (.ref (~~~s2)) G.objs.t) s3:=by
  rintro s3 rfl;show Zn4 (λn s'=>∃i σ' H' ys us,Inv (Ug X N' scope G.objs.t s2 H2 fp) [((~~~s2),Ue us)] σ' H' s'/\σ'=σC o fr σ/\Vals ys us/\tn i s'.m/\(∀b∈fp,H' b=none)/\W i n ys H') ?_ m0
   {0,_,H2,[],[],I2.block S Qw Er f2 RQ hC (XQ _) Ob old JE Ur,Z,.nil,Rb,λb hb=>(f2 b hb).1,w0}
  rintro n s' ⟨i,σ',H',ys,us,I',rfl,rv,XF,fH,w'⟩;rcases turn i n ys H' w' with ⟨stop,hz,q⟩|⟨go,hz,step⟩
  .show thn (T.done (Ug X N' scope G.objs.t s2 H2 fp) Z Z Z hc i _ s' _ H' _ I' (sy fH) XF stop) λr s4 zz=>?_;let(hr,I4):=zz;subst hr;let(oC,m,sD,hn,J4):=I2.unblock f2 hC (XQ _) Ob I4 rv hz;show fin _ oC _ m H' ys s4 J4 (q _ (I4.pin ((~~~s2),Ue us) AP).2.1) hn I4.free (XO Ob) (RV<|Yt I2.lt hC) (YB I2.sz hC)
    (λx c e=>by let(v,z):=I2.cell x c e;show Yq<|Yt z.lt hC) λp hp=>Yq (Yt (Ym (I2.pin p hp).1) hC)
  .show thn (T.item (Ug X N' scope G.objs.t s2 H2 fp) Z Z Z hc i _ s' _ H' _ I' (sy fH) XF go) λr s4 XA=>?_;let(u,hr,h4):=XA;subst hr;show thn h4 λ_ s5 XA=>?_;let(x,H5,I5,r5,y5,To,uD):=XA;let Wl:=step x H5 y5
   let sr:=ho x (List.S o none) (fr.H λj=>(σ[j]?).join) H5 _ (YM ..) Wl;let uC:=I5.pinned (sy (us:=us) uD) (T.obj _ _ To)
   show thn (hg _ _ _ _ _ s5 _ H5 x u _ uC r5 sr) λ_ s6 XA=>?_;let(σ6,H6,I6,(ow,Ra,e6),q6):=XA;subst e6;show thn (ht _ _ _ _ _ s6 _ H6 _ I6 q6) λb s7 XA=>?_;let(H7,I7,q7):=XA;let back:∀{us':Ag}{σ8:St}{H8:Hp}{s8:Shared},Inv (Ug X N' scope G.objs.t s2 H2 fp) ([((~~~s2),Ue us')]++Nm fp s5.m) (ow++fr.H λj=>(σ[j]?).join) H8 s8->
     Inv (Ug X N' scope G.objs.t s2 H2 fp) [((~~~s2),Ue us')] (σC o fr σ) H8 s8/\tn (i+1) s8.m/\∀b∈fp,H8 b=none:=λ{us' σ8 H8 s8} I8=>by
    exists I8.unpinned.weak ?_ λj v e=>?_,T.keep _ _ _ To λb hb ob e=>(I8.pin (b,ob)<|Yh _<|Yh _<|yt hb e).1,λb hb=>?_
    .unfold σC;rw[Xm,Xm,YM,Ra]
    .unfold σC at e;cases hj:j<o
     .rw[Yz (by rwa[YM]),zt,if_pos hj]at e;cases e
     .rw[YE (by rw[YM];show Nat.not_lt.G hj),YM]at e;rwa[YE (by rw[Ra];show Nat.not_lt.G hj),Ra]
    .let⟨ob,e,_⟩:=T.obj _ _ To b hb;show(I8.pin (b,ob)<|Yh _<|Yh _<|yt hb e).2.1
   cases b with
   |false=>
    rw[if_neg Yw]at q7 ⊢;let(m',hm,w7):=q7;let(I8,st8,fr8):=back (us':=us) (σ8:=[]) I7;exists m',hm,i+1,_,H7,ys,us,I8,Z,rv,st8,fr8,w7
   |true=>
    rw[if_pos Z]at q7 ⊢;show thn (he _ _ _ _ _ s7 _ H7 _ I7 q7) λy s8 XA=>?_;let(yv,H8,I8,r8,m',hm,w8):=XA;let(aD,nD,_,_,_):=I8.pin ((~~~s2),Ue us) AP;let aD:s8.m.D (~~~s2)=some (Ue us):=aD
    let nD:H8 (~~~s2)=none:=nD;let fG:us.f<=sizeLine:=by rw[<-rv.f];show LC hz
    show append_at (hsz:=by change us.o.t<=sizeLine;rwa[Yc]) aD λh9 hs9 hD9=>?_;let sq:h9.D (~~~s2)=some (Ue<|us++[y]):=by
     rw[hD9];change some ({cls:=.type "list",data:=.seq (us.o.push y) (us.f+1)}:Obj)=some {cls:=.type "list",data:=.seq (us++[y]).o (us++[y]).f}
     rw[Xm,YQ,List.push_toArray]
    let I9:Inv (Ug X N' scope G.objs.t s2 H2 fp) (Nm fp s5.m) (ow++fr.H λj=>(σ[j]?).join) H8 {s8 with heap:=h9}:=
     (I8.pins_of (pins':=Nm fp s5.m) λp hp=>I8.pin p<|Yh _<|Yh _ hp).turned (t':=s8.toks) (it:=(~~~s2)) (λb ob hb e=>hs9.extBut b ob hb e) nD Ob (.inr<|XQ _)
      (λx c e=>by let(v,z):=I2.cell x c (S.sub Qw I2 x c e);show Yq z.lt)
      λp hp=>by let(hb,_):=gh (show p∈Nm fp s5.m from by simpa[Ug] using hp);show Yq (RQ p.1 hb)
    let I9':Inv (Ug X N' scope G.objs.t s2 H2 fp) ([((~~~s2),Ue<|us++[y])]++Nm fp s5.m) (ow++fr.H λj=>(σ[j]?).join) H8 {s8 with heap:=h9}:=
     I9.pins_of λp hp=>by
      rcases Yb.G hp with z|z
      .let e:p=((~~~s2),Ue<|us++[y]):=by simpa using z
       subst e;exists sq,nD,Ob,λz=>?_,λv z=>nomatch z;let(_,ob,JD,_):=I2.stack.mem z;show Va _ (Ym JD)
      .show I9.pin p (Yh _ z)
    let(I10,so,sj):=back (us':=us++[y]) (σ8:=[]) I9';exists m',hm,i+1,_,H8,ys++[yv],us++[y],I10,Z,Vals.append rv<|.cons r8 .nil,so,sj,w8
 show codeAny_compStart_list (loop _ Z) (T.self _ 0 _ _ _ Rb<|loop _ Z)
def SE(hc:X.calm=true)(S:CompScope sc0 N0 N' o fr scope)(hi:PI X tg iter wi)(ho:PF o g)
  (hg:∀C s H fp,PG (Ug X N' scope C s H fp) tg g)
  (ht:∀C s H fp,Ex (Ug X N' scope C s H fp) ifs tt)
  (he:∀C s H fp,PE (Ug X N' scope C s H fp) elt te)
  (hs:∀x,foldedSetIterable iter X.X x=pure x:=by intro _;rfl)(Qw:X.X.scope=sc0:=by rfl)(Er:X.N=N0:=by rfl):PE X (.ListComp elt [⟨tg,iter,ifs,0⟩] scope pos) (sF wi g tt te o fr):=by intro pins s σ H Q I h;rw[eval_ListComp];show Lj hc S hi ho hg ht he hs Qw Er I h (use:=none) (λ_ _ z=>z) λC oC D m H' ys s' tB q hn nC si sf sd r9 r6=>?_;exists m,hn,λh' Wb=>{.ref D,upd H' D<|.lst ys,?_,Z,q};show tB.unpinned.turned (t':=s'.toks) (it:=C) (λb ob hb e=>Wb.extBut b ob hb e) (by rwa[Za si]) sf (.inr sd) r9 r6
def Uq{x:Str}{px:Pos}{Ep:Pos}(hc:X.calm=true)(hN:X.N.Nodup)(hx:X.N[i]?=some x)(hl:X.X.kindOf x=some .local)(S:CompScope sc0 N0 N' o fr scope)(hi:PI X tg iter wi)(ho:PF o g)
  (hg:∀C s H fp,PG (Ug X N' scope C s H fp) tg g)
  (ht:∀C s H fp,Ex (Ug X N' scope C s H fp) ifs tt)
  (he:∀C s H fp,PE (Ug X N' scope C s H fp) elt te)
  (hs:∀x,foldedSetIterable iter X.X x=pure x:=by intro _;rfl)(Qw:X.X.scope=sc0:=by rfl)(Er:X.N=N0:=by rfl)
  (hsw:swapsWith (.ListComp elt [⟨tg,iter,ifs,0⟩] scope pos) (some<|.Name x px) Ep.line X.X=pure true:=by rfl):
  PS X (.Assign [.Name x px] (.ListComp elt [⟨tg,iter,ifs,0⟩] scope pos) Ep) (tAsg (sF wi g tt te o fr)<|PY i):=by
 intro pins s σ H D I h;rw[exec_Assign_Name_used _ _ _ _ hsw];show XY (wpAny_standAt<|XY ?_);change wpAny _ X.A (do let _ <-comprehension (.ListComp elt [⟨tg,iter,ifs,0⟩] scope pos) scope X.X (firstIterPos [⟨tg,iter,ifs,0⟩] pos) (newList []) false (eval iter X.X) (some<|assign (.Name x px) X.X)) _ _ s
 show XY (Ts (Lj (Q:=λ_ s'=>SP X pins D .next s') hc S hi ho hg ht he hs Qw Er I h (use:=some<|assign (.Name x px) X.X) (λ_ _ z=>z) λC oC Dd m H' ys s' tB q hn nC si sf sd r9 r6=>?_) (λ_ s' hq=>Yg<|Yg hq) λ_ _ e=>e);change wpAny _ X.A (assign (.Name x px) X.X<|.ref Dd) _ _ _
 show wpAny_assign_Name (uY tB hN hx (.inl hl) (v:=.ref Dd) Z (λs2 I2=>?_)<|.inr hl);let g1:=(I2.pin (C,oC) AP).1
 let g1:s2.m.D C=some oC:=g1;let n2:s2.m.Ns C m:=by
  let(oc,es,ep,e,r):=hn;let e0:=(tB.pin (C,oC) AP).1
  let e0:s'.m.D C=some oC:=e0;rw[e]at e0;cases e0;exists _,es,ep,g1,r
 exists m,n2,λh' Wb=>{_,upd H' Dd<|.lst ys,?_,q};show I2.unpinned.turned (t':=s2.toks) (it:=C) (λb ob hb e=>Wb.extBut b ob hb e) (by rwa[Za si]) sf (.inr sd) r9 r6
end
section
variable{X:Cx}
def Eo{x y:V}{us:Ag}(r:Vals [x,y] us):∃u v,us=[u,v]/\RelV x u/\RelV y v:=by
 cases r with
 |cons a r=>
  cases r with
  |cons b r=>cases r;exists _,_,Z,a,b
def ZD:∀{ns:Ac}{us:Ag},Vals (ns.H V.int) us->IntsAre us ns
 |[],_,.nil=>.nil
 |n::ns,_,.cons r t=>by let(tk,rfl):=r;show .cons n tk (ZD t)
def fF:Vf X (.type "range") (λxs H Q=>∃j:Int,xs=[.int j]/\∀p,H p=none->Q ↑p (upd H p (.rng 0 j))):=by intro pins s σ H xs us Q I r h;let(j,rfl,q):=h;let(u,rfl,t,rfl):=Ut r;show call_range_1 ?_;exists .ref (~~~s),_,I.laid (o:=.rng 0 j) (λb u e=>Xo _ e) (XQ _) {_,_,_,Yi _ Z},Z,q _<|I.hok.fresh<|XQ _
def VX(lo hi:Int):(Ac):=(List.range (hi-lo).j).H λ(i:Nat)=>lo+(i:Int)
def fE(lo hi:Int):(VX lo hi).f=(hi-lo).j:=by unfold VX;rw[Xy,YY]
def En{lo:Int}:∀{us:Ag},us.f=n->(∀(j:Nat)(v:Value),us[j]?=some v->∃t,v=Value.int (lo+(j:Int)) t)->Vals (((List.range n).H λ(i:Nat)=>lo+(i:Int)).H V.int) us:=by
 induction n generalizing lo with
 |zero=>
  intro us h _;rw[QP.G h];show .nil
 |succ n ih=>
  intro us h hv;cases us with
  |nil=>cases h
  |cons u us=>
   rw[List.range_succ_eq_map,YJ,YJ];show .cons ?_ ?_
   .let⟨t,e⟩:=hv 0 u rfl;exists t,e
   .let q:=ih (lo:=lo+1) (us:=us) (NB h) λj v e=>by let(t,e'):=hv (j+1) v (by simpa using e);exists t,?_;rw[e'];congr 1;lia
    let e:(List.range n).H (λ(i:Nat)=>lo+1+(i:Int))=((List.range n).H Nat.succ).H (λ(i:Nat)=>lo+(i:Int)):=by
     rw[LB];show YN λi _=>?_;change lo+1+(i:Int)=lo+((i+1:Nat):Int)
     lia
    rwa[e]at q
inductive yR1(xs:List V)(H:Hp)(Q:VK):Prop
 |mk (p lo hi:_) (_:xs=[.ref p]) (_:H p=some (.rng lo hi)) (_:(-(2^62)<=lo/\lo<2^62/\-(2^62)<=hi/\hi<2^62)) (_:(hi-lo).j<=16777216) (_:∀l,H l=none->Q ↑l (upd H l<|.lst<|(VX lo hi).H V.int))
def ZL3(hc:X.calm=true):Vf X (.type "list") (yR1):=by
 intro pins s σ H xs us Q I r h;let(p,lo,hi,rfl,hp,(b1,b2,b3,b4),hz,q):=h;let(u,rfl,ru):=Ut r;let rfl:u=Value.ref p:=ru;let(t,u,v,e):=(show ObjOk X.prog X.w H s.m p (.rng lo hi) from I.hok p _ hp);let hn:Builtin.Range.rangeSize lo hi 1=(((hi-lo).j:Nat):Int):=by rw[rangeSize_one];split<;>grind
 show call_list_range (I.ok.hd hc) (t:=t) (u:=u) (v:=v) e (small_one b1 b2 b3 b4) hn hz λh' tk acc c' hk hS ha=>?_;let hl:acc.C.f=(hi-lo).j:=by rw[YA];show ha.1
 let rv:Vals ((VX lo hi).H V.int) acc.C:=En (lo:=lo) hl λj w ew=>by let(t,e):=ha.2 j w (by simpa using ew);exists t,by rw[e,Nx]
 exists .ref (~~~s),_,I.laid (o:=.lst<|(VX lo hi).H V.int) hk (XQ _) {?_,acc.C,c',rv,?_},Z,q _<|I.hok.fresh<|XQ _
 .rw[Xy,fE]
  have:sizeLine=16777216:=TF
  lia
 .rw[hS]
def ZJ3(hc:X.calm=true):Vf X (.builtin "sum") (λxs H Q=>∃(p:Addr)(ns:Ac),xs=[.ref p]/\SqL X.K H p (ns.H V.int)/\Q (.int ns.sum) H):=by
 intro pins s σ H xs us Q I r h;let(p,ns,rfl,hq,q):=h;let(u,rfl,ru):=Ut r;let rfl:u=Value.ref p:=ru;let(XX,rv,pl,hz):=I.list hq;let hi:=ZD rv
 let WA:=hi.allInts;let(xs,ex):=WA.items;let hl:=pl.isList
 rw[ex]at hl;show sum_intListG (I.ok.hd hc) hl λh' tk t' hk=>?_;let e1:preSum (numAt xs) xs.t=ns.sum:=by let e2:=hi.numsOf;rw[show XX=XX.o.C from Z,ex,nums_intItems]at e2;rw[preSum_eq,YS AP,<-e2]
 exists .int ns.sum,H,I.kept hk,{t',by rw[e1]},q
def seen(ns:Ac):(Ac):=firstMet (λi=>ns.E i 0) ns.f
def JC(K:Ad)(a:Addr):(It):=
 {λi H=>∃xs x,SqL K H a xs/\xs[i]?=some x,λi H v H'=>∃T x,H T=none/\v=.ref T/\H'=upd H T (.tup [.int i,x])/\∀xs,SqL K H a xs->xs[i]?=some x,λi H=>∃xs,SqL K H a xs/\xs.f<=i}
inductive xEnu(K:Ad)(vs:List V)(H1:Hp)(R:It->Hp->Prop):Prop
 |mk (a:_) (_:vs=[.ref a]) (_:∃xs,SqL K H1 a xs) (_:R (JC K a) H1)
def Em(K:Ad)(ta:TA):(TI):=λσ H R=>ta σ H λvs H1=>xEnu K vs H1 R
def fD{P:Program}{w:World}{K:Ad}{elts:List Expr}{x1:Nat}{pos:Pos}(a e it:Addr)(XJ:e≠it):Turn P w K (.Tuple elts x1 pos) (JC K a) [e,it] e (λi h=>(∃old,IsEnum h e it i old)/\h.IsListIter it a i) where
 mem:=AP
 obj:=λi h st b hb=>by
  let((old,he),o,eo,c,d):=st;rcases Ye.G hb with z|hb
  .subst z;exists _,he,λv z=>by let z':Data.fields _=Data.cell v:=z;cases z'
  .let z:b=it:=by simpa using hb
   subst z;exists o,eo,λv z=>by rw[d]at z;cases z
 keep:=λi h h' st k=>by let((old,he),hit):=st;exists {old,k e AP _ he},hit.at λo x=>k it AP o x
 item:=by
  intro X hP hw hK hc i pins s σ H E I hf st hg;subst hP hw hK;let(xs,x,hq,hx):=hg;let((old,he),hit):=st;let(XX,rv,p,hz):=I.list hq;let(u,hu,ru):=rv.get hx;let(f0,f1,f2,f3,f4,f5):=hf e AP;let(g0,g1,g2,g3,g4,g5):=hf it AP;let JB:H (~~~s)=none:=I.hok.fresh (XQ _)
  show wpAny_pyNext_enum_item he hit p.isList (x:=u) (by simpa using hu) XJ λh' ho rZ hT hsz hk=>?_;let Up:∀b ob,s.m.D b=some ob->b≠(~~~s):=λb ob z=>Yq (Ym z)
  let UR:∀b ob,H b=some ob->b≠(~~~s):=λb ob z=>Yq (I.hok.lt z);let Uo:∀b ob,H b=some ob->b≠e/\b≠it:=λb ob z=>{λq=>(by rw[q,f0]at z;cases z),λq=>(by rw[q,g0]at z;cases z)}
  let I1:Inv X pins σ (upd H (~~~s)<|.tup [.int i,x]) {s with heap:=h',toks:=s.toks+1}:=by
   show I.step (g':=s.gens) (d':=s.drawn) (ch:=[e,it]) (λb hb=>?_) (λb o _ _ Xj z _=>hk b o (λq=>Xj<|by simp[q]) (λq=>Xj<|by simp[q]) z) (λb o _ _ Xj z _=>{o.slots,hk b o (λq=>Xj<|by simp[q]) (λq=>Xj<|by simp[q]) z})
    (λb o _ z n=>by rwa[Za (Up b o z)]) (λb o Xj z=>{o,hk b o (λq=>Xj<|by simp[q]) (λq=>Xj<|by simp[q]) z}) (λb ys z=>by rwa[Za (UR b _ z)]) (λb o v z=>by rwa[Za (UR b _ z)])
    (λb ps z=>{#[],by rw[Za (UR b _ z),z];simp}) (λm hm=>?_) (λb v z=>?_) I.bare
   .rcases Ye.G hb with q|hb
    .rw[q];exists f3,f1,f4,f5
    .let q:b=it:=by simpa using hb
     rw[q];exists g3,g1,g4,g5
   .let⟨o,es,ep,UZ,r⟩:=hm;exists o,es,ep,hk _ o (XO f1) (XO g1) UZ,r
   .cases hb:b=(~~~s)
    .subst hb;rw[XS]at z;cases z;exists by change 2<=sizeLine;decide,[.int i s.toks,u],.cons {_,Z}<|.cons ru .nil,{_,hT,Z,_,Z}
    .rw[Za hb]at z;show(I.hok b v z).stay (λc w' Xe q=>?_) (λc q=>by rwa[Za (UR c _ q)]) λc ys q=>by rwa[Za (UR c _ q)]
     rcases Xe with rfl|Xe
     .show hk c w' (Uo c _ z).1 (Uo c _ z).2 q
     .show hk c w' (Uo c _ Xe).1 (Uo c _ Xe).2 q
  exists _,Z,wpAny_letOwnedTupleGo_enum ho λh2 Qu VG=>?_;let fT:e≠(~~~s):=Up e _ he
  let I2:Inv X pins σ (upd H (~~~s)<|.tup [.int i,x]) {s with heap:=h2,toks:=s.toks+1}:=Inv.turned (s:={s with heap:=h',toks:=s.toks+1}) (h':=h2) (t':=s.toks+1) (it:=e) I1 (λb o hb z=>VG.extBut b o hb z) (by rwa[Za fT]) f1 f3 f4 f5;exists .ref (~~~s),_,I2,Z,{_,x,JB,Z,Z,λys hy=>by rwa[I.list_inj hy hq]},{{u,by simpa using Qu},rZ.at λo z=>VG.extBut it o (XO XJ) z},λb hb=>?_;rcases Ye.G hb with q|hb
  .rw[q,Za fT];show f0
  .let q:b=it:=by simpa using hb
   let(o,eo,_):=hit;rwa[q,Za (Up it o eo)]
 done:=by
  intro X hP hw hK hc i pins s σ H E I hf st hg;subst hP hw hK;let(xs,hq,hx):=hg;let((old,he),hit):=st;let(XX,rv,p,hz):=I.list hq;let(g0,g1,g2,g3,g4,g5):=hf it AP;let hl:=rv.f
  show wpAny_pyNext_enum_end (I.ok.hd hc) he hit p.isList (by simp;lia) λh' eb=>{Z,I.turned (t':=s.toks) (it:=it) (λb o hb z=>eb b o hb z) g0 g1 g3 g4 g5}
 self:=λ_ _ _ _ _ st h=>by let((_,he),_):=st;show FZ he h
def rY{elts:List Expr}{x1:Nat}{UY:Pos}{a:Expr}{ta:TA}{p pos:Pos}(hg:Gl X "enumerate")(hm:X.mg "enumerate"=none)(ha:PA X [a] ta)(hs:starEach [a] X.X=[(false,eval a X.X)]:=by rfl):
  PI X (.Tuple elts x1 UY) (.Call (.Name "enumerate" p) [a] [] pos) (Em X.K ta):=by
 intro pins s σ H R I h;show Call_ (Rg I hg hm Boot.«enumerate»<|TX (thn (ha pos pins s σ H _ I h) λus s1 XA=>?_) hs Z);let(vs,H1,I1,r1,q1):=XA;let(b,e,(xs,hq),q):=q1;subst e;let(u,rfl,ru):=Ut r1;let rfl:u=Value.ref b:=ru;let(XX,rv,pl,hz):=I1.list hq;show call_enumerate_list pl.isList λh' he hit hsz hk=>?_;let I2:Inv X pins σ H1 {s1 with heap:=h'}:=I1.kept (t':=s1.toks) hk
 show FZ he ?_;let nn:∀k,(~~~s1)<=k->H1 k=none:=λk hk=>I1.hok.fresh hk
 exists (~~~s1)+1,[(~~~s1)+1,(~~~s1)],_,_,H1,Z,I2,fD b _ _<|zd _,⟨⟨_,he⟩,hit⟩,λc hc=>?_,q;let hle:(~~~s1)<=c:=by
  rcases Ye.G hc with q|hc
  .rw[q];show SI _
  .let q:c=(~~~s1):=by simpa using hc
   rw[q];show XQ _
 show I1.fpOk hle (nn c hle)
def El{us:Ag}(r:Vals [kV k,y] us):∃u v,us=[u,v]/\RelV (kV k) u/\RelV y v:=Eo r
def rX:(V->List V->Hp->VK->Prop):=λx vs H Q=>∃d kvs k y,x=.ref d/\vs=[kV k,y]/\H d=some (.dK kvs)/\kvs.f<sizeLine/\(∀v,Wv kvs k=some v->Q v H)/\(Wv kvs k=none->Q y (upd H d<|.dK<|kvs++[(k,y)]))
def ZB3:Oe X "dict.setdefault" rX:=by
 intro pins s σ H x vs v us Q I rx rv h;let(d,kvs,k,y,rfl,rfl,hH,hz,h1,h2):=h;cases rx;let(uk,uy,rfl,rk,ry):=El rv;let(z,hd,ws,rel,dd):=JI I.hok hH;show call_meetsIn gU dd.typeIs PySem.F.entry_dict_setdefault (PySem.F.args_dict_setdefault_3 _ _ _) (kt_meets_setdefault (Rh X.prog X.w) d (sT rk) hd uy)
  {ws,dd,by rw[<-rel.f];show z,λv' Lo=>?_,λhn h' fC hs=>?_}
 .cases e:Wv kvs k with
  |none=>
   let q:=rel.val k;rw[e,Lo]at q;show False.elim q
  |some w'=>
   let q:=rel.val k;rw[e,Lo]at q;exists w',H,I.tok _,q,h1 w' e
 .let e:Wv kvs k=none:=by
   cases e:Wv kvs k with
   |none=>rfl
   |some w'=>
    let q:=rel.val k;rw[e,hn]at q;show False.elim q
  let he:∃q,h'.D d=some q:=by let(q,_,_,hq,_):=fC;exists q,hq
  exists y,_,sQ (ob:=.dK<|putK kvs k y) I (by rw[hH];show True.intro) hs he<|sP ?_ hd (rel.put k ry) fC,ry,?_
  .have:=ZM5 kvs k y;lia
  .rw[sU y e];show h2 e
def QZ(p d:Addr):(HO):=.ext λh=>h.IsValuesView p d
def rW:(V->List V->Hp->VK->Prop):=λx vs H Q=>∃d kvs,x=.ref d/\vs=[]/\H d=some (.dK kvs)/\∀p,H p=none->Q ↑p (upd H p<|QZ p d)
def Zs8:Oe X "dict.values" rW:=by
 intro pins s σ H x vs v us Q I rx rv h;let(d,kvs,rfl,rfl,hH,q):=h;cases rx;cases rv;let(z,hd,ws,rel,dd):=JI I.hok hH;show call_meetsIn gO dd.typeIs PySem.F.entry_dict_values (PySem.F.args_dict_values_1 _) (meets_dict_values (Rh X.prog X.w) d hd) {⟨ws,dd⟩,?_};exists .ref (~~~s),_,I.laid (o:=QZ (~~~s) d) (λb u e=>Xo _ e) (XQ _) ?_,Z,q _<|I.hok.fresh<|XQ _;let e:=Yi s.m (o:={cls:=.type "dict_values",data:=.fields #[.ref d]}) rfl
 exists {_,e,Z,Z},{_,e},λh1 h2 zz k=>by let(o,ho,r):=zz;exists o,k o ho,r
def ZT8{h:Heap}(dd:h.DictOf (Rh P w) d ws):∃ep,h.DictAt (Rh P w) d ws ep:=by let(o,es,ep,r):=dd;exists ep,o,es,r
def Ek{κ:Type}{kvs:List (κ×V)}{ws:List (κ×Value)}(h:KV kvs ws):Vals (kvs.H (·.2)) (ws.H (·.2)):=by
 induction h with
 |nil=>show .nil
 |cons r t ih=>show .cons r.2 ih
def Zb3(hc:X.calm=true):Vf X (.type "list") (λxs H Q=>∃p d kvs,xs=[.ref p]/\H p=some (QZ p d)/\H d=some (.dK kvs)/\∀l,H l=none->Q ↑l (upd H l (.lst (kvs.H (·.2))))):=by
 intro pins s σ H xs us Q I r h;let(p,d,kvs,rfl,hp,hd,q):=h;let(u,rfl,ru):=Ut r;let rfl:u=Value.ref p:=ru;let(hv,_,_):=(show ObjOk X.prog X.w H s.m p (QZ p d) from I.hok p _ hp);let(z,Oa,ws,rel,dd):=JI I.hok hd;let(ep,da):=ZT8 dd;let hl:ws.f=kvs.f:=rel.f.symm
 show PySem.W.kdl_call (PySem.W.kdl_values (knd:=Rh X.prog X.w) (kvs:=ws) (ep:=ep) (r:=p) (d:=d)) (I.ok.hd hc) ⟨hv,da⟩ J λh' tk acc c' hk hS ha=>?_;let ea:acc.C=ws.H (·.2):=by
  show QG λi=>?_;cases e:acc.C[i]? with
  |none=>
   have:ws.f<=i:=by
    have:=wm.G e
    rwa[YA,ha.1]at this
   rw[wm.L (by rwa[Xy])]
  |some v=>
   let(k,ek):=ha.2 i v (by simpa using e);rw[Yk,ek];rfl
 exists .ref (~~~s),_,I.laid (o:=.lst (kvs.H (·.2))) hk (XQ _) {by rw[Xy];show z,acc.C,c',?_,by rw[hS]},Z,q _<|I.hok.fresh<|XQ _;rw[ea];show Ek rel
end
inductive EqD(K:Ad)(H:Hp):Nat->V->V->Bool->Prop
 |flat {n:Nat} {x y:V} (fx:VP x=true) (fy:VP y=true):EqD K H n x y (PK x y)
 |lsts {n:Nat} {a b:Addr} {xs ys:List V} {e:Nat->Bool} (ha:SqL K H a xs) (hb:SqL K H b ys) (hl:xs.f=ys.f) (h:∀i x y,xs[i]?=some x->ys[i]?=some y->EqD K H n x y (e i)):EqD K H (n+1) ↑a ↑b ((List.range xs.f).all e)
 |lens {n:Nat} {a b:Addr} {xs ys:List V} (ha:SqL K H a xs) (hb:SqL K H b ys) (hl:xs.f≠ys.f):EqD K H (n+1) ↑a ↑b false
 |tups {n:Nat} {a b:Addr} {xs ys:List V} {e:Nat->Bool} (ha:SqT K H a xs) (hb:SqT K H b ys) (h:∀i x y,xs[i]?=some x->ys[i]?=some y->EqD K H n x y (e i)):
   EqD K H (n+1) ↑a ↑b ((List.range<|min xs.f ys.f).all e&&xs.f == ys.f)
def rV(h:VP x=true):PK x x=true:=by cases x<;>first|rfl|show Hz _|show absurd (show false=true from h) Yw
section
variable{X:Cx}{pins:List (Addr×Obj)}{σ:St}{H:Hp}{s:Shared}
def Vals.at{j:Nat}(r:Vals xs us)(h:j<us.f):∃x,xs[j]?=some x/\RelV x us[j]:=by
 let hl:=r.f;let hx:xs[j]?=some (xs[j]'(by lia)):=XI B
 let(u,e,ru):=r.get hx;rw[XI h]at e;cases e;exists _,hx,ru
def EqD.self(q:EqD X.K H n x y b)(I:Inv X pins σ H s):x=y->b=true:=by
 induction q with
 |flat fx fy=>intro e;subst e;show rV fx
 |@lsts n a b xs ys e ha hb hl h ih=>
  intro z;cases z;let e1:xs=ys:=I.list_inj ha hb
  subst e1;rw[Rw];intro i hi;let hx:xs[i]?=some (xs[i]'(YG.G hi)):=XI _
  show ih i _ _ hx hx rfl
 |@lens n a b xs ys ha hb hl=>
  intro z;cases z;show absurd (YZ List.f<|I.list_inj ha hb) hl
 |@tups n a b xs ys e ha hb h ih=>
  intro z;cases z;let e1:xs=ys:=I.tuple_inj ha hb
  subst e1;rw[Nat.min_self,Ou,Rw];exists λi hi=>?_,AP;let hx:xs[i]?=some (xs[i]'(YG.G hi)):=XI _
  show ih i _ _ hx hx rfl
def EqD.at(q:EqD X.K H n x y b)(I:Inv X pins σ H s):∀{A:Around}{u v:Value},A.units+n<cLine->RelV x u->RelV y v->SeqAt.EqAt A s u v b:=by
 induction q with
 |flat fx fy=>intro A u v _ ru rv;show EE ru rv fx fy
 |@lsts n a b xs ys e ha hb hl h ih=>
  intro A u v hu ru rv;let rfl:u=Value.ref a:=ru;let rfl:v=Value.ref b:=rv;cases Vo:a=b
  .let z:=EqD.self (EqD.lsts ha hb hl h) I (YZ V.ref Vo);rw[z,Vo];show Nt _
  let(us,rx,px,_):=I.list ha;let(vs,ry,py,_):=I.list hb;let l1:=rx.f
  let l2:=ry.f;let z:=SeqAt.RcAt.lists (A:=A) (s:=s) (e:=e) px.isList py.isList (by rw[Yc,Yc];lia) J λj h1 h2=>by let(x,ex,PD):=rx.at (j:=j) (by simpa using h1);let(y,ey,PB):=ry.at (j:=j) (by simpa using h2);show ih j x y ex ey (A:=A.in1) (by change A.units+1+n<cLine;lia) (by simpa using PD) (by simpa using PB)
  rw[Yc,<-l1]at z;show ze Vo z
 |@lens n a b xs ys ha hb hl=>
  intro A u v hu ru rv;let rfl:u=Value.ref a:=ru;let rfl:v=Value.ref b:=rv;let(us,rx,px,_):=I.list ha;let(vs,ry,py,_):=I.list hb;let l1:=rx.f
  let l2:=ry.f;let Vo:a≠b:=λz=>by subst z;show hl (YZ List.f<|I.list_inj ha hb)
  show ze Vo (SeqAt.RcAt.lists_lengths px.isList py.isList (by rw[Yc,Yc];simp;lia) B)
 |@tups n a b xs ys e ha hb h ih=>
  intro A u v hu ru rv;let rfl:u=Value.ref a:=ru;let rfl:v=Value.ref b:=rv;cases Vo:a=b
  .let z:=EqD.self (EqD.tups ha hb h) I (YZ V.ref Vo);rw[z,Vo];show Nt _
  let(us,rx,px,_):=I.tuple ha;let(vs,ry,py,_):=I.tuple hb;let l1:=rx.f
  let l2:=ry.f;let z:=SeqAt.RcAt.tuples (A:=A) (s:=s) (e:=e) (show s.m.IsTuple a us.o from px) (show s.m.IsTuple b vs.o from py) B λj h1 h2=>by let(x,ex,PD):=rx.at (j:=j) (by simpa using h1);let(y,ey,PB):=ry.at (j:=j) (by simpa using h2);show ih j x y ex ey (A:=A.in1) (by change A.units+1+n<cLine;omega) (by simpa using PD) (by simpa using PB)
  rw[Yc,Yc,<-l1,<-l2]at z;show ze Vo z
end
section
variable{X:Cx}
inductive rEqD(K:Ad)(neg:Bool)(x:V)(y:V)(H:Hp)(Q:VK):Prop
 |mk (n b p q:_) (_:x=.ref p) (_:y=.ref q) (_:n<=6) (_:EqD K H n x y b) (_:Q (.bl<|if neg then !b else b) H)
def rT(hu:X.A.units+8<cLine):Wx X (compareOp .Eq) (rEqD X.K false):=by
 intro pins s σ H x y u v Q I ru rv h;let(n,b,p,q,rfl,rfl,hn,d,hq):=h;let rfl:u=Value.ref p:=ru;let rfl:v=Value.ref q:=rv;let fin:EP X pins σ Q (.bool b) s:={.bl b,H,I,Z,hq}
 cases d with
 |flat fx fy=>show absurd (show false=true from fx) Yw
 |@lsts n _ _ xs ys e ha hb hl h=>
  let(us,rx,px,_):=I.list ha;let(vs,ry,py,_):=I.list hb;let l1:=rx.f
  let l2:=ry.f;show SeqAt.eq_listAt (e:=e) px.isList py.isList (by rw[Yc,Yc];lia) J (λj h1 h2=>?_) (by rwa[Yc,<-l1]);let(x,ex,PD):=rx.at (j:=j) (by simpa using h1);let(y,ey,PB):=ry.at (j:=j) (by simpa using h2);show(h j x y ex ey).at I (A:=X.A.in1) (by change X.A.units+1+n<cLine;lia) (by simpa using PD) (by simpa using PB)
 |@lens n _ _ xs ys ha hb hl=>
  let(us,rx,px,_):=I.list ha;let(vs,ry,py,_):=I.list hb;let l1:=rx.f
  let l2:=ry.f;show SeqAt.eq_list_lengthsAt px.isList py.isList (by rw[Yc,Yc];simp;lia) B fin
 |@tups n _ _ xs ys e ha hb h=>
  let(us,rx,px,_):=I.tuple ha;let(vs,ry,py,_):=I.tuple hb;let l1:=rx.f
  let l2:=ry.f;show SeqAt.eq_tupleAt (e:=e) (show s.m.IsTuple p us.o from px) (show s.m.IsTuple q vs.o from py) B (λj h1 h2=>?_) (by rwa[Yc,Yc,<-l1,<-l2]);let(x,ex,PD):=rx.at (j:=j) (by simpa using h1);let(y,ey,PB):=ry.at (j:=j) (by simpa using h2);show(h j x y ex ey).at I (A:=X.A.in1) (by change X.A.units+1+n<cLine;omega) (by simpa using PD) (by simpa using PB)
def rS(hu:X.A.units+8<cLine):Wx X (compareOp .NotEq) (rEqD X.K true):=by
 intro pins s σ H x y u v Q I ru rv h;let(n,b,p,q,rfl,rfl,hn,d,hq):=h;let rfl:u=Value.ref p:=ru;let rfl:v=Value.ref q:=rv;let fin:EP X pins σ Q (.bool<|!b) s:={.bl<|!b,H,I,Z,hq}
 cases d with
 |flat fx fy=>show absurd (show false=true from fx) Yw
 |@lsts n _ _ xs ys e ha hb hl h=>
  let(us,rx,px,_):=I.list ha;let(vs,ry,py,_):=I.list hb;let l1:=rx.f
  let l2:=ry.f;show SeqAt.RcNeAt.lists (e:=e) px.isList py.isList (by rw[Yc,Yc];omega) B (λj h1 h2=>?_) _ _ _ _ (by rwa[Yc,<-l1]);let(x,ex,PD):=rx.at (j:=j) (by simpa using h1);let(y,ey,PB):=ry.at (j:=j) (by simpa using h2);show(h j x y ex ey).at I (A:=X.A.in1) (by change X.A.units+1+n<cLine;omega) (by simpa using PD) (by simpa using PB)
 |@lens n _ _ xs ys ha hb hl=>
  let(us,rx,px,_):=I.list ha;let(vs,ry,py,_):=I.list hb;let l1:=rx.f
  let l2:=ry.f;show SeqAt.RcNeAt.lists_lengths px.isList py.isList (by rw[Yc,Yc];simp;omega) B _ _ _ _ fin
 |@tups n _ _ xs ys e ha hb h=>
  let(us,rx,px,_):=I.tuple ha;let(vs,ry,py,_):=I.tuple hb;let l1:=rx.f
  let l2:=ry.f;show SeqAt.RcNeAt.tuples (e:=e) (show s.m.IsTuple p us.o from px) (show s.m.IsTuple q vs.o from py) B (λj h1 h2=>?_) _ _ _ _ (by rwa[Yc,Yc,<-l1,<-l2]);let(x,ex,PD):=rx.at (j:=j) (by simpa using h1);let(y,ey,PB):=ry.at (j:=j) (by simpa using h2);show(h j x y ex ey).at I (A:=X.A.in1) (by change X.A.units+1+n<cLine;omega) (by simpa using PD) (by simpa using PB)
end
end L2
namespace My
open PySem L2
abbrev IL(ns:Ac):List V:=ns.H V.int
def Xv(ns:Ac):(IL ns).f=ns.f:=Xy ..
def fB(a b:Ac):IL (a++b)=IL a++IL b:=YD ..
def ZJ(a:Ac)(r:Int):IL (a++[r])=IL a++[.int r]:=YD ..
def fw(a:Ac)(n:Nat):IL (a.R n)=(IL a).R n:=vy ..
def rR(a:Ac)(n:Nat):IL (a.drop n)=(IL a).drop n:=List.map_drop ..
def rQ(a:Ac)(n:Nat)(z:Int):IL (a.set n z)=(IL a).set n (.int z):=List.map_set ..
def So{i:Nat}{z:Int}(h:ns[i]?=some z):(IL ns)[i]?=some (.int z):=by rw[Yk,h];rfl
def Um{i:Nat}{x:V}(h:(IL ns)[i]?=some x):∃z,x=.int z/\ns[i]?=some z:=by
 rw[Yk]at h;cases e:ns[i]? with
 |none=>rw[e]at h;cases h
 |some z=>rw[e]at h;exists z,(Ya h).symm,Z
def Zp{a:Addr}(hn:H a=none)(s:Same H H2):Same H (upd H2 a o):=λb u e=>by rw[Za (Zb e hn)];show s b u e
def ZF{p:Addr}(s:Same H H2)(hp:H2 p=none):Same H (upd H2 p o):=Zp (s.free hp) s
def XH{p:Addr}(hp:H p=none):Same H (upd H p o):=ZF (Same.refl H) hp
def MZ(e:Same H H')(h:SqT K H a xs):SqT K H' a xs:=by
 rcases h with (h|⟨o,h⟩)|h
 .show .inl (.inl<|e _ _ h)
 .show .inl (.inr {o,e _ _ h})
 .show .inr h
def Ej{n:Nat}(h:n<=1000000):n<=sizeLine:=YB h vg
def Zk{n:Nat}(h:n<=1000000):n<sizeLine:=zm h vg
def MY(hr:Room k A):A.units+8<cLine:=zm (Nat.add_le_add_left (by decide:8<=64) _) hr.units
def Zy{α:Type}{xs:List α}{i:Int}{n:Nat}{x:α}(hi:i=(n:Int))(h:xs[n]?=some x):Vq xs i=some x:=by
 subst hi;let hn:n<xs.f:=(Xs.G h).1
 unfold Vq PL;rw[if_pos (Int.natCast_nonneg n),if_pos B];simpa using h
def Ei{c A uX:Prop}[Decidable c](hc:c)(h:A):if decide c=true then A else uX:=by rwa[if_pos (Ys hc)]
def MX{c A uX:Prop}[Decidable c](hc:¬c)(h:uX):if decide c=true then A else uX:=by rwa[if_neg (by simp[hc])]
def Li{c A uX:Prop}[Decidable c](hc:c)(h:uX):if (!decide c)=true then A else uX:=by rwa[if_neg (by simp[hc])]
def rP{c A uX:Prop}[Decidable c](hc:¬c)(h:A):if (!decide c)=true then A else uX:=by rwa[if_pos (by simp[hc])]
def WN{c A uX:Prop}[Decidable c](h1:c->A)(h2:¬c->uX):if decide c=true then A else uX:=by
 cases h:c
 .show Ei h (h1 h)
 .show MX h (h2 h)
def VF{c A uX:Prop}[Decidable c](h1:c->uX)(h2:¬c->A):if (!decide c)=true then A else uX:=by
 cases h:c
 .show Li h (h1 h)
 .show rP h (h2 h)
def fv{b:Bool}{A uX:Prop}(h1:b=true->A)(h2:b=false->uX):if b=true then A else uX:=by
 cases b with
 |true=>show Us (h1 Z)
 |false=>show Vp (h2 Z)
def JA{b:Bool}{A uX:Prop}(h1:b=true->uX)(h2:b=false->A):if (!b)=true then A else uX:=by
 cases b with
 |true=>show Vp (h1 Z)
 |false=>show Us (h2 Z)
def SqK(k:Bool)(K:Ad)(H:Hp)(a:Addr)(xs:List V):(Prop):=match k with
 |false=>SqL K H a xs
 |true=>SqT K H a xs
def SqK.same(e:Same H H')(h:SqK k K H a xs):SqK k K H' a xs:=by
 cases k with
 |false=>show e.seq h
 |true=>show MZ e h
def SqK.or(h:SqK k K H a xs):SqL K H a xs\/SqT K H a xs:=by
 cases k with
 |false=>show .inl h
 |true=>show .inr h
def Eh(K:Ad)(tl:TE):(TI):=λσ H R=>tl σ H λx H1=>∃a,x=.ref a/\(((∃xs,SqL K H1 a xs)/\R (PU K a) H1)\/((∃xs,SqT K H1 a xs)/\R (PR K a) H1))
def Jz(hl:PE X l tl):PI X tg l (Eh X.K tl):=by
 intro pins s σ H R I h;show thn (hl pins s σ H _ I h) λv s1 XA=>?_;let(x,H1,I1,r1,q1):=XA;let(a,e,q):=q1;subst e;cases r1;rcases q with ⟨⟨xs,hq⟩,q⟩|⟨⟨xs,hq⟩,q⟩
 .let⟨XX,rv,p,hz⟩:=I1.list hq;show Hw p.isList ?_;exists (~~~s1),[(~~~s1)],_,_,H1,Z,I1.kept (t':=s1.toks) λb o e=>Xo _ e,gm a _,{_,Yi _ Z,Z,Z},λb hb=>?_,q;let e:b=(~~~s1):=by simpa using hb
  subst e;show I1.fpOk (XQ _) (I1.hok.fresh<|XQ _)
 .let⟨XX,rv,p,hz⟩:=I1.tuple hq;show HD (show s1.m.IsTuple a XX.o from p) ?_;exists (~~~s1),[(~~~s1)],_,_,H1,Z,I1.kept (t':=s1.toks) λb o e=>Xo _ e,gk a _,{_,Yi _ Z,Z,Z},λb hb=>?_,q;let e:b=(~~~s1):=by simpa using hb
  subst e;show I1.fpOk (XQ _) (I1.hok.fresh<|XQ _)
def MW{g:TG}{tb:TS}{D:Ends}(Pv:Nat->St->Hp->Prop)(h0:Pv 0 σ H)(hl:∀i σ H,i<=xs.f->Pv i σ H->SqK k K H a xs)
  (hs:∀i x σ H,xs[i]?=some x->Pv i σ H->g x σ H λσ2 H2=>tb {D with nx:=Pv<|i+1,ct:=Pv<|i+1,bk:=D.nx} σ2 H2)(hd:∀σ H,Pv xs.f σ H->D.nx σ H):((∃xs,SqL K H a xs)/\∃W:Nat->Nat->St->Hp->Prop,(∃m,W 0 m σ H)/\∀i m σ H,W i m σ H->
   ((PU K a).stop i H/\D.nx σ H)\/((PU K a).go i H/\∃N:St->Hp->Prop,(∀σ' H',N σ' H'->∃m',m'<m/\W (i+1) m' σ' H')/\∀x H',(PU K a).yld i H x H'->g x σ H' λσ2 H2=>tb {D with nx:=N,ct:=N,bk:=D.nx} σ2 H2))\/
  ((∃xs,SqT K H a xs)/\∃W:Nat->Nat->St->Hp->Prop,(∃m,W 0 m σ H)/\∀i m σ H,W i m σ H->
   ((PR K a).stop i H/\D.nx σ H)\/((PR K a).go i H/\∃N:St->Hp->Prop,(∀σ' H',N σ' H'->∃m',m'<m/\W (i+1) m' σ' H')/\∀x H',(PR K a).yld i H x H'->g x σ H' λσ2 H2=>tb {D with nx:=N,ct:=N,bk:=D.nx} σ2 H2)):=by
 cases k with
 |false=>show .inl {{xs,hl 0 σ H (Yl _) h0},Fd (K:=K) (a:=a) (xs:=xs) Pv h0 hl hs hd}
 |true=>show .inr {{xs,hl 0 σ H (Yl _) h0},uB (K:=K) (a:=a) (xs:=xs) Pv h0 hl hs hd}
def PairV(H:Hp)(v:V)(p:Int×Int):(Prop):=∃t,v=.ref t/\H t=some (.tup [.int p.1,.int p.2])
def PairsV(H:Hp)(xs:List V)(ps:Aa):(Prop):=xs.f=ps.f/\∀(i:Nat)(p:Int×Int),ps[i]?=some p->∃v,xs[i]?=some v/\PairV H v p
def PairV.same(s:Same H H')(h:PairV H v p):PairV H' v p:=by let(t,e,q):=h;exists t,e,s _ _ q
def PairsV.same(s:Same H H')(h:PairsV H xs ps):PairsV H' xs ps:={h.1,λi p e=>by let(v,e1,q):=h.2 i p e;exists v,e1,q.same s}
def PairsV.at(h:PairsV H xs ps){i:Nat}{v:V}(e:xs[i]?=some v):∃p,ps[i]?=some p/\PairV H v p:=by
 let hi:i<xs.f:=(Xs.G e).1;let hp:i<ps.f:=by rwa[<-h.1]
 let(v',e1,q):=h.2 i ps[i] (XI hp);rw[e]at e1;cases e1;exists _,XI hp,q
def PairsV.nil:PairsV H [] []:={Z,λi p e=>by simp at e}
def PairsV.snoc(h:PairsV H xs ps)(q:PairV H v p):PairsV H (xs++[v]) (ps++[p]):=by
 show{by rw[Xm,Xm,h.1];rfl,λi p' e=>?_};cases hi:i<ps.f
 .rw[Yz hi]at e;rw[Yz (by rwa[h.1])];show h.2 i p' e
 .let hl:i=ps.f:=by
   have:=(Xs.G e).1
   rw[Xm,YQ]at this;lia
  subst hl;rw[YE (XQ _),NA]at e;rw[YE (by rw[h.1];show XQ _),h.1,NA];let e':p=p':=Ya e
  subst e';exists v,Z,q
def PairsV.drop(h:PairsV H xs ps)(n:Nat):PairsV H (xs.drop n) (ps.drop n):=by show{by rw[Rx,Rx,h.1],λi p e=>?_};rw[List.getElem?_drop]at e ⊢;show h.2 _ p e
def PairsV.take(h:PairsV H xs ps)(n:Nat):PairsV H (xs.R n) (ps.R n):=by
 show{by rw[Yo,Yo,h.1],λi p e=>?_};cases hi:i<n
 .rw[gM hi]at e ⊢;show h.2 _ p e
 .rw[List.getElem?_take_eq_none J]at e;cases e
def PairsV.app(h:PairsV H xs ps)(h2:PairsV H ys qs):PairsV H (xs++ys) (ps++qs):=by
 show{by rw[Xm,Xm,h.1,h2.1],λi p e=>?_};cases hi:i<ps.f
 .rw[Yz hi]at e;rw[Yz (by rwa[h.1])];show h.2 i p e
 .rw[YE J]at e;rw[YE (by rw[h.1];omega),h.1];show h2.2 _ p e
def rO:¬(("places":Str)="ties"):=by decide +kernel
def wf(n:Int)(tl:Addr):(List (Str×V)):=WE "ties" ↑tl (WE "places" (.int n) [])
def ZU(n:Int)(tl:Addr):(wf n tl).M ("places":Str)=some (.int n):=by unfold wf;rw[ES,if_neg rO,ES,if_pos Z]
def Pz(n:Int)(tl:Addr):(wf n tl).M ("ties":Str)=some ↑tl:=by unfold wf;rw[ES,if_pos Z]
def WebAt(C:Addr)(H:Hp)(w:Addr)(n:Int)(ps:Aa):(Prop):=∃dx tl xs,H w=some (.ins C dx<|wf n tl)/\H tl=some (.lst xs)/\PairsV H xs ps
def WebAt.same(s:Same H H')(h:WebAt C H w n ps):WebAt C H' w n ps:=by let(dx,tl,xs,a,b,c):=h;exists dx,tl,xs,s _ _ a,s _ _ b,c.same s
def Zv(n:Int)(ps:Aa):(Prop):=1<=n/\n<=14/\ps.f<=30/\∀p∈ps,0<=p.1/\p.1<n/\0<=p.2/\p.2<n
def ft(K:Ad)(mg:Af)(x qual:Str)(st:Stmt)(fs:List Str):(Prop):=∃C f fd,mg x=some ↑C/\Fun K "__init__" qual st f fd/\Cls K C/\Mk K C f/\∀a∈fs,NoAttr K C a
def Eg{mg:Af}{oc:Value}{od an:Option Addr}{Tz:Array (Option Value)}{kV doc pm Xw ct:Value}(X:K.In h)(G:h.Ns mainGlobals mg)
  (aC:PySem.W.nsIn K mainGlobals x=some (some<|.ref C))(a:PySem.W.findIn K ↑C "__init__"=some (some<|.ref f))(i:PySem.W.isFn K ↑f=true)
  (l:K.M f=some {oc,od,.func<|PySem.W.fnOf "__init__" qual (Lk st) (Qx st) (Zd st) .none kV doc pm an Xw ct,Tz})(c:PySem.W.codeIn K Xw qual=true)(k:PySem.W.keepIn K ↑f=true)
  (pg:PySem.W.plainGet K C Str.empty=true)(hd:PySem.W.hasDictIn K C=true)(po:PySem.W.plainOver K C=true)(sa:PySem.W.findIn K ↑C "__setattr__"=some (some<|.builtin "object.__setattr__"))(mk:PySem.W.makesIn K C=true)(kc:PySem.W.keepIn K ↑C=true)
  (na:∀a∈fs,PySem.W.findIn K ↑C a=some none):ft K mg x qual st fs:=
 {C,f,_,FU X G aC,ym l c k,⟨pg,hd,po,sa⟩,⟨mk,a,i,kc⟩,na}
def UQ{mg:Af}{z:Int}{v:Value}(X:K.In h)(G:h.Ns mainGlobals mg)(a:PySem.W.nsIn K mainGlobals x=some (some v))(e:∃tk,v=.int z tk):∃tk,mg x=some (.int z tk):=by let(tk,rfl):=e;exists tk,FU X G a
def MV{x:V}{A uX:St->Hp->Prop}(h:A (σ.set i (some x)) H):PY i x σ H λσ2 H2=>tYes σ2 H2 λb H3=>if b=true then A σ2 H3 else uX σ2 H3:=
 (show if true=true then A (σ.set i<|some x) H else uX (σ.set i<|some x) H from Us h)
def nm{x:V}{Q:St->Hp->Prop}(h:Q (σ.set i (some x)) H):PY i x σ H Q:=h
section
variable{K:Ad}{a:Addr}{xs:List V}{g:TG}{tt:TT}{te:TE}{o:Nat}{fr:List Nat}{σ:St}{H:Hp}{Q:VK}
abbrev Lh(Pv:Nat->List V->Hp->Prop)(g:TG)(tt:TT)(te:TE)(o:Nat)(fr:List Nat)(σ:St)(i:Nat)(x:V)(ys:List V)(H:Hp):Prop:=
 ∀S:Nat->List V->Hp->Prop,(∀ys H,Pv (i+1) ys H->S (i+1) ys H)->g x (σC o fr σ) H λσ2 H2=>tt σ2 H2 λb H3=>if b=true then te σ2 H3 λy H4=>S (i+1) (ys++[y]) H4 else S (i+1) ys H3
def Qt(Pv:Nat->List V->Hp->Prop)(h0:Pv 0 [] H)(hz:xs.f<sizeLine)(hl:∀i ys H,i<=xs.f->Pv i ys H->SqL K H a xs/\ys.f<=i)
  (hs:∀i x ys H,xs[i]?=some x->Pv i ys H->Lh Pv g tt te o fr σ i x ys H)(hd:∀ys H,Pv xs.f ys H->∀p,H p=none->Q ↑p (upd H p<|.lst ys)):Od (PU K a) g tt te o fr σ H Q:=by
 exists λi m ys H=>m=xs.f-i/\i<=xs.f/\Pv i ys H,{xs.f,AP,Yl _,h0},?_;rintro i m ys H ⟨rfl,hi,p⟩;let(q,hy):=hl i ys H hi p;cases Xt:i<xs.f
 .show .inr {{xs,xs[i],q,by simp[Xt]},J,λx H' zz=>?_};let(e,y):=zz;subst e;let hx:=y xs q
  show hs i x ys _ hx p (λj ys H=>∃m',m'<xs.f-i/\m'=xs.f-j/\j<=xs.f/\Pv j ys H) λys H p'=>{xs.f-(i+1),vk,Z,Xt,p'}
 .let e:i=xs.f:=J;subst e;show .inl {{xs,q,XQ _},J,hd ys H p}
def Py(Pv:Nat->List V->Hp->Prop)(h0:Pv 0 [] H)(hz:xs.f<sizeLine)(hl:∀i ys H,i<=xs.f->Pv i ys H->SqT K H a xs/\ys.f<=i)
  (hs:∀i x ys H,xs[i]?=some x->Pv i ys H->Lh Pv g tt te o fr σ i x ys H)(hd:∀ys H,Pv xs.f ys H->∀p,H p=none->Q ↑p (upd H p<|.lst ys)):Od (PR K a) g tt te o fr σ H Q:=by
 exists λi m ys H=>m=xs.f-i/\i<=xs.f/\Pv i ys H,{xs.f,AP,Yl _,h0},?_;rintro i m ys H ⟨rfl,hi,p⟩;let(q,hy):=hl i ys H hi p;cases Xt:i<xs.f
 .show .inr {{xs,xs[i],q,by simp[Xt]},B,λx H' zz=>?_};let(e,y):=zz;subst e;let hx:=y xs q
  show hs i x ys _ hx p (λj ys H=>∃m',m'<xs.f-i/\m'=xs.f-j/\j<=xs.f/\Pv j ys H) λys H p'=>{xs.f-(i+1),B,Z,Xt,p'}
 .let e:i=xs.f:=B;subst e;show .inl {{xs,q,XQ _},B,hd ys H p}
def Px(Pv:Nat->List V->Hp->Prop)(h0:Pv 0 [] H)(hz:xs.f<sizeLine)(hl:∀i ys H,i<=xs.f->Pv i ys H->SqK k K H a xs/\ys.f<=i)
  (hs:∀i x ys H,xs[i]?=some x->Pv i ys H->Lh Pv g tt te o fr σ i x ys H)(hd:∀ys H,Pv xs.f ys H->∀p,H p=none->Q ↑p (upd H p<|.lst ys)):
  ((∃xs,SqL K H a xs)/\Od (PU K a) g tt te o fr σ H Q)\/((∃xs,SqT K H a xs)/\Od (PR K a) g tt te o fr σ H Q):=by
 cases k with
 |false=>show .inl {{xs,(hl 0 [] H (Yl _) h0).1},Qt Pv h0 hz hl hs hd}
 |true=>show .inr {{xs,(hl 0 [] H (Yl _) h0).1},Py Pv h0 hz hl hs hd}
def yj(Pv:Nat->List V->Hp->Prop)(h0:Pv 0 [] H)(hz:n<sizeLine)(hl:∀i ys H,i<=n->Pv i ys H->ys.f<=i)
  (hs:∀i ys H,i<n->Pv i ys H->Lh Pv g tt te o fr σ i (.int<|lo+i) ys H)(hd:∀ys H,Pv n ys H->∀p,H p=none->Q ↑p (upd H p<|.lst ys)):Od (Lw lo n) g tt te o fr σ H Q:=by
 exists λi m ys H=>m=n-i/\i<=n/\Pv i ys H,{n,AP,Yl _,h0},?_;rintro i m ys H ⟨rfl,hi,p⟩;let hy:=hl i ys H hi p
 cases Xt:i<n
 .show .inr {Xt,J,λx H' zz=>?_};let(e,y):=zz;subst e;subst y;show hs i ys _ Xt p (λj ys H=>∃m',m'<n-i/\m'=n-j/\j<=n/\Pv j ys H) λys H p'=>{n-(i+1),vk,Z,Xt,p'}
 .let e:i=n:=J;subst e;show .inl {XQ _,J,hd ys H p}
end
def Xg{α:Type}{l:List α}(h:l.Nodup){i j:Nat}{x:α}(a:l[i]?=some x)(b:l[j]?=some x):i=j:=by let(h1,e1):=Xs.G a;let(h2,e2):=Xs.G b;show(List.getElem_inj h).G (e1.l e2.symm)
def XG{α:Type}{l:List α}{x d:α}(h:l[i]?=some x):l.E i d=x:=by rw[WW,h];rfl
def fq{α:Type}{l:List α}{x:α}(h:l.Nodup)(hx:x∉l):(l++[x]).Nodup:=by rw[VR];exists h,AP,λa ha b hb=>?_;rw[XD]at hb;subst hb;rintro rfl;show hx ha
def fo{g:TG}{tb:TS}{D:Ends}(Pv:Nat->St->Hp->Prop)(h0:Pv 0 σ H)(hl:∀i σ H,i<=xs.f->Pv i σ H->SqL K H a xs)
  (hs:∀(i:Nat) x σ H (p:Addr),H p=none->xs[i]?=some x->Pv i σ H->g ↑p σ (upd H p<|.tup [.int i,x]) λσ2 H2=>tb {D with nx:=Pv<|i+1,ct:=Pv<|i+1,bk:=D.nx} σ2 H2)(hd:∀σ H,Pv xs.f σ H->D.nx σ H):
  ∃W:Nat->Nat->St->Hp->Prop,(∃m,W 0 m σ H)/\∀i m σ H,W i m σ H->
   ((JC K a).stop i H/\D.nx σ H)\/((JC K a).go i H/\∃N:St->Hp->Prop,(∀σ' H',N σ' H'->∃m',m'<m/\W (i+1) m' σ' H')/\∀x H',(JC K a).yld i H x H'->g x σ H' λσ2 H2=>tb {D with nx:=N,ct:=N,bk:=D.nx} σ2 H2):=by
 exists λi m σ H=>m=xs.f-i/\i<=xs.f/\Pv i σ H,{xs.f,AP,Yl _,h0},?_;rintro i m σ H ⟨rfl,hi,p⟩;let q:=hl i σ H hi p
 cases Xt:i<xs.f
 .show .inr {{xs,xs[i],q,by simp[Xt]},Pv<|i+1,λσ' H' p'=>{xs.f-(i+1),B,Z,Xt,p'},λx H' zz=>?_};let(T,y,hT,ex,eH,hy):=zz;subst ex eH;show hs i y σ H T hT (hy xs q) p
 .let e:i=xs.f:=J;subst e;show .inl {{xs,q,XQ _},hd σ H p}
def rN{i:Int}(h0:0<=i)(h1:i.j<=xs.f):Xk xs (some i) none=xs.drop i.j:=by
 let e:HT.TN xs.f 0 (some i)=i.j:=by change(if i<0 then (i+xs⁻¹).j else min i.j xs.f)=i.j;rw[if_neg J];lia
 unfold Xk;rw[e,HT.VQ];show YS (by rw[Rx];show XQ _)
def rM{i:Int}(h0:0<=i)(h1:i.j<=xs.f):Xk xs none (some i)=xs.R i.j:=by
 let e:HT.TN xs.f xs.f (some i)=i.j:=by change(if i<0 then (i+xs⁻¹).j else min i.j xs.f)=i.j;rw[if_neg B];omega
 unfold Xk;rw[e,HT.VQ,List.drop_zero,yP]
end My
namespace L2
open PySem PySem.Spec PyProof.Rows
section
variable{X:Cx}{a o e:Expr}{es:List Expr}{ta to:TE}{t:TA}{pos:Pos}
def Ze(K:Ad)(h:X.K=K:=by rfl):JM X (rIxL K):=h▸EG
def Zr(K:Ad)(h:X.K=K:=by rfl):JM X (rIxT K):=h▸tL
def UP(K:Ad)(h:X.K=K:=by rfl):yp X (rSlL K):=h▸tI
def MU(K:Ad)(h:X.K=K:=by rfl):Wx X (compareOp .NotIn) (λx y H Q=>∃p xs,y=.ref p/\(SqL K H p xs\/SqT K H p xs)/\VP x=true/\xs.all VP=true/\Q (.bl<|!EC x xs) H):=h▸tH
def rL(K:Ad)(hu:X.A.units+8<cLine)(h:X.K=K:=by rfl):Wx X (compareOp .Eq) (rEqD K false):=h▸rT hu
def rK(K:Ad)(hu:X.A.units+8<cLine)(h:X.K=K:=by rfl):Wx X (compareOp .NotEq) (rEqD K true):=h▸rS hu
def rJ(K:Ad)(h:X.K=K:=by rfl):Wx X (binaryOp .Add) (EH K):=h▸tQ
def ZN(K:Ad)(he:PE X e ta)(hb:attributeBase e f X.X (eval e X.X)=eval e X.X)(h:X.K=K:=by rfl):PE X (.Attribute e f pos) (ER K ta f):=h▸uf he hb
def Zi(K:Ad)(h:X.K=K:=by rfl):Vf X (.builtin "len") (yR0 K):=h▸Zt4
def Sn(K:Ad)(h:X.K=K:=by rfl):Vf X (.type "list") (λxs H Q=>∃p ys,xs=[.ref p]/\(SqL K H p ys\/SqT K H p ys)/\∀l,H l=none->Q ↑l (upd H l<|.lst ys)):=h▸Zr4
def yi(K:Ad)(h:X.K=K:=by rfl):Vf X (.type "tuple") (λxs H Q=>∃p ys,xs=[.ref p]/\((SqL K H p ys/\∀l,H l=none->Q ↑l (upd H l<|.tup ys))\/(SqT K H p ys/\Q ↑p H))):=h▸ZI3
def Hg(K:Ad)(hc:X.calm=true)(h:X.K=K:=by rfl):Vf X (.builtin "sum") (λxs H Q=>∃(p:Addr)(ns:Ac),xs=[.ref p]/\SqL K H p (ns.H V.int)/\Q (.int ns.sum) H):=h▸ZJ3 hc
def ZL(K:Ad)(hl:PE X l tl)(h:X.K=K:=by rfl):PI X tg l (Ff K tl):=h▸uI hl
def yh(K:Ad)(hl:PE X l tl)(h:X.K=K:=by rfl):PI X tg l (Fe K tl):=h▸uH hl
def Jy(K:Ad)(hl:PE X l tl)(h:X.K=K:=by rfl):PI X tg l (My.Eh K tl):=h▸My.Jz hl
def yg(K:Ad){elts:List Expr}{x1:Nat}{UY:Pos}{a:Expr}{ta:TA}{p pos:Pos}(hg:Gl X "enumerate")(hm:X.mg "enumerate"=none)(ha:PA X [a] ta)(hs:starEach [a] X.X=[(false,eval a X.X)]:=by rfl)(h:X.K=K:=by rfl):
  PI X (.Tuple elts x1 UY) (.Call (.Name "enumerate" p) [a] [] pos) (Em K ta):=h▸rY hg hm ha hs
def NZ(K:Ad){es:List Expr}{k:Nat}{t:JY}{n:Nat}(hc:X.calm=true)(ht:Fm X es t)
  (hn:(assignEach es X.X).f=n:=by rfl)(Wl:(assignEach es X.X).findIdx? (·.1)=none:=by rfl)(h:X.K=K:=by rfl):PG X (.Tuple es k pos) (gTup K n t):=h▸uM hc ht hn Wl
def Ul(K:Ad){name:Str}{apos Ww:Pos}{T id:String}{r:V->List V->Hp->VK->Prop}(pa:PlainAttrs T)(slot:Slot T name id)(JK:typeOf (.builtin id)=pure (.type "method_descriptor"))(hm:yo X id r)(ho:PE X o to)(ha:PA X (e::es) t)
  (UT:attributeBase o name X.X (eval o X.X)=eval o X.X:=by rfl)
  (Nd:((backTo Ww<|starEach (e::es) X.X).all (λx=>!x.1)&&(backToKw Ww<|keywordEach [] X.X).all (λx=>x.1.isSome)
   && decide ((e::es).f+([]:List Keyword).f+(if ([]:List Keyword).isEmpty then 0 else 1)<30))=true:=by rfl)
  (US:(apos.endLine == Ww.line)=true:=by rfl)(hs:starEach (e::es) X.X=(false,eval e X.X)::starEach es X.X:=by rfl)(Sq:(backTo Ww<|starEach es X.X).any (·.1)=false:=by rfl)(h:X.K=K:=by rfl):
  PE X (.Call (.Attribute o name apos) (e::es) [] Ww) (fO K T r to t):=h▸tE pa slot JK hm ho ha UT Nd US hs Sq
def rH(K:Ad){name:Str}{apos Ww:Pos}{T id:String}{r:V->List V->Hp->VK->Prop}(pa:PlainAttrs T)(slot:Slot T name id)(JK:typeOf (.builtin id)=pure (.type "method_descriptor"))(hm:yo X id r)(ho:PE X o to)
  (UT:attributeBase o name X.X (eval o X.X)=eval o X.X:=by rfl)(US:(apos.endLine == Ww.line)=true:=by rfl)(h:X.K=K:=by rfl):PE X (.Call (.Attribute o name apos) [] [] Ww) (EB K T r to):=h▸tF pa slot JK hm ho UT US
end
end L2
namespace My
abbrev mk(m:Ac)(i:Nat):Int:=m.E i 0
def pm(m:Ac)(a b:Nat):(Ac):=
 if min (mk m a) (mk m b)<max (mk m a) (mk m b) then m.H (λk=>if k=max (mk m a) (mk m b) then min (mk m a) (mk m b) else k) else m
def lm(m:Ac)(a b:Nat):(Ac):=
 if mk m a≠mk m b then m.H (λk=>if k=mk m b then mk m a else k) else m
def SameP(m l:Ac):(Prop):=m.f=l.f/\∀i j,i<m.f->j<m.f->(mk m i=mk m j↔mk l i=mk l j)
def Sm(m:Ac)(f:Int->Int)(h:i<m.f):mk (m.H f) i=f (mk m i):=by simp[mk,WW,Yk,XI h]
def Ef(m:Ac)(a b:Nat):(pm m a b).f=m.f:=by unfold pm;split<;>simp
def MT(m:Ac)(a b:Nat):(lm m a b).f=m.f:=by unfold lm;split<;>simp
def Hf(m:Ac)(a b i j:Nat):(Prop):=mk m i=mk m j\/((mk m i=mk m a\/mk m i=mk m b)/\(mk m j=mk m a\/mk m j=mk m b))
def Jx{x y p q:Int}:((if x=q then p else x)=(if y=q then p else y))↔(x=y\/((x=p\/x=q)/\(y=p\/y=q))):=by grind
def fk{x y p:Int}:x=y↔(x=y\/((x=p\/x=p)/\(y=p\/y=p))):={.inl,λh=>h.elim id λh=>(h.1.elim id id).l (h.2.elim id id).symm}
def rG(hi:i<m.f)(hj:j<m.f):mk (pm m a b) i=mk (pm m a b) j↔Hf m a b i j:=by
 unfold pm Hf;split
 .rename_i h;rw[Sm _ _ hi,Sm _ _ hj];cases yf:mk m a<mk m b
  .rw[yW (yL yf),Int.max_eq_right (yL yf)];show Jx
  .rw[vH (FK.G yf),Int.max_eq_left<|FK.G yf,Or.comm (a:=mk m i=mk m a),Or.comm (a:=mk m j=mk m a)];show Jx
 .rename_i h;let hh:=FK.G h
  rw[show mk m a=mk m b from Int.le_antisymm (Ht (Int.le_max_left _ _)<|Ht hh<|Int.min_le_right _ _) (Ht (Int.le_max_right _ _)<|Ht hh<|Int.min_le_left _ _)];show fk
def Pw(hi:i<m.f)(hj:j<m.f):mk (lm m a b) i=mk (lm m a b) j↔Hf m a b i j:=by
 unfold lm Hf;split
 .rename_i h;rw[Sm _ _ hi,Sm _ _ hj];show Jx
 .rename_i h;rw[show mk m a=mk m b from Classical.not_not.G h];show fk
def SameP.step{m l:Ac}(s:SameP m l){a b:Nat}(ha:a<m.f)(hb:b<m.f):SameP (pm m a b) (lm l a b):=by let(hl,h):=s;show{by rw[Ef,MT,hl],λi j hi hj=>?_};rw[Ef]at hi hj;rw[rG hi hj,Pw B B];unfold Hf;rw[h i j hi hj,h i a hi ha,h i b hi hb,h j a hj ha,h j b hj hb]
def Xl(n:Nat)(es:List (Nat×Nat)):(Ac):=es.foldl (λm e=>pm m e.1 e.2) ((List.range n).H λ(i:Nat)=>(i:Int))
def WK(n:Nat)(es:List (Nat×Nat)):(Ac):=es.foldl (λm e=>lm m e.1 e.2) ((List.range n).H λ(i:Nat)=>(i:Int))
def Zn(n:Nat)(es:List (Nat×Nat)):(Xl n es).f=n:=by
 have:∀(es:List (Nat×Nat))(m:Ac),(es.foldl (λm e=>pm m e.1 e.2) m).f=m.f:=by
  intro es
  induction es with
  |nil=>intro m;rfl
  |cons e es ih=>intro m;rw[yY,ih,Ef]
 unfold Xl;rw[this];simp
def ZG(n:Nat)(es:List (Nat×Nat)):(WK n es).f=n:=by
 have:∀(es:List (Nat×Nat))(m:Ac),(es.foldl (λm e=>lm m e.1 e.2) m).f=m.f:=by
  intro es
  induction es with
  |nil=>intro m;rfl
  |cons e es ih=>intro m;rw[yY,ih,MT]
 unfold WK;rw[this];simp
def fj(n:Nat)(es:List (Nat×Nat))(e:Nat×Nat):Xl n (es++[e])=pm (Xl n es) e.1 e.2:=by unfold Xl;rw[Qe];rfl
def MS(n:Nat)(es:List (Nat×Nat))(e:Nat×Nat):WK n (es++[e])=lm (WK n es) e.1 e.2:=by unfold WK;rw[Qe];rfl
def rF:∀{es:List (Nat×Nat)},(∀e∈es,e.1<n/\e.2<n)->SameP (Xl n es) (WK n es):=by
 intro es;let key:∀(es:List (Nat×Nat))(m l:Ac),SameP m l->m.f=n->(∀e∈es,e.1<n/\e.2<n)->SameP (es.foldl (λm e=>pm m e.1 e.2) m) (es.foldl (λm e=>lm m e.1 e.2) l):=by
  intro es
  induction es with
  |nil=>intro m l s _ _;show s
  |cons e es ih=>
   intro m l s hm he;let h1:=he e Yd
   show ih _ _ (s.step B B) (by rwa[Ef]) λx hx=>he x (Yf _ hx)
 show key es _ _ {Z,λi j _ _=>Iff.rfl} AP
def RP(g:List (Int×Ac))(place k:Int):(List (Int×Ac)):=
 if k∈g.H (·.1) then g.H (λkv=>if kv.1=k then (kv.1,kv.2++[place]) else kv) else g++[(k,[place])]
def Xq(M:Ac):(Nat->List (Int×Ac))
 |0=>[]
 |i+1=>RP (Xq M i) (i:Int) (mk M i)
def Jw(M:Ac):(List (Int×Ac)):=Xq M M.f
def ye(g:List (Int×Ac))(p k:Int):(RP g p k).H (·.1)=if k∈g.H (·.1) then g.H (·.1) else g.H (·.1)++[k]:=by
 unfold RP;split
 .rw[LB];show YN λkv _=>?_;change(if kv.1=k then (kv.1,kv.2++[p]) else kv).1=kv.1
  split<;>rfl
 .simp
def ZO5(h:(g.H (·.1)).Nodup):((RP g p k).H (·.1)).Nodup:=by
 rw[ye];split
 .show h
 .rename_i hk;rw[VR];exists h,AP,λa ha b hb=>?_;rw[XD]at hb;subst hb;rintro rfl;show hk ha
def rE(M:Ac):∀i,((Xq M i).H (·.1)).Nodup
 |0=>by simp[Xq]
 |i+1=>ZO5 (rE M i)
def Ee(M:Ac):∀i j,j<i->mk M j∈(Xq M i).H (·.1)
 |0,j,h=>absurd h (Wg j)
 |i+1,j,h=>by
  change mk M j∈(RP (Xq M i) (i:Int)<|mk M i).H (·.1);rw[ye];cases hj:j<i
  .have:=Ee M i j hj
   split
   .show this
   .show Yn _ this
  .let e:j=i:=J;subst e;split
   .assumption
   .simp
def MR(h:j<i):mk M j∈(Xq M i).H (·.1):=Ee M i j h
def yd(M:Ac):∀i k,k∈(Xq M i).H (·.1)->∃j,j<i/\mk M j=k
 |0,k,h=>by simp[Xq]at h
 |i+1,k,h=>by
  let h:k∈(RP (Xq M i) (i:Int)<|mk M i).H (·.1):=h;rw[ye]at h;let old:k∈(Xq M i).H (·.1)->∃j,j<i+1/\mk M j=k:=λq=>by let(j,hj,e):=yd M i k q;exists j,J,e
  split at h
  .show old h
  .rcases Yb.G h with q|q
   .show old q
   .rw[XD]at q;exists i,J,q.symm
def fi(hM:1<=M.f):(Jw M).f=1↔∀i j,i<M.f->j<M.f->mk M i=mk M j:=by
 unfold Jw;constructor
 .intro h i j hi hj;let(kv,e):=List.length_eq_one_iff.G h;let h1:=MR (M:=M) hi
  let h2:=MR (M:=M) hj;rw[e]at h1 h2;rw[Ge,XD]at h1 h2;rw[h1,h2]
 .intro h;let nd:=rE M M.f
  let h0:=MR (M:=M) (i:=M.f) (j:=0) J;generalize hg:(Xq M M.f)=g at *
  match g,hg with
  |[],_=>simp at h0
  |[kv],_=>rfl
  |a::b::r,hg=>
   exfalso;let(i,hi,e1):=yd M M.f a.1 (by rw[hg];simp)
   let(j,hj,e2):=yd M M.f b.1 (by rw[hg];simp);let e3:=h i j hi hj
   have:a.1=b.1:=by rw[<-e1,<-e2,e3]
   simp[this]at nd
def SameP.one(s:SameP m l):(∀i j,i<m.f->j<m.f->mk m i=mk m j)↔(∀i j,i<l.f->j<l.f->mk l i=mk l j):=by
 let(hl,h):=s;rw[<-hl];constructor
 .intro q i j hi hj;show(h i j hi hj).G (q i j hi hj)
 .intro q i j hi hj;show(h i j hi hj).L (q i j hi hj)
def rD:∀{i:Nat}{kv:Int×Ac},kv∈Xq M i->kv.2.f<=i
 |0,kv,h=>by simp[Xq]at h
 |i+1,kv,h=>by
  unfold Xq RP at h;split at h
  .let⟨kv0,h0,e⟩:=Yp.G h;let ih:=rD h0
   cases hc:kv0.1=mk M i
   .rw[if_pos hc]at e;subst e;rw[Xm,YQ];lia
   .rw[if_neg hc]at e;subst e;lia
  .rcases Yb.G h with h0|h0
   .let ih:=rD h0;omega
   .rw[XD]at h0;subst h0;simp
end My
namespace My
open PySem L2 PyProof.Rows
def MQ(z:Int)(l:Ac):EC (.int z) (IL l)=decide (z∈l):=by
 unfold EC;rw[List.any_map];rw[Rt,Hy,YW];constructor
 .rintro⟨y,hy,e⟩;let e':y=z:=eq_of_beq e
  rwa[<-e']
 .intro h;exists z,h,Hz z
def MP(l:Ac):(IL l).all VP=true:=by rw[List.all_map,Rw];intro x _;rfl
def ZO:decide (V.int a=V.int b)=decide (a=b):=by
 cases h:a=b
 .subst h;simp
 .let h':¬V.int a=V.int b:=λz=>h (V.int.inj z);rw[YR h,YR h']
end My
namespace My
open PySem L2
def IsSet(m:Nat)(ns:Ac):(Prop):=∀i z,ns[i]?=some z->0<=z/\z<(m:Int)/\∀y,i≠0->ns[i-1]?=some y->y<z
def XR(ps:Aa)(ns:Ac):(List (Nat×Nat)):=ns.H λz=>((ps.E z.j (0,0)).1.j,(ps.E z.j (0,0)).2.j)
def ZS5{ns:Ac}{z:Int}(h:ns[i]?=some z):XR ps (ns.R (i+1))=XR ps (ns.R i)++[((ps.E z.j (0,0)).1.j,(ps.E z.j (0,0)).2.j)]:=by unfold XR;rw[YI,h];simp
def He(h:i<m.f):m[i]?=some (mk m i):=by rw[XI h];simp[mk,WW,XI h]
def Zh8(n:Int):VX 0 n=(List.range n.j).H λ(i:Nat)=>(i:Int):=by unfold VX;rw[yM];show YN λi _=>?_;lia
def Uk(g:List (Int×Ac))(as:List Addr):(List (Key×V)):=List.zipWith (λkv a=>((Sum.inl kv.1:Key),V.ref a)) g as
def Zp7(h:as.f=g.f):(Uk g as).f=g.f:=by unfold Uk;rw[OB];grind
def fh:∀{g:List (Int×Ac)}{as:List Addr},as.f=g.f->(Uk g as).H (·.2)=as.H V.ref
 |[],[],_=>rfl
 |[],_::_,h=>by simp at h
 |_::_,[],h=>by simp at h
 |kv::g,a::as,h=>by change V.ref a::(Uk g as).H (·.2)=V.ref a::as.H V.ref;rw[fh (NB h)]
def fg:∀{g g':List (Int×Ac)}{as:List Addr},g.H (·.1)=g'.H (·.1)->Uk g as=Uk g' as
 |[],[],_,_=>rfl
 |[],_::_,_,h=>by simp at h
 |_::_,[],_,h=>by simp at h
 |kv::g,x9::g',[],_=>rfl
 |kv::g,x9::g',a::as,h=>by
  rw[YJ,YJ,List.cons.injEq]at h;change((Sum.inl kv.1:Key),V.ref a)::Uk g as=((Sum.inl x9.1:Key),V.ref a)::Uk g' as
  rw[h.1,fg h.2]
def ff:∀{g:List (Int×Ac)}{as:List Addr}{kv:Int×Ac}{a:Addr},as.f=g.f->Uk (g++[kv]) (as++[a])=Uk g as++[((Sum.inl kv.1:Key),V.ref a)]
 |[],[],_,_,_=>rfl
 |[],_::_,_,_,h=>by simp at h
 |_::_,[],_,_,h=>by simp at h
 |x::g,y::as,kv,a,h=>by change _::Uk (g++[kv]) (as++[a])=_::(Uk g as++_);rw[ff (NB h)]
def rC:∀{g:List (Int×Ac)}{as:List Addr}{k:Int},as.f=g.f->
  (Wv (Uk g as) (Sum.inl k:Key)=none/\k∉g.H (·.1))\/∃(j:Nat)(kv:Int×Ac)(a:Addr),g[j]?=some kv/\as[j]?=some a/\kv.1=k/\Wv (Uk g as) (Sum.inl k:Key)=some ↑a
 |[],[],k,_=>.inl ⟨Z,AP⟩
 |[],_::_,_,h=>by simp at h
 |_::_,[],_,h=>by simp at h
 |kv::g,a::as,k,h=>by
  cases e:kv.1=k
  .show .inr {0,kv,a,Z,Z,e,?_};change Wv (((Sum.inl kv.1:Key),V.ref a)::Uk g as) _=_
   rw[sW (by rw[e])]
  .let e':¬((Sum.inl kv.1:Key)=Sum.inl k):=λz=>e (Sum.inl.inj z);let ev:Wv (Uk (kv::g)<|a::as) (Sum.inl k:Key)=Wv (Uk g as) (Sum.inl k:Key):=sV (p:=((Sum.inl kv.1:Key),V.ref a)) e'
   rcases rC (g:=g) (as:=as) (k:=k) (NB h) with ⟨h1,h2⟩|⟨j,x9,a',h1,h2,h3,h4⟩
   .show .inl {by rw[ev];show h1,?_};rw[YJ,Ye];rintro(z|z)
    .show e z.symm
    .show h2 z
   .show .inr {j+1,x9,a',by simpa using h1,by simpa using h2,h3,by rwa[ev]}
structure GrpAt(H0 H:Hp)(g:List (Int×Ac))(as:List Addr):Prop where
 len:as.f=g.f
 nd:as.Nodup
 at_:∀(i:Nat)(kv:Int×Ac)(a:Addr),g[i]?=some kv->as[i]?=some a->H a=some (.lst<|IL kv.2)
 new:∀a∈as,H0 a=none
def GrpAt.same(s:Same H H')(h:GrpAt H0 H g as):GrpAt H0 H' g as:={h.len,h.nd,λi kv a e1 e2=>s _ _<|h.at_ i kv a e1 e2,h.new}
def GrpAt.mem(h:GrpAt H0 H g as){a:Addr}(ha:a∈as):∃l,H a=some (.lst l):=by
 let(i,hi,e):=Rm ha;let hg:i<g.f:=by rwa[<-h.len]
 exists _,h.at_ i g[i] a (XI hg)<|by rw[XI hi,e]
def IsSet.all(h:IsSet m ns):∀z∈ns,0<=z/\z<(m:Int):=λz hz=>by let(i,hi,e):=Rm hz;let(a,b,_):=h i z (by rw[XI hi,e]);exists a,b
def IsSet.nil(m:Nat):IsSet m []:=λi z e=>by simp at e
def IsSet.up(h:IsSet m ns):IsSet (m+1) ns:=λi z e=>by let(a,b,c):=h i z e;exists a,B,c
def IsSet.snoc(h:IsSet m ns):IsSet (m+1) (ns++[(m:Int)]):=λi z e=>by
 cases hi:i<ns.f
 .rw[Yz hi]at e;let(a,b,c):=h i z e;exists a,J,λy h0 ey=>?_;rw[Yz B]at ey;show c y h0 ey
 .let hl:i=ns.f:=by
   have:=(Xs.G e).1
   rw[Xm,YQ]at this;lia
  subst hl;rw[YE (XQ _),NA]at e;let e:(m:Int)=z:=Ya e
  subst e;exists J,J,λy h0 ey=>?_;rw[Yz B]at ey;show(h _ y ey).2.1
def IsSet.len:∀{ns:Ac},IsSet m ns->ns.f<=m:=λ{ns} h=>by
 let key:∀(i:Nat)(z:Int),ns[i]?=some z->(i:Int)<=z:=by
  intro i
  induction i with
  |zero=>intro z e;show(h 0 z e).1
  |succ i ih=>
   intro z e;let hi:i<ns.f:=by have:=(Xs.G e).1;lia
   let e2:ns[i]?=some ns[i]:=XI hi
   have:=ih _ e2
   have:=(h (i+1) z e).2.2 ns[i] J (by rwa[vO])
   lia
 cases h0:ns.f=0
 .lia
 .let e:ns[ns.f-1]?=some (ns[ns.f-1]'(by lia)):=XI _;let a:=key _ _ e
  let b:=(h _ _ e).2.1;lia
end My
namespace L2
open PySem PySem.Spec PyProof.Rows
section
variable{X:Cx}
def rB(K:Ad):(V->List V->Hp->VK->Prop):=λx vs H Q=>∃(p:Addr)(ns:Ac)(z:Int)(j:Nat),x=.ref p/\vs=[.int z]/\SqL K H p (ns.H V.int)/\ns[j]?=some z/\(∀i,i<j->ns[i]?≠some z)/\Q (.int j) H
def Zu8(K:Ad)(h:X.K=K:=by rfl):Oe X "list.index" (rB K):=by
 subst h;intro pins s σ H x vs v us Q I rx rv h;let(p,ns,z,j,rfl,rfl,hq,hj,UD,q):=h;cases rx;let(u,rfl,t,rfl):=rv.one;let(XX,r,(o,n,e,hc,hd,Jv),hz):=I.list hq;let hl:XX.f=ns.f:=by rw[<-r.f,Xy]
 let MO:j<ns.f:=(Xs.G hj).1;let hsz:sizeLine=16777216:=TF
 rw[Xy]at hz;let(oc,od,rz,Tz):=o;let hc:oc=.type "list":=hc
 let Jv:rz=.seq XX.o n:=Jv;subst hc Jv;let at_:∀(i:Nat)(hi:i<XX.f),∃tk,XX[i]=.int (ns[i]'(by lia)) tk:=λi hi=>by
  let(x,ex,rx):=r.at hi;rw[Yk,XI B]at ex;let ex:V.int (ns[i]'(by omega))=x:=Ya ex
  subst ex;show rx
 show Uy F.slot_list_index {_,e,Z} F.entry_list_index (F.args_list_index_2 _ _) (SeqAt.list_indexAt p XX.o n od Tz (.int z t) (λy=>Of (.int z) y) j (by rw[Yc];lia) J ?_ ?_) {e,λy hy=>?_,?_}
 .let⟨tk,e1⟩:=at_ j B;let e2:ns[j]'(by lia)=z:=by rw[XI MO]at hj;show Ya hj
  let e3:XX.o[j]'(by rw[Yc];lia)=.int z tk:=by rw[<-e2];simpa using e1
  rw[e3];show Hz z
 .intro m hm hmj;let NY:m<XX.f:=by rwa[Yc]at hm
  let(tk,e1):=at_ m NY;let e3:XX.o[m]'hm=.int (ns[m]'(by omega)) tk:=by simpa using e1
  rw[e3];let XJ:=UD m hmj
  rw[XI B]at XJ;let Ju:ns[m]'(by omega)≠z:=λw=>XJ (YZ some w)
  show za Ju
 .show JL (x:=.int z) ⟨t,Z⟩ Z r ?_ y (by simpa using hy);rw[List.all_map,Rw];intro _ _;rfl
 .exists .int j,H,I.tok _,{_,Z},q
def ZD5{XX:Array Value}{bs:List Bool}(h:∀(i:Nat)(v:Value),XX[i]?=some v->∃b,bs[i]?=some b/\v=.bool b):TruthOf prog w A (λi v=>XX[i]?=some v) (λi=>bs.E i false):=by
 intro i v s Q E hP hQ;let(b,eb,rfl):=h i v hP;let hQ:Q (bs.E i false) s:=hQ
 rw[WW,eb]at hQ;show NG hQ
def rq(bs:List Bool):(List.range bs.f).any (λi=>bs.E i false)=bs.any id:=by
 rw[Rt,Hy,Hy];constructor
 .rintro⟨i,hi,e⟩;let hi:=YG.G hi
  rw[WW,XI hi]at e;exists _,QE hi,e
 .rintro⟨b,hb,e⟩;let(i,hi,ei):=Rm hb;exists i,YG.L hi,?_;rwa[WW,XI hi,ei]
def rp{bs:List Bool}(r:Vals (bs.H V.bl) XX):∀(i:Nat)(v:Value),XX.o[i]?=some v->∃b,bs[i]?=some b/\v=.bool b:=λi v e=>by
 let e:XX[i]?=some v:=by simpa using e
 let hi:i<XX.f:=(Xs.G e).1;let(x,ex,rx):=r.at hi;rw[Yk]at ex;cases eb:bs[i]? with
 |none=>rw[eb]at ex;cases ex
 |some b=>
  rw[eb]at ex;let ex:V.bl b=x:=Ya ex
  subst ex;rw[XI hi]at e;let e:XX[i]=v:=Ya e
  rw[e]at rx;exists b,Z,rx
def ZX8(K:Ad)(hc:X.calm=true)(h:X.K=K:=by rfl):Vf X (.builtin "any") (λxs H Q=>∃(p:Addr)(bs:List Bool),xs=[.ref p]/\SqL K H p (bs.H V.bl)/\Q (.bl<|bs.any id) H):=by
 subst h;intro pins s σ H xs us Q I r h;let(p,bs,rfl,hq,q):=h;let(u,rfl,ru):=Ut r;let rfl:u=Value.ref p:=ru;let(XX,rv,pl,hz):=I.list hq;let hl:XX.o.t=bs.f:=by rw[Yc,<-rv.f,Xy]
 let XJ:p≠(~~~s):=Yq (by let(_,_,e,_):=pl;show Ym e);show call_any_walk (Hw pl.isList {(~~~s),_,_,_,_,_,_,Z,Walks.list (A:=X.A.in1) (I.ok.hd hc) (~~~s) p XJ XX.o,{{_,Yi _ Z,Z,Z},pl.isList.push _},ZD5<|rp rv,λh' tk hk=>?_});rw[hl,rq];exists .bl<|bs.any id,H,I.kept λb o e=>hk b o ?_<|Xo _ e,Z,q;intro z;rw[XD.G z]at e;show absurd (Ym e) (Va _)
end
end L2
namespace My
open PySem L2
section
variable{K:Ad}{H:Hp}{α:Type}[DecidableEq α]
def Bears(R:V->α->Prop)(xs:List V)(l:List α):(Prop):=xs.f=l.f/\∀(i:Nat)(a:α),l[i]?=some a->∃x,xs[i]?=some x/\R x a
def Bears.at{R:V->α->Prop}(h:Bears R xs l){i:Nat}{x:V}(e:xs[i]?=some x):∃a,l[i]?=some a/\R x a:=by
 let hi:i<xs.f:=(Xs.G e).1;let hl:i<l.f:=by rwa[<-h.1]
 let(x',e1,q):=h.2 i l[i] (XI hl);rw[e]at e1;cases e1;exists _,XI hl,q
def fe{l m:List α}(h:l.f=m.f):(List.range l.f).all (λi=>decide (l[i]?=m[i]?))=decide (l=m):=by
 rw[Rt,Rw,YW];constructor
 .intro q;show QG λi=>?_;cases hi:i<l.f
  .show Yu (q i<|YG.L hi)
  .rw[YC J,YC J]
 .rintro rfl i _;simp
def fc{R:V->α->Prop}(hp:SqL K H p xs)(hq:SqL K H q ys)(h1:Bears R xs l)(h2:Bears R ys m)(hR:∀x y a b,R x a->R y b->EqD K H n x y (decide (a=b))):EqD K H (n+1) ↑p ↑q (decide (l=m)):=by
 cases hl:xs.f=ys.f
 .let e:=fe (l:=l) (m:=m) (by rw[<-h1.1,<-h2.1,hl]);rw[<-e,<-h1.1];show EqD.lsts hp hq hl λi x y ex ey=>?_;let(a,ea,ra):=h1.at ex;let(b,eb,rb):=h2.at ey;rw[ea,eb,show decide (some a=some b)=decide (a=b) by simp];show hR x y a b ra rb
 .let e:decide (l=m)=false:=YR λz=>hl (by rw[h1.1,h2.1,z]);rw[e];show EqD.lens hp hq hl
def rm{R:V->α->Prop}(hp:SqT K H p xs)(hq:SqT K H q ys)(h1:Bears R xs l)(h2:Bears R ys m)(hR:∀x y a b,R x a->R y b->EqD K H n x y (decide (a=b))):EqD K H (n+1) ↑p ↑q (decide (l=m)):=by
 let key:=EqD.tups (e:=λi=>decide<|l[i]?=m[i]?) hp hq λi x y ex ey=>by let(a,ea,ra):=h1.at ex;let(b,eb,rb):=h2.at ey;rw[ea,eb,show decide (some a=some b)=decide (a=b) by simp];show hR x y a b ra rb
 cases hl:xs.f=ys.f
 .let e:=fe (l:=l) (m:=m) (by rw[<-h1.1,<-h2.1,hl]);rwa[<-hl,Nat.min_self,h1.1,e,show(l.f == l.f)=true by simp,Nq]at key
 .let e:decide (l=m)=false:=YR λz=>hl (by rw[h1.1,h2.1,z]);rw[show(xs.f == ys.f)=false by simpa using hl,Bool.and_false]at key;rwa[e]
def x8(ns:Ac):Bears (λx (z:Int)=>x=.int z) (IL ns) ns:={Xv ns,λi z e=>{_,So e,Z}}
def x6{a b:Int}(hx:x=.int a)(hy:y=.int b):EqD K H n x y (decide (a=b)):=by
 subst hx hy;let e:decide (a=b)=PK (.int a) (.int b):=by change decide (a=b)=(a == b);rw[Bool.beq_eq_decide_eq]
 rw[e];show EqD.flat Z rfl
def fb(hp:SqL K H p (IL ns))(hq:SqL K H q (IL ms)):EqD K H 1 ↑p ↑q (decide (ns=ms)):=
 fc hp hq (x8 ns) (x8 ms) λ_ _ _ _=>x6
def Ec(hp:SqT K H p (IL ns))(hq:SqT K H q (IL ms)):EqD K H 1 ↑p ↑q (decide (ns=ms)):=
 rm hp hq (x8 ns) (x8 ms) λ_ _ _ _=>x6
def RO(H:Hp)(v:V)(l:Ac):(Prop):=∃a,v=.ref a/\H a=some (.lst<|IL l)
end
end My
namespace My
def Ws(M:Ac)(p:Nat):(Bool):=(List.range p).all λi=>decide (mk M i≠mk M p)
def Uj(M:Ac)(k:Int)(i:Nat):(Ac):=((List.range i).U λj=>decide<|mk M j=k).H λ(j:Nat)=>(j:Int)
def Vn(M:Ac)(i:Nat):(List Nat):=(List.range i).U (Ws M)
def XC:Ws M p=true↔∀i,i<p->mk M i≠mk M p:=by
 unfold Ws;rw[Rw];constructor
 .intro h i hi;show Yu (h i<|YG.L hi)
 .intro h i hi;show Ys (h i<|YG.G hi)
def rj(M:Ac)(k:Int)(i:Nat):Uj M k (i+1)=Uj M k i++(if mk M i=k then [(i:Int)] else []):=by
 unfold Uj;rw[Kt,Qj,YD];congr 1;cases h:mk M i=k
 .rw[if_pos h,Ov,if_pos (by simpa using h)];rfl
 .rw[if_neg h,Ov,if_neg (by simpa using h)];rfl
def Eb(M:Ac)(i:Nat):Vn M (i+1)=Vn M i++(if Ws M i=true then [i] else []):=by
 unfold Vn;rw[Kt,Qj];congr 1;cases h:Ws M i=true
 .rw[if_pos h,Ov,if_pos h];rfl
 .rw[if_neg h,Ov,if_neg h];rfl
def e9(M:Ac):∀i,Xq M i=(Vn M i).H λp=>(mk M p,Uj M (mk M p) i)
 |0=>rfl
 |i+1=>by
  let ih:=e9 M i;change RP (Xq M i) (i:Int) (mk M i)=_
  let hk:(mk M i∈(Xq M i).H (·.1))↔Ws M i≠true:=by
   constructor
   .intro h q;let(j,hj,e):=yd M i _ h;show XC.G q j hj e
   .intro h;cases q:∃j,j<i/\mk M j=mk M i
    .let⟨j,hj,e⟩:=q;rw[<-e];show MR hj
    .show absurd (XC.L λj hj e=>q ⟨j,hj,e⟩) h
  unfold RP;cases h:mk M i∈(Xq M i).H (·.1)
  .let hf:=hk.G h;rw[if_pos h,Eb,if_neg hf,WH,ih,LB];show YN λp _=>?_;change(if mk M p=mk M i then (mk M p,Uj M (mk M p) i++[(i:Int)]) else (mk M p,Uj M (mk M p) i))=(mk M p,Uj M (mk M p)<|i+1)
   rw[rj];cases e:mk M p=mk M i
   .rw[if_pos e,if_pos e.symm]
   .rw[if_neg e,if_neg λz=>e z.symm,WH]
  .let hf:Ws M i=true:=by
    cases q:Ws M i with
    |true=>rfl
    |false=>show absurd (hk.L<|by rw[q];show Yw) h
   rw[if_neg h,Eb,if_pos hf,YD,ih];congr 1
   .show YN λp hp=>?_;let Ea:p<i:=YG.G (Yj.G hp).1
    rw[rj,if_neg λz=>XC.G hf p Ea z.symm,WH]
   .change [(mk M i,[(i:Int)])]=[(mk M i,Uj M (mk M i)<|i+1)];rw[rj,if_pos Z];let e0:Uj M (mk M i) i=[]:=by unfold Uj;rw[zq.L λj hj=>by simpa using XC.mp hf j (YG.mp hj)];rfl
    rw[e0];rfl
end My
namespace My
open PySem L2
def Bears.snoc{α:Type}[DecidableEq α]{R:V->α->Prop}{xs:List V}{l:List α}{x:V}{a:α}(h:Bears R xs l)(hx:R x a):Bears R (xs++[x]) (l++[a]):=by
 show{by rw[Xm,Xm,h.1];rfl,λi b e=>?_};cases hi:i<l.f
 .rw[Yz hi]at e;rw[Yz (by rwa[h.1])];show h.2 i b e
 .let hl:i=l.f:=by
   have:=(Xs.G e).1
   rw[Xm,YQ]at this;lia
  subst hl;rw[YE (XQ _),NA]at e;rw[YE (by rw[h.1];show XQ _),h.1,NA];let e':a=b:=Ya e
  subst e';exists x,Z,hx
def Bears.imp{α:Type}[DecidableEq α]{R R':V->α->Prop}{xs:List V}{l:List α}(h:Bears R xs l)(f:∀x a,R x a->R' x a):Bears R' xs l:={h.1,λi a e=>by let(x,e1,r):=h.2 i a e;exists x,e1,f x a r}
end My
namespace L2
open PySem PySem.Spec PyProof.Rows
section
variable{X:Cx}
abbrev WC(X:Cx)(h:Heap)(ns:List Addr):Heap:=PySem.W.hideAll h (TV X.stack++ns)
end
def Zx8{a:Int}(h1:-(10^70)<a)(h2:a<10^70):a.natAbs.log2<1920:=by
 let h:a.natAbs<10^70:=B;cases h0:a.natAbs=0
 .rw[h0];decide
 .show(Nat.log2_lt h0).L (Nat.lt_trans h vg)
def Pu:∀{us:Ag}{ns:Ac},IntsAre us ns->Vals (ns.H V.int) us
 |[],[],_=>.nil
 |_::_,[],h=>by cases h
 |[],_::_,h=>by cases h
 |u::us,n::ns,h=>by
  cases h with
  |cons _ _ t=>show .cons {_,Z} (Pu t)
section
variable{X:Cx}
inductive yR2(K:Ad)(xs:List V)(H:Hp)(Q:VK):Prop
 |mk (p ns:_) (_:xs=[.ref p]) (_:SqL K H p (ns.H V.int)) (_:ns.f<64) (_:∀ms:Ac,ms.Perm ns->ms.Q (·<=·)->∀l,H l=none->Q ↑l (upd H l<|.lst<|ms.H V.int))
def Zq4(K:Ad)(hk:X.K=K:=by rfl):Vf X (.builtin "sorted") (yR2 K):=by
 subst hk;intro pins s σ H xs us Q I r h;let(p,ns,rfl,hq,hn,q):=h;let(u,rfl,ru):=Ut r;let rfl:u=Value.ref p:=ru;let(XX,rv,pl,hz):=I.list hq;let hi:=ZD rv
 let hl:XX.f=ns.f:=by rw[<-rv.f,Xy]
 show sorted_ints pl.isList hi J λout ms h1 h2 h3=>?_;let(e,he):=sortedAll_at s.m XX out;let MN:ms.f=ns.f:=h2.length_eq
 exists .ref<|(~~~s)+1,_,I.laid (t':=s.toks) (o:=.lst<|ms.H V.int) (λb o g=>sortedAll_old g) (SI _) {?_,out.C,e,Pu h1,?_},Z,q ms h2 h3 _<|I.hok.fresh<|SI _
 .rw[Xy,MN]
  have:sizeLine=16777216:=TF
  lia
 .show he
end
end L2
namespace My
open PySem L2
def XU:IsSet m ns↔(∀z∈ns,0<=z/\z<(m:Int))/\ns.Q (·<·):=by
 constructor
 .intro h;exists h.all,?_;rw[YT];intro i j hi hj WI
  induction j with
  |zero=>show absurd WI (Wg i)
  |succ j ih=>
   let UC:j<ns.f:=vk;let key:=(h (j+1) ns[j+1]<|XI hj).2.2 ns[j] J (by rw[vO];show XI UC)
   cases e:i=j
   .subst e;show key
   .have:=ih UC J
    lia
 .rintro⟨ha,hp⟩ i z hz;let(hi,ei):=Xs.G hz;let hm:=ha z (Xn hz)
  exists hm.1,hm.2,λy h0 hy=>?_;let(Ui,ei'):=Xs.G hy
  have:=YT.G hp (i-1) i Ui hi J
  rwa[ei,ei']at this
def MM{ns:Ac}(h:ns.Q (·<·)):ns.Nodup:=h.imp λVo e=>J
def IsSet.nodup(h:IsSet m ns):ns.Nodup:=MM (XU.G h).2
end My
namespace My
def Uh{α:Type}{P:List α->Prop}(h0:P [])(h1:∀l x,P l->P (l++[x])):∀l,P l:=by
 intro l;rw[<-List.reverse_reverse l]
 induction l.reverse with
 |nil=>show h0
 |cons x r ih=>
  rw[List.reverse_cons];show h1 _ _ ih
inductive Conn(es:List (Nat×Nat)):Nat->Nat->Prop
 |refl (i:Nat):Conn es i i
 |edge {a b:Nat} (h:(a,b)∈es):Conn es a b
 |symm {i j:Nat}:Conn es i j->Conn es j i
 |trans {i j k:Nat}:Conn es i j->Conn es j k->Conn es i k
def Conn.mono(h:∀e∈es,e∈fs)(c:Conn es i j):Conn fs i j:=by
 induction c with
 |refl i=>show .refl i
 |edge q=>show .edge (h _ q)
 |symm _ ih=>show .symm ih
 |trans _ _ i1 i2=>show .trans i1 i2
def Hd{n i:Nat}(h:i<n):mk ((List.range n).H λ(i:Nat)=>(i:Int)) i=(i:Int):=by rw[mk_map' h]
where
 mk_map' {n i:Nat} (h:i<n):mk ((List.range n).H λ(i:Nat)=>(i:Int)) i=(i:Int):=by simp[mk,WW,Yk,OA h]
def InN(n:Nat)(es:List (Nat×Nat)):(Prop):=∀e∈es,e.1<n/\e.2<n
def InN.snoc{e:Nat×Nat}(h:InN n (es++[e])):InN n es/\e.1<n/\e.2<n:={λx hx=>h x<|Yn _ hx,h e AP}
def rh:∀es:List (Nat×Nat),InN n es->∀e∈es,mk (WK n es) e.1=mk (WK n es) e.2:=by
 show Uh (λ_ e h=>by cases h) λes x ih hn e he=>?_;let(h1,h2,h3):=hn.snoc;let hl:=ZG n es
 let hx:=hn e he;rw[MS];show(Pw J J).L ?_;rcases Yb.G he with q|q
 .show .inl (ih h1 e q)
 .rw[XD.G q];show .inr {.inl Z,.inr Z}
def rg:∀es:List (Nat×Nat),InN n es->∀i j,i<n->j<n->mk (WK n es) i=mk (WK n es) j->Conn es i j:=by
 show Uh (λ_ i j hi hj h=>?_) λes x ih hn i j hi hj h=>?_
 .let h:mk ((List.range n).H λ(i:Nat)=>(i:Int)) i=mk ((List.range n).H λ(i:Nat)=>(i:Int)) j:=h;rw[Hd hi,Hd hj]at h
  have:i=j:=J
  subst this;show .refl i
 .let⟨h1,h2,h3⟩:=hn.snoc;let hl:=ZG n es
  let up:∀{i j:Nat},Conn es i j->Conn (es++[x]) i j:=λc=>c.mono λe he=>Yn _ he;let ex:Conn (es++[x]) x.1 x.2:=.edge AP
  rw[MS]at h;rcases(Pw J J).G h with q|⟨q1,q2⟩
  .show up (ih h1 i j hi hj q)
  .let ci:Conn (es++[x]) i x.1:=by
    rcases q1 with q|q
    .show up (ih h1 i _ hi h2 q)
    .show(up<|ih h1 i _ hi h3 q).l ex.symm
   let cj:Conn (es++[x]) j x.1:=by
    rcases q2 with q|q
    .show up (ih h1 j _ hj h2 q)
    .show(up<|ih h1 j _ hj h3 q).l ex.symm
   show ci.l cj.symm
def rf(hn:InN n es)(c:Conn es i j):i=j\/(i<n/\j<n/\mk (WK n es) i=mk (WK n es) j):=by
 induction c with
 |refl i=>show .inl rfl
 |edge q=>show .inr {(hn _ q).1,(hn _ q).2,rh es hn _ q}
 |symm _ ih=>
  rcases ih with e|⟨a,b,c⟩
  .show .inl e.symm
  .show .inr ⟨b,a,c.symm⟩
 |trans _ _ i1 i2=>
  rcases i1 with e|⟨a,b,c⟩
  .rw[e];show i2
  .rcases i2 with e|⟨a',b',c'⟩
   .rw[<-e];show .inr ⟨a,b,c⟩
   .show .inr {a,b',c.l c'}
def ZS(hn:InN n es)(hi:i<n)(hj:j<n):mk (WK n es) i=mk (WK n es) j↔Conn es i j:=by
 constructor
 .show rg es hn i j hi hj
 .intro c;rcases rf hn c with e|⟨_,_,e⟩
  .rw[e]
  .show e
def Hc(hn:InN n es)(hi:i<n)(hj:j<n):mk (Xl n es) i=mk (Xl n es) j↔Conn es i j:=by
 rw[<-ZS hn hi hj];let s:=rF (n:=n) (es:=es) hn
 show s.2 i j (by rwa[Zn]) (by rwa[Zn])
def cnt(M:Ac):(Nat):=(Vn M M.f).f
def xZ(M:Ac):∃p,p<=i/\mk M p=mk M i/\Ws M p=true:=by
 induction i using Nat.strongRecOn with
 |ind i ih=>
  cases h:Ws M i=true
  .exists i,XQ _,Z,h
  .have:∃j,j<i/\mk M j=mk M i:=by
    cases q:∃j,j<i/\mk M j=mk M i
    .show q
    .show absurd (XC.L λj hj e=>q ⟨j,hj,e⟩) h
   let(j,hj,e):=this;let(p,h1,h2,h3):=ih j hj;exists p,J,h2.l e,h3
def ZL7{p q:Nat->Bool}{x n:Nat}(hx:x<n)(hpx:p x=true)(h:∀y,y<n->q y=(p y && !decide (y=x))):((List.range n).U q).f+1=((List.range n).U p).f:=by
 induction n with
 |zero=>show absurd hx (Wg x)
 |succ n ih=>
  rw[Kt,Qj,Qj,Xm,Xm];cases e:x=n
  .subst e;let e1:(List.range x).U q=(List.range x).U p:=vL λy hy=>by let hy:=YG.G hy;rw[h y J,show decide (y=x)=false from YR J];simp
   let e2:q x=false:=by rw[h x J];simp
   rw[e1];simp[Ov,e2,hpx]
  .let hq:q n=p n:=by rw[h n J,show decide (n=x)=false from YR λz=>e z.symm];simp
   have:=ih J λy hy=>h y J
   simp only[Ov,Hv,hq];lia
def ML(hp:Ws M p=true)(hq:Ws M q=true)(e:mk M p=mk M q):p=q:=by
 rcases Nat.lt_trichotomy p q with h|h|h
 .show absurd e (XC.G hq p h)
 .show h
 .show absurd e.symm (XC.G hp q h)
def MK(ha:a<m.f)(hb:b<m.f)(XJ:mk m a≠mk m b):cnt (lm m a b)+1=cnt m:=by
 let(A,rd,Pr,MJ):=xZ m (i:=a);let(uX,e8,Pq,q9):=xZ m (i:=b);let hAB:A≠uX:=λe=>XJ (by rw[<-Pr,<-Pq,e])
 unfold cnt Vn;rw[MT];show ZL7 (x:=max A uX) J ?_ λy hy=>?_
 .rcases Nat.le_total A uX with h|h
  .rw[Nat.max_eq_right h];show q9
  .rw[Nat.max_eq_left h];show MJ
 .rw[Rt,Ou,XC,XC];let key:∀i,i<y->(mk (lm m a b) i=mk (lm m a b) y↔Hf m a b i y):=λi hi=>Pw J hy
  let q8:(!decide (y=max A uX))=true↔y≠max A uX:=AP;rw[q8];constructor
  .intro q;exists λi hi e=>q i hi<|(key i hi).L (.inl e),λe=>?_;rcases Nat.lt_or_gt_of_ne hAB with h|h
   .let ey:y=uX:=J;subst ey;show q A h ((key A h).L (.inr {.inl Pr,.inr Pq}))
   .let ey:y=A:=J;subst ey;show q uX h ((key uX h).L (.inr {.inr Pq,.inl Pr}))
  .rintro⟨q1,q2⟩ i hi e;rcases(key i hi).G e with e|⟨e1,e2⟩
   .show q1 i hi e
   .let fy:Ws m y=true:=XC.L q1;rcases e2 with e2|e2
    .let ey:y=A:=ML fy MJ (e2.l Pr.symm);rcases e1 with e1|e1
     .show q1 i hi (e1.l e2.symm)
     .let⟨p,p1,p2,p3⟩:=xZ m (i:=i)
      have:p=uX:=ML p3 q9 (by rw[p2,e1,Pq])
      lia
    .let ey:y=uX:=ML fy q9 (e2.l Pq.symm);rcases e1 with e1|e1
     .let⟨p,p1,p2,p3⟩:=xZ m (i:=i)
      have:p=A:=ML p3 MJ (by rw[p2,e1,Pr])
      lia
     .show q1 i hi (e1.l e2.symm)
def Jt(n:Nat):cnt ((List.range n).H λ(i:Nat)=>(i:Int))=n:=by
 unfold cnt Vn;rw[Xy,YY];let e:(List.range n).U (Ws<|(List.range n).H λ(i:Nat)=>(i:Int))=List.range n:=by
  show Gf.L λp hp=>XC.L λi hi e=>?_;let hp:=YG.G hp
  rw[Hd J,Hd hp]at e;lia
 rw[e,YY]
def qZ(hM:1<=M.f):cnt M=1↔∀i j,i<M.f->j<M.f->mk M i=mk M j:=by
 let e:cnt M=(Jw M).f:=by unfold cnt Jw;rw[e9,Xy]
 rw[e];show fi hM
end My
namespace My
open PySem L2
def qY{i:Int}{n:Nat}(h0:0<=i)(h1:i<(n:Int)):seqIndex? i n=some i.j:=by let e:(if i<0 then i+(n:Int) else i)=i:=if_neg J;unfold seqIndex?;simp only[e];rw[if_pos (by simp;lia)]
def Zf(n:Int)(ps:Aa)(ns:Ac):(Prop):=IsSet ps.f ns/\ns⁻¹=n-1/\∀i j,i<n.j->j<n.j->Conn (XR ps ns) i j
def ZQ(g:Zv n ps)(h:∀z∈ns,0<=z/\z<ps⁻¹):InN n.j (XR ps ns):=λe he=>by
 let(z,hz,rfl):=Yp.G he;let(z0,z1):=h z hz;let hp:ps[z.j]?=some (ps[z.j]'(by lia)):=XI _
 rw[XG hp];let(b1,b2,b3,b4):=g.2.2.2 _ (Xn hp);exists J,J
def ZA(h:∀z∈ns,z∈ms):∀e∈XR ps ns,e∈XR ps ms:=λe he=>by let(z,hz,rfl):=Yp.G he;show Yp.L {z,h z hz,Z}
def eZ(h:InN n es):(∀i j,i<(WK n es).f->j<(WK n es).f->mk (WK n es) i=mk (WK n es) j)↔∀i j,i<n->j<n->Conn es i j:=by
 rw[ZG];constructor
 .intro q i j hi hj;show(ZS h hi hj).G (q i j hi hj)
 .intro q i j hi hj;show(ZS h hi hj).L (q i j hi hj)
def eY(hn:1<=n)(h:InN n es):(Jw (Xl n es)).f=1↔∀i j,i<n->j<n->Conn es i j:=by rw[fi (by rwa[Zn]),(rF h).one];show eZ h
def TM(h:∀z,z∈ns↔z∈ms):Conn (XR ps ns) i j↔Conn (XR ps ms) i j:=
 {λc=>c.mono<|ZA λz hz=>(h z).G hz,λc=>c.mono<|ZA λz hz=>(h z).L hz}
section
variable{K:Ad}{a:Addr}{xs:List V}{g:TG}{tt:TT}{te:TE}{o:Nat}{fr:List Nat}{σ:St}{H:Hp}{Q:VK}
def Js(Pv:Nat->List V->Hp->Prop)(h0:Pv 0 [] H)(hz:xs.f<sizeLine)(hl:∀i ys H,i<=xs.f->Pv i ys H->SqL K H a xs/\ys.f<=i)
  (hs:∀(i:Nat) x ys H (p:Addr),H p=none->xs[i]?=some x->Pv i ys H->Lh Pv g tt te o fr σ i ↑p ys (upd H p<|.tup [.int i,x]))(hd:∀ys H,Pv xs.f ys H->∀p,H p=none->Q ↑p (upd H p<|.lst ys)):Od (JC K a) g tt te o fr σ H Q:=by
 exists λi m ys H=>m=xs.f-i/\i<=xs.f/\Pv i ys H,{xs.f,AP,Yl _,h0},?_;rintro i m ys H ⟨rfl,hi,p⟩;let(q,hy):=hl i ys H hi p;cases Xt:i<xs.f
 .show .inr {{xs,xs[i],q,by simp[Xt]},J,λx H' zz=>?_};let(T,y,hT,ex,eH,qX):=zz;subst ex eH;show hs i y ys H T hT (qX xs q) p (λj ys H=>∃m',m'<xs.f-i/\m'=xs.f-j/\j<=xs.f/\Pv j ys H) λys H p'=>{xs.f-(i+1),vk,Z,Xt,p'}
 .let e:i=xs.f:=J;subst e;show .inl {{xs,q,XQ _},J,hd ys H p}
end
def unlike(M:Ac)(ps:Aa)(i:Nat):(Ac):=((List.range i).U λk=>decide<|mk M (ps.E k (0,0)).1.j≠mk M (ps.E k (0,0)).2.j).H λ(k:Nat)=>(k:Int)
def wo(ns:Ac)(z:Int):(Ac):=ns.U λy=>decide (y≠z)
def Xc{z y:Int}:y∈wo ns z↔y∈ns/\y≠z:=by unfold wo;rw[Yj];simp
def Jr(n:Int)(ps:Aa)(ns:Ac)(z:Int)(l:Ac):(Ac):=l.U λy=>decide (z∈unlike (WK n.j<|XR ps<|wo ns y) ps ps.f)
def Zb6{z:Int}(h0:0<=z)(h1:z<ps⁻¹):z∈unlike M ps ps.f↔mk M (ps.E z.j (0,0)).1.j≠mk M (ps.E z.j (0,0)).2.j:=by
 unfold unlike;rw[Yp];constructor
 .rintro⟨k,hk,rfl⟩
  have:=Yu (Yj.G hk).2
  rwa[Yy]
 .intro h;exists z.j,Yj.L {YG.L vk,Ys h},J
def ZF5{a b:Ac}(h:a.Perm b)(h1:a.Q (·<=·))(h2:b.Q (·<=·)):a=b:=by
 induction a generalizing b with
 |nil=>show(List.Perm.nil_eq h)
 |cons x a ih=>
  cases b with
  |nil=>show absurd h.length_eq AP
  |cons y b=>
   let(hx,ha):=VS.G h1;let(hy,hb):=VS.G h2;let e:x=y:=by
    let m1:y∈x::a:=h.mem_iff.L Yd;let m2:x∈y::b:=h.mem_iff.G Yd
    rcases Ye.G m1 with e1|e1
    .show e1.symm
    .rcases Ye.G m2 with e2|e2
     .show e2
     .have:=hx y e1;have:=hy x e2;lia
   subst e;rw[ih (List.Perm.cons_inv h) ha hb]
end My
namespace L2
open PySem PySem.Spec PyProof.Rows
section
variable{prog:Program}{w:World}{A:Around}{E:Ae}{s:Shared}
def ZU5{tp:Addr}{vs:Ag}{Q:List Value->Shared->Prop}{ot:Obj}(ht:s.m.D tp=some ot)(hc:ot.cls=.type "tuple")(hd:ot.data=.seq vs.o m)(hz:vs.f<=sizeLine)
  (k:Q vs {s with heap:=(s.m.push<|seqObj "list" #[] 0).update (~~~s) (Obj.mapSeq (·++vs.o))}):wpAny (model prog w) A (collect<|.ref tp) Q E s:=by
 let xY:(s.m.push<|seqObj "list" #[] 0).D tp=some ot:=Xo _ ht;let Qs:(s.m.push<|seqObj "list" #[] 0).D (~~~s)=some (seqObj "list" #[] 0):=Yi _ rfl
 unfold collect;show XY (FP<|SK vB ?_);change wpAny _ _ (do again (.builtin "list.__iadd__" {[<-newList [],.ref tp],[]})) _ _ s
 show XY (LD<|Yg ⟨Qc _ vh,SK entry_list_iadd' ?_⟩);change wpAny _ _ (Builtin.List.listExtendWith (.ref (~~~s)) ↑tp<|.ref (~~~s)) _ _ {s with heap:=s.m.push (seqObj "list" #[] 0)}
 unfold Builtin.List.listExtendWith;show XY (yG (T:="tuple") ⟨ot,xY,hc⟩ ?_);rw[if_pos (by rw[show(Value.type "tuple" == Value.type "tuple")=true from Z];simp)];show XY (FJ xY hd ?_);show XY (FJ (xs:=#[]) (n:=0) Qs Z ?_);rw[if_neg AP];show XY (Oq (xs:=#[]) (n:=0) Qs Z ?_ (Yl _)<|by change(#[]++vs.o).t<=sizeLine+1;simp only[Array.size_append,Yc,Kr];lia);show Yg ?_;show XY (FI (FN Qs _) ?_);change wpAny _ _ (pure ((#[]:Array Value)++vs.o).C) Q E _
 rw[show((#[]:Array Value)++vs.o).C=vs by simp];show Yg k
end
section
variable{X:Cx}
def MI(K:Ad):(R2):=λx y H Q=>∃a b xs ys,x=.ref a/\y=.ref b/\SqT K H a xs/\SqT K H b ys/\xs.f+ys.f<=sizeLine/\
 (xs=[]->Q ↑b H)/\(xs≠[]->ys=[]->Q ↑a H)/\(xs≠[]->ys≠[]->∀p,H p=none->Q ↑p (upd H p<|.tup<|xs++ys))
def xX(K:Ad)(hk:X.K=K:=by rfl):Wx X (binaryOp .Add) (MI K):=by
 intro pins s σ H x y v u Q I rx ry h;let(a,b,xs,ys,e1,e2,ha,hb,hz,q0,q1,q2):=id h;cases hx:xs=[]
 .subst hk e1 e2;cases rx;cases ry;let(XX,r1,p1,_):=I.tuple ha;let(WD,r2,p2,_):=I.tuple hb;let hi:XX=[]:=r1.nil_iff.L hx
  let((cls,dd,data,sl),ho,hc,n,hd):=id p1;let((JN,QB,data2,QA),UU,VY,n2,hd2):=id p2;simp only at hc hd VY hd2;subst hc hd VY hd2;show concat_meets {_,ho,Z} {_,UU,Z} vA seq_tuple_add vX vZ (we _ _)
   (tuple_addW0 a b XX.o WD.o n n2 dd QB sl QA<|by simp[hi]) {ho,UU,{.ref b,H,I,Z,q0 hx}}
 .show rJ K hk pins s σ H x y v u Q I rx ry {a,b,xs,ys,e1,e2,ha,hb,hx,hz,q1 hx,q2 hx}
end
end L2
namespace My
open PySem L2
def DZ(h:mk m a=mk m b):lm m a b=m:=by unfold lm;rw[if_neg λz=>z h]
def eX(ha:a<m.f)(hb:b<m.f):cnt m<=cnt (lm m a b)+1:=by
 cases e:mk m a=mk m b
 .rw[DZ e];lia
 .have:=MK ha hb e;lia
def xW:∀es:List (Nat×Nat),InN n es->n<=cnt (WK n es)+es.f:=by
 show Uh (λ_=>?_) λes x ih hn=>?_
 .have:cnt (WK n [])=n:=Jt n
  lia
 .let⟨h1,h2,h3⟩:=hn.snoc;let hl:=ZG n es
  have:=eX (m:=WK n es) (a:=x.1) (b:=x.2) J J
  have:=ih h1
  rw[MS,Xm,Yx,Kr];lia
def xV(h:1<=M.f):1<=cnt M:=by unfold cnt Vn;show zr (a:=0) (Yj.L {YG.L J,XC.L λi hi=>absurd hi<|Wg i})
def UO(hn:1<=n)(h:InN n es):cnt (WK n es)=1↔∀i j,i<n->j<n->Conn es i j:=by rw[qZ (by rwa[ZG])];show eZ h
def eV(hn:ts.Nodup)(ho:o∈ts):(wo ts o).f+1=ts.f:=by
 induction ts with
 |nil=>cases ho
 |cons x r ih=>
  let(h1,h2):=Ru.G hn;unfold wo;rw[Ov];cases e:x=o
  .subst e;rw[if_neg AP]
   have:r.U (λy=>decide<|y≠x)=r:=Gf.L λy hy=>Ys λe=>h1 (e▸hy)
   rw[this];rfl
  .rw[if_pos (Ys e)]
   have:=ih h2 ((Ye.G ho).resolve_left λz=>e z.symm)
   unfold wo at this;rw[Yx,Yx];lia
def Zx(ps:Aa)(z:Int):(Nat×Nat):=((ps.E z.j (0,0)).1.j,(ps.E z.j (0,0)).2.j)
def Tf(ps:Aa)(ns:Ac)(z:Int):XR ps (ns++[z])=XR ps ns++[Zx ps z]:=by unfold XR Zx;rw[YD];rfl
def Tx(g:Zv n ps)(z0:0<=z)(z1:z<ps⁻¹):(Zx ps z).1<n.j/\(Zx ps z).2<n.j:=by
 have:=ZQ (ns:=[z]) g (λy hy=>by rw[XD.G hy];exists z0,z1)
 show this (Zx ps z) (by unfold XR Zx;simp)
def Lg(hT:Zf n ps ts):∀y∈wo ts o,0<=y/\y<ps⁻¹:=λy hy=>hT.1.all y (Xc.G hy).1
def Jq(g:Zv n ps)(hT:Zf n ps ts)(ho:o∈ts)(z0:0<=z)(z1:z<ps⁻¹):
  (∀i j,i<n.j->j<n.j->Conn (XR ps<|wo ts o++[z]) i j)↔¬Conn (XR ps<|wo ts o) (Zx ps z).1 (Zx ps z).2:=by
 let hn:1<=n.j:=by have:=g.1;lia
 let hw:=eV hT.1.nodup ho;let hl:ts⁻¹=n-1:=hT.2.1
 let i0:InN n.j (XR ps<|wo ts o):=ZQ g (Lg hT);let hz:=Tx g z0 z1
 let ob:=hT.1.all o ho;let Hb:=Tx g ob.1 ob.2
 let i1:InN n.j (XR ps (wo ts o)++[Zx ps z]):=λe he=>(Yb.G he).elim (i0 e) λq=>by rwa[XD.G q]
 let i2:InN n.j (XR ps (wo ts o)++[Zx ps o]):=λe he=>(Yb.G he).elim (i0 e) λq=>by rwa[XD.G q]
 let hL:=ZG n.j (XR ps<|wo ts o);let le:(XR ps<|wo ts o).f=(wo ts o).f:=by unfold XR;rw[Xy]
 rw[Tf];constructor
 .intro hc c;let h1:cnt (WK n.j<|XR ps (wo ts o)++[Zx ps z])=1:=(UO hn i1).L hc
  rw[MS,DZ ((ZS i0 hz.1 hz.2).L c)]at h1
  have:=xW _ i0
  lia
 .intro hc;let h2:cnt (WK n.j<|XR ps (wo ts o)++[Zx ps o])=1:=by
   show(UO hn i2).L λi j hi hj=>?_;rw[<-Tf];show(TM λy=>?_).G (hT.2.2 i j hi hj);rw[Yb,Xc,XD];constructor
   .intro hy;cases e:y=o
    .show .inr e
    .show .inl ⟨hy,e⟩
   .rintro(q|q)
    .show q.1
    .rw[q];show ho
  rw[MS]at h2;let h3:=eX (m:=WK n.j<|XR ps<|wo ts o) (a:=(Zx ps o).1) (b:=(Zx ps o).2) J J
  let h4:=MK (m:=WK n.j<|XR ps<|wo ts o) (a:=(Zx ps z).1) (b:=(Zx ps z).2) J J λe=>hc ((ZS i0 hz.1 hz.2).G e);let h5:=xV (M:=lm (WK n.j<|XR ps<|wo ts o) (Zx ps z).1 (Zx ps z).2) (by rw[MT];lia)
  show(UO hn i1).G ?_;rw[MS];lia
def Sl(n:Int)(ps:Aa)(ts:Ac)(o:Int):(Ac):=unlike (WK n.j<|XR ps<|wo ts o) ps ps.f
def eU{z:Int}(h:z∈unlike M ps i):0<=z/\z<(i:Int):=by
 unfold unlike at h;let(k,hk,rfl):=Yp.G h
 have:=YG.G (Yj.G hk).1
 lia
def UN(g:Zv n ps)(hT:Zf n ps ts)(z0:0<=z)(z1:z<ps⁻¹):z∈Sl n ps ts o↔¬Conn (XR ps (wo ts o)) (Zx ps z).1 (Zx ps z).2:=by let hz:=Tx g z0 z1;unfold Sl;rw[Zb6 z0 z1];show not_congr (ZS (ZQ g<|Lg hT) hz.1 hz.2)
def exg(n:Int)(ps:Aa)(ts:Ac)(o z:Int):(Prop):=o∈ts/\z≠o/\z∈Sl n ps ts o
instance (n:Int) (ps:Aa) (ts:Ac) (o z:Int):Decidable (exg n ps ts o z):=by unfold exg;infer_instance
def MH(g:Zv n ps)(hT:Zf n ps ts):
  exg n ps ts o z↔o∈ts/\z∉ts/\0<=z/\z<ps⁻¹/\∀i j,i<n.j->j<n.j->Conn (XR ps<|wo ts o++[z]) i j:=by
 constructor
 .rintro⟨h1,h2,h3⟩;let(z0,z1):=eU h3;let hc:=(UN g hT z0 z1).G h3
  exists h1,λhz=>hc ?_,z0,z1,(Jq g hT h1 z0 z1).L hc;show .edge ?_;show Yp.L {z,Xc.L ⟨hz,h2⟩,Z}
 .rintro⟨h1,h2,z0,z1,hc⟩;exists h1,λe=>h2<|e▸h1,(UN g hT z0 z1).L ((Jq g hT h1 z0 z1).G hc)
def PairsV.mut{l:Addr}{ys zs xs:List V}(hP:PairsV H xs ps)(hl:H l=some (.lst ys)):PairsV (upd H l (.lst zs)) xs ps:=by exists hP.1,λj p e=>?_;let(v,e1,tt,e2,e3):=hP.2 j p e;exists v,e1,tt,e2,by rwa[Za (Vs e3 hl (λz=>nomatch z))]
end My
namespace L2
open PySem PySem.Spec PyProof.Rows
section
variable{X:Cx}
def qW{e:Addr->Bool}(I:Inv X pins σ H s)(hu:A.units+n<cLine)(rx:RelV x w){xs:List V}{us:Ag}(h0:Vals xs us)(h:∀v∈xs,∃a,v=.ref a/\EqD X.K H n v x (e a)):∀u∈us,SeqAt.EqAt A s u w (match u with | .ref a=>e a|_=>false):=by
 induction h0 with
 |nil=>intro u hu;cases hu
 |@cons y u xs us r t ih=>
  intro u' qV;rcases Ye.G qV with rfl|qV
  .let⟨a,rfl,q⟩:=h y Yd;let rfl:u'=Value.ref a:=r;show q.at I hu Z rx
  .show ih (λv hv=>h v<|Yf _ hv) u' qV
end
end L2
namespace My
open PySem L2
def xU{o y:Int}(g:Zv n ps)(hT:Zf n ps ts)(ho:o∈ts)(hy:y∈ts):y∈Sl n ps ts o↔y=o:=by
 let yb:=hT.1.all y hy;rw[UN g hT yb.1 yb.2];constructor
 .intro h;cases e:y=o
  .show e
  .show absurd (.edge<|Yp.L {y,Xc.L ⟨hy,e⟩,Z}) h
 .rintro rfl;show(Jq g hT hy yb.1 yb.2).G λi j hi hj=>(TM λz=>?_).G (hT.2.2 i j hi hj);rw[Yb,Xc,XD];constructor
  .intro hz;cases e:z=y
   .show .inr e
   .show .inl ⟨hz,e⟩
  .rintro(q|q)
   .show q.1
   .rw[q];show hy
def VE:y∈Jr n ps ts z l↔y∈l/\z∈Sl n ps ts y:=by unfold Jr;rw[Yj,YW];show Iff.rfl
def qU(g:Zv n ps)(hT:Zf n ps ts)(hx:exg n ps ts o z)(Qr:ms.Perm (wo ts o++[z]))(DY:ms.Q (·<=·)):Zf n ps ms:=by
 let(ho,hz,z0,z1,hc):=(MH g hT).G hx;let nd:(wo ts o++[z]).Nodup:=fq (hT.1.nodup.sublist List.filter_sublist) λh=>hz (Xc.G h).1
 let ndm:ms.Nodup:=Qr.nodup_iff.L nd;let hl:=eV hT.1.nodup ho
 let Ti:=Qr.length_eq;rw[Xm,YQ]at Ti;show{XU.L {λy hy=>?_,(List.pairwise_and_iff.L ⟨DY,ndm⟩).imp λ{x y} h=>by have:=h.1;have:=h.2;lia},by rw[Ti,hl];show hT.2.1,λi j hi hj=>(TM λy=>Qr.mem_iff).L (hc i j hi hj)};rcases Yb.G (Qr.mem_iff.G hy) with h|h
 .show hT.1.all y (Xc.G h).1
 .rw[XD.G h];exists z0,z1
section
variable{n:Int}{ps:Aa}{ts ms:Ac}{o z:Int}(g:Zv n ps)(hT:Zf n ps ts)(hx:exg n ps ts o z)(Qr:ms.Perm (wo ts o++[z]))(DY:ms.Q (·<=·))
include g hT hx Qr DY
def qS{y:Int}:y∈ms↔(y∈ts/\y≠o)\/y=z:=by rw[Qr.mem_iff,Yb,Xc,XD]
end
def WC(n:Nat)(ps:Aa):(Nat->Ac)
 |0=>[]
 |k+1=>if mk (WK n<|XR ps<|WC n ps k) (Zx ps (k:Int)).1=mk (WK n<|XR ps<|WC n ps k) (Zx ps (k:Int)).2 then WC n ps k else WC n ps k++[(k:Int)]
def Ha(n:Nat)(ps:Aa)(k:Nat):WC n ps (k+1)=if mk (WK n (XR ps (WC n ps k))) (Zx ps (k:Int)).1=mk (WK n (XR ps (WC n ps k))) (Zx ps (k:Int)).2 then WC n ps k else WC n ps k++[(k:Int)]:=rfl
def GZ:∀k,∀z∈WC n ps k,0<=z/\z<(k:Int)
 |0,z,h=>by cases h
 |k+1,z,h=>by
  rw[Ha]at h;split at h
  .have:=GZ k z h;lia
  .rcases Yb.G h with h|h
   .have:=GZ k z h;lia
   .rw[XD.G h];lia
def DX:∀k,(WC n ps k).Q (·<·)
 |0=>List.Q.nil
 |k+1=>by
  rw[Ha];split
  .show DX k
  .rw[YV];exists DX k,Vu ..,λa ha b hb=>by rw[XD.G hb];show(GZ k a ha).2
def qR(hk:k<=ps.f):IsSet ps.f (WC n ps k):=XU.L {λz hz=>by have:=GZ k z hz;lia,DX k}
def xT(g:Zv n ps)(hk:k<=ps.f):InN n.j (XR ps (WC n.j ps k)):=ZQ g (qR hk).all
def MG:∀k,j<=k->∀z,z∈WC n ps j↔z∈WC n ps k/\z<(j:Int)
 |0,h,z=>by
  have:j=0:=J
  subst this;exists λh=>(by cases h),λh=>h.1
 |k+1,h,z=>by
  cases e:j=k+1
  .subst e;exists λh=>{h,(GZ _ z h).2},λh=>h.1
  .let ih:=MG (n:=n) (ps:=ps) (j:=j) k J z;rw[Ha,ih];split
   .show Iff.rfl
   .rw[Yb,XD];constructor
    .rintro⟨h1,h2⟩;exists .inl h1,h2
    .rintro⟨h1|h1,h2⟩
     .exists h1,h2
     .lia
def eS(g:Zv n ps)(hk:k<=ps.f)(hj:j<k)(hn:(j:Int)∉WC n.j ps k):Conn (XR ps (WC n.j ps j)) (Zx ps (j:Int)).1 (Zx ps (j:Int)).2:=by
 let he:=Tx (z:=(j:Int)) g J J;let h1:(j:Int)∉WC n.j ps (j+1):=λh=>hn ((MG k hj _).G h).1
 rw[Ha]at h1;split at h1
 .rename_i h;show(ZS (xT g J) he.1 he.2).G h
 .show absurd (Yh _<|XD.L Z) h1
def MF(g:Zv n ps):∀k,k<=ps.f->cnt (WK n.j (XR ps (WC n.j ps k)))+(WC n.j ps k).f=n.j
 |0,_=>Jt n.j
 |k+1,hk=>by
  let ih:=MF g k J;let he:=Tx (z:=(k:Int)) g J J
  let hl:=ZG n.j (XR ps<|WC n.j ps k);rw[Ha];split
  .show ih
  .rename_i h;rw[Tf,MS,Xm,YQ]
   have:=MK (m:=WK n.j<|XR ps<|WC n.j ps k) J J h
   grind
def eR(g:Zv n ps)(ht:∀z∈ts,0<=z/\z<ps⁻¹)(c:Conn (XR ps ts) i j):Conn (XR ps (WC n.j ps ps.f)) i j:=by
 induction c with
 |refl i=>show .refl i
 |symm _ ih=>show .symm ih
 |trans _ _ i1 i2=>show .trans i1 i2
 |@edge a b h=>
  let(z,hz,e):=Yp.G h;let(z0,z1):=ht z hz;let ez:z=((z.j:Nat):Int):=J
  cases hm:z∈WC n.j ps ps.f
  .show .edge (Yp.L ⟨z,hm,e⟩)
  .rw[ez]at hm;let c:=eS g (XQ _) J hm
   let c2:=c.mono (ZA λy hy=>((MG ps.f J y).G hy).1);rw[<-ez]at c2;let ea:a=(Zx ps z).1:=(YZ Prod.fst e).symm
   let eb:b=(Zx ps z).2:=(YZ Prod.snd e).symm;rwa[ea,eb]
def eQ(g:Zv n ps)(hT:Zf n ps ts):Zf n ps (WC n.j ps ps.f):=by
 let hc:∀i j,i<n.j->j<n.j->Conn (XR ps<|WC n.j ps ps.f) i j:=λi j hi hj=>eR g hT.1.all (hT.2.2 i j hi hj);let h1:=(UO (by have:=g.1;lia)<|xT g<|XQ _).L hc
 let h2:=MF g ps.f (XQ _);exists qR<|XQ _,by have:=g.1;grind,hc
def eO(g:Zv n ps)(h:¬((WC n.j ps ps.f).f:Int)<n-1):Zf n ps (WC n.j ps ps.f):=by
 let h2:=MF g ps.f (XQ _);let h3:=xV (M:=WK n.j<|XR ps<|WC n.j ps ps.f) (by rw[ZG];have:=g.1;grind)
 exists qR<|XQ _,by have:=g.1;grind,(UO (by have:=g.1;grind)<|xT g<|XQ _).G J
def eN:∀{a b:Ac},a.f=b.f->HT.lexLt a b=true->∃p x y r s,a=p++x::r/\b=p++y::s/\x<y
 |[],[],_,h=>by cases h
 |[],_::_,e,_=>by simp at e
 |_::_,[],e,_=>by simp at e
 |x::xs,y::ys,e,h=>by
  rw[HT.Xz]at h;cases q:x=y
  .subst q;rw[if_pos Z]at h;let(p,u,v,r,s,e1,e2,e3):=eN (by simpa using e) h;exists x::p,u,v,r,s,by rw[e1];rfl,by rw[e2];rfl,e3
  .rw[if_neg q]at h;exists [],x,y,xs,ys,Z,Z,Yu h
def Sk:∀{a b:Ac},HT.lexLt a b=false->HT.lexLt b a=false->a=b
 |[],[],_,_=>rfl
 |[],_::_,h,_=>by cases h
 |_::_,[],_,h=>by cases h
 |x::xs,y::ys,h1,h2=>by
  rw[HT.Xz]at h1 h2;cases q:x=y
  .subst q;rw[if_pos Z]at h1 h2;rw[Sk h1 h2]
  .rw[if_neg q]at h1;rw[if_neg λe=>q e.symm]at h2
   have:=of_decide_eq_false h1
   have:=of_decide_eq_false h2
   lia
def ZI8(g:Zv n ps)(hT:Zf n ps ts):HT.lexLt ts (WC n.j ps ps.f)=false:=by
 let hG:=eQ g hT;cases h:HT.lexLt ts (WC n.j ps ps.f) with
 |false=>rfl
 |true=>
  exfalso;let(p,x,y,r,s,e1,e2,NX):=eN (by have:=hT.2.1;have:=hG.2.1;lia) h
  let hx:x∈ts:=by rw[e1];simp
  let(x0,x1):=hT.1.all x hx;let DW:=(XU.G hT.1).2
  let ag:=DX (n:=n.j) (ps:=ps) ps.f;rw[e1,YV]at DW;rw[e2,YV]at ag;let px:∀z∈p,z<x:=λz hz=>DW.2.2 z hz x Yd
  let ys:∀z∈y::s,x<z:=λz hz=>by
   rcases Ye.G hz with e|hz
   .rw[e];show NX
   .have:=(VS.G ag.2.1).1 z hz;lia
  let ex:x=((x.j:Nat):Int):=J;let hn:((x.j:Nat):Int)∉WC n.j ps ps.f:=by
   rw[<-ex,e2,Yb];rintro(h|h)
   .have:=px x h;lia
   .have:=ys x h;omega
  let c:=eS g (XQ _) vk hn;let c2:Conn (XR ps<|wo ts x) (Zx ps x).1 (Zx ps x).2:=by
   rw[<-ex]at c;show c.mono (ZA λz hz=>?_);let(h1,h2):=(MG ps.f J z).G hz;rw[<-ex]at h2;rw[e2,Yb]at h1;rcases h1 with h1|h1
   .show Xc.L {by rw[e1];show Yn _ h1,J}
   .have:=ys z h1;lia
  show(UN g hT x0 x1).G ((xU g hT hx hx).L Z) c2
def Wj:∀{a b c:Ac},HT.lexLt a b=true->HT.lexLt b c=true->HT.lexLt a c=true
 |[],[],_,h,_=>by cases h
 |[],_::_,[],_,h=>by cases h
 |[],_::_,_::_,_,_=>rfl
 |_::_,[],_,h,_=>by cases h
 |_::_,_::_,[],_,h=>by cases h
 |x::xs,y::ys,z::zs,h1,h2=>by
  rw[HT.Xz]at h1 h2 ⊢;cases e1:x=y
  .subst e1;rw[if_pos Z]at h1;cases e2:x=z
   .subst e2;rw[if_pos Z]at h2 ⊢;show Wj h1 h2
   .rw[if_neg e2]at h2 ⊢;show h2
  .rw[if_neg e1]at h1;let h1:=Yu h1
   cases e2:y=z
   .subst e2;rw[if_neg e1];show Ys h1
   .rw[if_neg e2]at h2;let h2:=Yu h2
    rw[if_neg J];show Ys B
def WM:∀a:Ac,HT.lexLt a a=false
 |[]=>rfl
 |x::xs=>by rw[HT.Xz,if_pos Z];show WM xs
def RN(bt:Nat->Nat->Bool):∀j,argBest bt j<=j
 |0=>XQ _
 |j+1=>by
  unfold argBest;split
  .show XQ _
  .have:=RN bt j;lia
def Te(s:Ac):(Int):=match s.getLast? with|none=>0|some x=>x+1
def TK(m:Int)(s:Ac):(Ab):=(List.range (m-Te s).j).H λ(i:Nat)=>s++[Te s+(i:Int)]
def Qq(m:Int):(Nat->Ab)
 |0=>[[]]
 |k+1=>(Qq m k).flatMap (TK m)
def qQ(s:Ac)(x:Int):Te (s++[x])=x+1:=by unfold Te;rw[List.getLast?_append];rfl
def Wr{s l:Ac}:l∈TK m s↔∃t,Te s<=t/\t<m/\l=s++[t]:=by
 unfold TK;rw[Yp];constructor
 .rintro⟨i,hi,rfl⟩
  have:=YG.G hi
  exists _,J,B,Z
 .rintro⟨t,h1,h2,rfl⟩;exists (t-Te s).j,YG.L J,by rw[show Te s+(((t-Te s).j:Nat):Int)=t by lia]
def Td{t:Int}:IsSet m (s++[t])↔IsSet m s/\Te s<=t/\0<=t/\t<(m:Int):=by
 rw[XU,XU,YV];let last:(∀a∈s,∀b∈[t],a<b)/\s.Q (·<·)->Te s<=t\/t<0:=by
  rintro⟨h,_⟩;unfold Te;cases e:s.getLast? with
  |none=>by_cases h0:0<=t;show .inl h0;show .inr J
  |some x=>have:=h x (vT e) t AP;show .inl (by change x+1<=t;lia)
 constructor
 .rintro⟨h1,h2,_,h3⟩;let ht:=h1 t AP
  exists {λz hz=>h1 z<|Yn _ hz,h2},?_,ht;rcases last ⟨h3,h2⟩ with h|h
  .show h
  .omega
 .rintro⟨⟨h1,h2⟩,h3,h4,h5⟩;exists λz hz=>?_,h2,Vu ..,λa ha b hb=>?_
  .rcases Yb.G hz with h|h
   .show h1 z h
   .rw[XD.G h];exists h4,h5
  .rw[XD.G hb];let key:∀{s:Ac}{a:Int},s.Q (·<·)->a∈s->a<Te s:=by
    show λ{s}=>Uh (P:=λs=>∀{a:Int},s.Q (·<·)->a∈s->a<Te s) (λ{a} _ h=>by cases h) (λl x ih {a} hp h=>?_) s;rw[qQ];rw[YV]at hp;rcases Yb.G h with h|h
    .have:=hp.2.2 a h x AP;lia
    .rw[XD.G h];lia
   have:=key h2 ha
   lia
def Wi{m:Nat}:∀{k:Nat}{l:Ac},l∈Qq (m:Int) k↔l.f=k/\IsSet m l
 |0,l=>by
  change l∈[[]]↔_;rw[XD];constructor
  .rintro rfl;exists Z,λi z e=>by simp at e
  .rintro⟨h,_⟩;show QP.G h
 |k+1,l=>by
  change l∈(Qq (m:Int) k).flatMap (TK m)↔_;rw[List.mem_flatMap];constructor
  .rintro⟨s,hs,hl⟩;let(t,h1,h2,rfl):=Wr.G hl;let(e,hI):=Wi.G hs;let n0:0<=Te s:=by
    unfold Te;cases q:s.getLast? with
    |none=>show Tt 0
    |some x=>have:=(hI.all x<|vT q).1;change 0<=x+1;lia
   exists by rw[Xm,e];rfl,Td.L ⟨hI,h1,J,h2⟩
  .rintro⟨e,hI⟩;let XJ:l≠[]:=λz=>by rw[z]at e;simp at e
   obtain⟨s,t,rfl⟩:∃s t,l=s++[t]:={l.dropLast,l.getLast XJ,(gT XJ).symm};let(h1,h2,h3,h4):=Td.G hI;exists s,Wi.L {by rw[Xm]at e;simpa using e,h1},Wr.mpr ⟨t,h2,h4,Z⟩
def qP(h:IsSet m s):(TK (m:Int) s).f<=m:=by
 unfold TK;rw[Xy,YY];let n0:0<=Te s:=by
  unfold Te;cases q:s.getLast? with
  |none=>show Tt 0
  |some x=>have:=(h.all x<|vT q).1;change 0<=x+1;lia
 omega
def eM:∀L:Ab,(∀s∈L,IsSet m s)->(L.flatMap (TK (m:Int))).f<=m*L.f
 |[],_=>Yl _
 |s::L,h=>by
  have:=eM L λx hx=>h x (Yf _ hx)
  have:=qP (h s Yd)
  rw[List.flatMap_cons,Xm,Yx,Nat.mul_succ];lia
def DV:∀{w t:Ac},t.Q (·<·)->w.Q (·<·)->(∀z∈t,z∈w)->t.Sublist w
 |[],[],_,_,_=>List.Sublist.slnil
 |[],x::t,_,_,h=>absurd (h x Yd) AP
 |y::w,[],_,_,_=>List.nil_sublist _
 |y::w,x::t,ht,hw,h=>by
  let(h1,h2):=VS.G ht;let(h3,h4):=VS.G hw;cases e:x=y
  .subst e;show List.Sublist.cons₂ _ (DV h2 h4 λz hz=>?_);rcases Ye.G (h z<|Yf _ hz) with q|q
   .have:=h1 z hz;lia
   .show q
  .let hx:x∈w:=(Ye.G<|h x Yd).resolve_left e;show List.Sublist.cons _ (DV ht h4 λz hz=>?_);rcases Ye.G (h z hz) with q|q
   .have:=h3 x hx
    rcases Ye.G hz with q2|q2
    .rw[q2];show hx
    .have:=h1 z q2;lia
   .show q
def Qp(M:Ac)(es:List (Nat×Nat)):(Ac):=es.foldl (λm e=>pm m e.1 e.2) M
def qO(M:Ac)(es:List (Nat×Nat))(e:Nat×Nat):Qp M (es++[e])=pm (Qp M es) e.1 e.2:=by unfold Qp;rw[Qe];rfl
def ZG6(M:Ac):∀es:List (Nat×Nat),(Qp M es).f=M.f:=by
 intro es;unfold Qp
 induction es generalizing M with
 |nil=>rfl
 |cons e l ih=>rw[yY,ih,Ef]
def qN{i:Int}(h0:0<=i):Xk xs none (some i)=xs.R i.j:=by
 let e:HT.TN xs.f xs.f (some i)=min i.j xs.f:=by change(if i<0 then (i+xs⁻¹).j else min i.j xs.f)=_;rw[if_neg J]
 unfold Xk;rw[e,HT.VQ,List.drop_zero,yP];cases h:i.j<=xs.f
 .rw[Nat.min_eq_left h]
 .rw[Nat.min_eq_right J,YS<|XQ _,YS B]
def Wu(m:Nat):(Ac):=(List.range m).H λ(i:Nat)=>(i:Int)
def Xr{z:Int}:z∈Wu m↔0<=z/\z<(m:Int):=by
 unfold Wu;rw[Yp];constructor
 .rintro⟨i,hi,rfl⟩
  have:=YG.G hi
  lia
 .intro h;exists z.j,YG.L J,J
def ZR(m:Nat):(Wu m).f=m:=by unfold Wu;simp
def qM(m:Nat):(Wu m).Q (·<·):=by unfold Wu;rw[Oy];show Gj.imp λh=>B
def GY(m:Nat):IsSet m (Wu m):=XU.L {λz hz=>Xr.G hz,qM m}
def qL(m:Nat):VX 0 (m:Int)=Wu m:=by unfold VX Wu;rw[yM,Yy];show YN λi _=>J
def Jp(n:Int)(ps:Aa):(Prop):=∀i j,i<n.j->j<n.j->Conn (XR ps<|Wu ps.f) i j
end My
namespace L2
open PySem PySem.Spec PyProof.Rows
section
variable{prog:Program}{w:World}{A:Around}{E:Ae}{s:Shared}
def ZW5{r:Addr}{a b c:Int}{t u v:Tok}{n:Nat}{Q:List Value->Shared->Prop}(hh:A.handled=none)(hr:IsRange s.m r a b c t u v)(hm:Builtin.Range.small a b c=true)(hn:Builtin.Range.rangeSize a b c=n)(hl:n<=2^24)
  (k:∀h' tk acc,(∀b o,s.m.D b=some o->h'.D b=some o)->ItemsOf (λi v=>∃t,v=.int (a+i*c) t) acc n->Q acc.C {s with heap:=h',toks:=tk}):wpAny (model prog w) A (collect<|.ref r) Q E s:=by
 let Qs:(s.m.push<|seqObj "list" #[] 0).D (~~~s)=some (seqObj "list" #[] 0):=Yi _ rfl;unfold collect;show XY (FP<|SK vB ?_);change wpAny _ A.in1 (do again (.builtin "list.__iadd__" {[<-newList [],.ref r],[]})) _ _ s
 show XY (LD<|Yg ⟨Qc _ vh,SK entry_list_iadd' ?_⟩);change wpAny _ A.in1 (Builtin.List.listExtendWith (.ref (~~~s)) ↑r<|.ref (~~~s)) _ _ {s with heap:=s.m.push (seqObj "list" #[] 0)}
 show Ts (wpAny_extend_range (A:=A) (R:=λx s'=>∃h' tk acc c',x=.ok (.ret<|.ref (~~~s))/\s'={s with heap:=h',toks:=tk}/\(∀b o,s.m.D b=some o->h'.D b=some o)/\
   h'.D (~~~s)=some {cls:=.type "list",dict:=none,data:=.seq acc c',slots:=#[]}/\ItemsOf (λi v=>∃t,v=.int (a+i*c) t) acc n)
  (s:={s with heap:=s.m.push (seqObj "list" #[] 0)}) hh (Xo _ hr) hm hn hl _ _ 0 Qs λh' tk acc c' k1 k2 k3=>{h',tk,acc,c',Z,Z,λb o e=>k1 b o (Yq<|Ym e)<|Xo _ e,k2,k3}) (λfin s' z=>?_) (λe s' z=>?_)
 .cases fin with
  |done f=>
   let(h',tk,acc,c',e,rfl,k1,k2,k3):=z;cases e;show XY (FI k2 ?_);show Yg (k h' tk acc k1 k3)
  |again c'=>
   exists z.1,Oo z.2 λx s2 z=>?_;let(h',tk,acc,c',rfl,rfl,k1,k2,k3):=z;show XY (FI k2 ?_);show Yg (k h' tk acc k1 k3)
 .let⟨h',tk,acc,c',e,_⟩:=z;cases e
def Yz3{r:Addr}{a b c:Int}{t u v:Tok}{n:Nat}(hm:Builtin.Range.small a b c=true)(hn:Builtin.Range.rangeSize a b c=n)(hl:n<=2^24):
  Meets (Builtin.«tuple.__new__» {[.type "tuple",.ref r],[]}) (λA R s=>A.handled=none/\IsRange s.m r a b c t u v/\∀(h':Heap)(tk:Nat)(acc:Array Value),(∀b o,s.m.D b=some o->h'.D b=some o)->ItemsOf (λi v=>∃t,v=.int (a+i*c) t) acc n->
   R (.ok<|.ret<|.ref h'.objs.t) {s with heap:=h'.push<|seqObj "tuple" acc 0,toks:=tk}):=
 .of_wp λprog w A R s h=>by
  let(hh,hr,h):=h;let e1:=sub_tuple_self
  let e2:=init_tuple_lookup;let e3:=madeHere_tuple
  let hT:s.TypeIs ↑r "range":={_,hr,Z};let DU:A.in1.handled=none:=hh
  wp_walk using yG hT,ZW5 DU hr hm hn hl
  intro h' tk acc hk Ur;change wpAny _ _ (Builtin.Tuple.tupleExact acc.C.o >>= ret) _ _ _
  unfold Builtin.Tuple.tupleExact;let e:acc.C.o=acc:=AP
  rw[e];show XY (Qg ?_<|by change acc.t<=sizeLine;rwa[Ur.1,TF]);show Yg {_,Z,h h' tk acc hk Ur}
def Zu2{r:Addr}{a b c:Int}{t u v:Tok}{n:Nat}{Q:Ae}(hh:A.handled=none)(hr:IsRange s.m r a b c t u v)(hm:Builtin.Range.small a b c=true)(hn:Builtin.Range.rangeSize a b c=n)(hl:n<=2^24)
  (k:∀(h':Heap)(tk:Nat)(acc:Array Value),(∀b o,s.m.D b=some o->h'.D b=some o)->ItemsOf (λi v=>∃t,v=.int (a+i*c) t) acc n->Q (.ref h'.objs.t) {s with heap:=h'.push<|seqObj "tuple" acc 0,toks:=tk}):wpAny (model prog w) A (call (.type "tuple") [.ref r]) Q E s:=
 callType_new F.called_tuple vg (F.typeCall_tuple_1 _) (F.newCall_tuple_1 _) (λo=>F.args_object_init_2 o _) F.entry_tuple_new (Yz3 (t:=t) (u:=u) (v:=v) hm hn hl)
  {hh,hr,λh' tk acc hk Ur=>{{_,Yi _ Z,Z},k h' tk acc hk Ur}}
end
section
variable{X:Cx}
def qK(hc:X.calm=true):Vf X (.type "tuple") (λxs H Q=>∃p lo hi,xs=[.ref p]/\H p=some (.rng lo hi)/\(-(2^62)<=lo/\lo<2^62/\-(2^62)<=hi/\hi<2^62)/\(hi-lo).j<=16777216/\
  ∀l,H l=none->Q ↑l (upd H l<|.tup<|(VX lo hi).H V.int)):=by
 intro pins s σ H xs us Q I r h;let(p,lo,hi,rfl,hp,(b1,b2,b3,b4),hz,q):=h;let(u,rfl,ru):=Ut r;let rfl:u=Value.ref p:=ru;let(t,u,v,e):=(show ObjOk X.prog X.w H s.m p (.rng lo hi) from I.hok p _ hp);let hn:Builtin.Range.rangeSize lo hi 1=(((hi-lo).j:Nat):Int):=by rw[rangeSize_one];split<;>grind
 show Zu2 (I.ok.hd hc) (t:=t) (u:=u) (v:=v) e (small_one b1 b2 b3 b4) hn hz λh' tk acc hk ha=>?_;let hl:acc.C.f=(hi-lo).j:=by rw[YA];show ha.1
 let rv:Vals ((VX lo hi).H V.int) acc.C:=En (lo:=lo) hl λj w ew=>by let(t,e):=ha.2 j w (by simpa using ew);exists t,by rw[e,Nx]
 let I1:Inv X pins σ H {s with heap:=h',toks:=tk}:=I.kept (t':=tk) hk;let SD:((VX lo hi).H V.int).f<=sizeLine:=by
  rw[Xy,fE]
  have:sizeLine=16777216:=TF
  lia
 let I2:Inv X pins σ (upd H h'.objs.t<|.tup<|(VX lo hi).H V.int) {s with heap:=h'.push<|seqObj "tuple" acc.C.o 0,toks:=tk}:=
  I1.laid (t':=tk) (λb o e=>Xo _ e) (XQ _) (show ObjOk X.prog X.w _ _ _ (.tup<|(VX lo hi).H V.int) from{SD,acc.C,rv,IsTup.new _ _})
 let ea:acc.C.o=acc:=AP;rw[ea]at I2;exists .ref h'.objs.t,_,I2,Z,q _<|I1.hok.fresh<|XQ _
end
end L2
namespace My
open PySem L2
def QY(n:Nat)(ps:Aa)(G:Ac)(z:Int):(Ac):=if mk (WK n<|XR ps G) (Zx ps z).1=mk (WK n<|XR ps G) (Zx ps z).2 then G else G++[z]
def WY(n:Nat)(ps:Aa)(zs:Ac):(Ac):=zs.foldl (QY n ps) []
def ME(n:Nat)(ps:Aa)(zs:Ac)(z:Int):WY n ps (zs++[z])=QY n ps (WY n ps zs) z:=by unfold WY;rw[Qe];rfl
def MD(n:Nat)(ps:Aa)(zs:Ac):∀ys,∃us,WY n ps (zs++ys)=WY n ps zs++us/\us.Sublist ys:=by
 show Uh {[],AP} λys y ih=>?_;let(us,e,s):=ih;rw[<-QF,ME,e];unfold QY;split
 .exists us,Z,s.l<|List.sublist_append_left _ _
 .exists us++[y],by rw[QF],s.append<|List.Sublist.refl _
def xS(n:Nat)(ps:Aa)(zs:Ac):(WY n ps zs).Sublist zs:=by let(us,e,s):=MD n ps [] zs;rw[Ks]at e;rwa[e]
def eK(n:Nat)(ps:Aa):∀k,WY n ps ((List.range k).H λ(i:Nat)=>(i:Int))=WC n ps k
 |0=>rfl
 |k+1=>by rw[Kt,YD,Ge,ME,eK n ps k,Ha];rfl
def eJ(h:∀z∈zs,0<=z/\z<ps⁻¹):∀z∈WY n ps zs,0<=z/\z<ps⁻¹:=λz hz=>h z ((xS n ps zs).subset hz)
def GX(g:Zv n ps)(h:∀z∈zs,0<=z/\z<ps⁻¹):InN n.j (XR ps (WY n.j ps zs)):=ZQ g (eJ h)
def xR(g:Zv n ps):∀zs:Ac,(∀z∈zs,0<=z/\z<ps⁻¹)->cnt (WK n.j (XR ps (WY n.j ps zs)))+(WY n.j ps zs).f=n.j:=by
 show Uh (λ_=>Jt n.j) λzs z ih h=>?_;let h1:∀z∈zs,0<=z/\z<ps⁻¹:=λy hy=>h y (Yn _ hy)
 let ih:=ih h1;let(z0,z1):=h z (Yh _<|XD.L Z);let he:=Tx (z:=z) g z0 z1
 let hl:=ZG n.j (XR ps<|WY n.j ps zs);rw[ME];unfold QY;split
 .show ih
 .rename_i h;rw[Tf,MS,Xm,YQ]
  have:=MK (m:=WK n.j<|XR ps<|WY n.j ps zs) J J h
  lia
def eF(g:Zv n ps)(h:∀z∈zs,0<=z/\z<ps⁻¹):(WY n.j ps zs).f<=14:=by
 have:=xR g zs h
 have:=g.2.1
 lia
def qJ(g:Zv n ps):∀zs:Ac,(∀z∈zs,0<=z/\z<ps⁻¹)->∀{i j:Nat},Conn (XR ps zs) i j->Conn (XR ps (WY n.j ps zs)) i j:=by
 show Uh (λ_ _ _ c=>c) λzs z IH h i j c=>?_;let h1:∀z∈zs,0<=z/\z<ps⁻¹:=λy hy=>h y (Yn _ hy)
 let(z0,z1):=h z (Yh _<|XD.L Z);let he:=Tx (z:=z) g z0 z1
 let up:∀{a b:Nat},Conn (XR ps<|WY n.j ps zs) a b->Conn (XR ps<|WY n.j ps<|zs++[z]) a b:=λc=>by
  rw[ME];unfold QY;split
  .show c
  .show c.mono (ZA λy hy=>Yn _ hy)
 let own:Conn (XR ps<|WY n.j ps<|zs++[z]) (Zx ps z).1 (Zx ps z).2:=by
  rw[ME];unfold QY;split
  .rename_i e;show(ZS (GX g h1) he.1 he.2).G e
  .rw[Tf];show .edge (Yh _<|XD.L Z)
 induction c with
 |refl i=>show .refl i
 |symm _ ih=>show .symm ih
 |trans _ _ i1 i2=>show .trans i1 i2
 |@edge a b e=>
  rw[Tf]at e;rcases Yb.G e with e|e
  .show up (IH h1<|.edge e)
  .let e:=XD.G e;let ea:a=(Zx ps z).1:=YZ Prod.fst e
   let eb:b=(Zx ps z).2:=YZ Prod.snd e;rwa[ea,eb]
def Zk7(g:Zv n ps):Jp n ps↔¬((WC n.j ps ps.f).f:Int)<n-1:=by
 constructor
 .intro h;let hc:∀i j,i<n.j->j<n.j->Conn (XR ps<|WC n.j ps ps.f) i j:=λi j hi hj=>eR g (λz hz=>Xr.G hz) (h i j hi hj)
  let h1:=(UO (by have:=g.1;lia)<|xT g<|XQ _).L hc;let h2:=MF g ps.f (XQ _)
  have:=g.1
  lia
 .intro h i j hi hj;show((eO g h).2.2 i j hi hj).mono (ZA λz hz=>Xr.L (by have:=GZ ps.f z hz;lia))
end My
namespace PyProof.Rows
open PySem
def Tc(M:Model)(A:Around)(E:Ae)(s:Shared)(O:KeyOrd)(key:Keyed->O.α)(kd:SortKind)(S:Keyed->Prop):(Prop):=
 ∀x y st Q,S x->S y->kindOf st=kd->Q (some<|O.blt (key x)<|key y) st->wpS M A E s (lt' x y) Q st
abbrev dK:Keyed:=(Value.none,Value.none)
section
variable{M:Model}{A:Around}{E:Ae}{s:Shared}{O:KeyOrd}{key:Keyed->O.α}{kd:SortKind}{S:Keyed->Prop}
def ke(key:Keyed->O.α)(arr:Array Keyed)(i:Nat):(O.α):=key (arr.E i dK)
def MC{p:Keyed}(h:arr[i]?=some p):ke key arr i=key p:=by unfold ke;rw[Yv,h];rfl
def DT{p:Keyed}{Q:Keyed->SortSt->Prop}{st:SortSt}(h:arr[i]?=some p)(q:Q p st):wpS M A E s (elem' arr i) Q st:=by rw[elem'_eq,h];show WO q
def RK(O:KeyOrd)(key:Keyed->O.α)(x y:Keyed):(Prop):=O.kle (key x) (key y)
abbrev LoS:=Option (Array Keyed)×Array Keyed×Nat×Nat×Nat×Nat×Nat
abbrev HiS:=Option (Array Keyed)×Nat×Nat×Array Keyed×Nat×Nat×Nat
def Stp(lo:Nat)(st XF:SortSt):(Prop):=kindOf XF=kindOf st/\failedOf XF=failedOf st/\pendingOf XF=pendingOf st/\(arrOf XF).Perm (arrOf st)/\∀i,i<lo->(arrOf XF)[i]?=(arrOf st)[i]?
def Stp.refl(lo:Nat)(st:SortSt):Stp lo st st:={Z,Z,Z,FY _,λ_ _=>rfl}
def Stp.trans{lo:Nat}{a b c:SortSt}(h:Stp lo a b)(k:Stp lo b c):Stp lo a c:={k.1.l h.1,k.2.1.l h.2.1,k.2.2.1.l h.2.2.1,k.2.2.2.1.l h.2.2.2.1,λi hi=>(k.2.2.2.2 i hi).l (h.2.2.2.2 i hi)}
def Stp.size{lo:Nat}{a b:SortSt}(h:Stp lo a b):(arrOf b).t=(arrOf a).t:=h.2.2.2.1.size_eq
def Stp.all{lo:Nat}{a b:SortSt}(h:Stp lo a b)(hS:∀x∈(arrOf a).C,S x):∀x∈(arrOf b).C,S x:=λx hx=>hS x ((Ku.G h.2.2.2.1).mem_iff.G hx)
def Stp.mirror{lo i j:Nat}{st:SortSt}(hi:lo<=i)(hj:j<=(arrOf st).t):Stp lo st (setArr st (PyProof.Rows.mirror (arrOf st) i j ((j-i)/2))):=
 {Z,Z,Z,mirror_perm _ _ _ _,λk hk=>by change(PyProof.Rows.mirror (arrOf st) i j<|(j-i)/2)[k]?=_;rw[Kg hj,if_neg J]}
def Stp.bubble{lo src d:Nat}{st:SortSt}(hs:src<(arrOf st).t)(hd:d<=src)(RT:lo<=src-d):Stp lo st (setArr st (PyProof.Rows.bubble (arrOf st) src d)):=
 {Z,Z,Z,bubble_perm _ _ _,λk hk=>by change(PyProof.Rows.bubble (arrOf st) src d)[k]?=_;rw[getElem?_bubble hs d hd,if_neg J,if_neg J]}
def DS(h:xs[i]?=ys[j]?):ke key xs i=ke key ys j:=by unfold ke;rw[Yv,Yv,h]
def ZZ(hj:j<=xs.t)(k:Nat):ke key (mirror xs i j ((j-i)/2)) k=if i<=k/\k<j then ke key xs (i+j-1-k) else ke key xs k:=by
 let e:=Kg (i:=i) hj k;split
 .rename_i h;rw[if_pos h]at e;show DS e
 .rename_i h;rw[if_neg h]at e;show DS e
def eE(hs:src<xs.t)(hd:d<=src)(k:Nat):ke key (bubble xs src d) k=if k=src-d then ke key xs src else if src-d<k/\k<=src then ke key xs (k-1) else ke key xs k:=by
 let e:=getElem?_bubble hs d hd k;split
 .rename_i h;rw[if_pos h]at e;show DS e
 .rename_i h;rw[if_neg h]at e;split
  .rename_i h;rw[if_pos h]at e;show DS e
  .rename_i h;rw[if_neg h]at e;show DS e
def DR(L:Tc M A E s O key kd S){st:SortSt}{Q:Option Bool->SortSt->Prop}(hk:kindOf st=kd)(hS:∀x∈(arrOf st).C,S x)(hi:i<(arrOf st).t)(hj:j<(arrOf st).t)
  (h:Q (some<|O.blt (ke key (arrOf st) i)<|ke key (arrOf st) j) st):wpS M A E s (ltAt' i j) Q st:=by
 let e1:=getElem?_pos (arrOf st) i hi;let e2:=getElem?_pos (arrOf st) j hj
 rw[MC e1,MC e2]at h;rw[ltAt'_eq];show WG (wpS_get ?_);show WG (DT e1<|WG<|DT e2 ?_);show L _ _ _ _ (hS _ AP) (hS _ AP) hk h
def Lf{st:SortSt}{Q:Unit->SortSt->Prop}(h:Q () (setArr st (mirror (arrOf st) i j ((j-i)/2)))):wpS M A E s (reverseSlice' i j) Q st:=by rw[reverseSlice'_eq];show wpS_modify h
def UM(O:KeyOrd)(key:Keyed->O.α)(arr:Array Keyed)(lo k:Nat):(Prop):=∀i j,i<=j->j<k->O.kle (ke key arr<|lo+i) (ke key arr<|lo+j)
def Vm(O:KeyOrd)(key:Keyed->O.α)(arr:Array Keyed)(lo k:Nat):(Prop):=∀i j,i<=j->j<k->O.kle (ke key arr<|lo+j) (ke key arr<|lo+i)
def DQ(lo a WU:Nat):(StateT SortSt Sem (Option (Option Nat)×Nat)):=forIn [a:WU] ((none,a):Option (Option Nat)×Nat) λ_ r=>do
 let x <-ltAt' (lo+r.2) (lo+r.2-1)
 match x with
 |some b=>if b=true then pure (.done (none,r.2)) else pure (.yield (none,r.2+1))
 |_=>pure (.done (some none,r.2))
def DP(L:Tc M A E s O key kd S){st:SortSt}{lo a WU:Nat}{Q:Option (Option Nat)×Nat->SortSt->Prop}(hk:kindOf st=kd)(hS:∀x∈(arrOf st).C,S x)(hn:lo+WU<=(arrOf st).t)(ha:1<=a)(han:a<=WU)(hs:UM O key (arrOf st) lo a)
  (h:∀n,a<=n->n<=WU->UM O key (arrOf st) lo n->(n=WU\/O.klt (ke key (arrOf st)<|lo+n) (ke key (arrOf st)<|lo+n-1))->Q (none,n) st):wpS M A E s (DQ lo a WU) Q st:=by
 unfold DQ;show Rj (I:=λx c XF=>XF=st/\c=(none,x)/\UM O key (arrOf st) lo x) ?_ ?_ ⟨Z,Z,hs⟩
 .rintro x c XF qI hxn ⟨rfl,rfl,Wb⟩;show WG (DR L hk hS J J ?_);dsimp only;cases e:O.blt (ke key (arrOf XF)<|lo+x) (ke key (arrOf XF)<|lo+x-1) with
  |true=>
   rw[if_pos Z];show WO (h x qI J Wb<|.inr e)
  |false=>
   rw[if_neg AP];show WO {Z,Z,λi j WI hj=>?_};cases DO:j<x
   .show Wb i j WI DO
   .let UC:j=x:=J;subst UC;cases Ui:i=j
    .subst Ui;show NF _
    .have:=Wb i (j-1) J J
     rw[show lo+(j-1)=lo+j-1 by lia]at this;show yK this e
 .rintro c XF ⟨rfl,rfl,Wb⟩;rw[show max a WU=WU by lia]at Wb ⊢;show h WU han (XQ _) Wb (.inl Z)
def DN(lo n WU:Nat):(StateT SortSt Sem (Option (Option Nat)×Nat×Nat)):=forIn [n:WU] ((none,n,0):Option (Option Nat)×Nat×Nat) λ_ r=>do
 let x <-ltAt' (lo+r.2.1) (lo+r.2.1-1)
 match x with
 |some b=>
  if b=true then
   if r.2.2>0 then do
    reverseSlice' (lo+r.2.1-(r.2.2+1)) (lo+r.2.1)
    pure (.yield (none,r.2.1+1,0))
   else pure (.yield (none,r.2.1+1,0))
  else do
   let y <-ltAt' (lo+r.2.1-1) (lo+r.2.1)
   match y with
   |some c=>if c=true then pure (.done (none,r.2.1,r.2.2)) else pure (.yield (none,r.2.1+1,r.2.2+1))
   |_=>pure (.done (some none,r.2.1,r.2.2))
 |_=>pure (.done (some none,r.2.1,r.2.2))
def ZC(hj:j<=xs.t)(he:∀k,i<=k->k<j->ke key xs k=ke key xs (j-1))(k:Nat):ke key (mirror xs i j ((j-i)/2)) k=ke key xs k:=by
 rw[ZZ hj];split
 .rw[he _ B B,he k J J]
 .rfl
def eD(L:Tc M A E s O key kd S){st:SortSt}{lo n WU:Nat}{Q:Option (Option Nat)×Nat×Nat->SortSt->Prop}(hk:kindOf st=kd)(hS:∀x∈(arrOf st).C,S x)(hn:lo+WU<=(arrOf st).t)(h1:1<=n)(hnn:n<=WU)(hs:Vm O key (arrOf st) lo n)
  (h:∀m VN XF,Stp lo st XF->n<=m->m<=WU->Vm O key (arrOf XF) lo m->VN+1<=m->(∀i,lo+m-(VN+1)<=i->i<lo+m->ke key (arrOf XF) i=ke key (arrOf XF) (lo+m-1))->Q (none,m,VN) XF):wpS M A E s (DN lo n WU) Q st:=by
 unfold DN;show Rj (I:=λx c XF=>∃VN,c=(none,x,VN)/\Stp lo st XF/\Vm O key (arrOf XF) lo x/\VN+1<=x/\(∀i,lo+x-(VN+1)<=i->i<lo+x->ke key (arrOf XF) i=ke key (arrOf XF) (lo+x-1))) ?_ ?_ {0,Z,Stp.refl _ _,hs,J,λi h1 h2=>by congr 1;lia}
 .rintro x c XF qI hxn ⟨VN,rfl,Wl,Wb,hq,he⟩;let VD:=Wl.1.l hk
  let Tb:=Wl.all hS;let hz:=Wl.t
  dsimp only;show WG (DR L VD Tb J J ?_);dsimp only;cases e:O.blt (ke key (arrOf XF)<|lo+x) (ke key (arrOf XF)<|lo+x-1) with
  |true=>
   rw[if_pos Z];let non:∀ar,(∀k,k<=lo+x->ke key ar k=ke key (arrOf XF) k)->Vm O key ar lo (x+1):=λar eC i j WI hj=>by
    rw[eC _ J,eC _ J];cases DO:j<x
    .show Wb i j WI DO
    .let UC:j=x:=J;subst UC;cases Ui:i=j
     .subst Ui;show NF _
     .have:=Wb i (j-1) J J
      rw[show lo+(j-1)=lo+j-1 by lia]at this;show yK (yV e) this
   cases c:VN>0
   .rw[if_pos c];show WG (Lf<|WO ⟨0,Z,Wl.l<|Stp.mirror J J,?_,J,λi h1 h2=>by congr 1;lia⟩);show non _ λk hk=>ZC J he k
   .rw[if_neg c];show WO {0,Z,Wl,non _ λ_ _=>rfl,B,λi h1 h2=>by congr 1;omega}
  |false=>
   rw[if_neg AP];show WG (DR L VD Tb B B ?_);dsimp only;cases e2:O.blt (ke key (arrOf XF)<|lo+x-1) (ke key (arrOf XF)<|lo+x) with
   |true=>
    rw[if_pos Z];show WO (h x VN XF Wl qI J Wb hq he)
   |false=>
    rw[if_neg AP];let eq:ke key (arrOf XF) (lo+x-1)=ke key (arrOf XF) (lo+x):=O.total _ _ e2 e
    show WO {VN+1,Z,Wl,λi j WI hj=>?_,J,λi h1 h2=>?_}
    .cases DO:j<x
     .show Wb i j WI DO
     .let UC:j=x:=B;subst UC;cases Ui:i=j
      .subst Ui;show NF _
      .have:=Wb i (j-1) B B
       rwa[show lo+(j-1)=lo+j-1 by omega,eq]at this
    .rw[show lo+(x+1)-1=lo+x by lia,<-eq];cases hi:i<lo+x
     .show he i J hi
     .rw[show i=lo+x by lia,eq]
 .rintro c XF ⟨VN,rfl,Wl,Wb,hq,he⟩;rw[show max n WU=WU by lia]at *;show h WU VN XF Wl hnn (XQ _) Wb hq he
def qH(L:Tc M A E s O key kd S){st:SortSt}{lo WU:Nat}{Q:Option Nat->SortSt->Prop}(hk:kindOf st=kd)(hS:∀x∈(arrOf st).C,S x)(hn:lo+WU<=(arrOf st).t)(h1:1<=WU)
  (h:∀m XF,Stp lo st XF->1<=m->m<=WU->UM O key (arrOf XF) lo m->Q (some m) XF):wpS M A E s (countRun' lo WU) Q st:=by
 rw[countRun'_eq];let one:UM O key (arrOf st) lo 1:=λi j WI hj=>by
  have:i=j:=J
  subst this;show NF _
 show WG (DP L hk hS hn (XQ _) h1 one λn GW PN hs hx=>?_);dsimp only;cases c1:n=WU
 .rw[if_pos (by simpa using c1)];show WO (h n st (Stp.refl _ _) GW PN hs)
 rw[if_neg (by simpa using c1)];let Xt:O.klt (ke key (arrOf st)<|lo+n) (ke key (arrOf st)<|lo+n-1):=hx.resolve_left c1
 cases c2:n>1
 .rw[if_pos c2];show WG (DR L hk hS J J ?_);dsimp only;cases e:O.blt (ke key (arrOf st) lo) (ke key (arrOf st)<|lo+n-1) with
  |true=>
   rw[if_pos Z];show WO (h n st (Stp.refl _ _) GW PN hs)
  |false=>
   rw[if_neg AP];show WG (Lf ?_);let t1:Stp lo st (setArr st<|mirror (arrOf st) lo (lo+n)<|(lo+n-lo)/2):=Stp.mirror (XQ _) J
   let eqs:∀k,lo<=k->k<lo+n->ke key (arrOf st) k=ke key (arrOf st) (lo+n-1):=λk k1 k2=>by
    let a1:=hs (k-lo) (n-1) vk J;let a2:=hs 0 (k-lo) J vk
    rw[show lo+(k-lo)=k by grind,show lo+(n-1)=lo+n-1 by lia]at a1;rw[show lo+(k-lo)=k by omega,Nat.add_zero]at a2;show KeyOrd.kle_antisymm a1 (yK e a2)
   let Sj:Vm O key (mirror (arrOf st) lo (lo+n)<|(lo+n-lo)/2) lo (n+1):=λi j WI hj=>by
    rw[ZC J eqs,ZC B eqs];cases hjn:j<n
    .rw[eqs (lo+i) J J,eqs (lo+j) J J];show NF _
    .let UC:j=n:=J;subst UC;cases Ui:i=j
     .subst Ui;show NF _
     .rw[eqs (lo+i) J J];show yV Xt
   obtain⟨Rb,e1⟩:∃Rb,Rb=setArr st (mirror (arrOf st) lo (lo+n)<|(lo+n-lo)/2):={_,Z};let Sj:Vm O key (arrOf Rb) lo (n+1):=by rwa[e1]
   rw[<-e1]at t1 ⊢;show WG (wpS_lift<|Uz ⟨Z,?_⟩);show WG (eD L (t1.1.l hk) (t1.all hS) (by have:=t1.t;lia) J J Sj λm VN VI qG RM Wf Pp qF heq=>?_);dsimp only;let t2:=t1.l qG
   cases c3:VN>0
   .rw[if_pos c3];show WG (Lf ?_);let t3:Stp lo st (setArr VI<|mirror (arrOf VI) (lo+m-(VN+1)) (lo+m)<|(lo+m-(lo+m-(VN+1)))/2):=t2.l (Stp.mirror J (by have:=t2.t;lia))
    let VC:Vm O key (mirror (arrOf VI) (lo+m-(VN+1)) (lo+m)<|(lo+m-(lo+m-(VN+1)))/2) lo m:=λi j WI hj=>by rw[ZC (by have:=t2.t;lia) heq,ZC (by have:=t2.t;omega) heq];show Pp i j WI hj
    obtain⟨Wk,e3⟩:∃Wk,Wk=setArr VI (mirror (arrOf VI) (lo+m-(VN+1)) (lo+m)<|(lo+m-(lo+m-(VN+1)))/2):={_,Z};let VC:Vm O key (arrOf Wk) lo m:=by rwa[e3]
    rw[<-e3]at t3 ⊢;show WG (Lf ?_);let t4:Stp lo st (setArr Wk<|mirror (arrOf Wk) lo (lo+m)<|(lo+m-lo)/2):=t3.l (Stp.mirror (XQ _) (by have:=t3.t;lia))
    show WG (DP L (t4.1.l hk) (t4.all hS) (by have:=t4.t;lia) J Wf ?_ λq qE Vd Po _=>?_)
    .intro i j WI hj;change O.kle (ke key (mirror (arrOf Wk) lo (lo+m)<|(lo+m-lo)/2)<|lo+i) (ke key (mirror (arrOf Wk) lo (lo+m)<|(lo+m-lo)/2)<|lo+j)
     rw[ZZ (by have:=t3.t;lia),ZZ (by have:=t3.t;omega),if_pos J,if_pos J,show lo+(lo+m)-1-(lo+i)=lo+(m-1-i) by lia,show lo+(lo+m)-1-(lo+j)=lo+(m-1-j) by lia];show VC _ _ vk vk
    .show WO (h q _ t4 J Vd Po)
   .rw[if_neg c3];let t3:=t2
    let VC:=Pp;obtain⟨Wk,e3⟩:∃Wk,Wk=VI:={_,Z};rw[<-e3]at t3 VC ⊢;show WG (Lf ?_);let t4:Stp lo st (setArr Wk<|mirror (arrOf Wk) lo (lo+m)<|(lo+m-lo)/2):=t3.l (Stp.mirror (XQ _) (by have:=t3.t;omega))
    show WG (DP L (t4.1.l hk) (t4.all hS) (by have:=t4.t;omega) J Wf ?_ λq qE Vd Po _=>?_)
    .intro i j WI hj;change O.kle (ke key (mirror (arrOf Wk) lo (lo+m)<|(lo+m-lo)/2)<|lo+i) (ke key (mirror (arrOf Wk) lo (lo+m)<|(lo+m-lo)/2)<|lo+j)
     rw[ZZ (by have:=t3.t;omega),ZZ (by have:=t3.t;omega),if_pos B,if_pos B,show lo+(lo+m)-1-(lo+i)=lo+(m-1-i) by omega,show lo+(lo+m)-1-(lo+j)=lo+(m-1-j) by omega];show VC _ _ B B
    .show WO (h q _ t4 J Vd Po)
 .rw[if_neg c2];let t1:=Stp.refl lo st
  let Sj:Vm O key (arrOf st) lo (n+1):=λi j WI hj=>by
   cases Ui:i=j
   .subst Ui;show NF _
   .let h3:i=0:=J;let h4:j=n:=J
    subst h3 h4;rw[show lo+0=lo+j-1 by lia];show yV Xt
  obtain⟨Rb,e1⟩:∃Rb,Rb=st:={_,Z};let Sj:Vm O key (arrOf Rb) lo (n+1):=by rwa[e1]
  let t1:Stp lo st Rb:=by rwa[e1]
  rw[<-e1];show WG (wpS_lift<|Uz ⟨Z,?_⟩);show WG (eD L (t1.1.l hk) (t1.all hS) (by have:=t1.t;omega) J J Sj λm VN VI qG RM Wf Pp qF heq=>?_);dsimp only;let t2:=t1.l qG
  cases c3:VN>0
  .rw[if_pos c3];show WG (Lf ?_);let t3:Stp lo st (setArr VI<|mirror (arrOf VI) (lo+m-(VN+1)) (lo+m)<|(lo+m-(lo+m-(VN+1)))/2):=t2.l (Stp.mirror B (by have:=t2.t;omega))
   let VC:Vm O key (mirror (arrOf VI) (lo+m-(VN+1)) (lo+m)<|(lo+m-(lo+m-(VN+1)))/2) lo m:=λi j WI hj=>by rw[ZC (by have:=t2.t;omega) heq,ZC (by have:=t2.t;omega) heq];show Pp i j WI hj
   obtain⟨Wk,e3⟩:∃Wk,Wk=setArr VI (mirror (arrOf VI) (lo+m-(VN+1)) (lo+m)<|(lo+m-(lo+m-(VN+1)))/2):={_,Z};let VC:Vm O key (arrOf Wk) lo m:=by rwa[e3]
   rw[<-e3]at t3 ⊢;show WG (Lf ?_);let t4:Stp lo st (setArr Wk<|mirror (arrOf Wk) lo (lo+m)<|(lo+m-lo)/2):=t3.l (Stp.mirror (XQ _) (by have:=t3.t;omega))
   show WG (DP L (t4.1.l hk) (t4.all hS) (by have:=t4.t;omega) J Wf ?_ λq qE Vd Po _=>?_)
   .intro i j WI hj;change O.kle (ke key (mirror (arrOf Wk) lo (lo+m)<|(lo+m-lo)/2)<|lo+i) (ke key (mirror (arrOf Wk) lo (lo+m)<|(lo+m-lo)/2)<|lo+j)
    rw[ZZ (by have:=t3.t;omega),ZZ (by have:=t3.t;omega),if_pos B,if_pos B,show lo+(lo+m)-1-(lo+i)=lo+(m-1-i) by omega,show lo+(lo+m)-1-(lo+j)=lo+(m-1-j) by omega];show VC _ _ B B
   .show WO (h q _ t4 B Vd Po)
  .rw[if_neg c3];let t3:=t2
   let VC:=Pp;obtain⟨Wk,e3⟩:∃Wk,Wk=VI:={_,Z};rw[<-e3]at t3 VC ⊢;show WG (Lf ?_);let t4:Stp lo st (setArr Wk<|mirror (arrOf Wk) lo (lo+m)<|(lo+m-lo)/2):=t3.l (Stp.mirror (XQ _) (by have:=t3.t;omega))
   show WG (DP L (t4.1.l hk) (t4.all hS) (by have:=t4.t;omega) B Wf ?_ λq qE Vd Po _=>?_)
   .intro i j WI hj;change O.kle (ke key (mirror (arrOf Wk) lo (lo+m)<|(lo+m-lo)/2)<|lo+i) (ke key (mirror (arrOf Wk) lo (lo+m)<|(lo+m-lo)/2)<|lo+j)
    rw[ZZ (by have:=t3.t;omega),ZZ (by have:=t3.t;omega),if_pos B,if_pos B,show lo+(lo+m)-1-(lo+i)=lo+(m-1-i) by omega,show lo+(lo+m)-1-(lo+j)=lo+(m-1-j) by omega];show VC _ _ B B
   .show WO (h q _ t4 B Vd Po)
def ZC5(L:Tc M A E s O key kd S){st:SortSt}{lo n ok:Nat}{Q:Bool->SortSt->Prop}(hk:kindOf st=kd)(hS:∀x∈(arrOf st).C,S x)(hn:lo+n<=(arrOf st).t)(hok:ok<=n)(hs:UM O key (arrOf st) lo ok)
  (h:∀XF,Stp lo st XF->UM O key (arrOf XF) lo n->Q true XF):wpS M A E s (binarySort' lo n ok) Q st:=by
 rw[binarySort'_eq];show WG (wpS_mono (Rj (I:=λk c XF=>c=(none,())/\Stp lo st XF/\UM O key (arrOf XF) lo (min k n))
  (Q:=λc XF=>c=(none,())/\Stp lo st XF/\UM O key (arrOf XF) lo n) ?_ ?_ ?_) ?_)
 .rintro k c XF Pn eA ⟨rfl,Wl,Wb⟩;rw[show min k n=k by lia]at Wb;let hz:=Wl.t
  let VD:=Wl.1.l hk;let Tb:=Wl.all hS
  show WG (wpS_mono (Rj (I:=λx c UL=>UL=XF/\∃l r,c=(none,l,r)/\l<=r/\r<=k/\r-l<=k-x/\
    (∀i,i<l->O.kle (ke key (arrOf XF)<|lo+i) (ke key (arrOf XF)<|lo+k))/\(∀i,r<=i->i<k->O.klt (ke key (arrOf XF)<|lo+k) (ke key (arrOf XF)<|lo+i)))
   (Q:=λc UL=>UL=XF/\∃l r,c=(none,l,r)/\l<=k/\
    (∀i,i<l->O.kle (ke key (arrOf XF)<|lo+i) (ke key (arrOf XF)<|lo+k))/\(∀i,l<=i->i<k->O.klt (ke key (arrOf XF)<|lo+k) (ke key (arrOf XF)<|lo+i))) ?_ ?_ {Z,0,k,Z,J,J,J,λi hi=>J,λi h1 h2=>J}) ?_)
  .rintro x c UL _ hxk ⟨rfl,l,r,rfl,hlr,Ta,hm,RT,Le⟩;dsimp only;cases Si:l >= r
   .rw[if_pos Si]
    have:l=r:=J
    subst this;show WO ⟨Z,l,l,Z,Ta,RT,Le⟩
   .rw[if_neg Si];show WG (DR L VD Tb J J ?_);dsimp only;cases Ld:O.blt (ke key (arrOf UL)<|lo+k) (ke key (arrOf UL)<|lo+(l+r)/2) with
    |true=>
     rw[if_pos Z];show WO {Z,l,(l+r)/2,Z,J,J,vk,RT,λi h1 h2=>?_};show KeyOrd.klt_of_klt_of_kle Ld (Wb _ _ h1 h2)
    |false=>
     rw[if_neg AP];show WO {Z,(l+r)/2+1,r,Z,J,J,vk,λi h1=>?_,Le};show yK (Wb i ((l+r)/2) J J) (show O.kle _ _ from Ld)
  .rintro c UL ⟨rfl,l,r,rfl,hlr,Ta,hm,RT,Le⟩
   have:l=r:=vk
   subst this;exists Z,l,l,Z,Ta,RT,Le
  .rintro c UL ⟨rfl,l,r,rfl,hlk,RT,Le⟩;dsimp only;rw[moveDown'_eq];show WG (wpS_modify<|WO ⟨Z,Wl.l<|Stp.bubble J vk J,?_⟩);rw[show min (k+1) n=k+1 by lia];let ef:lo+k<(arrOf UL).t:=B
   intro i j WI hj;change O.kle (ke key (bubble (arrOf UL) (lo+k)<|lo+k-(lo+l))<|lo+i) (ke key (bubble (arrOf UL) (lo+k)<|lo+k-(lo+l))<|lo+j)
   rw[eE ef vk,eE ef B,show lo+k-(lo+k-(lo+l))=lo+l by grind];let DM:∀i,l<i->lo+i-1=lo+(i-1):=λi hi=>J
   repeat' split
   all_goals first
    | (exfalso;omega)
    |show NF _
    |show RT _ B
    |show Wb _ _ B B
    | (rw[DM j vk];show yV<|Le _ J J)
    | (rw[DM j B];show Wb _ _ B B)
    | (rw[DM i vk,DM j vk];show Wb _ _ J J)
    | (rw[DM i B];show Wb _ _ B B)
 .rintro c XF ⟨hc,Wl,Wb⟩;exists hc,Wl,?_
  rwa[show min (max (max ok 1) n) n=n by lia]at Wb
 .exists Z,Stp.refl _ _,λi j WI hj=>?_;cases h1:ok=0
  .have:i=j:=J
   subst this;show NF _
  .show hs i j WI J
 .rintro c XF ⟨rfl,Wl,Wb⟩;show WO (h XF Wl Wb)
def UK:(List (List Keyed)->Nat->List (Nat×Nat))
 |[],_=>[]
 |g::gs,o=>(o,g.f)::UK gs (o+g.f)
def Jo:∀a b o,UK (a++b) o=UK a o++UK b (o+a.flatten.f)
 |[],b,o=>by simp[UK]
 |g::gs,b,o=>by simp[UK,Jo gs b,Nat.add_assoc]
def d9:∀a o,(UK a o).f=a.f
 |[],o=>rfl
 |g::gs,o=>by simp[UK,d9 gs]
structure PI(O:KeyOrd)(key:Keyed->O.α)(kd:SortKind)(a₀:Array Keyed)(st:SortSt)(Xx:List (List Keyed))(rest:List Keyed):Prop where
 kind:kindOf st=kd
 fail:failedOf st=none
 perm:(arrOf st).Perm a₀
 arr:(arrOf st).C=Xx.flatten++rest
 srt:∀g∈Xx,1<=g.f/\g.Q (RK O key)
 pend:(pendingOf st).C.H (λp=>(p.1,p.2.1))=UK Xx 0
def PI.psize{st:SortSt}(h:PI O key kd a₀ st Xx rest):(pendingOf st).t=Xx.f:=by
 have:=YZ List.f h.pend
 rwa[Xy,d9,YA]at this
def PI.size{st:SortSt}(h:PI O key kd a₀ st Xx rest):a₀.t=Xx.flatten.f+rest.f:=by rw[<-h.perm.size_eq,<-YA,h.arr,Xm]
def qD{arr:Array Keyed}{lo n:Nat}(h:UM O key arr lo n):((arr.C.drop lo).R n).Q (RK O key):=by
 rw[YT];intro i j hi hj WI;rw[Yo,Rx]at hi hj;let a1:arr[lo+i]?=some ((arr.C.drop lo).R n)[i]:=by rw[<-YK];simp
 let a2:arr[lo+j]?=some ((arr.C.drop lo).R n)[j]:=by rw[<-YK];simp
 have:=h i j J J
 rwa[MC a1,MC a2]at this
def PI.push{st XF:SortSt}(h:PI O key kd a₀ st Xx rest)(hr:n<=rest.f)(t:Stp Xx.flatten.f st XF)(hs:UM O key (arrOf XF) Xx.flatten.f n):
  ∃run Ud,run.f=n/\Ud.f+n=rest.f/\PI O key kd a₀ XF Xx (run++Ud)/\run.Q (RK O key):=by
 let hz:=t.t;let SD:(arrOf st).t=Xx.flatten.f+rest.f:=by rw[<-YA,h.arr,Xm]
 let e0:(arrOf XF).C.R Xx.flatten.f=Xx.flatten:=by
  apply QG;intro i;cases hi:i<Xx.flatten.f
  .rw[NI,if_pos hi,YK,t.2.2.2.2 i hi,<-YK,h.arr,Yz hi]
  .rw[YC (by rw[Yo];grind),YC J]
 let e1:=FA Xx.flatten.f (arrOf XF).C;let e2:=FA n ((arrOf XF).C.drop Xx.flatten.f)
 exists ((arrOf XF).C.drop Xx.flatten.f).R n,((arrOf XF).C.drop Xx.flatten.f).drop n,?_,?_,{t.1.l h.kind,t.2.1.l h.fail,t.2.2.2.1.l h.perm,?_,h.srt,?_},qD hs
 .rw[Yo,Rx,YA];lia
 .rw[Rx,Rx,YA];lia
 .rw[e2];rw[e0]at e1;show e1.symm
 .rw[t.2.2.1];show h.pend
end
end PyProof.Rows
namespace L2
open PySem PySem.Spec PyProof.Rows
section
def qC{α:Type}{R:α->α->Prop}:∀{l:List α},l.f<2->l.Q R
 |[],_=>List.Q.nil
 |[_],_=>Vu ..
 |_::_::_,h=>absurd h AP
def sameBut(a:Addr)(h h':Heap):(Prop):=∀b o,b≠a->h.D b=some o->h'.D b=some o
def MB:(KeyOrd) where
 α:=Ac
 blt:=HT.lexLt
 irrefl:=My.WM
 trans a b c:=My.Wj
 negTrans a b c h:=by
  cases e:HT.lexLt a b with
  |true=>show .inl rfl
  |false=>
   show .inr ?_;cases e2:HT.lexLt b a with
   |true=>show My.Wj e2 h
   |false=>
    have:=My.Sk e e2
    subst this;show h
 total a b h1 h2:=My.Sk h1 h2
end
end L2
namespace L2
open PySem PySem.Spec PyProof.Rows My
def Uc:∀{vs:Ag}{ns ms:Ac},IntsAre vs ns->IntsAre vs ms->ns=ms
 |_,_,_,.nil,.nil=>rfl
 |_,_,_,.cons n t h,.cons _ _ k=>by rw[Uc h k]
end L2
namespace My
open PySem L2
abbrev Jn(a b:Ac):Prop:=HT.lexLt a b=true
def d8:∀p a b,HT.lexLt (p++a) (p++b)=HT.lexLt a b
 |[],a,b=>rfl
 |x::p,a,b=>by rw[Ga,Ga,HT.Xz,if_pos Z,d8 p]
def d7:∀{s t:Ac}(a b:Ac),s.f=t.f->HT.lexLt s t=true->HT.lexLt (s++a) (t++b)=true
 |[],[],a,b,_,h=>by cases h
 |[],_::_,a,b,e,_=>by simp at e
 |_::_,[],a,b,e,_=>by simp at e
 |x::s,y::t,a,b,e,h=>by
  rw[HT.Xz]at h;rw[Ga,Ga,HT.Xz];split
  .rename_i q;rw[if_pos q]at h;show d7 a b (by simpa using e) h
  .rename_i q;rwa[if_neg q]at h
def qB(m:Int):∀k,∀l∈Qq m k,l.f=k
 |0,l,h=>by rw[XD.G h];rfl
 |k+1,l,h=>by let(s,hs,hl):=List.mem_flatMap.G h;let(t,_,_,rfl):=Wr.G hl;rw[Xm,qB m k s hs];rfl
def d6(m:Int):∀k,(Qq m k).Q Jn
 |0=>Vu ..
 |k+1=>by
  change((Qq m k).flatMap (TK m)).Q Jn;rw[List.pairwise_flatMap];exists λs _=>?_,gL (λ{s t} hs ht Wl=>?_)<|d6 m k
  .unfold TK;rw[Oy];show Gj.imp λ{i j} WI=>?_;change HT.lexLt _ _=true
   rw[d8,HT.Xz,if_neg J];show Ys J
  .intro x hx y hy;let(u,_,_,rfl):=Wr.G hx;let(v,_,_,rfl):=Wr.G hy;show d7 _ _ (by rw[qB m k s hs,qB m k t ht]) Wl
def Jm{α:Type}[DecidableEq α]:∀{l m:List α},l.Nodup->(∀x∈l,x∈m)->l.f<=m.f
 |[],m,_,_=>Yl _
 |x::l,m,h,hs=>by
  let(h1,h2):=Ru.G h;let hx:=hs x Yd
  have:=Jm (l:=l) (m:=m.erase x) h2 λy hy=>(vR λ(e:y=x)=>h1<|e▸hy).L (hs y<|Yf _ hy)
  rw[wb hx]at this
  have:=zr hx
  rw[Yx];lia
def d5(g:Zv n ps)(hT:Zf n ps T)(z0:0<=z)(z1:z<ps⁻¹):Conn (XR ps (Jr n ps T z T)) (Zx ps z).1 (Zx ps z).2:=by
 let he:=Tx (z:=z) g z0 z1;let key:∀D:Ac,(∀o∈D,o∈T/\z∉Sl n ps T o)->Conn (XR ps<|T.U λy=>decide<|y∉D) (Zx ps z).1 (Zx ps z).2:=by
  intro D
  induction D with
  |nil=>
   intro _;let e:(T.U λy=>decide<|y∉([]:Ac))=T:=Gf.L λy _=>AP
   rw[e];show hT.2.2 _ _ he.1 he.2
  |cons o D ih=>
   intro hD;let c:=ih λy hy=>hD y (Yf _ hy)
   let(xQ,yC):=hD o Yd;cases yr:o∈D
   .show c.mono (ZA λy hy=>?_);let(h1,h2):=Yj.G hy;let h2:=Yu h2
    show Yj.L {h1,Ys λh=>(Ye.G h).elim (λe=>h2<|e▸yr) h2}
   .show Yr λUD=>?_;let Sh:∀y,y∈(T.U λy=>decide<|y∉o::D)->y∈wo T o:=λy hy=>by
     let(h1,h2):=Yj.G hy;let h2:=Yu h2
     show Xc.L {h1,λe=>h2<|by rw[e];show Yd}
    let c2:Conn (XR ps<|(T.U λy=>decide<|y∉o::D)++[o]) (Zx ps z).1 (Zx ps z).2:=(TM λy=>by
     rw[Yb,Yj,Yj,XD];simp only[HH,Ye,not_or];constructor
     .rintro⟨h1,h2⟩;cases e:y=o
      .show .inr e
      .show .inl ⟨h1,e,h2⟩
     .rintro(⟨h1,_,h2⟩|e)
      .exists h1,h2
      .rw[e];exists xQ,yr).G c
    let WA:∀y∈(T.U λy=>decide<|y∉o::D),0<=y/\y<ps⁻¹:=λy hy=>hT.1.all y (Yj.G hy).1;let(o0,o1):=hT.1.all o xQ;let Vl:InN n.j (XR ps<|T.U λy=>decide<|y∉o::D):=ZQ g WA
    let qA:InN n.j (XR ps<|(T.U λy=>decide<|y∉o::D)++[o]):=ZQ g λy hy=>by
     rcases Yb.G hy with h|h
     .show WA y h
     .rw[XD.G h];exists o0,o1
    let Hb:=Tx (z:=o) g o0 o1;let hl:=ZG n.j (XR ps<|T.U λy=>decide<|y∉o::D)
    let own:¬Conn (XR ps<|wo T o) (Zx ps o).1 (Zx ps o).2:=(UN g hT o0 o1).G ((xU g hT xQ xQ).L Z);let cw:Conn (XR ps<|wo T o) (Zx ps z).1 (Zx ps z).2:=Yr λh=>yC ((UN g hT z0 z1).L h)
    let up:∀{i j:Nat},i<n.j->j<n.j->mk (WK n.j<|XR ps<|T.U λy=>decide<|y∉o::D) i=mk (WK n.j<|XR ps<|T.U λy=>decide<|y∉o::D) j->Conn (XR ps<|wo T o) i j:=λhi hj e=>((ZS Vl hi hj).G e).mono (ZA Sh);let m:=(ZS qA he.1 he.2).L c2
    rw[Tf,MS,Pw J J]at m;rcases m with m|⟨m1,m2⟩
    .show UD ((ZS Vl he.1 he.2).G m)
    .rcases m1 with m1|m1<;>rcases m2 with m2|m2
     .show UD ((ZS Vl he.1 he.2).G (m1.l m2.symm))
     .show own (((up he.1 Hb.1 m1).symm.l cw).l (up he.2 Hb.2 m2))
     .show own (((up he.2 Hb.1 m2).symm.l cw.symm).l (up he.1 Hb.2 m1))
     .show UD ((ZS Vl he.1 he.2).G (m1.l m2.symm))
 let c:=key (T.U λy=>decide<|z∉Sl n ps T y) λo ho=>by let(h1,h2):=Yj.G ho;exists h1,Yu h2
 show c.mono (ZA λy hy=>?_);let(h1,h2):=Yj.G hy;let h2:=Yu h2
 show VE.L {h1,Yr λh=>h2<|Yj.L {h1,Ys h}}
def Jl{a b:Ac}(ha:a.Q (·<·))(hb:b.Q (·<·))(h:∀z,z∈a↔z∈b):a=b:=
 (DV ha hb λz hz=>(h z).G hz).eq_of_length (vG (DV ha hb λz hz=>(h z).G hz).length_le (DV hb ha λz hz=>(h z).L hz).length_le)
def MA{i:Int}(h0:0<=i):Xk xs (some i) none=xs.drop i.j:=by
 let e:HT.TN xs.f 0 (some i)=min i.j xs.f:=by change(if i<0 then (i+xs⁻¹).j else min i.j xs.f)=_;rw[if_neg J]
 unfold Xk;rw[e,HT.VQ,YS (by rw[Rx];show XQ _)];cases h:i.j<=xs.f
 .rw[Nat.min_eq_left h]
 .rw[Nat.min_eq_right J,Rp<|XQ _,Rp B]
def cutz{α:Type}(l:List α)(z:Int):(List α):=l.R z.j++l.drop (z.j+1)
def qz{z:Int}(h0:0<=z):Xk xs none (some z)++Xk xs (some (z+1)) none=cutz xs z:=by rw[qN h0,MA J,show(z+1).j=z.j+1 by lia];rfl
def qy{α:Type}(l:List α)(z:Int):(cutz l z).f<=l.f:=by unfold cutz;rw[Xm,Yo,Rx];grind
def dn(lo hi i:Int):(Int):=if i=hi then lo else if i<hi then i else i-1
def qx(i:Nat):Wu (i+1)=Wu i++[(i:Int)]:=by unfold Wu;rw[Kt,YD];rfl
end My
namespace L2
open PySem PySem.Spec PyProof.Rows
section
variable{X:Cx}
def qw(K:Ad):(R2):=λx y H Q=>∃k p xs i v,x=.ref p/\y=.int i/\My.SqK k K H p xs/\Vq xs i=some v/\Q v H
def d4(K:Ad)(h:X.K=K:=by rfl):JM X (qw K):=by
 intro value slice pins s σ H x y v u Q I rx ry h1 hs;let(k,p,xs,i,z,e1,e2,hq,he,q):=h1;cases k with
 |false=>show Ze K h value slice pins s σ H x y v u Q I rx ry ⟨p,xs,i,z,e1,e2,hq,he,q⟩ hs
 |true=>show Zr K h value slice pins s σ H x y v u Q I rx ry ⟨p,xs,i,z,e1,e2,hq,he,q⟩ hs
end
def Lc{N a b:St->Hp->Prop}{r:VK}{σ:St}{H:Hp}(h:N σ H):Ends.nx {nx:=N,rt:=r,bk:=a,ct:=b} σ H:=h
end L2
namespace My
def DL{α:Type}{l:List α}(h:l.f=1):∃a,l=[a]:=by
 cases l with
 |nil=>cases h
 |cons a l=>cases l with
  |nil=>exists a,Z
  |cons b l=>simp at h
def DK{α:Type}{l:List α}(h:l.f=2):∃a b,l=[a,b]:=by
 cases l with
 |nil=>cases h
 |cons a l=>
  let(b,rfl):=DL (NB h);exists a,b,Z
def DJ{α:Type}{l:List α}(h:l.f=3):∃a b c,l=[a,b,c]:=by
 cases l with
 |nil=>cases h
 |cons a l=>
  let(b,c,rfl):=DK (NB h);exists a,b,c,Z
def DI{α:Type}{l:List α}(h:l.f=4):∃a b c d,l=[a,b,c,d]:=by
 cases l with
 |nil=>cases h
 |cons a l=>
  let(b,c,d,rfl):=DJ (NB h);exists a,b,c,d,Z
end My
namespace My
open PySem L2
def qv(k:Nat)(v:V):(List.S k [v]).flatten=List.S k v:=by
 induction k with
 |zero=>rfl
 |succ k ih=>
  rw[LI,HF,ih];rfl
def Conn.lift(h:∀e∈es,Conn fs e.1 e.2)(c:Conn es i j):Conn fs i j:=by
 induction c with
 |refl i=>show .refl i
 |edge e=>show h _ e
 |symm _ ih=>show ih.symm
 |trans _ _ Mz QX=>show Mz.l QX
def d3(g:Zv n ps)(hT:Zf n ps T)(hW:Zf n ps W)(hz:z∈T)(xP:z∉W):∃y,exg n ps T z y/\exg n ps W y z:=by
 let(z0,z1):=hT.1.all z hz;show Yr λUD=>?_;show(UN g hT z0 z1).G ((xU g hT hz hz).L Z) ((d5 g hW z0 z1).lift λe he=>?_);unfold XR at he;let(y,hy,rfl):=Yp.G he;let(Lb,hyc):=VE.G hy;let(y0,y1):=hW.1.all y Lb;let dZ:y≠z:=λe=>xP (e▸Lb)
 have:=(UN (o:=z) g hT y0 y1)
 show Yr λh=>UD {y,{hz,dZ,this.L h},{Lb,XO dZ,hyc}}
def xO(l:Ac):∃m:Ac,m.Perm l/\m.Q (·<=·):=by
 induction l with
 |nil=>exists [],.refl _,.nil
 |cons x l ih=>
  let(m,h1,h2):=ih;let key:∀m:Ac,m.Q (·<=·)->∃k:Ac,k.Perm (x::m)/\k.Q (·<=·):=by
   intro m
   induction m with
   |nil=>intro _;exists [x],.refl _,Vu _ _
   |cons y m QX=>
    intro hp;let(hy,hm):=VS.G hp;cases NX:x<=y
    .exists x::y::m,.refl _,VS.L {λz hz=>?_,hp};rcases Ye.G hz with e|e
     .rw[e];show NX
     .show Ht NX (hy z e)
    .let⟨k,k1,k2⟩:=QX hm;exists y::k,(k1.cons y).l (List.Perm.swap x y m),VS.L {λz hz=>?_,k2};rcases Ye.G (k1.mem_iff.G hz) with e|e
     .rw[e];lia
     .show hy z e
  let(k,k1,k2):=key m h2;exists k,k1.l<|h1.cons x,k2
def qu(s:SameP M N):cnt M=cnt N:=by
 unfold cnt Vn;rw[<-s.1];show YZ List.f (vL λp hp=>?_);let hp:=YG.G hp
 rw[Rt,XC,XC];constructor
 .intro h i hi e;show h i hi ((s.2 i p J hp).L e)
 .intro h i hi e;show h i hi ((s.2 i p J hp).G e)
def dY(g:Zv n ps)(hU:Zf n ps U):∀V:Ac,V.Nodup->(∀z∈V,z∈U)->WY n.j ps V=V:=by
 show Uh (λ_ _=>rfl) λV z ih hn hs=>?_;let Ke:=VR.G hn
 let hV:∀y∈V,y∈U:=λy hy=>hs y (Yn _ hy);let hz:z∈U:=hs z (Yh _<|XD.L Z)
 let hzV:z∉V:=λh=>Ke.2.2 z h z (XD.L Z) rfl;let(z0,z1):=hU.1.all z hz;let he:=Tx (z:=z) g z0 z1
 rw[ME,ih Ke.1 hV];unfold QY;rw[if_neg];intro e;let c:=(ZS (ZQ g λy hy=>hU.1.all y<|hV y hy) he.1 he.2).G e
 show(UN g hU z0 z1).G ((xU g hU hz hz).L Z) (c.mono<|ZA λy hy=>Xc.L {hV y hy,λe'=>hzV<|by rwa[<-e']})
def qt{as bs:Ac}(g:Zv n ps)(h:∀y∈as,0<=y/\y<ps⁻¹)(z0:0<=z)(z1:z<ps⁻¹)(hz:z∉WY n.j ps (as++z::bs)):Conn (XR ps (WY n.j ps as)) (Zx ps z).1 (Zx ps z).2:=by
 let(us,e,_):=MD n.j ps (as++[z]) bs;rw[QF]at e;let e:WY n.j ps (as++z::bs)=WY n.j ps (as++[z])++us:=e
 rw[e,ME]at hz;let he:=Tx (z:=z) g z0 z1
 show(ZS (GX g h) he.1 he.2).G (Yr λXJ=>hz ?_);unfold QY;rw[if_neg XJ];show Yn _ (Yh _<|XD.L Z)
def qr{as bs:Ac}{y:Int}(h:y∈WY n ps as):y∈WY n ps (as++bs):=by let(us,e,_):=MD n ps as bs;rw[e];show Yn _ h
def Fr(n:Nat)(ps:Aa)(l:Ac):(Bool):=decide (WY n ps l=l)
def TV(n:Nat)(ps:Aa)(k:Nat):(Ab):=(Qq ps⁻¹ k).U (Fr n ps)
def qq(g:Zv n ps):l∈TV n.j ps (n-1).j↔Zf n ps l:=by
 unfold TV;rw[Yj,Wi];let g1:=g.1
 constructor
 .rintro⟨⟨h1,h2⟩,h3⟩;let e:WY n.j ps l=l:=Yu h3
  let c:=xR g l h2.all;rw[e]at c;exists h2,J,(UO vk<|ZQ g h2.all).G vk
 .intro h;exists {by have:=h.2.1;lia,h.1},Ys<|dY g h l h.1.nodup λz hz=>hz
def dX(hT:Zf n ps T):T.Q (·<·):=(XU.G hT.1).2
def VW{a:Ac}(h:a.Q (·<=·))(hn:a.Nodup):a.Q (·<·):=(h.and hn).imp λh=>by have:=h.1;have:=h.2;lia
def Jk(g:Zv n ps):∀zs:Ac,(∀z∈zs,0<=z/\z<ps⁻¹)->(WY n.j ps zs).Nodup:=by
 show Uh (λ_=>List.Q.nil) λzs z ih hb=>?_;let TQ:∀y∈zs,0<=y/\y<ps⁻¹:=λy hy=>hb y (Yn _ hy)
 let(z0,z1):=hb z (Yh _<|XD.L Z);let he:=Tx (z:=z) g z0 z1
 rw[ME];unfold QY;split
 .show ih TQ
 .next XJ=>
  show VR.L {ih TQ,AP,λa ha b DH e=>?_};rw[XD.G DH]at e;subst e;show XJ ((ZS (GX g TQ) he.1 he.2).L (.edge ?_));show Yp.L ⟨a,ha,Z⟩
def ZP5(g:Zv n ps)(hb:∀z∈zs,0<=z/\z<ps⁻¹)(hl:¬((WY n.j ps zs).f:Int)<n-1)(Qr:ms.Perm (WY n.j ps zs))(DY:ms.Q (·<=·)):Zf n ps ms:=by
 let g1:=g.1;let h2:=xR g zs hb
 let h3:=xV (M:=WK n.j<|XR ps<|WY n.j ps zs) (by rw[ZG];grind);let Pm:=(UO vk<|GX g hb).G vk
 show{XU.L {λz hz=>hb z<|(xS _ _ _).subset (Qr.mem_iff.G hz),VW DY<|Qr.nodup_iff.L<|Jk g zs hb},by rw[Qr.length_eq];grind,λi j hi hj=>?_};show(TM λy=>Qr.mem_iff).L (Pm i j hi hj)
def qp{I os U:Ac}(g:Zv n ps)(hU:Zf n ps U)(hI:I.Nodup)(hIU:∀z∈I,z∈U)(hUo:∀z∈U,z∈I++os)(hb:∀z∈I++os,0<=z/\z<ps⁻¹):(WY n.j ps (I++os)).R I.f=I/\¬((WY n.j ps (I++os)).f:Int)<n-1:=by
 let g1:=g.1;let(us,e,_):=MD n.j ps I os;rw[dY g hU I hI hIU]at e;show{by rw[e,List.take_left],?_};let Pm:∀i j,i<n.j->j<n.j->Conn (XR ps<|WY n.j ps<|I++os) i j:=λi j hi hj=>qJ g _ hb ((hU.2.2 i j hi hj).mono (ZA hUo))
 let h1:=(UO J<|GX g hb).L Pm;let h2:=xR g (I++os) hb
 grind
def qo{p r:Ac}{x:Int}(h:(p++x::r).Q (·<·)):(∀z∈p,z<x)/\∀z∈x::r,x<=z:=by
 let a:=YV.G h;exists λz hz=>a.2.2 z hz x Yd,λz hz=>?_;rcases Ye.G hz with h|h
 .rw[h];show Tt _
 .show yL ((VS.G a.2.1).1 z h)
def RL(l:Ac)(t:Int):(Ac):=l.U λz=>decide (z<t)
def Vc{t z:Int}:z∈RL l t↔z∈l/\z<t:=by unfold RL;rw[Yj,HH]
def TC(n:Int)(ps:Aa)(c:Nat):(Prop):=∃L:Ab,L.Nodup/\(∀l,l∈L↔Zf n ps l)/\L.f=c
def TC.uniq(h1:TC n ps c)(h2:TC n ps d):c=d:=by let(L,a1,a2,rfl):=h1;let(M,b1,b2,rfl):=h2;show((Kv a1 b1).L λl=>by rw[a2,b2]).length_eq
def Pl:IsSet (m+1) (T++[(m:Int)])↔IsSet m T:=by
 constructor
 .intro h;let a:=XU.G h
  let b:=YV.G a.2;show XU.L {λz hz=>?_,b.1};let c:=a.1 z (Yn _ hz)
  let d:=b.2.2 z hz m (XD.L Z);omega
 .show λh=>h.snoc
def dW(h:IsSet (m+1) T):IsSet m T\/∃T',T=T'++[(m:Int)]/\IsSet m T':=by
 let a:=XU.G h;cases hm:(m:Int)∈T
 .let⟨p,r,e⟩:=List.append_of_mem hm;let b:=qo (e▸a.2)
  cases r with
  |nil=>show .inr {p,e,Pl.G<|e▸h}
  |cons y r=>
   let h1:=a.1 y (by rw[e];simp);let h2:=(VS.G (YV.G<|e▸a.2).2.1).1 y Yd
   omega
 .show .inl (XU.L {λz hz=>?_,a.2});let h1:=a.1 z hz
  let h2:z≠(m:Int):=λe=>hm (e▸hz);lia
def dU{es:List (Nat×Nat)}{a b i j:Nat}(c:Conn (es++[(a,b)]) i j):Conn (es++[(b,a)]) i j:=c.lift λe he=>by
 rcases Yb.G he with q|q
 .show .edge (Yn _ q)
 .rw[XD.G q];show .symm (.edge AP)
def Bears.app{α:Type}[DecidableEq α]{R:V->α->Prop}{xs ys:List V}{l m:List α}(h:Bears R xs l)(h2:Bears R ys m):Bears R (xs++ys) (l++m):=by
 show{by rw[Xm,Xm,h.1,h2.1],λi a e=>?_};let hl:=h.1
 cases c:i<l.f
 .rw[Yz c]at e;let(x,e1,r):=h.2 i a e;exists x,by rw[Yz J];show e1,r
 .rw[YE J]at e;let(x,e1,r):=h2.2 _ a e;exists x,by rw[YE J,hl];show e1,r
def PairsV.set(h:PairsV H xs ps)(i:Nat)(q:PairV H v p):PairsV H (xs.set i v) (ps.set i p):=by
 show{by rw[Qf,Qf];show h.1,λj x e=>?_};let hl:=h.1
 cases c:i=j
 .subst c;rw[Ox]at e;rw[if_pos Z]at e;cases Xt:i<ps.f
  .rw[if_pos Xt]at e;let rfl:=Ya e;exists v,by rw[Ox,if_pos Z,if_pos J],q
  .rw[if_neg Xt]at e;cases e
 .rw[Ox,if_neg c]at e;let(w,e1,r):=h.2 j x e;exists w,by rw[Ox,if_neg c];show e1,r
end My
namespace L2
open PySem PySem.Spec PyProof.Rows
def xN(K:Ad)(a b:Addr):(It):=
 ⟨λi H=>∃xs ys x y,SqL K H a xs/\SqL K H b ys/\xs[i]?=some x/\ys[i]?=some y,λi H v H'=>∃T x y,H T=none/\v=.ref T/\H'=upd H T (.tup [x,y])/\(∀xs,SqL K H a xs->xs[i]?=some x)/\∀ys,SqL K H b ys->ys[i]?=some y,
  λi H=>∃xs ys,SqL K H a xs/\SqL K H b ys/\(xs.f<=i\/ys.f<=i)⟩
def dS{P:Program}{w:World}{K:Ad}{elts:List Expr}{x1:Nat}{pos:Pos}(a b z TI TO i1 i2:Addr)(D:ZipApart z TI TO i1 i2 a b):
  Turn P w K (.Tuple elts x1 pos) (xN K a b) [z,TI,TO,i1,i2] z (λi h=>IsZip h z TI TO .none/\IsPair h TI ↑i1 ↑i2/\(∃c d,IsPair h TO c d)/\h.IsListIter i1 a i/\h.IsListIter i2 b i) where
 mem:=AP
 obj:=λi h st c hc=>by
  let(hz,Vk,(u,v,UJ),(o1,e1,_,d1),(o2,e2,_,d2)):=st;let Xe:c=z\/c=TI\/c=TO\/c=i1\/c=i2:=by simpa using hc
  rcases Xe with rfl|rfl|rfl|rfl|rfl
  .exists _,hz,λv q=>by let q':Data.fields _=Data.cell v:=q;cases q'
  .exists _,Vk,λv q=>by let q':Data.seq _ _=Data.cell v:=q;cases q'
  .exists _,UJ,λv q=>by let q':Data.seq _ _=Data.cell v:=q;cases q'
  .exists o1,e1,λv q=>by rw[d1]at q;cases q
  .exists o2,e2,λv q=>by rw[d2]at q;cases q
 keep:=λi h h' st k=>by let(hz,Vk,(u,v,UJ),h1,h2):=st;exists k z AP _ hz,k TI AP _ Vk,{u,v,k TO AP _ UJ},h1.at λo e=>k i1 AP o e,h2.at λo e=>k i2 AP o e
 item:=by
  intro X hP hw hK hc i pins s σ H E I hf st hg;subst hP hw hK;let(xs,ys,x,y,hq,Vd,hx,hy):=hg;let(hz,Vk,(u0,v0,UJ),h1,h2):=st;let(XX,rv,p,_):=I.list hq;let(u,hu,ru):=rv.get hx;let(WD,NW,p2,_):=I.list Vd;let(v,hv,DG):=NW.get hy;let fz:=hf z AP
  let VB:=hf TO AP;let VA:=hf i1 AP
  let Vz:=hf i2 AP;let JB:H (~~~s)=none:=I.hok.fresh (XQ _)
  show wpAny_pyNext_zip_item D hz Vk UJ h1 h2 p.isList p2.isList (x:=u) (y:=v) (by simpa using hu) (by simpa using hv) λh' a1 a2 a3 a4 a5 hsz hk=>?_;let Up:∀b ob,s.m.D b=some ob->b≠(~~~s):=λb ob z=>Yq (Ym z)
  let UR:∀b ob,H b=some ob->b≠(~~~s):=λb ob z=>Yq (I.hok.lt z);let Uo:∀c ob,H c=some ob->c≠z/\c≠TO/\c≠i1/\c≠i2:=λc ob q=>{λe=>(by rw[e,fz.1]at q;cases q),λe=>(by rw[e,VB.1]at q;cases q),λe=>(by rw[e,VA.1]at q;cases q),λe=>(by rw[e,Vz.1]at q;cases q)}
  let SY:∀c o,c∉[z,TO,i1,i2]->s.m.D c=some o->h'.D c=some o:=λc o Xj q=>hk c o (λe=>Xj<|by simp[e]) (λe=>Xj<|by simp[e]) (λe=>Xj<|by simp[e]) (λe=>Xj<|by simp[e]) q;let I1:Inv X pins σ (upd H (~~~s)<|.tup [x,y]) {s with heap:=h'}:=by
   show I.step (g':=s.gens) (d':=s.drawn) (t':=s.toks) (ch:=[z,TO,i1,i2]) (λc hb=>?_) (λc o _ _ Xj q _=>SY c o Xj q) (λc o _ _ Xj q _=>{o.slots,SY c o Xj q})
    (λc o _ q n=>by rwa[Za (Up c o q)]) (λc o Xj q=>{o,SY c o Xj q}) (λc ys q=>by rwa[Za (UR c _ q)]) (λc o v q=>by rwa[Za (UR c _ q)])
    (λc ps q=>{#[],by rw[Za (UR c _ q),q];simp}) (λm hm=>?_) (λc v' q=>?_) I.bare
   .let Xe:c=z\/c=TO\/c=i1\/c=i2:=by simpa using hb
    rcases Xe with rfl|rfl|rfl|rfl
    .exists fz.2.2.2.1,fz.2.1,fz.2.2.2.2.1,fz.2.2.2.2.2
    .exists VB.2.2.2.1,VB.2.1,VB.2.2.2.2.1,VB.2.2.2.2.2
    .exists VA.2.2.2.1,VA.2.1,VA.2.2.2.2.1,VA.2.2.2.2.2
    .exists Vz.2.2.2.1,Vz.2.1,Vz.2.2.2.2.1,Vz.2.2.2.2.2
   .let⟨o,es,ep,UZ,r⟩:=hm;exists o,es,ep,hk _ o (XO fz.2.1) (XO VB.2.1) (XO VA.2.1) (XO Vz.2.1) UZ,r
   .cases hb:c=(~~~s)
    .subst hb;rw[XS]at q;cases q;exists by change 2<=sizeLine;decide,[u,v],.cons ru<|.cons DG .nil,{_,a5,Z,_,Z}
    .rw[Za hb]at q;show(I.hok c v' q).stay (λe w' Xe q'=>?_) (λe q=>by rwa[Za (UR e _ q)]) λe ys q=>by rwa[Za (UR e _ q)]
     rcases Xe with rfl|Xe
     .have:=Uo e _ q
      show hk e w' this.1 this.2.1 this.2.2.1 this.2.2.2 q'
     .have:=Uo e _ Xe
      show hk e w' this.1 this.2.1 this.2.2.1 this.2.2.2 q'
  exists _,Z,wpAny_letOwnedTupleGo_zip a1 λh2 SD VG=>?_;let fT:z≠(~~~s):=Up z _ hz
  let I2:Inv X pins σ (upd H (~~~s)<|.tup [x,y]) {s with heap:=h2}:=Inv.turned (s:={s with heap:=h'}) (h':=h2) (t':=s.toks) (it:=z) I1 (λb o hb q=>VG.extBut b o hb q) (by rw[Za fT];show fz.1) fz.2.1 fz.2.2.2.1 fz.2.2.2.2.1 fz.2.2.2.2.2;show⟨.ref (~~~s),_,I2,Z,{_,x,y,JB,Z,Z,λys PH=>by rw[I.list_inj PH hq];show hx,λys PH=>by rwa[I.list_inj PH Vd]},
   {SD,VG.extBut _ _ D.TIz (SY _ _ (by have:=D.TIz;have:=D.TITO;have:=D.TIi1;have:=D.TIi2;simp;exists D.TIz,D.TITO,D.TIi1,D.TIi2) Vk),⟨u,v,VG.extBut _ _ D.TOz a2⟩,a3.at λo q=>VG.extBut i1 o D.i1z q,a4.at λo q=>VG.extBut i2 o D.i2z q},λc hc=>?_⟩
  let Xe:c=z\/c=TI\/c=TO\/c=i1\/c=i2:=by simpa using hc
  let hn:=(hf c hc).1;rcases Xe with rfl|rfl|rfl|rfl|rfl
  .rw[Za fT];show hn
  .rw[Za (Up _ _ Vk)];show hn
  .rw[Za (Up _ _ UJ)];show hn
  .let⟨o,eo,_⟩:=h1;rwa[Za (Up _ o eo)]
  .let⟨o,eo,_⟩:=h2;rwa[Za (Up _ o eo)]
 done:=by
  intro X hP hw hK hc i pins s σ H E I hf st hg;subst hP hw hK;let(xs,ys,hq,Vd,Jj):=hg;let(hz,Vk,(u0,v0,UJ),h1,h2):=st;let(XX,rv,p,_):=I.list hq;let(WD,NW,p2,_):=I.list Vd;let l1:=rv.f
  let l2:=NW.f;let fz:=hf z AP
  let VB:=hf TO AP;let VA:=hf i1 AP
  let Vz:=hf i2 AP;show wpAny_pyNext_zip_end (I.ok.hd hc) D hz Vk UJ h1 h2 p.isList p2.isList (by
   rcases Jj with e|e
   .show .inl (by simp;lia)
   .show .inr<|by simp;lia) λh' hk=>{Z,?_}
  let SY:∀c o,c∉[z,TO,i1,i2]->s.m.D c=some o->h'.D c=some o:=λc o Xj q=>hk c o (λe=>Xj<|by simp[e]) (λe=>Xj<|by simp[e]) (λe=>Xj<|by simp[e]) (λe=>Xj<|by simp[e]) q;let Uo:∀c ob,H c=some ob->c≠z/\c≠TO/\c≠i1/\c≠i2:=λc ob q=>{λe=>(by rw[e,fz.1]at q;cases q),λe=>(by rw[e,VB.1]at q;cases q),λe=>(by rw[e,VA.1]at q;cases q),λe=>(by rw[e,Vz.1]at q;cases q)}
  show I.step (g':=s.gens) (d':=s.drawn) (t':=s.toks) (ch:=[z,TO,i1,i2]) (λc hb=>?_) (λc o _ _ Xj q _=>SY c o Xj q) (λc o _ _ Xj q _=>{o.slots,SY c o Xj q})
   (λc o _ q n=>n) (λc o Xj q=>{o,SY c o Xj q}) (λc ys q=>q) (λc o v q=>q)
   (λc ps q=>{#[],by rw[q];simp}) (λm hm=>?_) (λc v' q=>?_) I.bare
  .let Xe:c=z\/c=TO\/c=i1\/c=i2:=by simpa using hb
   rcases Xe with rfl|rfl|rfl|rfl
   .exists fz.2.2.2.1,fz.2.1,fz.2.2.2.2.1,fz.2.2.2.2.2
   .exists VB.2.2.2.1,VB.2.1,VB.2.2.2.2.1,VB.2.2.2.2.2
   .exists VA.2.2.2.1,VA.2.1,VA.2.2.2.2.1,VA.2.2.2.2.2
   .exists Vz.2.2.2.1,Vz.2.1,Vz.2.2.2.2.1,Vz.2.2.2.2.2
  .let⟨o,es,ep,UZ,r⟩:=hm;exists o,es,ep,hk _ o (XO fz.2.1) (XO VB.2.1) (XO VA.2.1) (XO Vz.2.1) UZ,r
  .show(I.hok c v' q).stay (λe w' Xe q'=>?_) (λe q=>q) λe ys q=>q;rcases Xe with rfl|Xe
   .have:=Uo e _ q
    show hk e w' this.1 this.2.1 this.2.2.1 this.2.2.2 q'
   .have:=Uo e _ Xe
    show hk e w' this.1 this.2.1 this.2.2.1 this.2.2.2 q'
 self:=λ_ _ _ _ _ st h=>FX st.1 h
def qm(K:Ad)(ta:TA):(TI):=λσ H R=>ta σ H λvs H1=>∃a b,vs=[.ref a,.ref b]/\(∃xs ys,SqL K H1 a xs/\SqL K H1 b ys)/\R (xN K a b) H1
section
variable{X:Cx}
def DF(K:Ad){elts:List Expr}{x1:Nat}{UY:Pos}{e f:Expr}{ta:TA}{p pos:Pos}(hg:Gl X "zip")(hm:X.mg "zip"=none)(ha:PA X [e,f] ta)(hs:starEach [e,f] X.X=(false,eval e X.X)::starEach [f] X.X:=by rfl)(Ve:(backTo pos<|starEach [f] X.X).any (·.1)=false:=by rfl)(hk:X.K=K:=by rfl):
  PI X (.Tuple elts x1 UY) (.Call (.Name "zip" p) [e,f] [] pos) (qm K ta):=by
 subst hk;intro pins s σ H R I h;show Call_ (Rg I hg hm Boot.«zip»<|TX (thn (ha pos pins s σ H _ I h) λus s1 XA=>?_) hs Ve);let(vs,H1,I1,r1,q1):=XA;let(a,b,ev,(xs,ys,hq,Vd),q):=q1;subst ev;let(u,u',rfl,ru,ql):=Ni r1;let rfl:u=Value.ref a:=ru;let rfl:u'=Value.ref b:=ql;let(XX,rv,pl,_):=I1.list hq;let(WD,NW,Ji,_):=I1.list Vd;let xM:a<(~~~s1):=by let(_,_,e,_):=pl;show Ym e
 let DE:b<(~~~s1):=by let(_,_,e,_):=Ji;show Ym e
 let D:ZipApart ((~~~s1)+4) ((~~~s1)+2) ((~~~s1)+3) (~~~s1) ((~~~s1)+1) a b:=by
  let key:∀n x y:Nat,x<n->y<n->ZipApart (n+4) (n+2) (n+3) n (n+1) x y:=λn x y h1 h2=>by constructor<;>(intro q;let q':(_:Nat)=_:=q;lia)
  show key _ _ _ xM DE
 show call_zip_2 pl.isList Ji.isList λh' hz Vk UJ DD We hsz hk=>?_;show FX (s:={s1 with heap:=h'}) hz ?_;exists (~~~s1)+4,[(~~~s1)+4,(~~~s1)+2,(~~~s1)+3,(~~~s1),(~~~s1)+1],_,_,H1,Z,I1.kept (t':=s1.toks) hk,dS a b _ _ _ _ _ D,{hz,Vk,{_,_,UJ},DD,We},λc hc=>?_,q;let hle:(~~~s1)<=c:=by
  let Xe:c=(~~~s1)+4\/c=(~~~s1)+2\/c=(~~~s1)+3\/c=(~~~s1)\/c=(~~~s1)+1:=by simpa using hc
  rcases Xe with e|e|e|e|e<;>rw[e]<;>first|show XQ _|show vI _ _
 show I1.fpOk hle (I1.hok.fresh hle)
end
end L2
namespace My
open PySem L2
section
variable{K:Ad}{a b:Addr}{xs ys:List V}{g:TG}{tt:TT}{te:TE}{o:Nat}{fr:List Nat}{σ:St}{H:Hp}{Q:VK}
def DC(Pv:Nat->List V->Hp->Prop)(h0:Pv 0 [] H)(NX:xs.f=ys.f)(hz:xs.f<sizeLine)(hl:∀i zs H,i<=xs.f->Pv i zs H->SqL K H a xs/\SqL K H b ys/\zs.f<=i)
  (hs:∀(i:Nat) x y zs H (p:Addr),H p=none->xs[i]?=some x->ys[i]?=some y->Pv i zs H->Lh Pv g tt te o fr σ i ↑p zs (upd H p<|.tup [x,y]))(hd:∀zs H,Pv xs.f zs H->∀p,H p=none->Q ↑p (upd H p<|.lst zs)):Od (xN K a b) g tt te o fr σ H Q:=by
 exists λi m zs H=>m=xs.f-i/\i<=xs.f/\Pv i zs H,{xs.f,AP,Yl _,h0},?_;rintro i m zs H ⟨rfl,hi,p⟩;let(q,q2,hy):=hl i zs H hi p;cases Xt:i<xs.f
 .show .inr {{xs,ys,xs[i],ys[i]'(by lia),q,q2,by simp[Xt],XI B},J,λx H' ⟨T,u,v,hT,ex,eH,hu,hv⟩=>?_};subst ex eH;show hs i u v zs H T hT (hu xs q) (hv ys q2) p (λj zs H=>∃m',m'<xs.f-i/\m'=xs.f-j/\j<=xs.f/\Pv j zs H) λzs H p'=>{xs.f-(i+1),vk,Z,Xt,p'}
 .let e:i=xs.f:=J;subst e;show .inl {{xs,ys,q,q2,.inl<|XQ _},J,hd zs H p}
end
end My
namespace My
abbrev Mx:=Nat->Nat->Int
def sm:(Nat->(Nat->Int)->Int)
 |0,_=>0
 |n+1,f=>sm n f+f n
def ZE{f g:Nat->Int}:∀{n:Nat},(∀i,i<n->f i=g i)->sm n f=sm n g
 |0,_=>rfl
 |n+1,h=>by change sm n f+f n=sm n g+g n;rw[ZE λi hi=>h i J,h n J]
def Jh{f g:Nat->Int}:∀{n:Nat},sm n (λi=>f i+g i)=sm n f+sm n g
 |0=>rfl
 |n+1=>by change sm n (λi=>f i+g i)+(f n+g n)=sm n f+f n+(sm n g+g n);rw[Jh];lia
def GV{c:Int}{f:Nat->Int}:∀{n:Nat},sm n (λi=>c*f i)=c*sm n f
 |0=>(Sy c).symm
 |n+1=>by change sm n (λi=>c*f i)+c*f n=c*(sm n f+f n);rw[GV,Tp]
def TJ:∀{n:Nat},sm n (λ_=>0)=0
 |0=>rfl
 |n+1=>by change sm n (λ_=>0)+0=0;rw[TJ];rfl
def Jg{f:Nat->Int}(h:∀i,i<n->f i=0):sm n f=0:=by rw[ZE h];show TJ
def DB{f:Nat->Int}:∀{n:Nat},sm (n+1) f=f 0+sm n (λi=>f (i+1))
 |0=>by change 0+f 0=f 0+0;lia
 |n+1=>by change sm (n+1) f+f (n+1)=f 0+(sm n (λi=>f<|i+1)+f (n+1));rw[DB];lia
def qk{f:Nat->Nat->Int}:∀{n:Nat},sm n (λi=>sm m (f i))=sm m (λj=>sm n λi=>f i j)
 |0=>TJ.symm
 |n+1=>by change sm n (λi=>sm m<|f i)+sm m (f n)=sm m λj=>sm n (λi=>f i j)+f n j;rw[qk,Jh]
def sk(j k:Nat):(Nat):=if k<j then k else k+1
def mn(A:Mx)(j:Nat):(Mx):=λi k=>A (i+1) (sk j k)
def sg(j:Nat):(Int):=if j%2=0 then 1 else -1
def xK(j:Nat):sg (j+1)=- sg j:=by
 unfold sg;cases h:j%2=0
 .rw[if_pos h,if_neg B]
 .rw[if_neg h,if_pos J];rfl
def det:(Nat->Mx->Int)
 |0,_=>1
 |n+1,A=>sm (n+1) λj=>sg j*A 0 j*det n (mn A j)
def Pk{j k n:Nat}(h:k<n):sk j k<n+1:=by unfold sk;split<;>lia
def Zj:∀{n:Nat}{A uX:Mx},(∀i j,i<n->j<n->A i j=uX i j)->det n A=det n uX
 |0,_,_,_=>rfl
 |n+1,A,uX,h=>ZE λj hj=>by rw[h 0 j J hj,Zj (A:=mn A j) (uX:=mn uX j) λi k hi hk=>h (i+1) (sk j k) J (Pk hk)]
def Jf:∀{n:Nat}{A uX C:Mx}{c:Int}{i:Nat},i<n->(∀r j,r<n->j<n->r≠i->A r j=uX r j/\A r j=C r j)->(∀j,j<n->A i j=c*uX i j+C i j)->det n A=c*det n uX+det n C
 |0,_,_,_,_,_,hi,_,_=>absurd hi (Wg _)
 |n+1,A,uX,C,c,i,hi,h1,h2=>by
  change sm (n+1) (λj=>sg j*A 0 j*det n (mn A j))=c*sm (n+1) (λj=>sg j*uX 0 j*det n (mn uX j))+sm (n+1) λj=>sg j*C 0 j*det n (mn C j);rw[<-GV,<-Jh];show ZE λj hj=>?_;cases i with
  |zero=>
   let e1:det n (mn uX j)=det n (mn A j):=Zj λr k hr hk=>(h1 (r+1) (sk j k) B (Pk hk) J).1.symm;let e2:det n (mn C j)=det n (mn A j):=Zj λr k hr hk=>(h1 (r+1) (sk j k) J (Pk hk) J).2.symm
   rw[e1,e2,h2 j hj];generalize det n (mn A j)=d;generalize sg j=s;rw[Tp,yH,<-RX s c,Vt s c,RX c s,RX c]
  |succ i=>
   let e:=Jf (n:=n) (A:=mn A j) (uX:=mn uX j) (C:=mn C j) (c:=c) (i:=i) J (λr k hr hk XJ=>h1 (r+1) (sk j k) J (Pk hk) J) λk hk=>h2 (sk j k) (Pk hk);let e0:=h1 0 j J hj J
   rw[e,<-e0.1,<-e0.2];generalize det n (mn uX j)=d;generalize det n (mn C j)=d';generalize sg j*A 0 j=s;rw[Tp,<-RX,<-RX,Vt s c]
def qj(h:j<=k):mn (mn A j) k i l=mn (mn A (k+1)) j i l:=by
 change A (i+1+1) (sk j<|sk k l)=A (i+1+1) (sk (k+1)<|sk j l);show YZ _ ?_;unfold sk;cases h1:l<j
 .rw[if_pos (show l<k by lia),if_pos h1,if_pos (show l<k+1 by lia)]
 .rw[if_neg h1];cases h2:l<k
  .rw[if_pos h2,if_neg h1,if_pos (show l+1<k+1 by lia)]
  .rw[if_neg h2,if_neg (show ¬l+1<j by lia),if_neg (show ¬l+1<k+1 by lia)]
def qi:∀{n:Nat}{A:Mx}{i:Nat},i+1<n->(∀j,j<n->A i j=A (i+1) j)->det n A=0
 |0,_,_,hi,_=>absurd hi (Wg _)
 |n+1,A,i+1,hi,h=>Jg λj hj=>by rw[qi (A:=mn A j) (i:=i) J λk hk=>h (sk j k)<|Pk hk,Sy]
 |1,_,0,hi,_=>absurd hi B
 |n+2,A,0,_,h=>by
  obtain⟨t,ht⟩:∃t:Nat->Nat->Int,t=λj k=>sg j*A 0 j*(sg k*A 1 (sk j k)*det n (mn (mn A j) k)):={_,Z};let e1:det (n+2) A=sm (n+2) λj=>sm (n+1) (t j):=ZE λj hj=>by rw[ht,GV];rfl
  let e2:∀j k,j<=k->k<n+1->t (k+1) j=- t j k:=λj k hjk hk=>by
   rw[ht];change sg (k+1)*A 0 (k+1)*(sg j*A 1 (sk (k+1) j)*det n (mn (mn A<|k+1) j))=- (sg j*A 0 j*(sg k*A 1 (sk j k)*det n (mn (mn A j) k)))
   let f1:sk (k+1) j=j:=by unfold sk;rw[if_pos J]
   let f2:sk j k=k+1:=by unfold sk;rw[if_neg J]
   let f3:det n (mn (mn A<|k+1) j)=det n (mn (mn A j) k):=Zj λi l _ _=>(qj hjk).symm;rw[f1,f2,f3,xK,<-h j J,<-h (k+1) J];generalize det n (mn (mn A j) k)=d;generalize A 0 j=x;generalize A 0 (k+1)=y;generalize sg j=s;generalize sg k=u;simp only[yI,Int.neg_inj];simp only[Vt,zj,RX]
  let e3:sm (n+2) (λj=>sm (n+1)<|t j)=sm (n+2) (λj=>sm (n+1) λk=>if k<j then t j k else 0)+sm (n+2) (λj=>sm (n+1) λk=>if k<j then 0 else t j k):=by rw[<-Jh];show ZE λj _=>?_;rw[<-Jh];show ZE λk _=>?_;split<;>lia
  let e4:sm (n+2) (λj=>sm (n+1) λk=>if k<j then t j k else 0)=sm (n+1) (λk=>sm (n+1) λj=>if k<=j then t (j+1) k else 0):=by
   rw[qk];show ZE λk _=>?_;rw[DB,if_neg J,Nz];show ZE λj _=>?_;cases c:k<=j
   .rw[if_pos c,if_pos B]
   .rw[if_neg c,if_neg J]
  let e5:sm (n+2) (λj=>sm (n+1) λk=>if k<j then 0 else t j k)=sm (n+1) (λj=>sm (n+1) λk=>if j<=k then t j k else 0):=by
   change sm (n+1) (λj=>sm (n+1) λk=>if k<j then 0 else t j k)+sm (n+1) (λk=>if k<n+1 then 0 else t (n+1) k)=_;rw[Jg (f:=λk=>if k<n+1 then 0 else t (n+1) k) λk hk=>if_pos hk,Rq];show ZE λj _=>ZE λk _=>?_;cases c:j<=k
   .rw[if_pos c,if_neg J]
   .rw[if_neg c,if_pos J]
  rw[e1,e3,e4,e5,<-Jh];show Jg λj hj=>?_;rw[<-Jh];show Jg λk hk=>?_;cases c:j<=k
  .rw[if_pos c,if_pos c,e2 j k c hk];lia
  .rw[if_neg c,if_neg c];rfl
def put2(A:Mx)(i:Nat)(x y:Nat->Int):(Mx):=λr=>if r=i then x else if r=i+1 then y else A r
def qh{x x' y:Nat->Int}(hi:i+1<n):det n (put2 A i (λj=>x j+x' j) y)=det n (put2 A i x y)+det n (put2 A i x' y):=by
 have:=Jf (n:=n) (A:=put2 A i (λj=>x j+x' j) y) (uX:=put2 A i x y) (C:=put2 A i x' y) (c:=1) (i:=i) J (λr j _ _ XJ=>by unfold put2;rw[if_neg XJ,if_neg XJ,if_neg XJ];exists Z,Z) (λj _=>by unfold put2;rw[if_pos Z,if_pos Z,if_pos Z,SH])
 rw[this,SH]
def dR{x y y':Nat->Int}(hi:i+1<n):det n (put2 A i x λj=>y j+y' j)=det n (put2 A i x y)+det n (put2 A i x y'):=by
 let ne:¬i+1=i:=J
 have:=Jf (n:=n) (A:=put2 A i x λj=>y j+y' j) (uX:=put2 A i x y) (C:=put2 A i x y') (c:=1) (i:=i+1) J (λr j _ _ XJ=>by unfold put2;rw[if_neg XJ,if_neg XJ,if_neg XJ];exists Z,Z) (λj _=>by unfold put2;rw[if_neg ne,if_neg ne,if_neg ne,if_pos Z,if_pos Z,if_pos Z,SH])
 rw[this,SH]
def qg{x:Nat->Int}(hi:i+1<n):det n (put2 A i x x)=0:=qi hi λj _=>by unfold put2;rw[if_pos Z,if_neg J,if_pos Z]
def qf{x y:Nat->Int}(hi:i+1<n):det n (put2 A i y x)=- det n (put2 A i x y):=by let h:=qg (A:=A) (x:=λj=>x j+y j) hi;rw[qh hi,dR hi,dR hi,qg hi,qg hi]at h;lia
def qd:put2 A i (A i) (A (i+1))=A:=by
 funext r
 unfold put2;cases h:r=i
 .rw[if_pos h,h]
 .rw[if_neg h];cases h2:r=i+1
  .rw[if_pos h2,h2]
  .rw[if_neg h2]
def dQ(hi:i+1<n):det n (put2 A i (A (i+1)) (A i))=- det n A:=by
 have:=qf (A:=A) (x:=A i) (y:=A<|i+1) hi
 rwa[qd]at this
def Mw:∀{d:Nat}{A:Mx},a+d+1<n->(∀j,j<n->A a j=A (a+d+1) j)->det n A=0
 |0,A,hn,h=>qi hn h
 |d+1,A,hn,h=>by
  let e:=dQ (n:=n) (A:=A) (i:=a+d+1) J;let z:det n (put2 A (a+d+1) (A<|a+d+1+1)<|A<|a+d+1)=0:=by show Mw (a:=a) (d:=d) J λj hj=>?_;unfold put2;rw[if_neg J,if_neg J,if_pos Z];show h j hj
  lia
def rotN(k t i:Nat):(Nat):=if i<k then i else if i=k then k+t else if i<=k+t then i-1 else i
def Zg8(k i:Nat):rotN k 0 i=i:=by
 unfold rotN;cases h:i<k
 .rw[if_pos h]
 .rw[if_neg h];cases h2:i=k
  .rw[if_pos h2,h2];rfl
  .rw[if_neg h2,if_neg J]
def qc:∀{t:Nat}{A:Mx},k+t<n->det n (λi=>A (rotN k t i))=sg t*det n A
 |0,A,_=>by rw[show sg 0=1 from Z,SH];show Zj λi j _ _=>by rw[Zg8]
 |t+1,A,h=>by
  let e:=qc (n:=n) (k:=k) (t:=t) (A:=put2 A (k+t) (A<|k+t+1)<|A<|k+t) J;rw[dQ J]at e;let f:det n (λi=>A<|rotN k (t+1) i)=det n (λi=>put2 A (k+t) (A<|k+t+1) (A<|k+t)<|rotN k t i):=Zj λi j _ _=>by
   show congrFun ?_ j;let r1:rotN k (t+1) i=if i<k then i else if i=k then k+(t+1) else if i<=k+(t+1) then i-1 else i:=rfl
   let r2:rotN k t i=if i<k then i else if i=k then k+t else if i<=k+t then i-1 else i:=rfl
   unfold put2;cases h1:i<k
   .rw[if_pos h1]at r1 r2;rw[r1,r2,if_neg J,if_neg J]
   .rw[if_neg h1]at r1 r2;cases h2:i=k
    .rw[if_pos h2]at r1 r2;rw[r1,r2,if_pos Z];rfl
    .rw[if_neg h2]at r1 r2;cases h3:i<=k+t
     .rw[if_pos J]at r1;rw[if_pos h3]at r2;rw[r1,r2,if_neg J,if_neg J]
     .rw[if_neg h3]at r2;cases h4:i=k+t+1
      .rw[if_pos J]at r1;rw[r1,r2,if_neg J,if_pos h4];show YZ A J
      .rw[if_neg J]at r1;rw[r1,r2,if_neg J,if_neg h4]
  rw[f,e,xK,Int.mul_neg,yI]
def qb:∀{n:Nat}{A:Mx},(∀i,i<n+1->A i 0=0)->det (n+1) A=0
 |0,A,h=>by change 0+sg 0*A 0 0*1=0;rw[h 0 B,Sy];rfl
 |n+1,A,h=>Jg λj hj=>by
  cases j with
  |zero=>rw[h 0 J,Sy,FO]
  |succ j=>
   rw[qb (A:=mn A<|j+1) λi hi=>?_,Sy];change A (i+1) (sk (j+1) 0)=0
   rw[show sk (j+1) 0=0 from Z];show h (i+1) J
def ZU8(h:∀i,i<n->A (i+1) 0=0):det (n+1) A=A 0 0*det n (λi j=>A (i+1) (j+1)):=by
 change sm (n+1) (λj=>sg j*A 0 j*det n (mn A j))=_;rw[DB,Jg λj hj=>?_]
 .rw[Rq,show sg 0=1 from Z,SH];show YZ (A 0 0 * ·) (Zj λi j _ _=>?_);rfl
 .cases n with
  |zero=>show absurd hj (Wg _)
  |succ n=>
   rw[qb (A:=mn A<|j+1) λi hi=>?_,Sy];show h i hi
def dP{i:Nat}(hi:i<n)(h:∀j,j<n->A i j=0):det n A=0:=by
 have:=Jf (A:=A) (uX:=A) (C:=A) (c:=1) hi (λr j _ _ _=>⟨Z,Z⟩) (λj hj=>by rw[h j hj];rfl)
 lia
def dO{c:Int}:∀{n:Nat}{A:Mx},det n (λi j=>c*A i j)=c^n*det n A
 |0,_=>by change(1:Int)=c^0*1;rw[Ny];rfl
 |n+1,A=>by
  change sm (n+1) (λj=>sg j*(c*A 0 j)*det n (mn (λi j=>c*A i j) j))=c^(n+1)*sm (n+1) λj=>sg j*A 0 j*det n (mn A j);rw[<-GV];show ZE λj _=>?_;let e:det n (mn (λi j=>c*A i j) j)=c^n*det n (mn A j):=dO (A:=mn A j)
  rw[e,Kk];generalize det n (mn A j)=d;generalize c^n=p;generalize sg j=s;generalize A 0 j=x;simp only[Vt,zj,RX]
def offN(R:Mx):(Mx):=λi j=>R 0 0*R (i+1) (j+1)-R (i+1) 0*R 0 (j+1)
def WJ(R:Mx)(k:Nat):(Mx):=λr j=>if r=0 then R 0 j else if r<=k then R 0 0*R r j-R r 0*R 0 j else R r j
def dN{m:Nat}:∀{k:Nat},k<m+1->det (m+1) (WJ R k)=R 0 0^k*det (m+1) R
 |0,_=>by
  rw[Ny,SH];show Zj λi j _ _=>?_;unfold WJ;cases h:i=0
  .rw[if_pos h,h]
  .rw[if_neg h,if_neg J]
 |k+1,hk=>by
  let ih:=dN (m:=m) (R:=R) (k:=k) J;obtain⟨C,hC⟩:∃C:Mx,C=λr j=>if r=k+1 then-R (k+1) 0*R 0 j else WJ R k r j:={_,Z}
  obtain⟨uX,hB⟩:∃uX:Mx,uX=λr j=>if r=k+1 then R 0 j else WJ R k r j:={_,Z}
  obtain⟨uW,hZ⟩:∃uW:Mx,uW=λr j=>if r=k+1 then 0 else WJ R k r j:={_,Z}
  let Je:det (m+1) uX=0:=Mw (n:=m+1) (a:=0) (d:=k) J λj hj=>by
   rw[hB];change(if 0=k+1 then _ else WJ R k 0 j)=if 0+k+1=k+1 then _ else _
   rw[if_neg J,if_pos J];rfl
  let hZz:det (m+1) uW=0:=dP (i:=k+1) hk λj hj=>by rw[hZ];show if_pos rfl
  let hCz:det (m+1) C=0:=by
   have:=Jf (A:=C) (uX:=uX) (C:=uW) (c:=- R (k+1) 0) hk (λr j _ _ XJ=>by
    rw[hC,hB,hZ];change(if r=k+1 then _ else WJ R k r j)=(if r=k+1 then _ else WJ R k r j)/\(if r=k+1 then _ else WJ R k r j)=(if r=k+1 then _ else WJ R k r j)
    rw[if_neg XJ,if_neg XJ,if_neg XJ];exists Z,Z) (λj _=>by
    rw[hC,hB,hZ];change(if k+1=k+1 then _ else _)=_*(if k+1=k+1 then _ else _)+(if k+1=k+1 then _ else _)
    rw[if_pos Z,if_pos Z,if_pos Z,Rq])
   rw[this,Je,hZz,Sy];rfl
  have:=Jf (A:=WJ R<|k+1) (uX:=WJ R k) (C:=C) (c:=R 0 0) hk (λr j _ _ XJ=>by
   let e1:WJ R (k+1) r j=WJ R k r j:=by
    unfold WJ;cases h0:r=0
    .rw[if_pos h0,if_pos h0]
    .rw[if_neg h0,if_neg h0];cases h1:r<=k
     .rw[if_pos h1,if_pos J]
     .rw[if_neg h1,if_neg J]
   exists e1,?_;rw[hC,e1];change _=if r=k+1 then _ else _
   rw[if_neg XJ]) (λj _=>by
   let e1:WJ R (k+1) (k+1) j=R 0 0*R (k+1) j-R (k+1) 0*R 0 j:=by unfold WJ;rw[if_neg J,if_pos J]
   let e2:WJ R k (k+1) j=R (k+1) j:=by unfold WJ;rw[if_neg B,if_neg J]
   rw[e1,e2,hC];change _=_+(if k+1=k+1 then-R (k+1) 0*R 0 j else _)
   rw[if_pos Z,yI]
   rfl)
  rw[this,hCz,ih,Rq,Kk];rw[<-RX,Vt (R 0 0)]
def p9:R 0 0*det m (offN R)=R 0 0^m*det (m+1) R:=by
 rw[<-dN (k:=m) J,ZU8 λi hi=>?_]
 .let e0:WJ R m 0 0=R 0 0:=if_pos rfl;rw[e0];show YZ (R 0 0 * ·) (Zj λi j hi hj=>?_);unfold WJ offN;rw[if_neg J,if_pos J]
 .unfold WJ;rw[if_neg J,if_pos J,Vt];lia
def ex(k:Nat)(r:Nat->Nat)(i:Nat):(Nat):=if i<k then i else k+r (i-k)
def RJ(A:Mx)(k M:Nat)(R:Mx)(last:Int):(Prop):=last≠0/\∀m r c,(∀i,i<m+1->r i<M/\c i<M)->
 det (m+1) (λi j=>R (r i)<|c j)=det (k+m+1) (λi j=>A (ex k r i)<|ex k c j)*last^m
def ZY8(A:Mx)(n:Nat):RJ A 0 n A 1:={vg,λm r c _=>by rw[Int.one_pow,Nx,Ot];show Zj λi j _ _=>?_;unfold ex;rw[if_neg (Wg _),if_neg<|Wg _,Ot,Ot,yP,yP]}
def Jd{p:Int}(h:p≠0):∀n:Nat,p^n≠0
 |0=>by rw[Ny];decide
 |n+1=>by rw[Kk];show Int.mul_ne_zero (Jd h n) h
def Pj(r:Nat->Nat):(Nat->Nat)
 |0=>0
 |i+1=>r i+1
def DA(k:Nat)(r:Nat->Nat)(i:Nat):ex k (Pj r) i=ex (k+1) r i:=by
 unfold ex;cases h:i<k
 .rw[if_pos h,if_pos J]
 .rw[if_neg h];cases h2:i=k
  .rw[if_pos J,h2,NA];rfl
  .rw[if_neg J];obtain⟨d,rfl⟩:∃d,i=k+d+1:={i-k-1,vk};rw[show k+d+1-k=d+1 by lia,show k+d+1-(k+1)=d by lia];change k+(r d+1)=k+1+r d
   lia
def dM{k M:Nat}(h:RJ A k (M+1) R last)(hp:R 0 0≠0){m:Nat}{r c:Nat->Nat}(hb:∀i,i<m+1->r i<M/\c i<M):
  det (m+1) (λi j=>offN R (r i)<|c j)=R 0 0^m*(last^(m+1)*det (k+1+m+1) λi j=>A (ex (k+1) r i)<|ex (k+1) c j):=by
 let e1:=p9 (m:=m+1) (R:=λi j=>R (Pj r i)<|Pj c j);let e2:=h.2 (m+1) (Pj r) (Pj c) λi hi=>by
  cases i with
  |zero=>exists Nat.succ_pos _,Nat.succ_pos _
  |succ i=>have:=hb i J;exists Nat.succ_lt_succ this.1,Nat.succ_lt_succ this.2
 let e3:det (m+1) (offN λi j=>R (Pj r i)<|Pj c j)=det (m+1) (λi j=>offN R (r i)<|c j):=rfl;let e4:det (k+(m+1)+1) (λi j=>A (ex k (Pj r) i)<|ex k (Pj c) j)=det (k+1+m+1) (λi j=>A (ex (k+1) r i)<|ex (k+1) c j):=by rw[show k+(m+1)+1=k+1+m+1 by lia];show Zj λi j _ _=>by rw[DA,DA]
 rw[e3]at e1;rw[e4]at e2;let e5:R (Pj r 0) (Pj c 0)=R 0 0:=rfl
 rw[e5,e2]at e1;generalize det (m+1) (λi j=>offN R (r i)<|c j)=x at *;generalize det (k+1+m+1) (λi j=>A (ex (k+1) r i)<|ex (k+1) c j)=y at *;rw[Kk]at e1;show gP hp ?_;rw[e1,Vt y,Vt<|R 0 0^m,RX]
def p8(A:Mx):det 1 A=A 0 0:=by change 0+sg 0*A 0 0*1=A 0 0;rw[show sg 0=1 from Z];lia
def p7{k M:Nat}(h:RJ A k (M+1) R last)(hp:R 0 0≠0)(hi:i<M)(hj:j<M):
  offN R i j=last*det (k+2) (λa b=>A (ex (k+1) (λ_=>i) a)<|ex (k+1) (λ_=>j) b):=by
 have:=dM h hp (m:=0) (r:=λ_=>i) (c:=λ_=>j) λ_ _=>⟨hi,hj⟩
 rwa[p8,Ny,SH,Kk,Ny,SH]at this
def p6(h:RJ A k (M+1) R last)(hp:R 0 0≠0)(hR:∀i j,i<M->j<M->R' i j=(offN R i j).fdiv last):RJ A (k+1) M R' (R 0 0):=by
 exists hp,λm r c hb=>?_;let pZ:∀i j,i<M->j<M->offN R i j=last*R' i j:=λi j hi hj=>by rw[hR i j hi hj,p7 h hp hi hj,Int.mul_fdiv_cancel_left _ h.1]
 let e1:=dM h hp hb;let e2:det (m+1) (λi j=>offN R (r i)<|c j)=last^(m+1)*det (m+1) (λi j=>R' (r i)<|c j):=by rw[<-dO];show Zj λi j hi hj=>pZ _ _ (hb i hi).1 (hb j hj).2
 rw[e2]at e1;show gP (Jd h.1<|m+1) ?_;rw[e1];generalize det (k+1+m+1) (λi j=>A (ex (k+1) r i)<|ex (k+1) c j)=y;rw[zj,Vt y]
def pY(h:RJ A k M R last)(ht:t<M):RJ (λi=>A (rotN k t i)) k M (λi=>R (rotN 0 t i)) last:=by
 exists h.1,λm r c hb=>?_;let e:=h.2 m (λi=>rotN 0 t<|r i) c λi hi=>⟨by
  have:=(hb i hi).1
  unfold rotN;rw[if_neg J];split
  .lia
  .split<;>lia,(hb i hi).2⟩
 rw[e];show YZ (· * last^m) (Zj λi j _ _=>?_);show YZ (λa=>A a<|ex k c j) ?_;unfold ex;cases hi:i<k
 .rw[if_pos hi,if_pos hi];unfold rotN;rw[if_pos hi]
 .rw[if_neg hi,if_neg hi];change k+rotN 0 t (r<|i-k)=rotN k t (k+r (i-k))
  generalize r (i-k)=a;let r1:rotN 0 t a=if a<0 then a else if a=0 then 0+t else if a<=0+t then a-1 else a:=rfl
  let r2:rotN k t (k+a)=if k+a<k then k+a else if k+a=k then k+t else if k+a<=k+t then k+a-1 else k+a:=rfl
  rw[if_neg J]at r1 r2;cases h1:a=0
  .rw[if_pos h1]at r1;rw[if_pos J]at r2;rw[r1,r2];lia
  .rw[if_neg h1]at r1;rw[if_neg J]at r2;cases h2:a<=t
   .rw[if_pos J]at r1;rw[if_pos J]at r2;rw[r1,r2];lia
   .rw[if_neg J]at r1;rw[if_neg J]at r2;rw[r1,r2]
def Mv(k i:Nat):ex k (λi=>i) i=i:=by
 unfold ex;cases h:i<k
 .rw[if_pos h]
 .rw[if_neg h];change k+(i-k)=i
  grind
def pX{k M:Nat}(h:RJ A k (M+1) R last)(h0:∀i,i<M+1->R i 0=0):det (k+M+1) A=0:=by
 let e:=h.2 M (λi=>i) (λi=>i) λi hi=>⟨hi,hi⟩;rw[qb (A:=λi j=>R i j) h0]at e;let e2:det (k+M+1) (λi j=>A (ex k (λi=>i) i)<|ex k (λi=>i) j)=det (k+M+1) A:=Zj λi j _ _=>by rw[Mv,Mv]
 rw[e2]at e;rcases Int.mul_eq_zero.G e.symm with z|z
 .show z
 .show absurd z (Jd h.1 M)
def pW(h:RJ A k 1 R last):R 0 0=det (k+1) A:=by
 let e:=h.2 0 (λi=>i) (λi=>i) λi hi=>⟨J,B⟩;rw[p8,Ny,Nx]at e;let e2:det (k+0+1) (λi j=>A (ex k (λi=>i) i)<|ex k (λi=>i) j)=det (k+1) A:=Zj λi j _ _=>by rw[Mv,Mv]
 rwa[e2]at e
end My
namespace L2
open PySem PySem.Spec PyProof.Rows
def pV(i j:Int):(Prop):=i.natAbs<2^9000/\j.natAbs<2^9000
def pU(i j:Int):(Prop):=j≠0/\j.natAbs<2^9000
def dJ(h:a.natAbs<2^9000):Builtin.Int.intBits a<=9000:=PySem.intBits_le_iff.L h
section
variable{X:Cx}
def pS:Wx X (binaryOp .Mult) (rI pV λi j=>.int (i*j)):=Hn λ_ _ _ _ _ _ _ hc q=>mul_int q (.of_bits (YB (dJ hc.1) vg)<|YB (dJ hc.2) vg)
def dI:Wx X (binaryOp .FloorDiv) (rI pU λi j=>.int (i.fdiv j)):=Hn λ_ _ _ _ _ _ _ hc q=>floordiv_int hc.1 q (.inl<|PyProof.noPylong_of_log2<|(Nat.log2_lt (by have:=hc.1;lia)).L hc.2)
end
end L2
namespace My
def fnL(L:Ab):(Mx):=λi j=>(L.E i []).E j 0
def Qo{l:Ac}{x:Int}(h:L[i]?=some l)(h2:l[j]?=some x):fnL L i j=x:=by
 let e:L.E i []=l:=by rw[WW,h];rfl
 unfold fnL;rw[e,WW,h2];rfl
def xJ(uX:Nat):(Nat->Nat)
 |0=>1
 |n+1=>(n+1)*(uX*xJ uX n)
def Dz{f:Nat->Int}{C:Nat}:∀{n:Nat},(∀i,i<n->(f i).natAbs<=C)->(sm n f).natAbs<=n*C
 |0,_=>by change(0:Int).natAbs<=0*C;rw[Nat.zero_mul];show XQ 0
 |n+1,h=>by
  let h1:=Dz (n:=n) λi hi=>h i J;let h2:=h n J
  let h3:(sm n f+f n).natAbs<=(sm n f).natAbs+(f n).natAbs:=vK ..;change(sm n f+f n).natAbs<=(n+1)*C
  rw[Nat.succ_mul];lia
def dH:∀{n:Nat}{A:Mx},(∀i j,i<n->j<n->(A i j).natAbs<=uX)->(det n A).natAbs<=xJ uX n
 |0,_,_=>XQ 1
 |n+1,A,h=>by
  show Dz λj hj=>?_;let e:(sg j).natAbs=1:=by unfold sg;split<;>rfl
  rw[FV,FV,e,Nat.one_mul];show LG (h 0 j J hj) (dH λi k hi hk=>h (i+1) (sk j k) J<|Pk hk)
def Dy{b:Nat}:∀{n:Nat},n<=16->xJ (2^b) n<=2^((b+4)*n)
 |0,_=>by change 1<=2^((b+4)*0);rw[Nat.mul_zero];show XQ 1
 |n+1,h=>by
  let ih:=Dy (b:=b) (n:=n) J;let e:2^((b+4)*(n+1))=16*(2^b*2^((b+4)*n)):=by rw[Nat.mul_succ,Nat.pow_add,Nat.pow_add,yO<|2^((b+4)*n),yO (2^b)<|2^4,Nat.mul_assoc]
  rw[e];change(n+1)*(2^b*xJ (2^b) n)<=_
  show LG h (LG (XQ _) ih)
def dG(hn:n<=16)(h:∀i j,i<n->j<n->(A i j).natAbs<=2^400):(det n A).natAbs<2^9000:=by
 let h1:=dH h;let h2:=Dy (b:=400) hn
 let h3:2^((400+4)*n)<=2^(404*16):=Ro vg (LG (XQ _) hn);let h4:2^(404*16)<2^9000:=Nat.pow_lt_pow_right vg vg
 show zm (YB h1<|YB h2 h3) h4
def Dx(h:RJ A k M R last){i j:Nat}(hi:i<M)(hj:j<M):R i j=det (k+1) (λa b=>A (ex k (λ_=>i) a) (ex k (λ_=>j) b)):=by
 have:=h.2 0 (λ_=>i) (λ_=>j) λ_ _=>⟨hi,hj⟩
 rwa[p8,Ny,Nx]at this
def ZZ8{k M n:Nat}(h:RJ A k M R last)(hn:k+M=n)(hn16:n<=16)(hA:∀i j,i<n->j<n->(A i j).natAbs<=2^400){i j:Nat}(hi:i<M)(hj:j<M):(R i j).natAbs<2^9000:=by
 rw[Dx h hi hj];show dG J λa b ha hb=>hA _ _ ?_ ?_
 .let e:ex k (λ_=>i) a=if a<k then a else k+i:=rfl
  rw[e];split<;>lia
 .let e:ex k (λ_=>j) b=if b<k then b else k+j:=rfl
  rw[e];split<;>lia
def pR{L:Ab}{l:Ac}(h:L[t]?=some l)(i:Nat):(l::L.eraseIdx t)[i]?=L[rotN 0 t i]?:=by
 let ht:=(Xs.G h).1;let r:rotN 0 t i=if i<0 then i else if i=0 then 0+t else if i<=0+t then i-1 else i:=rfl
 rw[if_neg J]at r;cases i with
 |zero=>
  rw[if_pos Z,Ot]at r;rw[r,h];rfl
 |succ i=>
  rw[if_neg J,Ot]at r;rw[r,List.getElem?_cons_succ,vV];cases c:i+1<=t
  .rw[if_pos c,if_pos J];rfl
  .rw[if_neg c,if_neg J]
def pQ{l:Ac}(h:L[t]?=some l):fnL (l::L.eraseIdx t)=λi=>fnL L (rotN 0 t i):=by
 funext i j
 change((l::L.eraseIdx t).E i []).E j 0=(L.E (rotN 0 t i) []).E j 0;show YZ (λr:Ac=>r.E j 0) ?_;rw[WW,WW,pR h]
def Ph(y:Int)(p:Ac)(last:Int)(l:Ac):(Ac):=List.zipWith (λown other=>(y*own-l.headD 0*other).fdiv last) l.tail p
def Dw(h:l.f=p.f+1):(Ph y p last l).f=p.f:=by unfold Ph;rw[OB,zc];lia
def Dv{L:Ab}{M:Nat}(hp:p.f=M)(hL:L.f=M)(hl:∀l∈L,l.f=M+1){i j:Nat}(hi:i<M)(hj:j<M):
  fnL (L.H<|Ph y p last) i j=(offN (fnL<|(y::p)::L) i j).fdiv last:=by
 obtain⟨l,La⟩:∃l,L[i]?=some l:={_,XI J};let Wa:=hl l (Xn La)
 obtain⟨x,l',rfl⟩:∃x l',l=x::l':=by
  cases l with
  |nil=>cases Wa
  |cons x l'=>exists x,l',Z
 let Ft:l'.f=M:=by rw[Yx]at Wa;lia
 obtain⟨u,hu⟩:∃u,l'[j]?=some u:={_,XI J};obtain⟨v,hv⟩:∃v,p[j]?=some v:={_,XI J};let e1:fnL (L.H<|Ph y p last) i j=(y*u-x*v).fdiv last:=Qo (l:=Ph y p last<|x::l') (by rw[Yk,La];rfl) (by
  change(List.zipWith _ l' p)[j]?=_;rw[OC,hu,hv]
  rfl)
 let e2:fnL ((y::p)::L) 0 0=y:=rfl;let e3:fnL ((y::p)::L) (i+1) (j+1)=u:=Qo (l:=x::l') La hu
 let e4:fnL ((y::p)::L) (i+1) 0=x:=Qo (l:=x::l') La rfl;let e5:fnL ((y::p)::L) 0 (j+1)=v:=Qo (l:=y::p) Z hv
 rw[e1];unfold offN;rw[e2,e3,e4,e5]
end My
namespace My
open PySem L2
def Du(K:Ad)(H:Hp)(v:V)(l:Ac):(Prop):=∃r k,v=.ref r/\SqK k K H r (IL l)
def LiV(d:Addr)(H:Hp)(v:V)(l:Ac):(Prop):=∃r,v=.ref r/\H r=some (.lst<|IL l)/\r≠d
def LiV.same(s:Same H H')(h:LiV d H v l):LiV d H' v l:=by let(r,e,h,n):=h;exists r,e,s _ _ h,n
def LiV.mut(h:LiV d H v l):LiV d (upd H d o) v l:=by let(r,e,h,n):=h;exists r,e,by rw[Za n];show h,n
def LiV.list(h:LiV d H v l):RO H v l:=by let(r,e,h,_):=h;exists r,e,h
def Bears.erase{α:Type}[DecidableEq α]{R:V->α->Prop}{xs:List V}{l:List α}(h:Bears R xs l)(t:Nat):Bears R (xs.eraseIdx t) (l.eraseIdx t):=by
 let hl:=h.1;show{by rw[Rn,Rn,hl],λi a e=>?_};rw[vV]at e;rw[vV];split at e
 .next c=>rw[if_pos c];show h.2 _ _ e
 .next c=>rw[if_neg c];show h.2 _ _ e
def dF(x:Int)(l:Ac):Xk (IL (x::l)) (some 1) none=IL l:=by rw[MA vg];rfl
def pP(t:Nat):sg t*sg t=1:=by unfold sg;split<;>rfl
end My
namespace My
def pO{f:Nat->Nat->Int}:sm n (λi=>sm m λj=>f i j)=sm m (λj=>sm n λi=>f i j):=qk
def dE:∀{n:Nat}{A:Mx},det (n+1) A=sm (n+1) λi=>sg i*A i 0*det n (λr c=>A (sk i r) (c+1))
 |0,A=>rfl
 |n+1,A=>by
  let e1:det (n+2) A=sg 0*A 0 0*det (n+1) (mn A 0)+sm (n+1) λj=>sg (j+1)*A 0 (j+1)*det (n+1) (mn A<|j+1):=DB;let e2:sm (n+2) (λi=>sg i*A i 0*det (n+1) λr c=>A (sk i r)<|c+1)=sg 0*A 0 0*det (n+1) (λr c=>A (sk 0 r)<|c+1)+sm (n+1) λi=>sg (i+1)*A (i+1) 0*det (n+1) (λr c=>A (sk (i+1) r)<|c+1):=DB
  rw[e1,e2];let e3:det (n+1) (mn A 0)=det (n+1) (λr c=>A (sk 0 r)<|c+1):=Zj λr c _ _=>rfl
  rw[e3];show YZ (λz:Int=>sg 0*A 0 0*det (n+1) (λr c=>A (sk 0 r)<|c+1)+z) ?_;obtain⟨D,hD⟩:∃D:Nat->Nat->Int,D=λi j=>det n (λr c=>A (sk i r+1)<|sk (j+1)<|c+1):={_,Z};let e4:∀j,j<n+1->det (n+1) (mn A<|j+1)=sm (n+1) λi=>sg i*A (i+1) 0*D i j:=λj _=>by rw[dE,hD];rfl
  let e5:∀i,i<n+1->det (n+1) (λr c=>A (sk (i+1) r)<|c+1)=sm (n+1) λj=>sg j*A 0 (j+1)*D i j:=λi hi=>by
   change sm (n+1) (λj=>sg j*A (sk (i+1) 0) (j+1)*det n (mn (λr c=>A (sk (i+1) r)<|c+1) j))=_;show ZE λj _=>?_;rw[hD];change sg j*A (sk (i+1) 0) (j+1)*det n (mn (λr c=>A (sk (i+1) r)<|c+1) j)=sg j*A 0 (j+1)*det n (λr c=>A (sk i r+1)<|sk (j+1)<|c+1)
   rw[show sk (i+1) 0=0 from Z];show YZ (sg j*A 0 (j+1) * ·) (Zj λr c _ _=>?_);change A (sk (i+1)<|r+1) (sk j c+1)=A (sk i r+1) (sk (j+1)<|c+1)
   let f1:sk (i+1) (r+1)=sk i r+1:=by
    unfold sk;cases h:r<i
    .rw[if_pos h,if_pos J]
    .rw[if_neg h,if_neg J]
   let f2:sk j c+1=sk (j+1) (c+1):=by
    unfold sk;cases h:c<j
    .rw[if_pos h,if_pos J]
    .rw[if_neg h,if_neg J]
   rw[f1,f2]
  let e6:sm (n+1) (λj=>sg (j+1)*A 0 (j+1)*det (n+1) (mn A<|j+1))=sm (n+1) λj=>sm (n+1) λi=>sg (j+1)*A 0 (j+1)*(sg i*A (i+1) 0*D i j):=ZE λj hj=>by rw[e4 j hj,GV]
  let e7:sm (n+1) (λi=>sg (i+1)*A (i+1) 0*det (n+1) λr c=>A (sk (i+1) r)<|c+1)=sm (n+1) λi=>sm (n+1) λj=>sg (i+1)*A (i+1) 0*(sg j*A 0 (j+1)*D i j):=ZE λi hi=>by rw[e5 i hi,GV]
  rw[e6,e7,pO];show ZE λi _=>ZE λj _=>?_;rw[xK,xK];generalize D i j=d;generalize A 0 (j+1)=x;generalize A (i+1) 0=y;generalize sg i=s;generalize sg j=u;simp only[yI,Int.neg_inj];simp only[Vt,zj,RX]
def Pg:∀{n:Nat}{A:Mx},det n (λi j=>A j i)=det n A
 |0,_=>rfl
 |n+1,A=>by
  rw[dE (A:=A)];show ZE λj _=>?_;change sg j*A j 0*det n (λi k=>A (sk j k)<|i+1)=sg j*A j 0*det n (λr c=>A (sk j r)<|c+1)
  rw[<-Pg (A:=λr c=>A (sk j r)<|c+1)]
def pN{n a b:Nat}(ha:a<n)(hb:b<n)(XJ:a≠b)(h:∀j,j<n->A a j=A b j):det n A=0:=by
 rcases Nat.lt_or_gt_of_ne XJ with c|c
 .obtain⟨d,rfl⟩:∃d,b=a+d+1:={b-a-1,vk};show Mw hb h
 .obtain⟨d,rfl⟩:∃d,a=b+d+1:={a-b-1,vk};show Mw ha λj hj=>(h j hj).symm
def putr(A:Mx)(i:Nat)(x:Nat->Int):(Mx):=λr=>if r=i then x else A r
def dD{c:Int}{x y:Nat->Int}(hi:i<n):det n (putr A i λj=>c*x j+y j)=c*det n (putr A i x)+det n (putr A i y):=
 Jf hi (λr j _ _ XJ=>by unfold putr;rw[if_neg XJ,if_neg XJ,if_neg XJ];exists Z,Z) (λj _=>by unfold putr;rw[if_pos Z,if_pos Z,if_pos Z])
def dC:putr A i (A i)=A:=by
 funext r
 unfold putr;cases h:r=i
 .rw[if_pos h,h]
 .rw[if_neg h]
def dB{n a b:Nat}{c:Int}(ha:a<n)(hb:b<n)(XJ:a≠b):det n (putr A a λj=>A a j+c*A b j)=det n A:=by
 let e:(λj=>A a j+c*A b j)=λj=>c*A b j+A a j:=by funext j;lia
 rw[e,dD ha,dC,pN ha hb XJ (A:=putr A a<|A b) λj _=>?_,Sy,Nz];unfold putr;rw[if_pos Z,if_neg (XO XJ)]
def pM(a i:Nat):rotN 0 a (i+1)=sk a i:=by
 let r:rotN 0 a (i+1)=if i+1<0 then i+1 else if i+1=0 then 0+a else if i+1<=0+a then i+1-1 else i+1:=rfl
 rw[if_neg J,if_neg J]at r;rw[r];unfold sk;cases h:i<a
 .rw[if_pos h,if_pos J];lia
 .rw[if_neg h,if_neg J]
def Dt{f:Nat->Int}{a:Nat}:∀{n:Nat},a<n->(∀j,j<n->j≠a->f j=0)->sm n f=f a
 |0,h,_=>absurd h (Wg _)
 |n+1,h,h0=>by
  change sm n f+f n=f a;cases c:a=n
  .rw[Jg λi hi=>h0 i vk J,c,Nz]
  .rw[Dt (n:=n) J λj hj XJ=>h0 j J XJ,h0 n J J,Rq]
def pL(ha:a<n+1):det (n+1) (putr A a λj=>if j=a then 1 else 0)=det n (λi j=>A (sk a i) (sk a j)):=by
 let e:=qc (n:=n+1) (k:=0) (t:=a) (A:=putr A a λj=>if j=a then 1 else 0) J;let r0:rotN 0 a 0=a:=by change(if 0<0 then 0 else if 0=0 then 0+a else _)=a;rw[if_neg J,if_pos Z,Ot]
 let top:det (n+1) (λi=>putr A a (λj=>if j=a then 1 else 0)<|rotN 0 a i)=sg a*det n (λi j=>A (sk a i)<|sk a j):=by
  change sm (n+1) (λj=>sg j*putr A a (λj=>if j=a then 1 else 0) (rotN 0 a 0) j*det n (mn (λi=>putr A a (λj=>if j=a then 1 else 0)<|rotN 0 a i) j))=_;rw[Dt ha λj _ XJ=>?_]
  .rw[r0];let e1:putr A a (λj=>if j=a then 1 else 0) a a=1:=by unfold putr;rw[if_pos Z,if_pos Z]
   rw[e1,Nx];show YZ (sg a * ·) (Zj λi j _ _=>?_);change putr A a (λj=>if j=a then 1 else 0) (rotN 0 a<|i+1) (sk a j)=A (sk a i) (sk a j)
   rw[pM];unfold putr;rw[if_neg (by unfold sk;split<;>lia)]
  .rw[r0];let e1:putr A a (λj=>if j=a then 1 else 0) a j=0:=by unfold putr;rw[if_pos Z,if_neg XJ]
   rw[e1,Sy,FO]
 rw[top]at e;let h:=YZ (sg a * ·) e
 simp only[<-RX]at h;rw[show sg a*sg a=1 by unfold sg;split<;>rfl,SH,SH]at h
 show h.symm
def dA{w:Int}(ha:a<n+1):det (n+1) (λi j=>A i j+w*((if i=a then 1 else 0)*(if j=a then 1 else 0)))=det (n+1) A+w*det n (λi j=>A (sk a i) (sk a j)):=by
 let e:det (n+1) (λi j=>A i j+w*((if i=a then 1 else 0)*(if j=a then 1 else 0)))=det (n+1) (putr A a λj=>w*(λj=>if j=a then 1 else 0) j+A a j):=Zj λi j _ _=>by
  unfold putr;cases h:i=a
  .subst h;rw[if_pos Z,if_pos Z,SH];change A i j+w*(if j=i then 1 else 0)=w*(if j=i then 1 else 0)+A i j
   show Int.add_comm ..
  .rw[if_neg h,if_neg h,FO,Sy,Rq]
 rw[e,dD ha,dC,pL ha];lia
def ind(u v i:Nat):(Int):=(if i=u then 1 else 0)-(if i=v then 1 else 0)
def Vj(A:Mx)(a b:Nat):(Mx):=λi j=>(A i j+(if i=b then A a j else 0))+(if j=b then A i a+(if i=b then A a a else 0) else 0)
def dz(ha:a<n)(hb:b<n)(XJ:a≠b):det n (Vj A a b)=det n A:=by
 let e1:det n A=det n (putr A b λj=>A b j+1*A a j):=(dB hb ha<|XO XJ).symm;obtain⟨R,hR⟩:∃R:Mx,R=putr A b (λj=>A b j+1*A a j):={_,Z};let e2:det n R=det n (putr (λi j=>R j i) b λj=>(λi j=>R j i) b j+1*(λi j=>R j i) a j):=by rw[dB (A:=λi j=>R j i) hb ha (XO XJ)];show Pg.symm
 rw[e1,<-hR,e2,<-Pg (A:=putr (λi j=>R j i) b λj=>(λi j=>R j i) b j+1*(λi j=>R j i) a j)];show Zj λi j _ _=>?_;let rv:∀r c,R r c=A r c+(if r=b then A a c else 0):=λr c=>by
  rw[hR];unfold putr;cases h:r=b
  .rw[if_pos h,if_pos h,h];lia
  .rw[if_neg h,if_neg h];lia
 unfold Vj;change _=(putr (λi j=>R j i) b λj=>R j b+1*R j a) j i
 unfold putr;cases h:j=b
 .rw[if_pos h,if_pos h,rv,rv,h];cases h2:i=b
  .rw[if_pos h2,if_pos h2];lia
  .rw[if_neg h2,if_neg h2];lia
 .rw[if_neg h,if_neg h];change _=R i j
  rw[rv];lia
def pK{w:Int}(ha:a<n+1)(hb:b<n+1)(XJ:a≠b):det (n+1) (λi j=>A i j+w*(ind a b i*ind a b j))=det (n+1) A+w*det n (λi j=>Vj A a b (sk a i) (sk a j)):=by
 let e1:=dz (A:=λi j=>A i j+w*(ind a b i*ind a b j)) ha hb XJ;let e2:det (n+1) (Vj (λi j=>A i j+w*(ind a b i*ind a b j)) a b)=det (n+1) (λi j=>Vj A a b i j+w*((if i=a then 1 else 0)*(if j=a then 1 else 0))):=Zj λi j _ _=>by
  let na:¬a=b:=XJ;let nb:¬b=a:=XO XJ
  unfold Vj ind;cases hi:i=b
  .subst hi;cases hj:j=i
   .subst hj;simp[na,nb];lia
   .cases Pf:j=a
    .subst Pf;simp[na,nb,hj];lia
    .simp[na,nb,hj,Pf]
  .cases We:i=a
   .subst We;cases hj:j=b
    .subst hj;simp[na,nb];lia
    .cases Pf:j=i
     .subst Pf;simp[na,nb]
     .simp[na,nb,hj,Pf]
   .cases hj:j=b
    .subst hj;simp[na,nb,hi,We]
    .cases Pf:j=a
     .subst Pf;simp[na,nb,hi,We]
     .simp[na,nb,hi,We,hj,Pf]
 rw[<-e1,e2,dA ha,dz ha hb XJ]
end My
namespace My
open PySem L2
abbrev Ed:=Nat×Nat×Int
def lapE:(List Ed->Mx)
 |[]=>λ_ _=>0
 |e::E=>λi j=>e.2.2*(ind e.1 e.2.1 i*ind e.1 e.2.1 j)+lapE E i j
def pJ(E:List Ed)(e:Ed)(i j:Nat):lapE (E++[e]) i j=lapE E i j+e.2.2*(ind e.1 e.2.1 i*ind e.1 e.2.1 j):=by
 induction E with
 |nil=>show _+0=0+_;lia
 |cons f E ih=>
  change _+lapE (E++[e]) i j=_+lapE E i j+_;rw[ih];lia
def Tw(E:List Ed)(z:Int):(Nat×Nat):=((E.E z.j (0,0,0)).1,(E.E z.j (0,0,0)).2.1)
def UI(E:List Ed):(Ac->Int)
 |[]=>1
 |z::T=>(E.E z.j (0,0,0)).2.2*UI E T
def pI(E:List Ed)(S T:Ac):UI E (S++T)=UI E S*UI E T:=by
 induction S with
 |nil=>show _=1*_;rw[SH];rfl
 |cons z S ih=>show _*UI E (S++T)=_*_*_;rw[ih,RX]
def IsT(k:Nat)(E:List Ed)(T:Ac):(Prop):=IsSet E.f T/\T.f=k/\∀i j,i<k+1->j<k+1->Conn (T.H<|Tw E) i j
def TW(k:Nat)(E:List Ed)(s:Int):(Prop):=∃L:Ab,L.Nodup/\(∀T,T∈L↔IsT k E T)/\(L.H<|UI E).sum=s
def dy{E:List Ed}{e:Ed}{z:Int}(h0:0<=z)(h1:z<E⁻¹):(E++[e]).E z.j (0,0,0)=E.E z.j (0,0,0):=by rw[WW,WW,Yz J]
def Ds(E:List Ed)(e:Ed):(E++[e]).E (E.f:Int).j (0,0,0)=e:=by rw[WW,Yy,YE<|XQ _,NA];rfl
def Jc{e:Ed}(h:IsSet E.f T):T.H (Tw (E++[e]))=T.H (Tw E):=YN λz hz=>by
 have:=h.all z hz
 unfold Tw;rw[dy this.1 this.2]
def Pe{e:Ed}(h:∀z∈T,0<=z/\z<E⁻¹):UI (E++[e]) T=UI E T:=by
 induction T with
 |nil=>rfl
 |cons z T ih=>
  let hz:=h z Yd;change _*UI (E++[e]) T=_*UI E T
  rw[dy hz.1 hz.2,ih λy hy=>h y (Yf _ hy)]
def xI{e:Ed}(h:IsSet E.f T):IsT k (E++[e]) T↔IsT k E T:=by
 let h2:IsSet (E++[e]).f T:=by rw[Xm];show h.up
 constructor
 .rintro⟨_,a,b⟩;exists h,a,by rwa[Jc h]at b
 .rintro⟨_,a,b⟩;exists h2,a,by rwa[Jc h]
def Dr{e:Ed}(h:IsSet E.f T):(T++[E⁻¹]).H (Tw (E++[e]))=T.H (Tw E)++[(e.1,e.2.1)]:=by
 rw[YD,Jc h];change _++[Tw (E++[e]) E⁻¹]=_
 unfold Tw;rw[Ds]
def sh(a x:Nat):(Nat):=if x<a then x else x-1
def dl(a b x:Nat):(Nat):=if x=a then sh a b else sh a x
def Jb(a y:Nat):sh a (sk a y)=y:=by
 unfold sk;cases h:y<a
 .rw[if_pos h];unfold sh;rw[if_pos h]
 .rw[if_neg h];unfold sh;rw[if_neg J];lia
def Dq(a y:Nat):sk a y≠a:=by unfold sk;split<;>lia
def Mu(h:x≠a):sk a (sh a x)=x:=by
 unfold sh;cases c:x<a
 .rw[if_pos c];unfold sk;rw[if_pos c]
 .rw[if_neg c];unfold sk;rw[if_neg J];lia
def Mt(a b y:Nat):dl a b (sk a y)=y:=by unfold dl;rw[if_neg (Dq a y),Jb]
def Ja(hx:x≠a)(hy:y≠a)(h:sh a x=sh a y):x=y:=by
 have:=YZ (sk a) h
 rwa[Mu hx,Mu hy]at this
def pH(XJ:b≠a)(h:dl a b x=dl a b y):x=y\/(x=a/\y=b)\/(x=b/\y=a):=by
 unfold dl at h;cases hx:x=a
 .rw[if_pos hx]at h;cases hy:y=a
  .show .inl (hx.l hy.symm)
  .rw[if_neg hy]at h;show .inr (.inl {hx,(Ja XJ hy h).symm})
 .rw[if_neg hx]at h;cases hy:y=a
  .rw[if_pos hy]at h;show .inr (.inr {Ja hx XJ h,hy})
  .rw[if_neg hy]at h;show .inl (Ja hx hy h)
def pG(a b:Nat)(XJ:b≠a):dl a b a=dl a b b:=by unfold dl;rw[if_pos Z,if_neg XJ]
def pF{es:List (Nat×Nat)}{i j:Nat}(XJ:b≠a)(c:Conn (es++[(a,b)]) i j):Conn (es.H λe=>(dl a b e.1,dl a b e.2)) (dl a b i) (dl a b j):=by
 induction c with
 |refl i=>show .refl _
 |edge q=>
  rcases Yb.G q with q|q
  .show .edge (Yp.L {_,q,Z})
  .let e:=XD.G q;injection e with e1 e2
   rw[e1,e2,pG a b XJ];show .refl _
 |symm _ ih=>show .symm ih
 |trans _ _ a b=>show .trans a b
def pE{es:List (Nat×Nat)}{u v:Nat}(XJ:b≠a)(c:Conn (es.H λe=>(dl a b e.1,dl a b e.2)) u v):∀i j,dl a b i=u->dl a b j=v->Conn (es++[(a,b)]) i j:=by
 let he:Conn (es++[(a,b)]) a b:=.edge AP;let same:∀i j,dl a b i=dl a b j->Conn (es++[(a,b)]) i j:=λi j e=>by
  rcases pH XJ e with e|⟨e1,e2⟩|⟨e1,e2⟩
  .rw[e];show .refl _
  .rw[e1,e2];show he
  .rw[e1,e2];show he.symm
 induction c with
 |refl u=>show λi j e1 e2=>same i j (e1.l e2.symm)
 |edge q=>
  intro i j e1 e2;let((x,y),NX,e):=Yp.G q;injection e with x1 x2
  show(same i x<|e1.l x1.symm).l (.trans (.edge<|Yn _ NX)<|same y j<|x2.l e2.symm)
 |symm _ ih=>show λi j e1 e2=>(ih j i e2 e1).symm
 |@trans x y z _ _ Mz QX=>show λi j e1 e2=>(Mz i (sk a y) e1<|Mt a b y).l (QX (sk a y) j (Mt a b y) e2)
def Ms{a b x k:Nat}(ha:a<k+1)(hb:b<k+2)(XJ:b≠a)(hx:x<k+2):dl a b x<k+1:=by
 unfold dl sh;cases h:x=a
 .rw[if_pos h];split<;>lia
 .rw[if_neg h];split<;>lia
def dw{a b k:Nat}{es:List (Nat×Nat)}(ha:a<k+1)(hb:b<k+2)(XJ:b≠a):(∀i j,i<k+2->j<k+2->Conn (es++[(a,b)]) i j)↔∀i j,i<k+1->j<k+1->Conn (es.H λe=>(dl a b e.1,dl a b e.2)) i j:=by
 constructor
 .intro c i j h1 h2
  have:=pF XJ (c (sk a i) (sk a j) (Pk h1)<|Pk h2)
  rwa[Mt,Mt]at this
 .show λc i j h1 h2=>pE XJ (c _ _ (Ms ha hb XJ h1)<|Ms ha hb XJ h2) i j Z rfl
def SA(a b:Nat)(E:List Ed):(List Ed):=E.H λe=>(dl a b e.1,dl a b e.2.1,e.2.2)
def dv{z:Int}(h0:0<=z)(h1:z<E⁻¹):(SA a b E).E z.j (0,0,0)=(dl a b (E.E z.j (0,0,0)).1,dl a b (E.E z.j (0,0,0)).2.1,(E.E z.j (0,0,0)).2.2):=by unfold SA;rw[WW,WW,Yk,XI B];rfl
def du(h:IsSet E.f T):T.H (Tw (SA a b E))=(T.H (Tw E)).H λe=>(dl a b e.1,dl a b e.2):=by
 rw[LB];show YN λz hz=>?_
 have:=h.all z hz
 unfold Tw;rw[dv this.1 this.2];rfl
def pD(h:∀z∈T,0<=z/\z<E⁻¹):UI (SA a b E) T=UI E T:=by
 induction T with
 |nil=>rfl
 |cons z T ih=>
  let hz:=h z Yd;change _*UI (SA a b E) T=_*UI E T
  rw[dv hz.1 hz.2,ih λy hy=>h y (Yf _ hy)]
def KZ{e:Ed}(ha:a<k+1)(hb:b<k+2)(XJ:b≠a)(he:(e.1=a/\e.2.1=b)\/(e.1=b/\e.2.1=a))(h:IsSet E.f T):IsT (k+1) (E++[e]) (T++[E⁻¹])↔IsT k (SA a b E) T:=by
 let hl:(SA a b E).f=E.f:=Xy ..;let hc:(∀i j,i<k+2->j<k+2->Conn ((T++[E⁻¹]).H (Tw<|E++[e])) i j)↔∀i j,i<k+2->j<k+2->Conn (T.H (Tw E)++[(a,b)]) i j:=by
  rw[Dr h];rcases he with ⟨e1,e2⟩|⟨e1,e2⟩
  .rw[e1,e2]
  .rw[e1,e2];exists λc i j x y=>dU<|c i j x y,λc i j x y=>dU<|c i j x y
 let h2:IsSet (E++[e]).f (T++[E⁻¹]):=by rw[Xm];show h.snoc
 constructor
 .rintro⟨_,x,y⟩;exists hl▸h,?_,?_
  .rw[Xm,YQ]at x;lia
  .rw[du h];show(dw ha hb XJ).G (hc.G y)
 .rintro⟨_,x,y⟩;rw[du h]at y;exists h2,by rw[Xm,YQ,x],hc.L<|(dw ha hb XJ).L y
def pC{E:List Ed}{e:Ed}(hE:∀f∈E,f.1<k+1/\f.2.1<k+1)(he:e.1=e.2.1)(h:IsSet E.f T):¬IsT k (E++[e]) (T++[E⁻¹]):=by
 rintro⟨_,x,y⟩;rw[Dr h]at y;let Pm:∀i j,i<k+1->j<k+1->Conn (T.H<|Tw E) i j:=λi j hi hj=>(y i j hi hj).lift λf hf=>by
  rcases Yb.G hf with q|q
  .show .edge q
  .rw[XD.G q,he];show .refl _
 let Vl:InN (k+1) (T.H<|Tw E):=λf hf=>by
  let(z,hz,rfl):=Yp.G hf
  have:=h.all z hz
  unfold Tw;rw[WW,XI J];show hE _ (QE _)
 let h2:=(UO J Vl).L Pm;let h3:=xW _ Vl
 rw[Xy]at h3;rw[Xm,YQ]at x;lia
def Dp{e:Ed}(hE:∀f∈E,f.1<k+1/\f.2.1<k+1)(he:e.1=e.2.1)(h:TW k E s):TW k (E++[e]) s:=by
 let(L,a1,a2,a3):=h;exists L,a1,λT=>?_,?_
 .rw[a2];constructor
  .show λh=>(xI h.1).L h
  .intro h;let hs:=h.1
   rw[Xm]at hs;rcases dW hs with c|⟨T',c,c2⟩
   .show(xI c).G h
   .show absurd (c▸h) (pC hE he c2)
 .rw[<-a3];show YZ List.sum (YN λT hT=>Pe ((a2 T).G hT).1.all)
def pB(a b:Ac):(a++b).sum=a.sum+b.sum:=by
 induction a with
 |nil=>rw[Ks,List.sum_nil,Nz]
 |cons x a ih=>rw[Ga,WQ,WQ,ih];lia
def Za8(w:Int)(l:Ab)(f:Ac->Int):(l.H λT=>f T*w).sum=w*(l.H f).sum:=by
 induction l with
 |nil=>rw[List.map_nil,List.map_nil,List.sum_nil,Sy]
 |cons x l ih=>rw[YJ,YJ,WQ,WQ,ih,Tp,Vt]
def Dn{e:Ed}(ha:a<k+1)(hb:b<k+2)(XJ:b≠a)(he:(e.1=a/\e.2.1=b)\/(e.1=b/\e.2.1=a))(h1:TW (k+1) E s1)(h2:TW k (SA a b E) s2):TW (k+1) (E++[e]) (s1+e.2.2*s2):=by
 let(L,a1,a2,a3):=h1;let(M,b1,b2,b3):=h2;let hl:(SA a b E).f=E.f:=Xy ..
 exists L++M.H (·++[E⁻¹]),VR.L {a1,?_,λx hx y hy c=>?_},λT=>?_,?_
 .show List.Q.H _ (λx y h c=>h<|List.append_cancel_right c) b1
 .let⟨z,hz,c2⟩:=Yp.G hy
  have:=((a2 x).G hx).1.all E⁻¹ (by rw[c,<-c2];simp)
  lia
 .rw[Yb,a2,Yp];constructor
  .rintro(h|⟨T',hT,rfl⟩)
   .show(xI h.1).L h
   .have:=(b2 T').G hT
    show(KZ ha hb XJ he<|hl▸this.1).L this
  .intro h;let hs:=h.1
   rw[Xm]at hs;rcases dW hs with c|⟨T',c,c2⟩
   .show .inl ((xI c).G h)
   .show .inr {T',(b2 T').L ((KZ ha hb XJ he c2).G (c▸h)),c.symm}
 .rw[YD,pB,LB];let e1:L.H (UI<|E++[e])=L.H (UI E):=YN λT hT=>Pe ((a2 T).G hT).1.all
  let e2:M.H (UI (E++[e])∘(·++[E⁻¹]))=M.H λT=>UI (SA a b E) T*e.2.2:=YN λT hT=>by
   let hs:IsSet E.f T:=hl▸((b2 T).G hT).1;change UI (E++[e]) (T++[E⁻¹])=_
   rw[pI,Pe hs.all,pD hs.all];change _*(((E++[e]).E (E.f:Int).j (0,0,0)).2.2*1)=_
   rw[Ds,Nx]
  rw[e1,e2,a3,Za8,b3]
def Dm(XJ:b≠a):ind (dl a b u) (dl a b v) i=ind u v (sk a i)+(if sk a i=b then ind u v a else 0):=by
 let key:∀x:Nat,((if i=dl a b x then 1 else 0:Int))=(if sk a i=x then 1 else 0)+(if sk a i=b then (if a=x then 1 else 0) else 0):=λx=>by
  unfold dl;cases hx:x=a
  .rw[if_pos hx,if_neg<|show ¬sk a i=x from hx▸Dq a i,Nz];cases h:sk a i=b
   .rw[if_pos h,if_pos hx.symm,if_pos];rw[<-h,Jb]
   .rw[if_neg h,if_neg];intro e;show h (by rw[e,Mu XJ])
  .rw[if_neg hx];let e2:(if sk a i=b then (if a=x then 1 else 0:Int) else 0)=0:=by rw[if_neg (XO hx)];split<;>rfl
   rw[e2,Rq];cases h:sk a i=x
   .rw[if_pos h,if_pos];rw[<-h,Jb]
   .rw[if_neg h,if_neg];intro e;show h (by rw[e,Mu hx])
 unfold ind;rw[key u,key v];cases h:sk a i=b
 .rw[if_pos h,if_pos h,if_pos h];lia
 .rw[if_neg h,if_neg h,if_neg h];lia
def dr(XJ:b≠a)(i j:Nat):∀E:List Ed,lapE (SA a b E) i j=Vj (lapE E) a b (sk a i) (sk a j)
 |[]=>by
  change(0:Int)=_;unfold Vj lapE;cases h:sk a i=b
  .cases h2:sk a j=b
   .rw[if_pos h,if_pos h2];rfl
   .rw[if_pos h,if_neg h2];rfl
  .cases h2:sk a j=b
   .rw[if_neg h,if_pos h2];rfl
   .rw[if_neg h,if_neg h2];rfl
 |e::E=>by
  let ih:=dr XJ i j E;change e.2.2*(ind (dl a b e.1) (dl a b e.2.1) i*ind (dl a b e.1) (dl a b e.2.1) j)+lapE (SA a b E) i j=_
  rw[ih,Dm XJ,Dm XJ];unfold Vj;change _=(e.2.2*(ind e.1 e.2.1 (sk a i)*ind e.1 e.2.1 (sk a j))+lapE E (sk a i) (sk a j)+(if sk a i=b then e.2.2*(ind e.1 e.2.1 a*ind e.1 e.2.1 (sk a j))+lapE E a (sk a j) else 0))+(if sk a j=b then (e.2.2*(ind e.1 e.2.1 (sk a i)*ind e.1 e.2.1 a)+lapE E (sk a i) a)+(if sk a i=b then e.2.2*(ind e.1 e.2.1 a*ind e.1 e.2.1 a)+lapE E a a else 0) else 0)
  generalize ind e.1 e.2.1 (sk a i)=x;generalize ind e.1 e.2.1 (sk a j)=y;generalize ind e.1 e.2.1 a=z;generalize e.2.2=w;cases h:sk a i=b
  .cases h2:sk a j=b
   .simp only[if_pos h,if_pos h2,Tp,yH];lia
   .simp only[if_pos h,if_neg h2,Tp,yH,Rq,Sy];lia
  .cases h2:sk a j=b
   .simp only[if_neg h,if_pos h2,Tp,yH,Rq,FO];lia
   .simp only[if_neg h,if_neg h2,Rq]
def dq(u v i:Nat):ind v u i=- ind u v i:=by unfold ind;lia
def pz{e:Ed}(ha:a<k+1)(hb:b<k+2)(XJ:b≠a)(he:(e.1=a/\e.2.1=b)\/(e.1=b/\e.2.1=a)):det (k+1) (lapE (E++[e]))=det (k+1) (lapE E)+e.2.2*det k (lapE (SA a b E)):=by
 let e1:det (k+1) (lapE<|E++[e])=det (k+1) (λi j=>lapE E i j+e.2.2*(ind a b i*ind a b j)):=Zj λi j _ _=>by
  rw[pJ];rcases he with ⟨x,y⟩|⟨x,y⟩
  .rw[x,y]
  .rw[x,y,dq a b i,dq a b j,Int.neg_mul_neg]
 let e2:det k (lapE<|SA a b E)=det k (λi j=>Vj (lapE E) a b (sk a i)<|sk a j):=Zj λi j _ _=>dr XJ i j E;rw[e1,e2];cases hk:b<k+1
 .show pK ha hk (XO XJ)
 .let e3:det (k+1) (λi j=>lapE E i j+e.2.2*(ind a b i*ind a b j))=det (k+1) (λi j=>lapE E i j+e.2.2*((if i=a then 1 else 0)*(if j=a then 1 else 0))):=Zj λi j hi hj=>by unfold ind;rw[if_neg (show ¬i=b by lia),if_neg (show ¬j=b by lia),yM,yM]
  let e4:det k (λi j=>Vj (lapE E) a b (sk a i)<|sk a j)=det k (λi j=>lapE E (sk a i)<|sk a j):=Zj λi j hi hj=>by
   let h1:=Pk (j:=a) hi;let h2:=Pk (j:=a) hj
   unfold Vj;rw[if_neg (show ¬sk a i=b by lia),if_neg (show ¬sk a j=b by lia),Rq,Rq]
  rw[e3,e4];show dA ha
def dk{e:Ed}(he:e.1=e.2.1):lapE (E++[e])=lapE E:=by
 funext i j
 rw[pJ,he];unfold ind;rw[Int.sub_self,FO,Sy,Rq]
def Dl:∀m k E,E.f=m->(∀e∈E,e.1<k+1/\e.2.1<k+1)->TW k E (det k (lapE E))
 |0,k,E,hm,_=>by
  let rfl:=QP.G hm;cases k with
  |zero=>
   exists [[]],AP,λT=>?_,Z;rw[XD];constructor
   .rintro rfl;show⟨IsSet.nil _,Z,λi j hi hj=>by
     have:i=j:=J
     rw[this];show .refl j⟩
   .intro h;show QP.G h.2.1
  |succ k=>
   exists [],.nil,λT=>{λh=>(by cases h),λh=>?_},?_
   .let h1:=h.1.len;let h2:=h.2.1
    rw[Kr]at h1;lia
   .show(dP (i:=0) J λj _=>rfl).symm
 |m+1,k,E,hm,hE=>by
  obtain⟨E',e,rfl⟩:∃E' e,E=E'++[e]:={E.dropLast,E.getLast (λh=>by rw[h]at hm;cases hm),(gT _).symm};let NY:E'.f=m:=by rw[Xm]at hm;simpa using hm
  let pq:∀f∈E',f.1<k+1/\f.2.1<k+1:=λf hf=>hE f (Yn _ hf);let he:=hE e AP
  let ih:=Dl m k E' NY pq;cases hl:e.1=e.2.1
  .rw[dk hl];show Dp pq hl ih
  .obtain⟨k',rfl⟩:∃k',k=k'+1:={k-1,J};obtain⟨a,b,ha,hb,XJ,Vo⟩:∃a b,a<k'+1/\b<k'+2/\b≠a/\((e.1=a/\e.2.1=b)\/(e.1=b/\e.2.1=a)):=by
    cases c:e.1<k'+1
    .exists e.1,e.2.1,c,he.2,λh=>hl h.symm,.inl ⟨Z,Z⟩
    .exists e.2.1,e.1,J,he.1,hl,.inr ⟨Z,Z⟩
   let QX:=Dl m k' (SA a b E') (by unfold SA;rwa[Xy]) λf hf=>by
    let(g,hg,rfl):=Yp.G hf
    have:=pq g hg
    exists Ms ha hb XJ this.1,Ms ha hb XJ this.2
   rw[pz ha hb XJ Vo];show Dn ha hb XJ Vo ih QX
def Wz(ps:Aa)(ws:Ac):(List Ed):=List.zipWith (λp w=>(p.1.j,p.2.j,w)) ps ws
def pj(h1:1<=n)(hw:ws.f=ps.f):IsT (n-1).j (Wz ps ws) T↔Zf n ps T:=by
 let hl:(Wz ps ws).f=ps.f:=by unfold Wz;rw[OB];lia
 let hm:IsSet ps.f T->T.H (Tw<|Wz ps ws)=XR ps T:=λhs=>YN λz hz=>by
  have:=hs.all z hz
  unfold Tw Wz;rw[WW,OC,XI J,XI (show z.j<ws.f by lia),WW,XI B];rfl
 unfold IsT Zf;rw[hl];constructor
 .rintro⟨a,b,c⟩;rw[hm a]at c;exists a,J,λi j hi hj=>c i j J J
 .rintro⟨a,b,c⟩;rw[hm a];exists a,J,λi j hi hj=>c i j J J
def Dk(h:∀e∈E,e.2.2=1):∀{T:Ac},(∀z∈T,0<=z/\z<E⁻¹)->UI E T=1
 |[],_=>rfl
 |z::T,hb=>by
  let hz:=hb z Yd;change(E.E z.j (0,0,0)).2.2*UI E T=1
  rw[Dk h λy hy=>hb y<|Yf _ hy,Nx,WW,XI J];show h _ (QE _)
def Dj{l:Ab}{f:Ac->Int}(h:∀T∈l,f T=1):(l.H f).sum=l⁻¹:=by
 induction l with
 |nil=>rfl
 |cons x l ih=>
  rw[YJ,WQ,ih λT hT=>h T<|Yf _ hT,h x Yd,Yx];lia
def IZ(g:Zv n ps)(ws:Ac):∀e∈Wz ps ws,e.1<(n-1).j+1/\e.2.1<(n-1).j+1:=λe he=>by
 unfold Wz at he;let(i,hi):=YH he;rw[OC]at hi;let g1:=g.1
 cases h1:ps[i]? with
 |none=>rw[h1]at hi;cases hi
 |some p=>
  cases h2:ws[i]? with
  |none=>rw[h1,h2]at hi;cases hi
  |some w=>
   rw[h1,h2]at hi;let rfl:=Ya hi;let(a,b,c,d):=g.2.2.2 p (Xn h1);exists by change p.1.j<_;lia,by change p.2.j<_;lia
def Di(g:Zv n ps){L:Ab}(hL:L.Nodup)(hm:∀l,l∈L↔Zf n ps l):det (n-1).j (lapE (Wz ps (List.S ps.f 1)))=L⁻¹:=by
 let g1:=g.1;let hw:(List.S ps.f (1:Int)).f=ps.f:=YM
 let(M,a1,a2,a3):=Dl _ (n-1).j (Wz ps<|List.S ps.f 1) Z (IZ g _);let hl:(Wz ps<|List.S ps.f 1).f=ps.f:=by unfold Wz;rw[OB,hw];lia
 let w1:∀e∈Wz ps (List.S ps.f (1:Int)),e.2.2=1:=λe he=>by
  unfold Wz at he;let(i,hi):=YH he;rw[OC]at hi;cases h1:ps[i]? with
  |none=>rw[h1]at hi;cases hi
  |some p=>
   cases h2:(List.S ps.f (1:Int))[i]? with
   |none=>rw[h1,h2]at hi;cases hi
   |some w=>
    rw[h1,h2]at hi;let rfl:=Ya hi;show zv (Xn h2)
 rw[<-a3,Dj λT hT=>Dk w1 ((a2 T).G hT).1.all];let hp:M.Perm L:=(Kv a1 hL).L λl=>by rw[a2,hm,pj g1 hw]
 rw[hp.length_eq]
end My
namespace L2
open PySem PySem.Spec PyProof.Rows
section
variable{X:Cx}
def ph(K:Ad):(V->V->Hp->VK->Prop):=λx y H Q=>∃p xs i v,x=.ref p/\y=.int i/\SqL K H p xs/\0<=i/\xs[i.j]?=some v/\Q v H
def Mr(K:Ad)(hk:X.K=K:=by rfl):Fj X (ph K):=by
 subst hk;intro pins s σ H o i ov iv Q I ro ri h;let(p,xs,j,z,rfl,rfl,hq,h0,he,q):=h;cases ro;let(t,rfl):=ri;let(XX,r,pl,hz):=I.list hq;let(w,ew,Nf):=r.get he;let hl:=r.f
 let hn:=JS;let Xt:=(Xs.G he).1
 show wpAny_getItem_list pl.isList h0 J (by simpa using ew) ⟨z,H,I,Nf,q⟩
end
end L2
namespace My
open PySem L2
structure TabAt(H0:Hp)(r:Addr)(n:Nat)(H:Hp)(ys:List V)(L:Ab):Prop where
 tab:H r=some (.lst ys)
 rows:Bears (LiV r H) ys L
 len:L.f=n
 all:∀l∈L,l.f=n
 nd:ys.Nodup
 new:∀A,V.ref A∈ys->H0 A=none
def TabAt.same(s:Same H H')(h:TabAt H0 r n H ys L):TabAt H0 r n H' ys L:={s _ _ h.tab,h.rows.imp λ_ _ q=>q.same s,h.len,h.all,h.nd,h.new}
def TabAt.at(h:TabAt H0 r n H ys L){i:Nat}(hi:i<n):∃A l,ys[i]?=some ↑A/\L[i]?=some l/\H A=some (.lst (IL l))/\l.f=n/\H0 A=none/\A≠r:=by let hl:=h.len;obtain⟨l,e⟩:∃l,L[i]?=some l:={_,XI J};let(v,e1,A,rfl,e2,e3):=h.rows.2 i l e;exists A,l,e1,e,e2,h.all l<|Xn e,h.new A<|Xn e1,e3
def TabAt.put(h:TabAt H0 r n H ys L){l l':Ac}(e1:ys[i]?=some ↑A)(e2:L[i]?=some l)(e3:A≠r)(hl:l'.f=n):TabAt H0 r n (upd H A (.lst (IL l'))) ys (L.set i l'):=by
 let hi:=(Xs.G e2).1;let Tv:=(Xs.G e1).1
 exists by rw[Za (XO e3)];show h.tab,{by rw[Qf];show h.rows.1,λj m em=>?_},by rw[Qf];show h.len,λm hm=>?_,h.nd,h.new
 .rw[Ox]at em;cases c:i=j
  .subst c;rw[if_pos Z,if_pos hi]at em;let rfl:=Ya em;exists _,e1,A,Z,XS,e3
  .rw[if_neg c]at em;let(v,f1,uX,rfl,f2,f3):=h.rows.2 j m em;exists _,f1,uX,Z,?_,f3;rw[Za]
   .show f2
   .intro e;rw[e]at f1;show c (Xg h.nd e1 f1)
 .rcases List.mem_or_eq_of_mem_set hm with e|e
  .show h.all m e
  .rw[e];show hl
def pf{L:Ab}{l:Ac}(hi:L[i]?=some l)(hj:j<l.f)(a b:Nat):fnL (L.set i (l.set j x)) a b=if a=i/\b=j then x else fnL L a b:=by
 let Tv:=(Xs.G hi).1;unfold fnL;cases ha:a=i
 .subst ha;let e1:(L.set a<|l.set j x).E a []=l.set j x:=by rw[WW,Ox,if_pos Z,if_pos Tv];rfl
  let e2:L.E a []=l:=by rw[WW,hi];rfl
  rw[e1,e2];cases hb:b=j
  .subst hb;rw[if_pos ⟨Z,Z⟩,WW,Ox,if_pos Z,if_pos hj];rfl
  .rw[if_neg λh=>hb h.2,WW,Ox,if_neg<|XO hb,<-WW]
 .let e1:(L.set i<|l.set j x).E a []=L.E a []:=by rw[WW,WW,Ox,if_neg (XO ha)]
  rw[e1,if_neg λh=>ha h.1]
def four{A:Mx}{u v:Nat}{w:Int}(XJ:u≠v)(a b:Nat){uX C D E:Mx}(h1:∀a b,uX a b=if a=u/\b=u then A u u+w else A a b)(h2:∀a b,C a b=if a=v/\b=v then uX v v+w else uX a b)(h3:∀a b,D a b=if a=u/\b=v then C u v-w else C a b)(h4:∀a b,E a b=if a=v/\b=u then D v u-w else D a b):E a b=A a b+w*(ind u v a*ind u v b):=by
 let nv:¬v=u:=XO XJ;unfold ind;cases x1:a=u
 .subst x1;cases y1:b=a
  .subst y1;simp[h4,h3,h2,h1,XJ,nv]
  .cases y2:b=v
   .subst y2;simp[h4,h3,h2,h1,XJ,nv];lia
   .simp[h4,h3,h2,h1,XJ,nv,y1,y2]
 .cases x2:a=v
  .subst x2;cases y1:b=u
   .subst y1;simp[h4,h3,h2,h1,XJ,nv];omega
   .cases y2:b=a
    .subst y2;simp[h4,h3,h2,h1,XJ,nv]
    .simp[h4,h3,h2,h1,XJ,nv,y1,y2]
  .simp[h4,h3,h2,h1,XJ,nv,x1,x2]
def pe{ps:Aa}{ws:Ac}{p:Int×Int}{w:Int}(hp:ps[i]?=some p)(hw:ws[i]?=some w):Wz (ps.R (i+1)) (ws.R (i+1))=Wz (ps.R i) (ws.R i)++[(p.1.j,p.2.j,w)]:=by
 let h1:=(Xs.G hp).1;let h2:=(Xs.G hw).1
 unfold Wz;rw[YI,YI,hp,hw];rw[List.zipWith_append (by rw[Yo,Yo];grind)];rfl
def Conn.image{f:Nat->Nat}(h:∀e∈es,Conn fs (f e.1) (f e.2))(c:Conn es i j):Conn fs (f i) (f j):=by
 induction c with
 |refl i=>show .refl _
 |edge e=>show h _ e
 |symm _ ih=>show ih.symm
 |trans _ _ Mz QX=>show Mz.l QX
def pd(g:Zv n ps)(h:IsSet ps.f T)(c:∀i j,i<n.j->j<n.j->Conn (XR ps T) i j):n-1<=T⁻¹:=by
 let g1:=g.1;let Vl:=ZQ (ns:=T) g h.all
 let h2:=(UO J Vl).L c;let h3:=xW _ Vl
 rw[show(XR ps T).f=T.f from Xy ..]at h3;lia
end My
namespace L2
open PySem
def QW(t:SetTable):(Prop):=t.place.C.Q (·<·)
def xH{xs:Array Nat}(h:xs.C.Q (·<·)){i k a b:Nat}(o9:i<k)(ha:xs[i]?=some a)(hb:xs[k]?=some b):a<b:=by rw[<-YK]at ha hb;let(h1,e1):=Xs.G ha;let(h2,e2):=Xs.G hb;rw[<-e1,<-e2];show YT.G h i k h1 h2 o9
def o8(h:xs.C.Q (·<·)):∀f lo hi,hi-lo<=f->lo<=hi->hi<=xs.t->(∀i v,xs[i]?=some v->i<lo->v<j)->(∀i v,xs[i]?=some v->hi<=i->j<=v)->
  SetTable.below.go xs j f lo hi<=xs.t/\∀i v,xs[i]?=some v->(i<SetTable.below.go xs j f lo hi↔v<j)
 |0,lo,hi,hf,hl,hs,a,b=>by
  let e:lo=hi:=vk;unfold SetTable.below.go;exists J,λi v hv=>{a i v hv,λhvj=>Nat.lt_of_not_le λhc=>?_}
  have:=b i v hv J
  lia
 |f+1,lo,hi,hf,hl,hs,a,b=>by
  unfold SetTable.below.go;cases c:lo<hi
  .rw[if_pos c];dsimp only;obtain⟨m,hm⟩:∃m,xs[(lo+hi)/2]?=some m:={_,YL J};let em:xs.E ((lo+hi)/2) j=m:=by rw[Yv,hm];rfl
   rw[em];cases d:m<j
   .rw[if_pos d];show o8 h f _ hi vk J hs (λi v hv We=>?_) b;cases e:i=(lo+hi)/2
    .rw[e,hm]at hv;show Ya hv▸d
    .have:=xH h (show i<(lo+hi)/2 by lia) hv hm
     lia
   .rw[if_neg d];show o8 h f lo _ vk J J a λi v hv We=>?_;cases e:i=(lo+hi)/2
    .rw[e,hm]at hv
     have:=Ya hv
     lia
    .have:=xH h (show(lo+hi)/2<i by lia) hm hv
     lia
  .rw[if_neg c];exists vk,λi v hv=>{a i v hv,λhvj=>Nat.lt_of_not_le λhc=>?_}
   have:=b i v hv J
   lia
def xG(h:xs.C.Q (·<·))(j:Nat):SetTable.below xs j<=xs.t/\∀i v,xs[i]?=some v->(i<SetTable.below xs j↔v<j):=
 o8 h xs.t 0 xs.t J (Yl _) (XQ _) (λi v _ h=>absurd h<|Wg _) λi v hv hi=>by rw[Gi hi]at hv;cases hv
def o7(h:xs.C.Q (·<·)){i v:Nat}(hv:xs[i]?=some v):SetTable.below xs v=i:=by
 let(h1,h2):=xG h v;let a:¬i<SetTable.below xs v:=λq=>by have:=(h2 i v hv).G q;lia
 show vG J (Qb λq=>?_);let Xt:=(Array.getElem?_eq_some_iff.G hv).1
 obtain⟨u,hu⟩:∃u,xs[SetTable.below xs v]?=some u:={_,YL J};let b:=xH h q hu hv
 have:=(h2 _ u hu).L b
 lia
def ZY7(h:xs.C.Q (·<·)){i v:Nat}(hv:xs[i]?=some v):SetTable.below xs (v+1)=i+1:=by
 let(h1,h2):=xG h (v+1);let a:=(h2 i v hv).L (Ow v)
 show vG (Qb λq=>?_) a;obtain⟨u,hu⟩:∃u,xs[i+1]?=some u:={_,YL J};let b:=(h2 _ u hu).G q
 have:=xH h (Ow i) hv hu
 lia
def ZX7(h:xs.C.Q (·<·)):SetTable.below xs 0=0:=by let(h1,h2):=xG h 0;show Nat.le_zero.G (Qb λq=>?_);obtain⟨u,hu⟩:∃u,xs[0]?=some u:={_,YL J};show Wg _ ((h2 _ u hu).G q)
def GU(t:SetTable)(j:Nat):(Prop):=t.place[SetTable.below t.place j]?≠some j
def o6(h:QW t)(hn:GU t j):QW (t.put j).1:=by
 let(h1,h2):=xG h j;let up:∀i v,t.place[i]?=some v->SetTable.below t.place j<=i->j<v:=λi v hv hi=>by
  let a:¬v<j:=λq=>by have:=(h2 i v hv).L q;lia
  let b:v≠j:=λe=>hn (by rw[e]at hv;rwa[o7 h hv]);lia
 change(SetTable.insertAt t.place (SetTable.below t.place j) j).C.Q (·<·);rw[SetTable.toList_insertAt];let dn:∀x∈t.place.C.R (SetTable.below t.place j),x<j:=λx hx=>by
  let(i,hi):=YH hx;rw[NI]at hi;split at hi
  .rename_i q;rw[YK]at hi;show(h2 i x hi).G q
  .cases hi
 let ub:∀x∈t.place.C.drop (SetTable.below t.place j),j<x:=λx hx=>by let(i,hi):=YH hx;rw[List.getElem?_drop,YK]at hi;show up _ x hi (vI _ _)
 show YV.L {gF (HG _ _) h,VS.L {ub,gF (List.drop_sublist _ _) h},λa ha b hb=>?_};rcases Ye.G hb with e|e
 .rw[e];show dn a ha
 .show Nat.lt_trans (dn a ha) (ub b e)
def dj(h:t.slot j=.empty\/t.slot j=.dummy):GU t j:=λe=>by
 let e2:t.slot j=.live (SetTable.below t.place j):=by unfold SetTable.slot;dsimp only;rw[if_pos (by rw[e];simp)]
 rw[e2]at h;rcases h with h|h<;>cases h
def oZ{f:Nat->Int}:∀n p j d,(∀e,p.dummy=some e->GU t e)->SetTable.probe.go t f h n p=some (.empty j d)->GU t j/\∀e,d=some e->GU t e
 |0,p,j,d,_,h=>by cases h
 |n+1,p,j,d,hp,h=>by
  let di:∀q:SetTable.Probe,(t.advance q).dummy=q.dummy:=λq=>by unfold SetTable.advance;split<;>rfl
  unfold SetTable.probe.go at h;split at h
  .rename_i hs;cases h;exists dj<|.inl hs,hp
  .rename_i hs;show oZ n _ j d (λe he=>by rw[di]at he;cases he;show dj<|.inr hs) h
  .split at h
   .cases h
   .show oZ n _ j d (λe he=>hp e<|by rwa[di]at he) h
def ZO8{b:Bool}(e:t.freeSlot h=some (s,b)):GU t s:=by
 unfold SetTable.freeSlot at e;split at e
 .rename_i j d hp;let(a1,a2):=oZ _ _ j d (λe he=>by cases he) hp;let e1:=YZ Prod.fst (Ya e)
  dsimp only at e1;rw[<-e1];cases d with
  |none=>show a1
  |some x=>show a2 x rfl
 .cases e
def Mq(t:SetTable)(n:Nat):QW (t.standIn n):=by change(Array.range n).C.Q (·<·);rw[Array.toList_range];show Gj
def oY(h:QW t)(es:Array (Int×Value))(k:Int)(x:Value):QW (layNew t es k x).2.1/\(layNew t es k x).2.1.led=t.led:=by
 unfold layNew;split
 .rename_i s b e;dsimp only;unfold SetTable.orStandIn;split
  .exists o6 h<|ZO8 e,Z
  .exists Mq _ _,Z
 .exists Mq _ _,Z
def Zi8(h:QW t)(es:Array (Int×Value))(n:Nat):QW (relayAll t es n).2.1/\(relayAll t es n).2.1.led=t.led:=by
 unfold relayAll;split
 .rename_i t' order e;dsimp only;split
  .unfold SetTable.relaid SetTable.laid at e;cases ho:SetTable.layClean (SetTable.sizeAbove n-1) (es.H (·.1)) with
   |none=>rw[ho]at e;cases e
   |some owner=>
    rw[ho]at e;let e1:=YZ Prod.fst (Ya e)
    dsimp only at e1;rw[<-e1];exists ?_,Z;change(List.H _<|List.filterMap _ _).o.C.Q (·<·)
    rw[List.toList_toArray,Oy,List.pairwise_filterMap];show Gj.imp λ{a b} Vo x hx y hy=>?_;let ex:x.1=a:=by
     cases q:owner.E a none with
     |none=>rw[q]at hx;cases hx
     |some z=>rw[q]at hx;cases hx;rfl
    let ey:y.1=b:=by
     cases q:owner.E b none with
     |none=>rw[q]at hy;cases hy
     |some z=>rw[q]at hy;cases hy;rfl
    rwa[ex,ey]
  .exists Mq _ _,Z
 .exists Mq _ _,Z
end L2
namespace L2
open PySem PySem.Spec PyProof.Rows
def SetR(P:Program)(w:World)(h:Heap)(a:Addr)(led:Bool)(S:Int->Bool)(n:Nat):(Prop):=
 ∃o es ep t,h.D a=some o/\o.ExactSet/\o.data=.set es ep t/\ElemsOf (intKind P w) es.C/\(∀z,S z=true↔∃y∈es.C,(intKind P w).is z y.2=true)/\es.t<scanBound/\t.fits es.t=true/\es.t=n/\QW t/\t.led=led
def SetR.at{S:Int->Bool}(q:SetR P w h a led S n)(k:∀o,h.D a=some o->h'.D a=some o):SetR P w h' a led S n:=
 let ⟨o,es,ep,t,ho,r⟩:=q
 {o,es,ep,t,k o ho,r}
section
variable{prog:Program}{w:World}{A:Around}{E:Ae}{s:Shared}
def dh{h:Heap}{o:Obj}{es:Array (Int×Value)}{ep:Nat}{t:SetTable}(ho:h.D a=some o)(hx:o.ExactSet)(hd:o.data=.set es ep t)(fs:Array (Int×Value))(u:SetTable):
  (h.update a<|Obj.putSet fs u).D a=some {o with data:=.set fs (ep+1) u}/\({o with data:=.set fs (ep+1) u}:Obj).ExactSet:=by let q:=Vb (Obj.putSet fs u) ho (by rw[putSet_of fs u hd];rfl);rw[putSet_of fs u hd]at q;exists q,hx
def oX{gv:Bool->Sem Unit}(hgv:∀b s1 R,R () s1->wpAny (model prog w) A (gv b) R E s1)
 {o:Obj}{es fs:Array (Int×Value)}{ep:Nat}{t u:SetTable}(ho:s.m.D a=some o)(hx:o.ExactSet)(hd:o.data=.set es ep t)
  {S:Int->Bool}(he:ElemsOf (intKind prog w) fs.C)(hm:∀z,S z=true↔∃y∈fs.C,(intKind prog w).is z y.2=true)(hb:fs.t<scanBound)(hf:u.fits fs.t=true)(hr:QW u){dm:Bool}{R:Option Bool->Shared->Prop}
  (k:∀h',Heap.SameBut a s.m h'->SetR prog w h' a u.led S fs.t->R (some true) {s with heap:=h'}):
  wpAny (model prog w) A (do
   storeSet a fs u
   if (!dm&&u.tooFull)=true then do
    gv (relayAll u fs<|SetTable.grown fs.t).2.2
    storeSet a (relayAll u fs<|SetTable.grown fs.t).1 (relayAll u fs<|SetTable.grown fs.t).2.1
    pure (some true)
   else pure (some true)) R E s:=by
 let(h1,x1):=dh ho hx hd fs u;let b1:=Oz s.m a (Obj.putSet fs u)
 show XY (wpAny_storeSet_of ho hd ?_<|fits_of_scanBound hb);cases c:(!dm&&u.tooFull)=true
 .rw[if_pos c];let p:=relayAll_perm u fs (SetTable.grown fs.t)
  let f:=relayAll_fits u fs (SetTable.grown fs.t);let(r,l):=Zi8 hr fs (SetTable.grown fs.t);generalize relayAll u fs (SetTable.grown fs.t)=uW at p f r l ⊢;let(gs,v,gave):=uW;dsimp only at p f r l ⊢;let ez:gs.t=fs.t:=by rw[<-YA,p.length_eq,YA]
  let(h2,x2):=dh h1 x1 Z gs v;show XY (hgv _ _ _<|XY<|wpAny_storeSet_of h1 Z (Yg ?_)<|fits_of_scanBound<|by rwa[ez]);show k _ (b1.l<|Oz _ a _) ⟨_,gs,_,v,h2,x2,Z,he.perm p,λz=>(hm z).l {λzz=>by let(y,hy,q):=zz;show{y,p.mem_iff.L hy,q},λzz=>by let(y,hy,q):=zz;exists y,p.mem_iff.G hy,q},by rw[ez];show hb,f,ez,r,l⟩
 .rw[if_neg c];show Yg (k _ b1 {_,fs,_,u,h1,x1,Z,he,hm,hb,hf,Z,hr,Z})
def oW{S:Int->Bool}{z:Int}{x:Value}{R:Bool->Shared->Prop}(hz:(intKind prog w).is z x=true)(Qw:x.scannable=true)(hS:SetR prog w s.m a led S n)(room:n+1<scanBound)
  (k:∀h',Heap.SameBut a s.m h'->SetR prog w h' a led (λy=>S y||decide (y=z)) (if S z then n else n+1)->R (!S z) {s with heap:=h'}):
  wpAny (model prog w) A (setAddHashed a x<|(intKind prog w).hash z) R E s:=by
 let(o,es,ep,t,ho,hx,hd,he,hm,hb,hf,hn,hr,hl):=hS;unfold setAddHashed setAddHashedIn;show RW (XY<|Hx ho hd hf ?_);dsimp only;rw[if_pos (byScan_of Qw hb he)];unfold setAddByScan;show XY (XY<|Uz<|XY<|wpAny_setScan_of hz ho hd hf he ?_);cases hw:List.findIdx? (λy=>(intKind prog w).is z y.2) es.C with
 |some j=>
  let(j1,j2,_):=List.findIdx?_eq_some_iff_getElem.G hw;let yes:S z=true:=(hm z).L {es.C[j],QE j1,j2}
  let fin:=k s.m (Heap.SameBut.refl a s.m) {o,es,ep,t,ho,hx,hd,he,λy=>by rw[Bool.or_eq_true,HH,<-hm y];show{λq=>q.elim id λq=>q▸yes,.inl},hb,hf,by rw[yes];show hn,hr,hl}
  rw[yes]at fin;dsimp only;show Yg (Yg fin)
 |none=>
  let no:S z=false:=zg.L λq=>by
   let(y,hy,hp):=(hm z).G q
   have:=List.findIdx?_eq_none_iff.G hw y hy
   rw[hp]at this;cases this
  dsimp only;let p:=layNew_perm t es ((intKind prog w).hash z) x
  let f:=layNew_fits t es ((intKind prog w).hash z) x;let(r,l):=oY hr es ((intKind prog w).hash z) x;generalize layNew t es ((intKind prog w).hash z) x=uW at p f r l ⊢;let(fs,u,dm,gave):=uW;dsimp only at p f r l ⊢;rw[Qd]at p;let ez:fs.t=n+1:=by rw[<-YA,p.length_eq,Xm,YA,hn];rfl
  let gw:∀(b:Bool){s1:Shared}{R':Unit->Shared->Prop},R' () s1->wpAny (model prog w) A (match b with|true=>rule "set.scan.the-table-gave-way" | false=>pure ()) R' E s1:=λb s1 R' q=>by
   cases b
   .show Yg q
   .show Uz q
  let fin:∀h',Heap.SameBut a s.m h'->SetR prog w h' a led (λy=>S y||decide (y=z)) fs.t->R true {s with heap:=h'}:=λh' q1 q2=>by let q:=k h' q1;rw[no]at q;rw[ez]at q2;show q q2
  let xF:=(he.push hz Qw).perm p;let RM:∀y,(S y||decide (y=z))=true↔∃v∈fs.C,(intKind prog w).is y v.2=true:=mem_push_iff hz hm p
  let KY:fs.t<scanBound:=J;show XY (gw _ ?_);let tail:∀v:SetTable,v.fits fs.t=true->QW v->v.led=led->wpAny (model prog w) A (do
    storeSet a fs v
    if (!dm&&v.tooFull)=true then do
     (match (relayAll v fs<|SetTable.grown fs.t).2.2 with|true=>rule "set.scan.the-table-gave-way" | false=>pure ())
     storeSet a (relayAll v fs<|SetTable.grown fs.t).1 (relayAll v fs<|SetTable.grown fs.t).2.1
     pure (some true)
    else pure (some true)) (λy s1=>wpAny (model prog w) A (match y with|some added=>pure added|none=>setAddHashedIn a x ((intKind prog w).hash z) 99999) R E s1) E s:=λv a1 a2 a3=>
   oX (gv:=λb=>match b with|true=>rule "set.scan.the-table-gave-way" | false=>pure ()) (λb s1 R' q=>gw b q) ho hx hd xF RM KY a1 a2 λh' q1 q2=>Yg (fin h' q1<|a3▸q2)
  split
  .show XY ?_;rw[hashByValue_scannable 8 Qw];show Yg ?_;split
   .show tail u f r (l.l hl)
   .show tail _ (SetTable.fits_plain_off f) r (l.l hl)
  .show XY (Yg ?_);rw[if_pos Z];show tail u f r (l.l hl)
end
section
variable{prog:Program}{w:World}{A:Around}{R:Result->Shared->Prop}{I:Addr}{fp wr:List Addr}{G:Array GenState->Array GenState->Prop}{n:Nat}{P:Nat->Value->Prop}{St:Nat->Shared->Prop}
def oV(W:WalksS prog w A.in1 I fp wr G n P St)(b:Addr)(KW:b∉fp)(val:Nat->Int)(hv:∀i v,P i v->∃t,v=.int (val i) t)(hn:n+1<scanBound):
  ∀k i s,n-i=k->i<=n->St i s->SetR prog w s.m b led (λz=>(firstMet val i).any (· == z)) (firstMet val i).f->
   (∀s',Moved (b::wr) G s s'->SetR prog w s'.m b led (λz=>(firstMet val n).any (· == z)) (firstMet val n).f->R (.ok<|.ret .none) s')->
   codeAny (model prog w) A (.builtin "set.update.loop" {[.ref b,.ref I],[]}) R s
 |0,i,s,hk,hi,st,hS,q=>by
  let e:i=n:=vk;subst e;show SK F.entry_set_update_loop ?_;rw[LJ vJ _];change wpAny _ A.in1 (pyNext ↑I >>= _) _ _ s
  show XY (W.done s _ _ st λs1 m=>?_);change wpAny _ A.in1 (ret Value.none) _ _ s1
  show Yg (q s1 (m.mono λc hc=>.tail _ hc)<|hS.at λo ho=>m.m b o (λhc=>KW<|W.sub _ hc) ho)
 |k+1,i,s,hk,hi,st,hS,q=>by
  let Xt:i<n:=vk;show SK F.entry_set_update_loop ?_;rw[LJ vJ _];change wpAny _ A.in1 (pyNext ↑I >>= _) _ _ s
  show XY (W.item i s _ _ Xt st λv s1 hP Rb m=>?_);let(t,rfl):=hv i v hP;let KU:=hS.at (h':=s1.m) λo ho=>m.m b o (λhc=>KW<|W.sub _ hc) ho
  change wpAny _ A.in1 (holding [Value.int (val i) t] (setAdd b<|.int (val i) t) >>= _) _ _ s1;show XY (RW ?_);unfold setAdd;show RW (XY<|(intKind prog w).pyHash (k:=val i) (intKind_is _ _ _ _) ?_);let fm:=firstMet_length_le val i
  show oW (s:={s1 with toks:=s1.toks+1}) (intKind_is _ _ _ _) Z KU J λh2 sb oU=>?_;let hS3:SetR prog w h2 b led (λz=>(firstMet val<|i+1).any (· == z)) (firstMet val<|i+1).f:=by
   let e1:(λz=>(firstMet val<|i+1).any (· == z))=λy=>((firstMet val i).any (· == y)||decide (y=val i)):=funext λy=>by rw[firstMet_succ,step_any]
   rwa[e1,firstMet_succ,step_length]
  let kept:∀c o,c≠b->s1.m.D c=some o->h2.D c=some o:=λc o hc e=>(sb.2 c hc).l e;show Yg {NC vJ _,oV W b KW val hv hn k (i+1) _ vk Xt (W.frame _ s1 _ _ Rb (SI _) λc hc o e=>kept c o (λe'=>KW<|e'▸hc) e) hS3 λs2 m2 hS4=>?_};show q s2 (Moved.l W.gtrans ((m.mono λc hc=>.tail _ hc).then_heap (SI _) λc o hc e=>kept c o (λe'=>hc<|e'▸.head _) e) m2) hS4
end
section
variable{prog:Program}{w:World}{A:Around}{E:Ae}{s:Shared}
def RH(w:World):(Obj):={cls:=.type "set",dict:=none,data:=.set #[] 0 (.fresh 0 0<|!w.params.followText "set-order")}
def df(a:Value){Q:Ae}(k:Q (.ref (~~~s)) {s with heap:=s.m.push (RH w)}):
  codeAny (model prog w) A (.call (.builtin "set.__new__") {[.type "set",a],[]}) (wants Q E) s:=by
 show codeAny_of_tree ?_;change wpAny _ A.in1 (checkBuiltinCall "set.__new__" {[.type "set",a],[]} >>= λ_=>again<|.builtin "set.__new__" {[.type "set",a],[]}) _ _ s
 show XY (Om (F.newCall_set_1 a)<|Yg ⟨NC F.plain_set_new _,SK F.entry_set_new ?_⟩);rw[LJ F.plain_set_new _];let Sh:=sub_set_self
 unfold Builtin.«set.__new__» Builtin.Frozenset.newClass;let(hp,g,d,tk,os):=s;dsimp only
 wp_walk
 show Hu (Yg ?_);simp only[newObj];show XY (wpAny_alloc<|Yg<|Yg k)
def de(e:h.D a=some (RH w)):SetR prog w h a (!w.params.followText "set-order") (λz=>(firstMet (λ_=>0) 0).any (· == z)) 0:=by exists _,#[],0,_,e,⟨Z,Z,Z⟩,Z,λy hy=>(by cases hy),λz=>{λq=>(by cases q),λzz=>by let(y,hy,_):=zz;show(by cases hy)},vg,by simp[SetTable.fits,SetTable.fresh,SetTable.fill],Z,.nil,Z
def oT{h0:Heap}{Q:Ae}(hh:A.handled=none)(SX:h0.D b=some (RH w))(hl:h0.IsList l items)(XJ:l≠b)(hi:IntsAre items.C ns)(hn:items.t+1<scanBound)
  (k:∀h' tk,SetR prog w h' b (!w.params.followText "set-order") (λz=>(firstMet (λi=>ns.E i 0) items.t).any (· == z)) (firstMet (λi=>ns.E i 0) items.t).f->(∀c o,c≠b->h0.D c=some o->h'.D c=some o)->Q .none {s with heap:=h',toks:=tk}):
  wpAny (model prog w) A.in1 (Builtin.«set.__init__» {[.ref b,.ref l],[]}) (λfin s'=>match fin with | .done f=>wants Q E (.ok f) s' | .again c'=>c'.quiet=true/\codeAny (model prog w) A c' (wants Q E) s') (λe s'=>wants Q E (.error e) s') {s with heap:=h0}:=by
 let hT:Shared.TypeIs {s with heap:=h0} ↑b "set":={_,SX,Z};let QV:=hl
 let((oS,Dh,Dg,IY),Ra,Tu,nl,GS):=hl;simp only at Tu GS;subst Tu GS;let q1:=F.sub_list_set
 let q2:=F.sub_list_frozenset;let q3:(Value.type "list" == Value.type "dict")=false:=vg
 unfold RH at SX;unfold Builtin.«set.__init__» noKeywords Builtin.Frozenset.updateFrom;generalize oQ:pyIter=PI
 wp_walk
 subst oQ;show Hw QV ?_;show XY (FP ?_);let IX:l<h0.objs.t:=Ym Ra
 let GR:b<h0.objs.t:=Ym SX;let bf:b∉[h0.objs.t,l]:=λq=>by
  rcases Ye.G q with e|e
  .show Yq GR e
  .show XJ (XD.G e).symm
 show oV ((Walks.list (A:=A.in1.in1) (by simp[hh]) _ l (Yq IX) items).toS) b bf (led:=!w.params.followText "set-order") (λi=>ns.E i 0) (λi v hv=>yF hi i v<|by rw[YK];show hv) hn (items.t-0) 0 _ J (Yl _)
  {{_,Yi _ Z,Z,Z},QV.push _} ?_ ?_
 .show de (Xo _ SX)
 .rintro⟨h',g',d',oP,EM⟩ m hS;let e1:g'=s.gens:=m.gens
  let e2:d'=s.drawn:=m.drawn;let e3:EM=s.os:=m.os
  subst e1 e2 e3;change wpAny _ _ _ _ _ _
  show Yg ?_;change wpAny _ _ (ret Value.none) _ _ _
  show Yg (k h' oP hS λc o hc e=>m.m c o (λq=>?_)<|Xo _ e);rcases Ye.G q with e'|e'
  .show hc e'
  .show Yq (Ym e) (XD.G e')
set_option maxRecDepth 100000 in
set_option maxHeartbeats 3000000 in
def dc{Q:Ae}(hh:A.handled=none)(hl:s.m.IsList l items)(hi:IntsAre items.C ns)(hn:items.t+1<scanBound)
  (k:∀h' tk,SetR prog w h' (~~~s) (!w.params.followText "set-order") (λz=>(firstMet (λi=>ns.E i 0) items.t).any (· == z)) (firstMet (λi=>ns.E i 0) items.t).f->(∀c o,s.m.D c=some o->h'.D c=some o)->Q (.ref (~~~s)) {s with heap:=h',toks:=tk}):
  wpAny (model prog w) A (call (.type "set") [.ref l]) Q E s:=by
 let(c,tl,oO):=SJ.mro;let a1:=SJ.made
 let a2:=SJ.sub;let a3:=SJ.notType
 let a4:=SJ.canCreate;let a5:=F.typeCall_set_1 ↑l
 show FH (codeAny_of_tree ?_);change wpAny _ _ (callAny (.type "set") _) _ _ _
 show Yg {Qc _ vh,SK F.entry_type_call ?_};rw[Around.under_plain (weight_type_call_type "set" [.ref l] []) Z]
 repeat any_goals first|assumption|wp_step
 show Oo (df ↑l (E:=E) (Q:=λob s1=>ob=.ref (~~~s)/\s1={s with heap:=s.m.push (RH w)}) ⟨Z,Z⟩) λr s1 hr=>?_
 match r,hr with
 | .error e,hr=>show hr
 | .ok (.ret ob),hr=>
  let(rfl,rfl):=hr;let SX:(s.m.push<|RH w).D (~~~s)=some (RH w):=Yi _ rfl
  let hT:Shared.TypeIs {s with heap:=s.m.push (RH w)} (.ref (~~~s)) "set":={_,SX,Z};let a6:=SJ.init.M
  let a7:=SJ.init.bind (.ref (~~~s))
  repeat any_goals first|assumption|wp_step
  let IX:l<(~~~s):=by let(_,e,_):=hl;show Ym e
  show Oo (codeAny_call_builtin (R:=wants (λr s2=>r=.none/\Q (.ref (~~~s)) s2) E) SJ.init.plain F.entry_set_init<|check_set_init_1 hT<|oT (A:=_) (s:=s) ?_ SX (hl.push _) (Yq IX) hi hn λh' tk hS kp=>{Z,k h' tk hS λc o e=>kp c o (Yq<|Ym e)<|Xo _ e}) λr2 s2 Wd=>?_
  .simp[hh]
  .match r2,Wd with
   | .error e,Wd=>show Wd
   | .ok (.ret v),Wd=>
    let(rfl,q):=Wd
    repeat any_goals first|assumption|wp_step
end
def c9:Manifest.owners.M (String.ofList ['r','o','t','a','r','e','t','i','_','t','e','s'].reverse)=some Manifest.sig_set_iterator:=by kernel_rfl
def Xb:PySem.Slot "set_iterator" "__next__" "set_iterator.__next__":=
 .of (owner:="set_iterator") (n:="__next__") (by rw[Nu,zp];kernel_rfl) vh vh vh
  (by first|show .inl vh|show .inr vh) (by rw[isSubtype_type];kernel_rfl)
def xE:entryFor table "set_iterator.__next__"=some Builtin.«set_iterator.__next__»:=entryFor_of_tree vm
def xD(a:Value):argsOk "set_iterator.__next__" {[a],[]}:=by unfold argsOk;rw[signature?_of (id:="set_iterator.__next__") (n:=['_','_','t','x','e','n','_','_']) (o:=['r','o','t','a','r','e','t','i','_','t','e','s']) vm c9];kernel_rfl
def c8:PySem.Slot "set_iterator" "__iter__" "set_iterator.__iter__":=
 .of (owner:="set_iterator") (n:="__iter__") (by rw[Nu,zp];kernel_rfl) vh vh vh
  (by first|show .inl vh|show .inr vh) (by rw[isSubtype_type];kernel_rfl)
def oM(a:Value):argsOk "set_iterator.__iter__" {[a],[]}:=by unfold argsOk;rw[signature?_of (id:="set_iterator.__iter__") (n:=['_','_','r','e','t','i','_','_']) (o:=['r','o','t','a','r','e','t','i','_','t','e','s']) vm c9];kernel_rfl
def oK:entryFor table "set_iterator.__iter__"=some Builtin.«dict_keyiterator.__iter__»:=
 entryFor_alias (id':="dict_keyiterator.__iter__") vm (by first|rfl|decide +kernel|(unfold String.splitOn;simp +decide [String.splitOnAux])) vh vm
def oJ:Manifest.owners.M (String.ofList ['t','e','s'].reverse)=some Manifest.sig_set:=by kernel_rfl
def Df:PySem.Slot "set" "__iter__" "set.__iter__":=
 .of (owner:="set") (n:="__iter__") (by rw[Nu,zp];kernel_rfl) vh vh vh
  (by first|show .inl vh|show .inr vh) (by rw[isSubtype_type];kernel_rfl)
def oI(a:Value):argsOk "set.__iter__" {[a],[]}:=by unfold argsOk;rw[signature?_of (id:="set.__iter__") (n:=['_','_','r','e','t','i','_','_']) (o:=['t','e','s']) vm oJ];kernel_rfl
def oH:entryFor table "set.__iter__"=some Builtin.«frozenset.__iter__»:=
 entryFor_alias (id':="frozenset.__iter__") vm (by first|rfl|decide +kernel|(unfold String.splitOn;simp +decide [String.splitOnAux])) vh vm
def IsSi(h:Heap)(I a:Addr)(f:Value)(i n ep:Nat):(Prop):=∃o,h.D I=some o/\o.cls=.type "set_iterator"/\o.data=.fields #[f,rawInt (i:Int),.ref a,rawInt (n:Int),rawInt (ep:Int)]
def IsSi.ty{s:Shared}(x:IsSi s.m I a f i n ep):s.TypeIs ↑I "set_iterator":=by let(o,p,q,_):=x;exists o,p,q
def IsSi.keep(x:IsSi h I a f i n ep)(e:∀o,h.D I=some o->h'.D I=some o):IsSi h' I a f i n ep:=by let(o,p,q):=x;exists o,e _ p,q
def SetIs(h:Heap)(a:Addr)(es:Array (Int×Value))(ep:Nat)(t:SetTable):(Prop):=∃o,h.D a=some o/\o.ExactSet/\o.data=.set es ep t
def SetIs.keep(x:SetIs h a es ep t)(e:∀o,h.D a=some o->h'.D a=some o):SetIs h' a es ep t:=by let(o,p,q):=x;exists o,e _ p,q
section
variable{prog:Program}{w:World}{A:Around}{E:Ae}{s:Shared}
def ZS7{Q:Nat->Shared->Prop}(hn:n≠0)(k:∀i,i<n->∀d,Q i {s with drawn:=d}):wpAny M A (choose src n) Q E s:=
 λΓ p _=>{hn,k _ (Nat.mod_lt _<|Nat.pos_of_ne_zero hn) _}
def oG{α:Type}:∀{l:List α}{i:Nat}{y:α},l[i]?=some y->(y::l.eraseIdx i).Perm l
 |[],_,_,h=>by simp at h
 |x::l,0,y,h=>by let rfl:x=y:=Ya h;show .rfl
 |x::l,i+1,y,h=>(List.Perm.swap x y<|l.eraseIdx i).l ((oG (l:=l) (i:=i) h).cons x)
def c7{α:Type}:∀(n:Nat)(xs:List α)(s:Shared)(Q:List α->Shared->Prop),n=xs.f->(∀ys d,ys.Perm xs->Q ys {s with drawn:=d})->wpAny M A (drawOrder n xs) Q E s
 |0,xs,s,Q,h,k=>by let e:xs=[]:=QP.G h.symm;subst e;show Yg (k [] s.drawn .rfl)
 |n+1,[],s,Q,h,k=>by cases h
 |n+1,x::xs,s,Q,h,k=>by change wpAny M A (choose .order (x::xs).f >>= _) Q E s;show XY (ZS7 AP λi hi d=>?_);obtain⟨y,hy⟩:∃y,(x::xs)[i]?=some y:={_,XI hi};rw[hy];dsimp only;show XY (c7 n ((x::xs).eraseIdx i) _ _ (by rw[gS hi];lia) λys d' hp=>Yg<|k (y::ys) d' ?_);show(hp.cons y).l (oG hy)
def c6{α:Type}{f:Nat->Nat}:∀(n k:Nat)(l:List α)(out:Array α),n=l.f->(pickOrder.go f n k l out).C.Perm (out.C++l)
 |0,k,l,out,h=>by rw[QP.G h.symm,WH];show .rfl
 |n+1,k,l,out,h=>by let hi:f k%l.f<l.f:=Nat.mod_lt _ J;obtain⟨y,hy⟩:∃y,l[f k%l.f]?=some y:={_,XI hi};unfold pickOrder.go;rw[hy];dsimp only;show(c6 n (k+1) _ _<|by rw[gS hi];lia).l ?_;rw[Qd,QF];show Fx _ ?_;show oG hy
def c5{Q:Ae}(hr:IsSi s.m I a f i n ep)(h:Q ↑I s):wpAny (model prog w) A (pyIter ↑I) Q E s:=by
 show wpAny_pyIter_slot hr.ty c8 (Rv c8 hr.ty oK ?_<|oM _);change wpAny _ _ (ret<|.ref I) _ _ s
 show Yg {_,Z,"set_iterator",_,hr.ty,Xb.M,h}
def GQ(prog:Program)(w:World)(a:Addr)(es:Array (Int×Value))(ep:Nat)(t:SetTable)(ord:Ag)(sl:Nat->Nat):(Prop):=
 ∀A E s i Q,SetIs s.m a es ep t->i<=ord.f->Q ((ord[i]?).H λx=>(x,sl<|i+1)) s->wpAny (model prog w) A (setNext a (sl i) i ep) Q E s
def oF{sl:Nat->Nat}{i:Nat}{x:Value}{Q:Option Value->Shared->Prop}(hN:GQ prog w a es ep t ord sl)(hS:SetIs s.m a es ep t)(hf:t.fits es.t=true)(hi:IsSi s.m I a (rawInt (sl i:Nat)) i es.t ep)(hx:ord[i]?=some x)
  (k:∀h',IsSi h' I a (rawInt (sl (i+1):Nat)) (i+1) es.t ep->Heap.SameBut I s.m h'->Q (some x) {s with heap:=h'}):wpAny (model prog w) A (pyNext<|.ref I) Q E s:=by
 let(o,ho,hc,hd):=id hi;let(oa,KS,oE,QU):=id hS;unfold pyNext;show XY (ND<|NK (name:=Str.Y "__next__") hi.ty Xb<|Rv Xb hi.ty xE ?_<|xD _);unfold Builtin.«set_iterator.__next__»;show XY (Om (a:=(Value.ref I,[])) Z ?_);dsimp only;show XY (yR ho hd ?_);dsimp only[rawInt];show XY (Gb KS QU hf ?_);rw[if_neg AP];rw[Yy,Yy,Yy];show XY (hN _ _ s i _ hS (LC (Xs.G hx).1) ?_);rw[hx];dsimp only[Option.map_some];show XY (LF ho hd AP ?_);let UU:=Vb (Obj.mapFields λvs=>vs.setIfInBounds 0<|rawInt (sl (i+1):Nat)) ho (Gh<|QH hd _)
 show XY (LF UU (QH hd _) AP ?_);show Yg {x,Z,Yg<|k _ ⟨_,Vb _ UU<|Gh<|QH (QH hd _) _,?_,?_⟩<|(Oz ..).l (Oz ..)}
 .rw[yZ,yZ];show hc
 .rw[QH (QH hd _)];simp;rfl
def oB{sl:Nat->Nat}{Q:Option Value->Shared->Prop}(hh:A.handled=none)(hN:GQ prog w a es ep t ord sl)(hS:SetIs s.m a es ep t)(hf:t.fits es.t=true)(hi:IsSi s.m I a (rawInt (sl ord.f:Nat)) ord.f es.t ep)
  (k:∀h',Heap.ExtBut I s.m h'->Q none {s with heap:=h'}):wpAny (model prog w) A (pyNext<|.ref I) Q E s:=by
 let(o,ho,hc,hd):=id hi;let(oa,KS,oE,QU):=id hS;unfold pyNext;show XY (ND<|NK (name:=Str.Y "__next__") hi.ty Xb<|Rv Xb hi.ty xE ?_<|xD _);unfold Builtin.«set_iterator.__next__»;show XY (Om (a:=(Value.ref I,[])) Z ?_);dsimp only;show XY (yR ho hd ?_);dsimp only[rawInt];show XY (Gb KS QU hf ?_);rw[if_neg AP];rw[Yy,Yy,Yy];show XY (hN _ _ s ord.f _ hS (XQ _) ?_);rw[YC (XQ _)];dsimp only[Option.map_none];show XY (LF ho hd AP ?_);change wpAny _ _ (newExc (.type "StopIteration") [] >>= _) _ _ _
 show XY ?_;simp only[newExc,newTuple];show XY (Qg ?_<|by size_fits);show XY (m:=firstArgMember _ _) (Om (a:=Value.none) (by first|rfl|(simp only[firstArgMember];rfl)) ?_)
 show Qg ?_ (by size_fits);simp only[raiseNew];show XY (wpAny_handled ?_);rw[show A.in1.handled=none from hh];show XY (Yg<|wpAny_throw ?_);show XY (FW (T:="StopIteration") (b:=true) {_,Yi _ Z,Z} yQ ?_);show Yg (k _<|(((Oz ..).extBut).push _).push _)
def oA{sl:Nat->Nat}(hh:A.handled=none)(hN:GQ prog w a es ep t ord sl)(hf:t.fits es.t=true)(XJ:a≠I):
  Walks prog w A I [I,a] [I] ord.f (λi v=>ord[i]?=some v) (λi h=>i<=ord.f/\IsSi h I a (rawInt (sl i:Nat)) i es.t ep/\SetIs h a es ep t) where
 sub:=λb hb=>Ye.L (.inl<|XD.G hb)
 frame:=λ_ _ _ x hk=>{x.1,x.2.1.keep λo e=>hk I AP o e,x.2.2.keep λo e=>hk a AP o e}
 item:=λi s Q E hi ⟨_,x1,x2⟩ hQ=>by let hx:ord[i]?=some (ord[i]'hi):=XI hi;show oF hN x2 hf x1 hx λh' y hs=>hQ _ h' s.toks hx {hi,y,x2.keep λo e=>(hs.2 a XJ).l e} λb o hb eo=>hs.extBut b o (λe=>hb<|by simp[e]) eo
 done:=λs Q E zz hQ=>by let(_,x1,x2):=zz;show oB hh hN x2 hf x1 λh' he=>hQ h' s.toks λb o hb eo=>he b o (λe=>hb<|by simp[e]) eo
 self:=λ_ _ _ _ x hQ=>c5 x.2.1 hQ
def oz(hf:t.fits es.t=true)(hr:QW t)(hb:w.params.followText "set-order"=false)(hl:t.led=true)(hd:(!t.plain&&decide (es.t>1))=false):
  GQ prog w a es ep t (es.C.H (·.2)) (λi=>if i=0 then 0 else (t.place.E (i-1) 0)+1):=by
 intro A E s i Q ⟨o,ho,hx,QU⟩ hi q;let cZ:t.place.t=es.t:=by unfold SetTable.fits at hf;simp only[Ou,QD]at hf;show hf.1
 rw[Xy,YA]at hi;unfold setNext;show XY (Hx ho QU hf ?_);dsimp only;show XY ?_;unfold setsByText;show XY (Hu<|Yg ?_);change wpAny _ _ (if (w.params.followText "set-order")=true then _ else _) _ _ _
 rw[if_neg (by rw[hb];decide)];change wpAny _ _ (if (!t.plain&&decide (es.t>1))=true then _ else _) _ _ _
 rw[if_neg (by rw[hd];decide)];show XY ?_;change wpAny _ _ (if (!t.led && !es.isEmpty)=true then _ else _) _ _ _
 rw[if_neg (by rw[hl];simp)];show Yg ?_;let eb:SetTable.below t.place (if i=0 then 0 else (t.place.E (i-1) 0)+1)=i:=by
  cases c:i=0
  .rw[if_pos c,c];show ZX7 hr
  .rw[if_neg c];obtain⟨v,hv⟩:∃v,t.place[i-1]?=some v:={_,YL J};let e:t.place.E (i-1) 0=v:=by rw[Yv,hv];rfl
   rw[e,ZY7 hr hv];lia
 rw[eb];show Yg ?_;cases c:i<es.t
 .obtain⟨v,hv⟩:∃v,t.place[i]?=some v:={_,YL J};obtain⟨y,hy⟩:∃y,es[i]?=some y:={_,YL c};let e:t.place.E i 0=v:=by rw[Yv,hv];rfl
  rw[Yk,YK,hy]at q;rw[hv,hy];simp only[y9,vO,e,if_neg (Nat.succ_ne_zero i)]at q;show q
 .let e1:es[i]?=none:=Gi J;rw[Yk,YK,e1]at q;rwa[e1]
def Zr8(hf:t.fits es.t=true)(hb:w.params.followText "set-order"=true):
  GQ prog w a es ep t ((pickOrder (w.params.setOrder a ep) es).C.H (·.2)) (λ_=>0):=by
 intro A E s i Q ⟨o,ho,hx,QU⟩ hi q;unfold setNext;show XY (Hx ho QU hf ?_);dsimp only;show XY ?_;unfold setsByText;show XY (Hu<|Yg ?_);change wpAny _ _ (if (w.params.followText "set-order")=true then _ else _) _ _ _
 rw[if_pos hb,if_neg AP];show XY ?_;unfold setWalk;show XY (Hx ho QU hf ?_);dsimp only;show XY ?_;unfold setsByText;show XY (Hu<|Yg ?_);change wpAny _ _ (if (w.params.followText "set-order")=true then _ else _) _ _ _
 rw[if_pos hb];show XY (Hu<|Yg ?_);rw[Yk,YK,Option.map_map]at q;show Yg q
def IsPl(h:Heap)(b:Addr)(pl:List Nat):(Prop):=∃o n,h.D b=some o/\o.data=.seq (pl.H λ(i:Nat)=>rawInt (i:Int)).o n
def IsPl.keep(x:IsPl h b pl)(e:∀o,h.D b=some o->h'.D b=some o):IsPl h' b pl:=by let(o,n,p,q):=x;exists o,n,e _ p,q
def oy{i j:Nat}{x:Int×Value}{Q:Option Value->Shared->Prop}(hS:SetIs s.m a es ep t)(hf:t.fits es.t=true)(hi:IsSi s.m I a ↑b i es.t ep)(hb:IsPl s.m b pl)(hj:pl[i]?=some j)(hx:es[j]?=some x)
  (k:∀h',IsSi h' I a ↑b (i+1) es.t ep->Heap.SameBut I s.m h'->Q (some x.2) {s with heap:=h'}):wpAny (model prog w) A (pyNext<|.ref I) Q E s:=by
 let(o,ho,hc,hd):=id hi;let(oa,KS,oE,QU):=id hS;let(ob,nb,JD,Sr):=hb;unfold pyNext;show XY (ND<|NK (name:=Str.Y "__next__") hi.ty Xb<|Rv Xb hi.ty xE ?_<|xD _);unfold Builtin.«set_iterator.__next__»;show XY (Om (a:=(Value.ref I,[])) Z ?_);dsimp only;show XY (yR ho hd ?_);dsimp only[rawInt];show XY (Gb KS QU hf ?_);rw[if_neg AP];show XY (Rr JD Sr ?_);dsimp only;let e:(pl.H λ(i:Nat)=>rawInt (i:Int)).o[(i:Int).j]?=some (.int (j:Int) 0):=by rw[Yy,Fz,Yk,hj];rfl
 rw[e];dsimp only;rw[Yy,Yy];show XY ?_;unfold setNextDrawn;show XY (Hx KS QU hf ?_);dsimp only;rw[if_neg AP,hx];show Yg ?_;show XY (LF ho hd AP ?_);show Yg {x.2,Z,Yg<|k _ ⟨_,Vb _ ho<|Gh<|QH hd _,?_,?_⟩<|Oz ..}
 .rw[yZ];show hc
 .rw[QH hd];simp;rfl
def ox{Q:Option Value->Shared->Prop}(hh:A.handled=none)(hS:SetIs s.m a es ep t)(hf:t.fits es.t=true)(hi:IsSi s.m I a ↑b pl.f es.t ep)(hb:IsPl s.m b pl)
  (k:∀h',Heap.ExtBut I s.m h'->Q none {s with heap:=h'}):wpAny (model prog w) A (pyNext<|.ref I) Q E s:=by
 let(o,ho,hc,hd):=id hi;let(oa,KS,oE,QU):=id hS;let(ob,nb,JD,Sr):=hb;unfold pyNext;show XY (ND<|NK (name:=Str.Y "__next__") hi.ty Xb<|Rv Xb hi.ty xE ?_<|xD _);unfold Builtin.«set_iterator.__next__»;show XY (Om (a:=(Value.ref I,[])) Z ?_);dsimp only;show XY (yR ho hd ?_);dsimp only[rawInt];show XY (Gb KS QU hf ?_);rw[if_neg AP];show XY (Rr JD Sr ?_);dsimp only;let e:(pl.H λ(i:Nat)=>rawInt (i:Int)).o[(pl.f:Int).j]?=none:=by rw[Yy,Fz];show YC AP
 rw[e];dsimp only;show XY (LF ho hd AP ?_);let UU:=Vb (Obj.mapFields λvs=>vs.setIfInBounds 0<|rawInt 0) ho (Gh<|QH hd _)
 show XY (LF UU (QH hd _) AP ?_);change wpAny _ _ (newExc (.type "StopIteration") [] >>= _) _ _ _
 show XY ?_;simp only[newExc,newTuple];show XY (Qg ?_<|by size_fits);show XY (m:=firstArgMember _ _) (Om (a:=Value.none) (by first|rfl|(simp only[firstArgMember];rfl)) ?_)
 show Qg ?_ (by size_fits);simp only[raiseNew];show XY (wpAny_handled ?_);rw[show A.in1.handled=none from hh];show XY (Yg<|wpAny_throw ?_);show XY (FW (T:="StopIteration") (b:=true) {_,Yi _ Z,Z} yQ ?_);show Yg (k _<|((((Oz ..).l (Oz ..)).extBut).push _).push _)
def ou(hh:A.handled=none)(hp:pl.Perm (List.range es.t))(hf:t.fits es.t=true)(XJ:a≠I)(hnb:b≠I):
  Walks prog w A I [I,a,b] [I] pl.f (λi v=>(pl.filterMap λj=>(es[j]?).H (·.2))[i]?=some v) (λi h=>i<=pl.f/\IsSi h I a ↑b i es.t ep/\SetIs h a es ep t/\IsPl h b pl) where
 sub:=λc hc=>Ye.L (.inl<|XD.G hc)
 frame:=λ_ _ _ x hk=>{x.1,x.2.1.keep λo e=>hk I AP o e,x.2.2.1.keep λo e=>hk a AP o e,x.2.2.2.keep λo e=>hk b AP o e}
 item:=λi s Q E hi ⟨_,x1,x2,x3⟩ hQ=>by
  let hj:pl[i]?=some (pl[i]'hi):=XI hi;let Xt:=YG.G (hp.mem_iff.G<|Xn hj)
  let hx:es[pl[i]'hi]?=some (es[pl[i]'hi]'Xt):=YL Xt;let fm:∀(l:List Nat),(∀j∈l,j<es.t)->l.filterMap (λj=>(es[j]?).H (·.2))=l.H λj=>(es.E j (0,.none)).2:=λl hl=>by
   induction l with
   |nil=>rfl
   |cons y l ih=>
    let hy:=hl y Yd;rw[zo,YJ,ih λj h=>hl j<|Yf _ h,YL hy,Yv,YL hy];rfl
  let hv:(pl.filterMap λj=>(es[j]?).H (·.2))[i]?=some (es[pl[i]'hi]'Xt).2:=by rw[fm pl λj hj=>YG.G<|hp.mem_iff.G hj,Yk,hj,y9,Yv,hx];rfl
  show oy x2 hf x1 x3 hj hx λh' y hs=>hQ _ h' s.toks hv {hi,y,x2.keep λo e=>(hs.2 a XJ).l e,x3.keep λo e=>(hs.2 b hnb).l e} λc o hc eo=>hs.extBut c o (λe=>hc<|by simp[e]) eo
 done:=λs Q E zz hQ=>by let(_,x1,x2,x3):=zz;show ox hh x2 hf x1 x3 λh' he=>hQ h' s.toks λc o hc eo=>he c o (λe=>hc<|by simp[e]) eo
 self:=λ_ _ _ _ x hQ=>c5 x.2.1 hQ
end
section
variable{prog:Program}{w:World}{A uX:Around}{E:Ae}{s:Shared}
def SetIs.ty(x:SetIs s.m a es ep t):s.TypeIs ↑a "set":=by let(o,p,q,_):=x;exists o,p,q.1
def oq{Q:Ae}(hh:A.handled=none)(hS:SetIs s.m a es ep t)(hf:t.fits es.t=true)(hr:QW t)(hl:t.led=!w.params.followText "set-order")(hz:es.t<=sizeLine)
  (k:∀(I:Addr)(h':Heap) d (ord:Ag) (fp:List Addr) (St:Nat->Heap->Prop),ord.Perm (es.C.H (·.2))->Walks prog w A I fp [I] ord.f (λi v=>ord[i]?=some v) St->St 0 h'->(∀b∈fp,b<h'.objs.t/\(b=a\/(~~~s)<=b))->I∈fp->(~~~s)<=I->(∀c o,s.m.D c=some o->h'.D c=some o)->Q ↑I {s with heap:=h',drawn:=d}):
  wpAny (model prog w) uX (pyIter<|.ref a) Q E s:=by
 let(o,ho,hx,hd):=id hS;let KR:a<(~~~s):=Ym ho
 show wpAny_pyIter_slot hS.ty Df (Rv Df hS.ty oH ?_<|oI _);unfold Builtin.«frozenset.__iter__»;show XY (Om (a:=a) rfl ?_);show XY ?_;unfold Builtin.Frozenset.sizeOf;show XY (Gb ho hd hf<|Yg ?_);show XY ?_;unfold setDrawn;show XY (Hx ho hd hf ?_);dsimp only;show XY ?_;unfold setsByText;show XY (Hu<|Yg<|Yg ?_);let num:∀ord sl,sl 0=0->GQ prog w a es ep t ord sl->ord.Perm (es.C.H (·.2))->wpAny (model prog w) uX.in1 (pure (rawInt 0) >>= λfirst=>setEpoch a >>= λe=>newFields "set_iterator" [first,rawInt 0,.ref a,rawInt (es.t:Int),rawInt (e:Int)] >>= λit=>ret it)
   (λfin s'=>∃v,fin=Fin.done (Flow.ret v)/\∃T' r,s'.TypeIs v T'/\typeLookup (Value.type T') (Str.Y "__next__")=pure (some r)/\Q v s') E s:=λord sl h0 hN hp=>by
  show XY (Yg<|XY<|wpAny_setEpoch_of ho hd hf<|XY ?_);unfold newFields;show Qg ?_ (by size_fits);let hI:IsSi (s.m.push {cls:=.type "set_iterator",data:=.fields [rawInt 0,rawInt 0,.ref a,rawInt (es.t:Int),rawInt (ep:Int)].o}) (~~~s) a (rawInt (sl 0:Nat)) 0 es.t ep:={_,Yi _ Z,Z,by rw[h0];rfl}
  show Yg {_,Z,"set_iterator",_,IsSi.ty (s:={s with heap:=_}) hI,Xb.M,?_};let ne:a≠(~~~s):=Yq KR
  show k _ _ s.drawn ord _ _ hp (oA hh hN hf ne) {Yl _,hI,hS.keep λo e=>Xo _ e} (λb hb=>?_) AP (XQ _) λc o e=>Xo _ e;rw[RY];rcases Ye.G hb with e|e
  .rw[e];exists Ow _,.inr<|XQ _
  .rw[XD.G e];exists Qh KR,.inl Z
 cases hb:w.params.followText "set-order"=true
 .rw [if_neg (by change ¬(!w.params.followText "set-order" && _)=true;rw[hb];simp)];show num _ (λ_=>0) Z (Zr8 hf hb) ?_
  have:=c6 (f:=w.params.setOrder a ep) es.t 0 es.C #[] (by rw[YA])
  show this.H _
 .let TQ:w.params.followText "set-order"=false:=by simpa using hb
  rw[TQ]at hl;cases c:(!t.plain&&decide (es.t>1))=true
  .rw [if_pos (by change(!w.params.followText "set-order" && (!t.plain&&decide (es.t>1)))=true;rw[TQ,c];rfl)];show XY (c7 es.t (List.range es.t) s _ (by rw[YY]) λpl d hp=>?_);let Ve:pl.f=es.t:=by rw[hp.length_eq,YY]
   show XY (yS ?_<|by rwa[Xy,Ve]);let hoS:∀(h:Heap) o,h.D a=some o->(h.push {cls:=.type "tuple",data:=.seq (List.H (λi=>rawInt ((i:Nat):Int)) pl).o}).D a=some o:=λh o e=>Xo _ e
   show XY (wpAny_setEpoch_of (hoS s.m o ho) hd hf<|XY ?_);unfold newFields;show Qg ?_ (by size_fits);let ne:a≠(~~~s):=Yq KR
   generalize DU:s.m.push {cls:=.type "tuple",data:=.seq (List.H (λi=>rawInt ((i:Nat):Int)) pl).o}=h1;let s1:h1.objs.t=(~~~s)+1:=by rw[<-DU];show RY ..
   let De:∀c o,s.m.D c=some o->h1.D c=some o:=λc o e=>by rw[<-DU];show Xo _ e
   let hP1:IsPl h1 (~~~s) pl:=by rw[<-DU];exists _,0,Yi _ Z,Z
   let hI:IsSi (h1.push {cls:=.type "set_iterator",data:=.fields [Value.ref (~~~s),rawInt 0,.ref a,rawInt (es.t:Int),rawInt (ep:Int)].o}) h1.objs.t a (.ref (~~~s)) 0 es.t ep:={_,Yi _ Z,Z,Z};show Yg {_,Z,"set_iterator",_,IsSi.ty (s:={s with heap:=_,drawn:=d}) hI,Xb.M,?_};let Sg:(pl.filterMap λj=>(es[j]?).H (·.2)).Perm (es.C.H (·.2)):=by show(hp.filterMap _).l ?_;rw[<-filterMap_getElem?_range es,List.map_filterMap]
   let Ra:(pl.filterMap λj=>(es[j]?).H (·.2)).f=pl.f:=by rw[Sg.length_eq,Xy,YA,Ve]
   let W:=ou (prog:=prog) (w:=w) (A:=A) (I:=h1.objs.t) (a:=a) (b:=(~~~s)) (es:=es) (ep:=ep) (t:=t) hh hp hf (by rw[s1];show Yq<|Qh KR) (by rw[s1];show Yq<|Ow _);rw[<-Ra]at W;show k _ _ d _ _ _ Sg W {Yl _,hI,hS.keep λo e=>Xo _<|De _ o e,hP1.keep λo e=>Xo _ e} (λb hb=>?_) AP (by rw[s1];show SI _) λc o e=>Xo _ (De c o e);rw[RY,s1];rcases Ye.G hb with e|e
   .rw[e,s1];exists Ow _,.inr<|SI _
   .rcases Ye.G e with e|e
    .rw[e];exists Qh<|Qh KR,.inl Z
    .rw[XD.G e];exists Qh<|Ow _,.inr<|XQ _
  .let c':(!t.plain&&decide (es.t>1))=false:=by simpa using c
   rw[if_neg (by change ¬(!w.params.followText "set-order" && (!t.plain&&decide (es.t>1)))=true;rw[c'];simp)];show num _ _ Z (oz hf hr TQ hl c') .rfl
end
def oo:typeLookup (.type "set") "__len__"=pure (some (.builtin "set.__len__")):=by rw[Nu,zp];kernel_rfl
section
variable{prog:Program}{w:World}{A:Around}{E:Ae}{s:Shared}
def om{r:Addr}{Q:Bool->Shared->Prop}(hT:s.TypeIs ↑r "set")(h:Q false s):wpAny (model prog w) A (Builtin.List.listLengthHint ↑r) Q E s:=by
 unfold Builtin.List.listLengthHint;show XY (wpAny_specialOf hT oo ?_);generalize Dc:("set.__len__":String)=id0
 wp_delta
 rw[show splitId id0=some ("set","__len__") from by subst Dc;decide +kernel];subst Dc;show XY (FW (T:="set") (b:=true) hT sub_set_self ?_);change wpAny _ A (typeOf (Value.ref r) >>= _) _ _ _
 show XY (yG (T:="set") hT<|Yg h)
def ZV5{Q:List Value->Shared->Prop}(hh:A.handled=none)(hS:SetIs s.m a es ep t)(hf:t.fits es.t=true)(hr:QW t)(hl:t.led=!w.params.followText "set-order")(hz:es.t<=sizeLine)
  (k:∀(out:Ag) h' tk d,out.Perm (es.C.H (·.2))->(~~~s)<=h'.objs.t->(∀c o,s.m.D c=some o->h'.D c=some o)->Q out {s with heap:=h',toks:=tk,drawn:=d}):wpAny (model prog w) A (collect<|.ref a) Q E s:=by
 let Qs:(s.m.push<|seqObj "list" #[] 0).D (~~~s)=some (seqObj "list" #[] 0):=Yi _ rfl;let KU:SetIs (s.m.push<|seqObj "list" #[] 0) a es ep t:=hS.keep λo e=>Xo _ e
 let KR:a<(~~~s):=by let(_,e,_):=hS;show Ym e
 unfold collect;show XY (FP<|SK vB ?_);change wpAny _ _ (newList [] >>= λv=>again<|.builtin "list.__iadd__" {[v,.ref a],[]}) _ _ s
 show XY (LD<|Yg ⟨Qc _ vh,SK entry_list_iadd' ?_⟩);change wpAny _ _ (Builtin.List.listExtendWith (.ref (~~~s)) ↑a<|.ref (~~~s)) _ _ {s with heap:=s.m.push (seqObj "list" #[] 0)}
 unfold Builtin.List.listExtendWith;show XY (yG (T:="set") (SetIs.ty (s:={s with heap:=s.m.push (seqObj "list" #[] 0)}) KU) ?_);let e1:Builtin.List.listSameRef (.ref (~~~s)) ↑a=false:=by change((~~~s) == a)=false;show za (RV KR)
 rw[if_neg (by rw[e1];decide)];show XY (oq (A:=A.in1) (by simp[hh]) KU hf hr hl hz λI h' d ord fp St Sg W st0 hfp hI Si kp=>?_);let hT':Shared.TypeIs {s with heap:=h',drawn:=d} ↑a "set":=SetIs.ty (s:={s with heap:=h',drawn:=d}) (KU.keep λo e=>kp a o e)
 show XY (RW<|om hT' ?_);rw[if_pos vh];let oj:=kp _ _ Qs
 show XY (Uz<|XY ?_);unfold Builtin.List.listTouch;show XY (Oq (xs:=#[]) (n:=0) oj Z ?_ (Yl _)<|by change 1<=sizeLine+1;lia);let cY:=Vb (Obj.mapSeq (·.push Value.none)) oj rfl
 show Oq (xs:=#[].push Value.none) (n:=1) cY Z ?_ (by change 1<=sizeLine;decide) (by change 0<=sizeLine+1;lia);let hL4:=Vb (Obj.mapSeq Array.pop) cY rfl
 let old:∀c o,c≠(~~~s)->h'.D c=some o->((h'.update (~~~s) (Obj.mapSeq (·.push Value.none))).update (~~~s) (Obj.mapSeq Array.pop)).D c=some o:=λc o hc e=>by rwa[YU _ _ (XO hc),YU _ _ (XO hc)]
 generalize (h'.update (~~~s) (Obj.mapSeq (·.push Value.none))).update (~~~s) (Obj.mapSeq Array.pop)=h4 at *;let Mp:(~~~s)∉fp:=λq=>by
  rcases(hfp _ q).2 with e|e
  .show RV KR e
  .rw [show({s with heap:=s.m.push (seqObj "list" #[] 0)}:Shared).m.objs.t=(~~~s)+1 from RY ..] at e;show Nat.not_succ_le_self _ e
 let oi:ord.f=es.t:=by rw[Sg.length_eq,Xy,YA]
 show Yg {NC PySem.F.plain_extend_loop _,codeAny_extend_loopS W.toS (by rwa[oi]) (~~~s) Mp _ ord.f 0 _ #[] _ Z (Yl _) (W.frame 0 _ _ st0 λb hb o e=>old b o (λq=>Mp<|q▸hb) e) hL4 (ItemsOf.nil _) λs2 acc c m cX Ur=>?_};let eo:acc.C=ord:=by
  show QG λi=>?_;rw[YK];cases hi:i<ord.f
  .let q:acc[i]?=some (acc[i]'(by rwa[Ur.1])):=YL _;rw[q,Ur.2 i _ q]
  .rw[YC vk,Gi (by rw[Ur.1];omega)]
 change wpAny _ A (load (~~~s) >>= _) Q E s2;show XY (FI cX ?_);show Yg ?_;rw[eo,Moved.eq_with m];show k ord s2.m s2.toks d Sg (LC<|Ym cX) λc o e=>?_;let lt:=Ym e
 show m.m c o (λq=>?_) (old c o (Yq lt)<|kp c o<|Xo _ e);rcases Ye.G q with e'|e'
 .show Yq lt e'
 .rw[XD.G e']at lt
  have:=Yt lt (YB (SI _)<|RY .. ▸ Si)
  show Va _ this
end
def oh:∀{l:Ac},m.Nodup->l.f=m.f->(∀x∈m,x∈l)->l.Perm m:=by
 induction m with
 |nil=>intro l _ h _;rw[QP.G h]
 |cons x m ih=>
  intro l hn hl hs;let hx:=hs x Yd
  let Ke:=Ru.G hn;show(List.perm_cons_erase hx).l ((ih Ke.2 (by rw[wb hx,hl];rfl) λy hy=>?_).cons x);let ne:y≠x:=λe=>Ke.1 (by rwa[<-e])
  show(vR ne).L (hs y<|Yf _ hy)
def ZF8(p:us.Perm vs):∀{ns:Ac},IntsAre vs ns->∃ms,IntsAre us ms/\ms.Perm ns:=by
 induction p with
 |nil=>intro ns h;exists ns,h,.rfl
 |cons x _ ih=>
  intro ns h;cases h with
  |cons n t h=>
   let(ms,h1,h2):=ih h;exists n::ms,.cons n t h1,h2.cons n
 |swap x y l=>
  intro ns h;cases h with
  |cons n t h=>
   cases h with
   |cons m u h=>exists m::n::_,.cons m u<|.cons n t h,.swap n m _
 |trans _ _ Mz QX=>
  intro ns h;let(ms,h1,h2):=QX h;let(ls,h3,h4):=Mz h1;exists ls,h3,h4.l h2
def og(h:IntsAre vs ns):vs.f=ns.f:=by
 induction h with
 |nil=>rfl
 |cons n t _ ih=>rw[Yx,Yx,ih]
def GP(val:Nat->Int):∀i,(firstMet val i).Nodup
 |0=>.nil
 |i+1=>by
  rw[firstMet_succ];unfold step_dedup;split
  .show GP val i
  .rename_i h;show VR.L {GP val i,AP,λa ha b hb e=>?_};rw[XD.G hb]at e;show h (Hy.L {a,ha,by rw[e];simp})
section
variable{prog:Program}{w:World}{A:Around}{E:Ae}{s:Shared}
def cW:∀{l:List (Int×Value)},ElemsOf (intKind prog w) l->∃ms,IntsAre (l.H (·.2)) ms/\∀z,z∈ms↔∃y∈l,(intKind prog w).is z y.2=true
 |[],_=>{[],.nil,λz=>{λh=>(by cases h),λzz=>by let(y,h,_):=zz;show(by cases h)}}
 |y::l,h=>by
  let(ms,h1,h2):=cW h.tail;let((z,hz,_),_):=h.head;let(hy,v):=y;let(u,rfl):=Value.isInt_shape (show Value.isInt z v=true from hz);exists z::ms,.cons z u h1,λx=>?_;rw[Ye,h2];constructor
  .rintro(e|⟨y,hy,q⟩)
   .exists _,Yd,e▸hz
   .exists y,Yf _ hy,q
  .rintro⟨y,hy,q⟩;rcases Ye.G hy with e|e
   .rw[e]at q;show .inl ((intKind prog w).inj _ _ _ q hz)
   .show .inr ⟨y,e,q⟩
def cV{led:Bool}{S:Int->Bool}{Q:Ae}(hh:A.handled=none)(hS:SetR prog w s.m a (!w.params.followText "set-order") S n)(Pd:n<64)
  (k:∀(ms:Ac)(out:Ag) r h' tk d c,IntsAre out ms->ms.Q (·<=·)->ms.f=n->(∀z,z∈ms↔S z=true)->(~~~s)<=r->h'.D r=some (seqObj "list" out.o c)->(∀c o,s.m.D c=some o->h'.D c=some o)->Q ↑r {s with heap:=h',toks:=tk,drawn:=d}):
  wpAny (model prog w) A (call (.builtin "sorted") [.ref a]) Q E s:=by
 let(o,es,ep,t,ho,hx,hd,he,hm,hb,hf,hn,hr,hl):=hS;let(ns,hI,VO):=cW he;let KQ:sizeLine=16777216:=TF
 show Calls.call_function_entry kind_sorted plain_sorted entry_sorted (args_sorted1 _) ?_;unfold Builtin.«sorted»;show XY (m:=checkCount "sorted" 1 1 _) (Yg ?_);show XY (ZV5 (A:=A.in1) (by simp[hh]) ⟨o,ho,hx,hd⟩ hf hr hl J λout h1 tk d hp Si kp=>?_);let(ls,cU,Vw):=ZF8 hp hI;let lo:=og cU
 let ll:ls.f=n:=by rw[<-lo,hp.length_eq,Xy,YA,hn]
 show XY (LD ?_);let hL:(h1.push<|seqObj "list" out.o 0).D h1.objs.t=some (seqObj "list" out.o 0):=Yi _ rfl
 show XY (RW<|Rv slot_list_sort ⟨_,hL,Z⟩ entry_list_sort (list_sort_tree hL cU J λres ms b1 b2 b3=>{_,Z,?_})<|args_list_sort _);let(c,hc):=sortedHeap_at (out:=res) hL;show Yg {_,Z,k ms res.C h1.objs.t _ tk d c b1 b3 (by rw[b2.length_eq,ll]) (λz=>by rw[b2.mem_iff,Vw.mem_iff,VO,hm]) Si (by rwa[Array.toArray_toList]) λb ob e=>?_};let lt:=Ym (kp b ob e)
 rw[sortedHeap_old (Yq lt) (by rw[size_push'];show Qh lt)];show Xo _ (kp b ob e)
end
section
variable{X:Cx}{p p2 pos UH:Pos}{e:Expr}{t:TA}
def Inv.drew(I:Inv X pins σ H s)(d:Drawn):Inv X pins σ H {s with drawn:=d}:=
 I.step (g':=s.gens) (d':=d) (t':=s.toks) (h':=s.m) (ch:=[]) (λb hb=>(by cases hb)) (λb o _ _ _ q _=>q) (λb o _ _ _ q _=>⟨o.slots,q⟩) (λb o _ _ n=>n) (λb o _ q=>⟨o,q⟩) (λb xs q=>q) (λb o u q=>q) (λb ps q=>{#[],by rw[q];simp}) (λm hm=>hm) I.hok I.bare
def Zj6(K:Ad)(t:TA):(TE):=λσ H Q=>t σ H λvs H1=>∃(a:Addr)(ns:Ac),vs=[.ref a]/\SqL K H1 a (ns.H V.int)/\ns.f<64/\∀ms:Ac,ms.Q (·<·)->(∀z,z∈ms↔z∈ns)->∀l,H1 l=none->Q ↑l (upd H1 l<|.lst<|ms.H V.int)
def n9(K:Ad)(hc:X.calm=true)(g1:Gl X "sorted")(m1:X.mg "sorted"=none)(g2:Gl X "set")(m2:X.mg "set"=none)(ha:PA X [e] t)(hk:X.K=K:=by rfl)
  (he:starEach [e] X.X=[(false,eval e X.X)]:=by rfl)
  (Qu:starEach [.Call (.Name "set" p2) [e] [] UH] X.X=[(false,eval (.Call (.Name "set" p2) [e] [] UH) X.X)]:=by rfl):
  PE X (.Call (.Name "sorted" p) [.Call (.Name "set" p2) [e] [] UH] [] pos) (Zj6 K t):=by
 subst hk;intro pins s σ H Q I h;show NH (Rg I g1 m1 Boot.«sorted» ?_);show Ko ?_ (by rw[Qu];rfl) rfl;rw[Qu];change wpAny _ _ (spliced<|(false,eval (.Call (.Name "set" p2) [e] [] UH) X.X)::backTo pos []) _ _ s
 show vD ?_;show NH (Rg I g2 m2 Boot.«set» ?_);show TX (thn (ha UH pins s σ H _ I h) λus s1 zz=>?_) (by rw[he];rfl) rfl;let(vs,H1,I1,r1,q1):=zz;let(a,ns,rfl,hq,hn,q):=q1;let(u,rfl,ru):=Ut r1;let rfl:u=Value.ref a:=ru;let(XX,rv,pl,hz):=I1.list hq;let hi:=ZD rv
 let el:XX.o.t=ns.f:=by rw[Yc,<-rv.f,Xy]
 let sb:scanBound=4096:=rfl;show dc (I.ok.hd hc) pl.isList (ns:=ns) (by simpa using hi) J λh2 tk hS kp=>?_;show vC ?_;let fl:=firstMet_length_le (λi=>ns.E i 0) XX.o.t
 show cV (led:=true) (s:={s1 with heap:=h2,toks:=tk}) (I.ok.hd hc) hS J λms out r h3 n6 d c hI hs hl VO Si hr n5=>?_;let em:∀z,z∈ms↔z∈ns:=λz=>by
  rw[VO,firstMet_any,el];let e1:(List.range ns.f).H (λi=>ns.E i 0)=ns:=by
   show QG λi=>?_;rw[Yk];cases c:i<ns.f
   .rw[OA c,XI c,y9,WW,XI c];rfl
   .rw[YC (by rw[YY];lia),YC B];rfl
  rw[e1];simp
 let Sf:ms.Nodup:=(oh (GP _ _) hl λx hx=>(VO x).L (Hy.L ⟨x,hx,AP⟩)).nodup_iff.L (GP _ _);let Xt:(~~~s1)<=h2.objs.t:=by let(_,_,_,_,e,_):=hS;show LC (Ym e)
 let Pc:(~~~s1)<=r:=YB Xt Si;let MN:ms.f<=ns.f:=by rwa[hl,<-el]
 let I2:=(I1.laid (o:=.lst<|ms.H V.int) (h':=h3) (t':=n6) (λb o e=>n5 b o<|kp b o e) Pc ⟨by rw[Xy];have:sizeLine=16777216:=TF;lia,out,c,Pu hI,hr⟩).drew d;exists .ref r,_,I2,Z,q ms (My.VW hs Sf) em r<|I1.hok.fresh Pc
end
end L2
namespace My
open PySem L2
def ZN7{f g:Nat->Nat}{N k:Nat}(hf:∀i j,i<N->j<N->(f i=f j↔Conn A i j))(hk:∀i,i<N->f i<k)(hg:∀a,a<k->g a<N/\f (g a)=a)(hA:InN N A)(hB:InN N uX):
  (∀i j,i<N->j<N->Conn (A++uX) i j)↔∀a b,a<k->b<k->Conn (uX.H λe=>(f e.1,f e.2)) a b:=by
 let gi:∀i,i<N->Conn A (g<|f i) i:=λi hi=>by let(h1,h2):=hg (f i) (hk i hi);show(hf _ _ h1 hi).G h2
 constructor
 .intro c a b ha hb;let(a1,a2):=hg a ha;let(b1,b2):=hg b hb;let q:=(c (g a) (g b) a1 b1).image (f:=f) (fs:=uX.H λe=>(f e.1,f e.2)) λe he=>by
   rcases Yb.G he with q|q
   .let⟨e1,e2⟩:=hA e q;rw[(hf _ _ e1 e2).L (.edge q)];show .refl _
   .show .edge (Yp.L ⟨e,q,Z⟩)
  rwa[a2,b2]at q
 .intro c i j hi hj;let up:∀{i j:Nat},Conn A i j->Conn (A++uX) i j:=λq=>q.mono λe he=>Yn _ he
  let q:=(c (f i) (f j) (hk i hi)<|hk j hj).image (f:=g) (fs:=A++uX) λe he=>by let(d,hd,rfl):=Yp.G he;let(d1,d2):=hB d hd;show(up<|gi _ d1).l ((Conn.edge<|Yh _ hd).l (up<|gi _ d2).symm)
  show(up<|gi i hi).symm.l (q.l<|up<|gi j hj)
def PC(n:Int)(ps:Aa)(I O:Ac)(c:Nat):(Prop):=∃L:Ab,L.Nodup/\(∀l,l∈L↔Zf n ps l/\(∀z∈I,z∈l)/\∀z∈O,z∉l)/\L.f=c
def XB(m:Nat)(gone:Ac):(Ac):=(Wu m).U λz=>decide (z∉gone)
def WT{z:Int}:z∈XB m gone↔(0<=z/\z<(m:Int))/\z∉gone:=by unfold XB;rw[Yj,YW,Xr]
def cS(m:Nat)(gone:Ac):(XB m gone).Q (·<·):=(XU.G<|GY m).2.U _
def SW(f:Nat->Nat)(ps:Aa)(R:Ac):(Aa):=R.H λz=>((f (Zx ps z).1:Int),(f (Zx ps z).2:Int))
def QT(R:Ac)(S:Ac):(Ac):=S.H λt=>R.E t.j 0
def CZ(hR:R.Q (·<·))(hS:IsSet R.f S):(QT R S).Q (·<·):=by
 let(a1,a2):=XU.G hS;show Oy.L (a2.imp_of_mem λ{a b} ha hb Vo=>?_);let h1:=a1 a ha
 let h2:=a1 b hb;rw[WW,WW,XI J,XI J];show YT.G hR a.j b.j B B J
def CY(hS:IsSet R.f S){z:Int}(h:z∈QT R S):z∈R:=by
 let(t,ht,rfl):=Yp.G h;let h1:=hS.all t ht
 rw[WW,XI J];show QE _
def n4{f:Nat->Nat}(hS:IsSet R.f S):XR (SW f ps R) S=(XR ps (QT R S)).H λe=>(f e.1,f e.2):=by
 unfold XR QT;rw[LB,LB];show YN λt ht=>?_;let h1:=hS.all t ht
 let e:(SW f ps R).E t.j (0,0)=((f (Zx ps<|R.E t.j 0).1:Int),(f (Zx ps<|R.E t.j 0).2:Int)):=by unfold SW;rw[WW,Yk,WW,XI B];rfl
 rw[e];rfl
def RG(m:Nat)(I R S:Ac):(Ac):=(Wu m).U λz=>decide (z∈I\/z∈QT R S)
def nZ(m:Nat)(I R S:Ac):(RG m I R S).Q (·<·):=(XU.G<|GY m).2.U _
def WV{z:Int}:z∈RG m I R S↔(0<=z/\z<(m:Int))/\(z∈I\/z∈QT R S):=by unfold RG;rw[Yj,YW,Xr]
section
variable{n:Int}{ps:Aa}{I O S:Ac}{f g:Nat->Nat}{k:Nat}
def nY(hI:IsSet ps.f I)(hS:IsSet (XB ps.f (I++O)).f S):(RG ps.f I (XB ps.f (I++O)) S).Perm (I++QT (XB ps.f (I++O)) S):=by
 let ua:=CZ (cS ps.f<|I++O) hS;show(Kv (MM<|nZ _ _ _ _)<|VR.L {hI.nodup,MM ua,λa ha b hb e=>?_}).L λz=>?_
 .have:=(WT.G<|CY hS hb).2
  show this (Yn _<|e▸ha)
 .rw[WV,Yb];exists λh=>h.2,λh=>{?_,h};rcases h with q|q
  .show hI.all z q
  .show(WT.G<|CY hS q).1
theorem cR(g0:Zv n ps)(hI:IsSet ps.f I)(hf:∀i j,i<n.j->j<n.j->(f i=f j↔Conn (XR ps I) i j))(hk:∀i,i<n.j->f i<k)(hg:∀a,a<k->g a<n.j/\f (g a)=a)(hS:IsSet (XB ps.f (I++O)).f S):
  ((∀i j,i<n.j->j<n.j->Conn (XR ps<|RG ps.f I (XB ps.f<|I++O) S) i j)↔∀a b,a<k->b<k->Conn (XR (SW f ps<|XB ps.f<|I++O) S) a b):=by
 let hp:=nY (O:=O) hI hS;let hA:=ZQ (ns:=I) g0 hI.all
 let hB:=ZQ (ns:=QT (XB ps.f<|I++O) S) g0 λz hz=>(WT.G<|CY hS hz).1;let e:XR ps (I++QT (XB ps.f<|I++O) S)=XR ps I++XR ps (QT (XB ps.f<|I++O) S):=by unfold XR;show YD
 rw[n4 hS,<-ZN7 hf hk hg hA hB,<-e];exists λc i j hi hj=>(TM λz=>hp.mem_iff).G (c i j hi hj),λc i j hi hj=>(TM λz=>hp.mem_iff).L (c i j hi hj)
def CW(hI:IsSet ps.f I)(hT:IsSet ps.f T)(h1:∀z∈I,z∈T)(h2:∀z∈O,z∉T):∃S,IsSet (XB ps.f (I++O)).f S/\T=RG ps.f I (XB ps.f (I++O)) S:=by
 exists (Wu (XB ps.f<|I++O).f).U λt=>decide<|(XB ps.f<|I++O).E t.j 0∈T,XU.L {λt ht=>Xr.G (Yj.G ht).1,(XU.G<|GY _).2.U _},Jl (XU.G hT).2 (nZ _ _ _ _) λz=>?_;rw[WV];constructor
 .intro hz;exists hT.all z hz,?_;cases c:z∈I
  .show .inl c
  .right;let hR:z∈XB ps.f (I++O):=WT.L ⟨hT.all z hz,λq=>by
    rcases Yb.G q with q|q
    .show c q
    .show h2 z q hz⟩
   let(t,ht):=YH hR;let e:(XB ps.f<|I++O).E ((t:Int)).j 0=z:=by rw[Yy];show XG ht
   show Yp.L {(t:Int),Yj.L {Xr.L {J,by have:=(Xs.G ht).1;omega},Ys<|by rwa[e]},e}
 .rintro⟨_,q|q⟩
  .show h1 z q
  .let⟨t,ht,rfl⟩:=Yp.G q;show Yu (Yj.G ht).2
def nX{S':Ac}(hS:IsSet (XB ps.f (I++O)).f S)(Tb:IsSet (XB ps.f (I++O)).f S')(e:RG ps.f I (XB ps.f (I++O)) S=RG ps.f I (XB ps.f (I++O)) S'):S=S':=by
 let key:∀{A uX:Ac},IsSet (XB ps.f<|I++O).f A->IsSet (XB ps.f<|I++O).f uX->RG ps.f I (XB ps.f<|I++O) A=RG ps.f I (XB ps.f<|I++O) uX->∀t,t∈A->t∈uX:=λ{A uX} hA hB e t ht=>by
  let h1:=hA.all t ht;let hm:(XB ps.f<|I++O).E t.j 0∈QT (XB ps.f<|I++O) A:=Yp.L ⟨t,ht,Z⟩
  let hR:=WT.G (CY hA hm);let h2:(XB ps.f<|I++O).E t.j 0∈RG ps.f I (XB ps.f<|I++O) uX:=e▸WV.L {hR.1,.inr hm}
  rcases(WV.G h2).2 with q|q
  .show absurd (Yn _ q) hR.2
  .let⟨u,hu,e2⟩:=Yp.G q;let h3:=hB.all u hu
   rw[WW,WW,XI J,XI J]at e2
   have:=Xg (MM<|cS ps.f<|I++O) (i:=u.j) (j:=t.j) (XI B) (by rw[XI B];show YZ some e2.symm)
   let e3:u=t:=J;show e3▸hu
 show Jl (XU.G hS).2 (XU.G Tb).2 λt=>{key hS Tb e t,key Tb hS e.symm t}
def xC(f:Nat->Nat)(ps:Aa)(R:Ac):(SW f ps R).f=R.f:=Xy ..
def nW(g0:Zv n ps)(hI:IsSet ps.f I)(CV:∀z∈I,z∉O)(hf:∀i j,i<n.j->j<n.j->(f i=f j↔Conn (XR ps I) i j))(hk:∀i,i<n.j->f i<k)(hg:∀a,a<k->g a<n.j/\f (g a)=a)(hn:(k:Int)+I⁻¹=n)(h:TC k (SW f ps (XB ps.f (I++O))) c):PC n ps I O c:=by
 let(L,h1,h2,h3):=h;let hs:∀l∈L,IsSet (XB ps.f<|I++O).f l:=λl hl=>xC f ps _▸((h2 l).G hl).1
 let len:∀{S:Ac},IsSet (XB ps.f<|I++O).f S->(RG ps.f I (XB ps.f<|I++O) S).f=I.f+S.f:=λ{S} hS=>by rw[(nY hI hS).length_eq,Xm];unfold QT;rw[Xy]
 let iff:∀{S:Ac},IsSet (XB ps.f<|I++O).f S->(Zf n ps (RG ps.f I (XB ps.f<|I++O) S)↔Zf k (SW f ps<|XB ps.f<|I++O) S):=λ{S} hS=>by
  let l:=len hS;let q:=cR (O:=O) g0 hI hf hk hg hS
  constructor
  .rintro⟨a1,a2,a3⟩;exists by rw[xC];show hS,J,λa b ha hb=>q.G a3 a b J J
  .rintro⟨a1,a2,a3⟩;exists XU.L {λz hz=>(WV.G hz).1,nZ _ _ _ _},J,q.L λa b ha hb=>a3 a b J J
 show{L.H<|RG ps.f I<|XB ps.f<|I++O,Oy.L<|h1.imp_of_mem λ{a b} ha hb Vo e=>Vo<|nX (hs a ha) (hs b hb) e,λT=>?_,by rw[Xy,h3]};rw[Yp];constructor
 .rintro⟨S,hS,rfl⟩;exists (iff<|hs S hS).L ((h2 S).G hS),λz hz=>WV.L {hI.all z hz,.inl hz},λz hz q=>?_;rcases(WV.G q).2 with q|q
  .show CV z q hz
  .show(WT.G<|CY (hs S hS) q).2 (Yh _ hz)
 .rintro⟨hT,q1,q2⟩;let(S,hS,rfl):=CW hI hT.1 q1 q2;exists S,(h2 S).L ((iff hS).G hT),Z
def cQ(g0:Zv n ps)(gone:Ac)(hk:∀i,i<n.j->f i<k)(k1:1<=k)(kn:k<=n.j):Zv k (SW f ps (XB ps.f gone)):=by
 let(g1,g2,g3,g4):=g0;exists J,J,?_,λp hp=>?_
 .rw[xC]
  have:(XB ps.f gone).f<=(Wu ps.f).f:=OD ..
  have:=(GY ps.f).len
  lia
 .let⟨z,hz,rfl⟩:=Yp.G hp;let IW:=(WT.G hz).1
  obtain⟨q,hq⟩:∃q,ps[z.j]?=some q:={_,XI J};let(e1,e2,e3,e4):=g4 q (Xn hq);let ee:Zx ps z=(q.1.j,q.2.j):=by unfold Zx;rw[XG hq]
  rw[ee];let a:=hk q.1.j J
  let b:=hk q.2.j J;exists by change(0:Int)<=(f q.1.j:Int);lia,by change(f q.1.j:Int)<(k:Int);lia,by change(0:Int)<=(f q.2.j:Int);lia,by change(f q.2.j:Int)<(k:Int);lia
def nV(g0:Zv n ps)(hI:IsSet ps.f I)(hf:∀i j,i<n.j->j<n.j->(f i=f j↔Conn (XR ps I) i j))(hk:∀i,i<n.j->f i<k)(hg:∀a,a<k->g a<n.j/\f (g a)=a)(k1:1<=k)(kn:k<=n.j)(hn:n<(k:Int)+I⁻¹):PC n ps I O 0:=by
 exists [],.nil,λT=>{λh=>(by cases h),λzz=>?_},Z;let(hT,q1,q2):=zz;let(S,hS,rfl):=CW hI hT.1 q1 q2;let q:=(cR (O:=O) g0 hI hf hk hg hS).G hT.2.2
 let gg:=cQ (f:=f) g0 (I++O) hk k1 kn;let l:=pd gg (by rwa[xC]) λa b ha hb=>q a b J J
 let l2:=hT.2.1;rw[(nY hI hS).length_eq,Xm]at l2;unfold QT at l2;rw[Xy]at l2;omega
end
def UG:(Ac->Int->Nat)
 |[],_=>0
 |x::l,z=>if x=z then 0 else UG l z+1
def IV:∀{l:Ac}{z:Int},z∈l->l[UG l z]?=some z
 |x::l,z,h=>by
  unfold UG;cases c:x=z
  .rw[if_pos c,c];rfl
  .rw[if_neg c];show IV ((Ye.G h).resolve_left λe=>c e.symm)
def nU(h:z∈l):UG l z<l.f:=(Xs.G<|IV h).1
def nS(hz:z∈l)(hy:y∈l):UG l z=UG l y↔z=y:=by
 show{λe=>?_,λe=>by rw[e]};let h1:=IV hz
 rw[e,IV hy]at h1;show(Ya h1).symm
def nR(hn:l.Nodup){i:Nat}{z:Int}(h:l[i]?=some z):UG l z=i:=Xg hn (IV<|Xn h) h
def CU(h:i<M.f):mk M i∈M:=by unfold mk;rw[WW,XI h];show QE h
section
variable{N:Nat}{es:List (Nat×Nat)}{F:Ac}
def nQ(h:InN N es)(hF:F.Q (·<·))(hm:∀z,z∈F↔z∈Xl N es):
  ∃g:Nat->Nat,(∀i j,i<N->j<N->(UG F (mk (Xl N es) i)=UG F (mk (Xl N es) j)↔Conn es i j))/\(∀i,i<N->UG F (mk (Xl N es) i)<F.f)/\∀a,a<F.f->g a<N/\UG F (mk (Xl N es)<|g a)=a:=by
 let hl:=Zn N es;let nP:∀i,i<N->mk (Xl N es) i∈F:=λi hi=>(hm _).L (CU J)
 let ex:∀a,∃i,a<F.f->i<N/\UG F (mk (Xl N es) i)=a:=λa=>by
  cases c:a<F.f
  .let q:=(hm _).G (QE c);let(i,hi):=YH q;let We:=(Xs.G hi).1
   exists i,λ_=>{J,?_};let e:mk (Xl N es) i=F[a]:=by unfold mk;show XG hi
   rw[e];show nR (MM hF) (XI c)
  .exists 0,λh=>absurd h c
 exists λa=>Classical.choose<|ex a,λi j hi hj=>?_,λi hi=>nU<|nP i hi,λa ha=>gD (ex a) ha;rw[nS (nP i hi) (nP j hj)];show Hc h hi hj
def nO:∀i,∃p,p<=i/\Ws M p=true/\mk M p=mk M i:=by
 intro i
 induction i using Nat.strongRecOn with
 |_ i ih=>
  cases c:Ws M i=true
  .exists i,XQ _,c,Z
  .obtain⟨j,hj,e⟩:∃j,j<i/\mk M j=mk M i:=Yr λno=>c (XC.L λj hj e=>no ⟨j,hj,e⟩);let(p,h1,h2,h3):=ih j hj;exists p,J,h2,h3.l e
def ZP8(hF:F.Q (·<·))(hm:∀z,z∈F↔z∈M):F.f=cnt M:=by
 let e:F.Perm ((Vn M M.f).H (mk M)):=by
  show(Kv (MM hF) ?_).L λz=>?_
  .show Oy.L ?_;unfold Vn;show(Gj.U<|Ws M).imp_of_mem λ{a b} ha hb Vo=>?_;show XC.G (Yj.G hb).2 a Vo
  .rw[hm,Yp];constructor
   .intro hz;let(i,hi):=YH hz;let We:=(Xs.G hi).1
    let(p,h1,h2,h3):=nO (M:=M) i;exists p,Yj.L {YG.L J,h2},h3.l ?_;unfold mk;show XG hi
   .rintro⟨p,hp,rfl⟩;show CU (YG.G (Yj.G hp).1)
 rw[e.length_eq,Xy];rfl
def Zh4(h:InN N es)(hN:1<=N)(hF:F.Q (·<·))(hm:∀z,z∈F↔z∈Xl N es):1<=F.f/\F.f<=N/\N<=F.f+es.f:=by
 let e:=ZP8 hF hm;let hl:=Zn N es
 let e2:=qu (rF (n:=N) (es:=es) h);let e3:=xW es h
 let e4:=xV (M:=Xl N es) J;let e5:cnt (Xl N es)<=N:=by unfold cnt Vn;show YB (OD ..) ?_;rw[YY];lia
 lia
end
def FD(A uX:Ac)(t:Int):(Prop):=t∈A/\t∉uX/\∀s,s<t->(s∈A↔s∈uX)
def FD.uniq(h:FD A uX t)(k:FD A uX u):t=u:=by
 rcases zh t u with c|c|c
 .show absurd ((k.2.2 t c).G h.1) h.2.1
 .show c
 .show absurd ((h.2.2 u c).G k.1) k.2.1
def nN:∀{A uX:Ac},A.Q (·<·)->uX.Q (·<·)->A.f=uX.f->(HT.lexLt A uX=true↔∃t,FD A uX t)
 |[],[],_,_,_=>{λh=>(by cases h),λzz=>by let(t,h,_):=zz;show(by cases h)}
 |x::A,y::uX,hA,hB,hl=>by
  let(a1,a2):=VS.G hA;let(b1,b2):=VS.G hB;let Ft:A.f=uX.f:=NB hl
  change(if x=y then HT.lexLt A uX else decide (x<y))=true↔_;cases c:x=y
  .subst c;rw[if_pos Z,nN a2 b2 Ft];constructor
   .rintro⟨t,h1,h2,h3⟩;let tx:=a1 t h1
    exists t,Yf _ h1,λq=>?_,λs hs=>?_
    .rcases Ye.G q with e|e
     .lia
     .show h2 e
    .rw[Ye,Ye,h3 s hs]
   .rintro⟨t,h1,h2,h3⟩;let tx:t≠x:=λe=>h2 (e▸Yd)
    let h1':=(Ye.G h1).resolve_left tx;exists t,h1',λq=>h2<|Yf _ q,λs hs=>?_
    have:=h3 s hs
    rw[Ye,Ye]at this;cases e:s=x
    .rw[e];exists λq=>absurd (a1 x q)<|Int.lt_irrefl x,λq=>absurd (b1 x q)<|Int.lt_irrefl x
    .exists λq=>(this.G<|.inr q).resolve_left e,λq=>(this.L<|.inr q).resolve_left e
  .rw[if_neg c,YW];constructor
   .intro h;exists x,Yd,λq=>?_,λs hs=>{λq=>?_,λq=>?_}
    .rcases Ye.G q with e|e
     .show c e
     .have:=b1 x e;lia
    .rcases Ye.G q with e|e
     .lia
     .have:=a1 s e;lia
    .rcases Ye.G q with e|e
     .lia
     .have:=b1 s e;lia
   .rintro⟨t,h1,h2,h3⟩;let tx:x<=t:=by
     rcases Ye.G h1 with e|e
     .lia
     .have:=a1 t e;lia
    show Yr λhc=>?_;let EJ:y<x:=J
    have:=(h3 y J).L Yd
    rcases Ye.G this with e|e
    .lia
    .have:=a1 y e;lia
def Rk(n:Int)(ps:Aa)(T:Ac)(r:Nat):(Prop):=∃L:Ab,L.Nodup/\(∀l,l∈L↔Zf n ps l/\HT.lexLt l T=true)/\L.f=r
def Rk.uniq(h1:Rk n ps T c)(h2:Rk n ps T d):c=d:=by
 let(L,a1,a2,a3):=h1;let(M,b1,b2,b3):=h2
 have:L.Perm M:=(Kv a1 b1).L λl=>by rw[a2,b2]
 rw[<-a3,<-b3,this.length_eq]
def cP{α:Type}[DecidableEq α]:∀{l m:List α},l.Nodup->(∀x∈l,x∈m)->l.f<=m.f
 |[],_,_,_=>Yl _
 |x::l,m,hn,hs=>by
  let hx:=hs x Yd;let(h1,h2):=Ru.G hn
  have:=cP (m:=m.erase x) h2 λy hy=>(vR λe=>h1<|by rwa[<-e]).L (hs y<|Yf _ hy)
  rw[wb hx]at this
  have:=zr hx
  rw[Yx];lia
def CT{l T O:Ac}{I:Ac}(hl:IsSet m l)(hT:IsSet m T)(tT:t∉T)(hI:∀z,z∈I↔(z∈T/\z<t)\/z=t)(hO:∀z,z∈O↔(0<=z/\z<(m:Int))/\z∉T/\z<t):((∀z∈I,z∈l)/\∀z∈O,z∉l)↔FD l T t:=by
 constructor
 .rintro⟨h1,h2⟩;exists h1 t<|(hI t).L (.inr Z),tT,λs hs=>{λq=>Yr λno=>?_,λq=>h1 s<|(hI s).L (.inl ⟨q,hs⟩)};show h2 s ((hO s).L {hl.all s q,no,hs}) q
 .rintro⟨h1,_,h3⟩;exists λz hz=>?_,λz hz q=>?_
  .rcases(hI z).G hz with e|e
   .show(h3 z e.2).L e.1
   .rw[e];show h1
  .let⟨_,e1,e2⟩:=(hO z).G hz;show e1 ((h3 z e2).G q)
def nM(hT:Zf n ps T)(bs:Ac)(hb:∀z,z∈bs↔(0<=z/\z<ps⁻¹)/\z∉T)(hbn:bs.Nodup)(cs:List Nat)(Tu:cs.f=bs.f)
  (hc:∀(j:Nat)(t:Int)(c:Nat),bs[j]?=some t->cs[j]?=some c->∃I O,PC n ps I O c/\(∀z,z∈I↔(z∈T/\z<t)\/z=t)/\∀z,z∈O↔(0<=z/\z<ps⁻¹)/\z∉T/\z<t):Rk n ps T cs.sum:=by
 let step:∀j,j<=bs.f->∃L:Ab,L.Nodup/\(∀l,l∈L↔Zf n ps l/\∃t∈bs.R j,FD l T t)/\L.f=(cs.R j).sum:=λj=>by
  induction j with
  |zero=>show λ_=>{[],.nil,λl=>{λh=>(by cases h),λzz=>by let(_,t,h,_):=zz;show(by cases h)},Z}
  |succ j ih=>
   intro hj;let(L,l1,l2,l3):=ih J;obtain⟨t,ht⟩:∃t,bs[j]?=some t:={_,XI J};obtain⟨c,cO⟩:∃c,cs[j]?=some c:={_,XI J};let(I,O,(M,m1,m2,m3),hI,hO):=hc j t c ht cO;let tT:=((hb t).G (Xn ht)).2
   let cN:∀l,l∈M↔Zf n ps l/\FD l T t:=λl=>by rw[m2];exists λzz=>by let(a,b):=zz;show{a,(CT a.1 hT.1 tT hI hO).G b},λzz=>by let(a,b):=zz;exists a,(CT a.1 hT.1 tT hI hO).L b
   exists L++M,VR.L {l1,m1,λx hx y hy e=>?_},λl=>?_,?_
   .rw[<-e]at hy;let(_,u,hu,fu):=(l2 x).G hx;let eu:=fu.uniq ((cN x).G hy).2
    rw[eu]at hu;let(q,hq):=YH hu;rw[NI]at hq;split at hq
    .have:=Xg hbn hq ht
     lia
    .cases hq
   .rw[Yb,l2,cN,YI,ht];constructor
    .rintro(⟨a,u,hu,fu⟩|⟨a,fu⟩)
     .exists a,u,Yn _ hu,fu
     .exists a,t,Yh _ AP,fu
    .rintro⟨a,u,hu,fu⟩;rcases Yb.G hu with e|e
     .show .inl ⟨a,u,e,fu⟩
     .let e2:u=t:=by simpa using e
      show .inr {a,e2▸fu}
   .rw[Xm,l3,m3,YI,cO,List.sum_append];simp
 let(L,l1,l2,l3):=step bs.f (XQ _);rw[YF]at l2;rw[<-Tu,YF]at l3;exists L,l1,λl=>?_,l3;rw[l2];show and_congr_right λhl=>?_;rw[nN (XU.G hl.1).2 (XU.G hT.1).2 (by have:=hl.2.1;have:=hT.2.1;lia)];exists λzz=>by let(t,_,f):=zz;show⟨t,f⟩,λzz=>by let(t,f):=zz;exists t,(hb t).L {hl.1.all t f.1,f.2.1},f
def Pb{s rest:TS}{D:Ends}{σ:L2.St}{H:Hp}(P:L2.St->Hp->Prop)(h1:∀σ' H',P σ' H'->rest D σ' H')(h2:∀K:L2.St->Hp->Prop,(∀σ' H',P σ' H'->K σ' H')->s {D with nx:=K} σ H):Sw s rest D σ H:=h2 _ h1
def nL{c:V}{rest:TS}{D:Ends}{σ:L2.St}{H:Hp}(h:rest D (σ.set i (some c)) H):Sw (tAsg (tC c) (PY i)) rest D σ H:=h
def cL{m:Nat}(hm:m<=30):∀k,(Qq (m:Int) k).f<=30^k
 |0=>XQ 1
 |k+1=>by
  let h1:=eM (m:=m) (Qq (m:Int) k) λs hs=>(Wi.G hs).2;let h2:=cL hm k
  let h3:m*(Qq (m:Int) k).f<=30*30^k:=LG hm h2;rw[Nat.pow_succ,yO];show YB h1 h3
def nK(g:Zv n ps):∃L:Ab,(∀l,l∈L↔Zf n ps l)/\L.Q Jn:={TV n.j ps (n-1).j,λ_=>qq g,(d6 _ _).U _}
def GO(ws:Ac):(Ac->Int)
 |[]=>1
 |z::T=>ws.E z.j 0*GO ws T
def WS(n:Int)(ps:Aa)(ws:Ac)(s:Int):(Prop):=∃L:Ab,L.Nodup/\(∀T,T∈L↔Zf n ps T)/\(L.H<|GO ws).sum=s
def Zb8{f:Ac->Int}{a b:Ab}(h:a.Perm b):(a.H f).sum=(b.H f).sum:=by
 induction h with
 |nil=>rfl
 |cons x _ ih=>rw[YJ,YJ,WQ,WQ,ih]
 |swap x y l=>rw[YJ,YJ,YJ,YJ,WQ,WQ,WQ,WQ];lia
 |trans _ _ i1 i2=>show i1.l i2
def WS.uniq{n:Int}{ps:Aa}{ws:Ac}{s t:Int}(h1:WS n ps ws s)(h2:WS n ps ws t):s=t:=by let(L,l1,l2,l3):=h1;let(M,m1,m2,m3):=h2;rw[<-l3,<-m3];show Zb8 ((Kv l1 m1).L λT=>(l2 T).l (m2 T).symm)
def CS{ps:Aa}{ws:Ac}(hw:ws.f=ps.f):∀{T:Ac},(∀z∈T,0<=z/\z<ps⁻¹)->UI (Wz ps ws) T=GO ws T
 |[],_=>rfl
 |z::T,hb=>by
  let hz:=hb z Yd;change((Wz ps ws).E z.j (0,0,0)).2.2*UI (Wz ps ws) T=ws.E z.j 0*GO ws T
  rw[CS hw λy hy=>hb y (Yf _ hy)];let e:((Wz ps ws).E z.j (0,0,0)).2.2=ws.E z.j 0:=by unfold Wz;rw[WW,OC,XI J,XI (show z.j<ws.f by lia),WW,XI B];rfl
  rw[e]
def CQ{n:Int}{ps:Aa}{ws:Ac}(g:Zv n ps)(hw:ws.f=ps.f):WS n ps ws (det (n-1).j (lapE (Wz ps ws))):=by
 let g1:=g.1;let(M,a1,a2,a3):=Dl _ (n-1).j (Wz ps ws) Z (IZ g _);let hm:∀T,T∈M↔Zf n ps T:=λT=>by rw[a2 T,pj g1 hw]
 exists M,a1,hm,?_;rw[<-a3];show YZ List.sum (YN λT hT=>(CS hw ((hm T).G hT).1.all).symm)
def cK(u v i:Nat):(ind u v i).natAbs<=1:=by unfold ind;split<;>split<;>decide
def nJ{uX:Nat}:∀{E:List Ed},(∀e∈E,e.2.2.natAbs<=uX)->∀i j,(lapE E i j).natAbs<=E.f*uX
 |[],_,i,j=>Yl _
 |e::E,h,i,j=>by
  let ih:=nJ (λf hf=>h f<|Yf _ hf) i j;let h1:=cK e.1 e.2.1 i
  let h2:=cK e.1 e.2.1 j;let h0:=h e Yd
  let h3:(ind e.1 e.2.1 i*ind e.1 e.2.1 j).natAbs<=1:=by rw[FV];show LG h1 h2
  let h4:(e.2.2*(ind e.1 e.2.1 i*ind e.1 e.2.1 j)).natAbs<=uX:=by
   rw[FV]
   have:=LG h0 h3
   lia
  change(e.2.2*(ind e.1 e.2.1 i*ind e.1 e.2.1 j)+lapE E i j).natAbs<=(e::E).f*uX
  have:=vK (e.2.2*(ind e.1 e.2.1 i*ind e.1 e.2.1 j)) (lapE E i j)
  rw[Yx,Nat.succ_mul];lia
end My
namespace L2
open PySem PySem.Spec PyProof.Rows
section
variable{prog:Program}{w:World}{A:Around}{E:Ae}{s:Shared}
def cJ{u:Value}{Q:Ae}(hj:s.m.IsTupleIter j t i)(ht:s.m.IsTuple t us)(hu:us[i]?=some u)
  (q:∀h',h'.IsTupleIter j t (i+1)->Heap.SameBut j s.m h'->Q u {s with heap:=h'}):wpAny (model prog w) A (Builtin.SmallTypes.nextOf<|.ref j) Q E s:=by
 let(o1,e1,c1,d1):=id hj;let(o2,e2,_,n2,d2):=ht;unfold Builtin.SmallTypes.nextOf;show XY (NK (name:=Str.Y "__next__") hj.typeIs zu<|Rv zu hj.typeIs gE ?_<|FG _);change wpAny _ _ (field ↑j 0 >>= _) _ _ s
 show XY (VH e1 d1 (x:=.ref t) Z ?_);rw[if_neg (show ¬(Value.ref t == Value.none)=true from Yw)];change wpAny _ _ (field ↑j 1 >>= _) _ _ s
 show XY (VH e1 d1 (x:=.int i 0) Z ?_);change wpAny _ _ (seqItems? ↑t >>= _) _ _ s
 show XY (Rr e2 d2 ?_);simp only[hu,Yy];show XY (LF e1 d1 AP<|Yg ⟨u,Z,Yg<|q _ ?_<|Oz ..⟩);exists _,Vb _ e1<|Gh<|QH d1 _,(yZ ..).l c1,?_;rw[QH d1];simp[rawInt]
def nI{Q:Ae}(hh:A.handled=none)(hj:s.m.IsTupleIter j t i)(ht:s.m.IsTuple t us)(hu:us[i]?=none)
  (q:∀h' e,Heap.ExtBut j s.m h'->(∃o,h'.D e=some o/\o.cls=.type "StopIteration")->E ↑e {s with heap:=h'}):wpAny (model prog w) A (Builtin.SmallTypes.nextOf<|.ref j) Q E s:=by
 let(o1,e1,c1,d1):=id hj;let(o2,e2,_,n2,d2):=ht;unfold Builtin.SmallTypes.nextOf;show XY (NK (name:=Str.Y "__next__") hj.typeIs zu<|Rv zu hj.typeIs gE ?_<|FG _);change wpAny _ _ (field ↑j 0 >>= _) _ _ s
 show XY (VH e1 d1 (x:=.ref t) Z ?_);rw[if_neg (show ¬(Value.ref t == Value.none)=true from Yw)];change wpAny _ _ (field ↑j 1 >>= _) _ _ s
 show XY (VH e1 d1 (x:=.int i 0) Z ?_);change wpAny _ _ (seqItems? ↑t >>= _) _ _ s
 show XY (Rr e2 d2 ?_);simp only[hu,Yy];show XY (Uz<|XY<|LF e1 d1 AP<|XY (m:=newExc (.type "StopIteration") []) ?_);simp only[newTuple,newExc];show XY (Qg (XY (m:=firstArgMember _ _)<|Om (a:=Value.none) (by first|rfl|(simp only[firstArgMember];rfl))<|Qg ?_<|by size_fits)<|by size_fits)
 unfold raiseNew;show XY (wpAny_handled ?_)
 first
  |rw[hh]
  |rw[show A.in1.handled=none from hh]
 show XY (Yg<|wpAny_throw<|q _ _ (((Oz ..).extBut.push _).push _) {_,Yi _ Z,Z})
def nH{x u a b:Value}{Q:Ae}(D:ZipApart z P O i j l t)(y0:IsZip s.m z P O .none)(p0:IsPair s.m P ↑i ↑j)(o0:IsPair s.m O a b)
  (hi:s.m.IsListIter i l k)(hj:s.m.IsTupleIter j t m)(hl:s.m.IsList l xs)(ht:s.m.IsTuple t us)(hx:xs[k]?=some x)(hu:us[m]?=some u)
  (q:∀h',IsZip h' z P O (rawInt (~~~s))->IsPair h' O x u->h'.IsListIter i l (k+1)->h'.IsTupleIter j t (m+1)->IsPair h' (~~~s) x u->h'.objs.t=(~~~s)+1->
   (∀c o,c≠z->c≠O->c≠i->c≠j->s.m.D c=some o->h'.D c=some o)->Q (.ref (~~~s)) {s with heap:=h'}):
  wpAny (model prog w) A (Builtin.«zip.__next__» {[.ref z],[]}) (λr s'=>∃v,r=.done (.ret v)/\Q v s') E s:=by
 change wpAny _ _ (field ↑z 2 >>= _) _ E s;show XY (VH y0 Z (x:=.bool false) Z ?_);change wpAny _ _ (field ↑z 3 >>= _) _ E s
 show XY (VH y0 Z (x:=.ref P) Z<|XY<|Rr p0 Z<|XY (m:=Builtin.SmallTypes.ownedTupleIsFree<|.ref z) ?_);unfold Builtin.SmallTypes.ownedTupleIsFree;show XY (VH y0 Z (x:=.none) Z<|Yg ?_);simp only[if_true];show XY (Uz<|XY<|VH y0 Z (x:=.ref O) Z<|XY<|HE y0 AP λg1 y1 w1=>XY ?_)
 replace y1:IsZip g1 z P O .ellipsis:=y1
 simp only[vE,List.forIn_nil,List.zipIdx_cons,List.zipIdx_nil];show XY (XY<|yJ<|XY (m:=Builtin.SmallTypes.nextOf<|.ref i) ?_);show wpAny_nextOf_list_item (hi.extBut w1.extBut D.i1z) (hl.extBut w1.extBut D.l1z) hx λg2 i2 w2=>Yg ?_;let o2:IsPair g2 O a b:=w2.extBut _ _ D.TOi1 (w1.extBut _ _ D.TOz o0)
 show XY (Rr o2 Z<|XY<|Ki o2 λg3 o3 w3=>XY<|Lz<|Yg ?_)
 replace o3:IsPair g3 O x b:=o3
 show XY (XY<|yJ<|XY (m:=Builtin.SmallTypes.nextOf<|.ref j) ?_);show cJ (((hj.extBut w1.extBut D.i2z).extBut w2.extBut D.i12.symm).extBut w3.extBut D.TOi2.symm) (((ht.extBut w1.extBut D.l2z).extBut w2.extBut D.l2i1).extBut w3.extBut D.l2TO) hu λg4 j4 w4=>Yg ?_;let o4:IsPair g4 O x b:=w4.extBut _ _ D.TOi2 o3
 show XY (Rr o4 Z<|XY<|Ki o4 λg5 o5 w5=>XY<|Lz<|Yg<|Yg ?_)
 replace o5:IsPair g5 O x u:=o5
 show XY (Rr o5 Z<|XY<|yS ?_);let sz:g5.objs.t=(~~~s):=by rw[w5.1,w4.1,w3.1,w2.1,w1.1]
 let y5:IsZip g5 z P O .ellipsis:=w5.extBut _ _ D.TOz.symm (w4.extBut _ _ D.i2z.symm<|w3.extBut _ _ D.TOz.symm<|w2.extBut _ _ D.i1z.symm y1);let kp:∀c o,c≠z->c≠O->c≠i->c≠j->s.m.D c=some o->g5.D c=some o:=λc o c1 c2 c3 c4 e=>w5.extBut _ _ c2 (w4.extBut _ _ c4<|w3.extBut _ _ c2<|w2.extBut _ _ c3<|w1.extBut _ _ c1 e)
 let i5:g5.IsListIter i l (k+1):=((i2.extBut w3.extBut D.TOi1.symm).extBut w4.extBut D.i12).extBut w5.extBut D.TOi1.symm;let j5:g5.IsTupleIter j t (m+1):=j4.extBut w5.extBut D.TOi2.symm
 let lz:z<g5.objs.t:=Ym y5;change wpAny _ _ (Builtin.SmallTypes.ownedTupleHandOut ↑z (.ref g5.objs.t) >>= _) _ E _
 show XY ?_;unfold Builtin.SmallTypes.ownedTupleHandOut;let y6:IsZip (g5.push {cls:=.type "tuple",data:=.seq #[x,u]}) z P O .ellipsis:=Xo _ y5
 show XY (HE y6 AP λg7 y7 w7=>?_)
 replace y7:IsZip g7 z P O (rawInt g5.objs.t):=y7
 show HE y7 AP λg8 y8 w8=>?_
 replace y8:IsZip g8 z P O (rawInt g5.objs.t):=y8
 let up:∀c o,c≠z->g5.D c=some o->g8.D c=some o:=λc o c1 e=>w8.extBut _ _ c1 (w7.extBut _ _ c1<|Xo _ e);let n8:IsPair g8 g5.objs.t x u:=w8.extBut _ _ (RV lz) (w7.extBut _ _ (RV lz)<|Yi _ Z)
 let z8:g8.objs.t=g5.objs.t+1:=by rw[w8.1,w7.1,RY]
 rw[sz]at y8 n8 z8;show Yg {_,Z,?_};change Q (.ref g5.objs.t) _
 rw[sz];show q g8 y8 (up _ _ D.TOz o5) (i5.at λo e=>up _ o D.i1z e) (j5.at λo e=>up _ o D.i2z e) n8 z8 λc o c1 c2 c3 c4 e=>up c o c1 (kp c o c1 c2 c3 c4 e)
def ZZ9{Q:Fin->Shared->Prop}(hh:A.handled=none)(D:ZipApart z P O i j l t)(y0:IsZip s.m z P O .none)(p0:IsPair s.m P ↑i ↑j)(o0:IsPair s.m O a b)
  (hi:s.m.IsListIter i l k)(hj:s.m.IsTupleIter j t m)(hl:s.m.IsList l xs)(ht:s.m.IsTuple t us)(hE:xs[k]?=none\/us[m]?=none)
  (q:∀h' e,(∀c o,c≠z->c≠O->c≠i->c≠j->s.m.D c=some o->h'.D c=some o)->(∃o,h'.D e=some o/\o.cls=.type "StopIteration")->E ↑e {s with heap:=h'}):
  wpAny (model prog w) A (Builtin.«zip.__next__» {[.ref z],[]}) Q E s:=by
 change wpAny _ _ (field ↑z 2 >>= _) _ E s;show XY (VH y0 Z (x:=.bool false) Z ?_);change wpAny _ _ (field ↑z 3 >>= _) _ E s
 show XY (VH y0 Z (x:=.ref P) Z<|XY<|Rr p0 Z<|XY (m:=Builtin.SmallTypes.ownedTupleIsFree<|.ref z) ?_);unfold Builtin.SmallTypes.ownedTupleIsFree;show XY (VH y0 Z (x:=.none) Z<|Yg ?_);simp only[if_true];show XY (Uz<|XY<|VH y0 Z (x:=.ref O) Z<|XY<|HE y0 AP λg1 y1 w1=>XY ?_)
 replace y1:IsZip g1 z P O .ellipsis:=y1
 simp only[vE,List.forIn_nil,List.zipIdx_cons,List.zipIdx_nil];show XY (XY<|yJ<|XY (m:=Builtin.SmallTypes.nextOf<|.ref i) ?_);cases hx:xs[k]? with
 |none=>
  show wpAny_nextOf_list_end hh (hi.extBut w1.extBut D.i1z) (hl.extBut w1.extBut D.l1z) hx λg2 e w2 XA=>?_;let(oe,he,ce):=XA;let y2:IsZip g2 z P O .ellipsis:=w2 _ _ D.i1z.symm y1
  let ez:e≠z:=by rintro rfl;rw[y2]at he;cases he;simp at ce
  show HE y2 AP λg3 _ w3=>q g3 e (λc o c1 _ c3 _ r=>w3.extBut _ _ c1<|w2 _ _ c3<|w1.extBut _ _ c1 r) {oe,w3.extBut _ _ ez he,ce}
 |some x=>
  let hu:us[m]?=none:=hE.resolve_left (by rw[hx];show Option.some_ne_none x);show wpAny_nextOf_list_item (hi.extBut w1.extBut D.i1z) (hl.extBut w1.extBut D.l1z) hx λg2 i2 w2=>Yg ?_;let o2:IsPair g2 O a b:=w2.extBut _ _ D.TOi1 (w1.extBut _ _ D.TOz o0)
  show XY (Rr o2 Z<|XY<|Ki o2 λg3 o3 w3=>XY<|Lz<|Yg ?_);show XY (XY<|yJ<|XY (m:=Builtin.SmallTypes.nextOf<|.ref j) ?_);show nI hh (((hj.extBut w1.extBut D.i2z).extBut w2.extBut D.i12.symm).extBut w3.extBut D.TOi2.symm) (((ht.extBut w1.extBut D.l2z).extBut w2.extBut D.l2i1).extBut w3.extBut D.l2TO) hu λg4 e w4 XA=>?_;let(oe,he,ce):=XA;let y4:IsZip g4 z P O .ellipsis:=w4 _ _ D.i2z.symm (w3.extBut _ _ D.TOz.symm<|w2.extBut _ _ D.i1z.symm y1)
  let ez:e≠z:=by rintro rfl;rw[y4]at he;cases he;simp at ce
  show HE y4 AP λg5 _ w5=>q g5 e (λc o c1 c2 c3 c4 r=>w5.extBut _ _ c1<|w4 _ _ c4<|w3.extBut _ _ c2<|w2.extBut _ _ c3<|w1.extBut _ _ c1 r) {oe,w5.extBut _ _ ez he,ce}
def ZI5{x u a b:Value}{Q:Option Value->Shared->Prop}(D:ZipApart z P O i j l t)(y0:IsZip s.m z P O .none)(p0:IsPair s.m P ↑i ↑j)(o0:IsPair s.m O a b)
  (hi:s.m.IsListIter i l k)(hj:s.m.IsTupleIter j t m)(hl:s.m.IsList l xs)(ht:s.m.IsTuple t us)(hx:xs[k]?=some x)(hu:us[m]?=some u)
  (q:∀h',IsZip h' z P O (rawInt (~~~s))->IsPair h' O x u->h'.IsListIter i l (k+1)->h'.IsTupleIter j t (m+1)->IsPair h' (~~~s) x u->h'.objs.t=(~~~s)+1->
   (∀c o,c≠z->c≠O->c≠i->c≠j->s.m.D c=some o->h'.D c=some o)->Q (some<|.ref (~~~s)) {s with heap:=h'}):wpAny (model prog w) A (pyNext<|.ref z) Q E s:=by let ty:s.TypeIs ↑z "zip":={_,y0,Z};unfold pyNext;show XY (ND<|NK (name:=Str.Y "__next__") ty Nr<|Rv Nr ty F.entry_zip_next ?_<|F.args_zip_next_1 _);show nH D y0 p0 o0 hi hj hl ht hx hu λh' b1 b2 b3 b4 b5 b6 b7=>Yg (q h' b1 b2 b3 b4 b5 b6 b7)
def ZV6{Q:Option Value->Shared->Prop}(hh:A.handled=none)(D:ZipApart z P O i j l t)(y0:IsZip s.m z P O .none)(p0:IsPair s.m P ↑i ↑j)(o0:IsPair s.m O a b)
  (hi:s.m.IsListIter i l k)(hj:s.m.IsTupleIter j t m)(hl:s.m.IsList l xs)(ht:s.m.IsTuple t us)(hE:xs[k]?=none\/us[m]?=none)
  (q:∀h',(∀c o,c≠z->c≠O->c≠i->c≠j->s.m.D c=some o->h'.D c=some o)->Q none {s with heap:=h'}):wpAny (model prog w) A (pyNext<|.ref z) Q E s:=by let ty:s.TypeIs ↑z "zip":={_,y0,Z};unfold pyNext;show XY (ND<|NK (name:=Str.Y "__next__") ty Nr<|Rv Nr ty F.entry_zip_next ?_<|F.args_zip_next_1 _);show ZZ9 hh D y0 p0 o0 hi hj hl ht hE λh' e hk XA=>?_;let(o,ho,co):=XA;show XY (FW (T:="StopIteration") (b:=true) ⟨o,ho,co⟩ yQ<|Yg<|q _ hk)
end
def zH(h:Heap)(l t:Addr):(Heap):=
 ((((h.push {cls:=.type "list_iterator",data:=.fields #[.ref l,.int 0 0]}).push {cls:=.type "tuple_iterator",data:=.fields #[.ref t,.int 0 0]}).push {cls:=.type "tuple",data:=.seq #[.ref h.objs.t,.ref (h.objs.t+1)]}).push {cls:=.type "tuple",data:=.seq #[.none,.none]}).push {cls:=.type "zip",data:=.fields #[.none,.bool false,.bool false,.ref<|h.objs.t+2,.ref (h.objs.t+3)]}
def ZY9(l t:Addr)(xs us:Array Value):
  Meets (Builtin.«zip.__new__» {[.type "zip",.ref l,.ref t],[]}) (λ_ R s=>s.m.IsList l xs/\s.m.IsTuple t us/\R (.ok<|.ret<|.ref<|(~~~s)+4) {s with heap:=zH s.m l t}):=
 .of_wp λprog w A R s h=>by
  let(hp,g,d,tk,os):=s;let(hl,ht,h):=h;let Sh:=sub_zip
  let f1:Heap.IsList (Shared.m ⟨hp,g,d,tk,os⟩) l xs:=hl;let f2:Heap.IsTuple (Shared.m ⟨hp.push {cls:=.type "list_iterator",data:=.fields #[.ref l,.int 0 0]},g,d,tk,os⟩) t us:=Heap.IsTuple.push ht _
  wp_walk using Hw f1,HD f2
  exists _,Z,?_;let e:∀(h:Heap)(o:Obj),(h.push o).objs.t=h.objs.t+1:=λh o=>RY ..
  simp only[e];show h
def CP(K:Ad)(a b:Addr):(It):=
 ⟨λi H=>∃xs ys x y,SqL K H a xs/\SqT K H b ys/\xs[i]?=some x/\ys[i]?=some y,λi H v H'=>∃T x y,H T=none/\v=.ref T/\H'=upd H T (.tup [x,y])/\(∀xs,SqL K H a xs->xs[i]?=some x)/\∀ys,SqT K H b ys->ys[i]?=some y,
  λi H=>∃xs ys,SqL K H a xs/\SqT K H b ys/\(xs.f<=i\/ys.f<=i)⟩
def nG{P:Program}{w:World}{K:Ad}{elts:List Expr}{x1:Nat}{pos:Pos}(a b z TI TO i1 i2:Addr)(D:ZipApart z TI TO i1 i2 a b):
  Turn P w K (.Tuple elts x1 pos) (CP K a b) [z,TI,TO,i1,i2] z (λi h=>IsZip h z TI TO .none/\IsPair h TI ↑i1 ↑i2/\(∃c d,IsPair h TO c d)/\h.IsListIter i1 a i/\h.IsTupleIter i2 b i) where
 mem:=AP
 obj:=λi h st c hc=>by
  let(hz,Vk,(u,v,UJ),(o1,e1,_,d1),(o2,e2,_,d2)):=st;let Xe:c=z\/c=TI\/c=TO\/c=i1\/c=i2:=by simpa using hc
  rcases Xe with rfl|rfl|rfl|rfl|rfl
  .exists _,hz,λv q=>by let q':Data.fields _=Data.cell v:=q;cases q'
  .exists _,Vk,λv q=>by let q':Data.seq _ _=Data.cell v:=q;cases q'
  .exists _,UJ,λv q=>by let q':Data.seq _ _=Data.cell v:=q;cases q'
  .exists o1,e1,λv q=>by rw[d1]at q;cases q
  .exists o2,e2,λv q=>by rw[d2]at q;cases q
 keep:=λi h h' st k=>by let(hz,Vk,(u,v,UJ),h1,h2):=st;exists k z AP _ hz,k TI AP _ Vk,{u,v,k TO AP _ UJ},h1.at λo e=>k i1 AP o e,h2.at λo e=>k i2 AP o e
 item:=by
  intro X hP hw hK hc i pins s σ H E I hf st hg;subst hP hw hK;let(xs,ys,x,y,hq,Vd,hx,hy):=hg;let(hz,Vk,(u0,v0,UJ),h1,h2):=st;let(XX,rv,p,_):=I.list hq;let(u,hu,ru):=rv.get hx;let(WD,NW,p2,_):=I.tuple Vd;let(v,hv,DG):=NW.get hy;let fz:=hf z AP
  let VB:=hf TO AP;let VA:=hf i1 AP
  let Vz:=hf i2 AP;let JB:H (~~~s)=none:=I.hok.fresh (XQ _)
  show ZI5 D hz Vk UJ h1 h2 p.isList (show s.m.IsTuple b WD.o from p2) (x:=u) (u:=v) (by simpa using hu) (by simpa using hv) λh' a1 a2 a3 a4 a5 hsz hk=>?_;let Up:∀b ob,s.m.D b=some ob->b≠(~~~s):=λb ob z=>Yq (Ym z)
  let UR:∀b ob,H b=some ob->b≠(~~~s):=λb ob z=>Yq (I.hok.lt z);let Uo:∀c ob,H c=some ob->c≠z/\c≠TO/\c≠i1/\c≠i2:=λc ob q=>{λe=>(by rw[e,fz.1]at q;cases q),λe=>(by rw[e,VB.1]at q;cases q),λe=>(by rw[e,VA.1]at q;cases q),λe=>(by rw[e,Vz.1]at q;cases q)}
  let SY:∀c o,c∉[z,TO,i1,i2]->s.m.D c=some o->h'.D c=some o:=λc o Xj q=>hk c o (λe=>Xj<|by simp[e]) (λe=>Xj<|by simp[e]) (λe=>Xj<|by simp[e]) (λe=>Xj<|by simp[e]) q;let I1:Inv X pins σ (upd H (~~~s)<|.tup [x,y]) {s with heap:=h'}:=by
   show I.step (g':=s.gens) (d':=s.drawn) (t':=s.toks) (ch:=[z,TO,i1,i2]) (λc hb=>?_) (λc o _ _ Xj q _=>SY c o Xj q) (λc o _ _ Xj q _=>{o.slots,SY c o Xj q})
    (λc o _ q n=>by rwa[Za (Up c o q)]) (λc o Xj q=>{o,SY c o Xj q}) (λc ys q=>by rwa[Za (UR c _ q)]) (λc o v q=>by rwa[Za (UR c _ q)])
    (λc ps q=>{#[],by rw[Za (UR c _ q),q];simp}) (λm hm=>?_) (λc v' q=>?_) I.bare
   .let Xe:c=z\/c=TO\/c=i1\/c=i2:=by simpa using hb
    rcases Xe with rfl|rfl|rfl|rfl
    .exists fz.2.2.2.1,fz.2.1,fz.2.2.2.2.1,fz.2.2.2.2.2
    .exists VB.2.2.2.1,VB.2.1,VB.2.2.2.2.1,VB.2.2.2.2.2
    .exists VA.2.2.2.1,VA.2.1,VA.2.2.2.2.1,VA.2.2.2.2.2
    .exists Vz.2.2.2.1,Vz.2.1,Vz.2.2.2.2.1,Vz.2.2.2.2.2
   .let⟨o,es,ep,UZ,r⟩:=hm;exists o,es,ep,hk _ o (XO fz.2.1) (XO VB.2.1) (XO VA.2.1) (XO Vz.2.1) UZ,r
   .cases hb:c=(~~~s)
    .subst hb;rw[XS]at q;cases q;exists by change 2<=sizeLine;decide,[u,v],.cons ru<|.cons DG .nil,{_,a5,Z,_,Z}
    .rw[Za hb]at q;show(I.hok c v' q).stay (λe w' Xe q'=>?_) (λe q=>by rwa[Za (UR e _ q)]) λe ys q=>by rwa[Za (UR e _ q)]
     rcases Xe with rfl|Xe
     .have:=Uo e _ q
      show hk e w' this.1 this.2.1 this.2.2.1 this.2.2.2 q'
     .have:=Uo e _ Xe
      show hk e w' this.1 this.2.1 this.2.2.1 this.2.2.2 q'
  exists _,Z,wpAny_letOwnedTupleGo_zip a1 λh2 SD VG=>?_;let fT:z≠(~~~s):=Up z _ hz
  let I2:Inv X pins σ (upd H (~~~s)<|.tup [x,y]) {s with heap:=h2}:=Inv.turned (s:={s with heap:=h'}) (h':=h2) (t':=s.toks) (it:=z) I1 (λb o hb q=>VG.extBut b o hb q) (by rw[Za fT];show fz.1) fz.2.1 fz.2.2.2.1 fz.2.2.2.2.1 fz.2.2.2.2.2;show⟨.ref (~~~s),_,I2,Z,{_,x,y,JB,Z,Z,λys PH=>by rw[I.list_inj PH hq];show hx,λys PH=>by rwa[I.tuple_inj PH Vd]},
   {SD,VG.extBut _ _ D.TIz (SY _ _ (by have:=D.TIz;have:=D.TITO;have:=D.TIi1;have:=D.TIi2;simp;exists D.TIz,D.TITO,D.TIi1,D.TIi2) Vk),⟨u,v,VG.extBut _ _ D.TOz a2⟩,a3.at λo q=>VG.extBut i1 o D.i1z q,a4.at λo q=>VG.extBut i2 o D.i2z q},λc hc=>?_⟩
  let Xe:c=z\/c=TI\/c=TO\/c=i1\/c=i2:=by simpa using hc
  let hn:=(hf c hc).1;rcases Xe with rfl|rfl|rfl|rfl|rfl
  .rw[Za fT];show hn
  .rw[Za (Up _ _ Vk)];show hn
  .rw[Za (Up _ _ UJ)];show hn
  .let⟨o,eo,_⟩:=h1;rwa[Za (Up _ o eo)]
  .let⟨o,eo,_⟩:=h2;rwa[Za (Up _ o eo)]
 done:=by
  intro X hP hw hK hc i pins s σ H E I hf st hg;subst hP hw hK;let(xs,ys,hq,Vd,Jj):=hg;let(hz,Vk,(u0,v0,UJ),h1,h2):=st;let(XX,rv,p,_):=I.list hq;let(WD,NW,p2,_):=I.tuple Vd;let l1:=rv.f
  let l2:=NW.f;let fz:=hf z AP
  let VB:=hf TO AP;let VA:=hf i1 AP
  let Vz:=hf i2 AP;show ZV6 (I.ok.hd hc) D hz Vk UJ h1 h2 p.isList (show s.m.IsTuple b WD.o from p2) (by
   rcases Jj with e|e
   .show .inl (by simp;lia)
   .show .inr<|by simp;lia) λh' hk=>{Z,?_}
  let SY:∀c o,c∉[z,TO,i1,i2]->s.m.D c=some o->h'.D c=some o:=λc o Xj q=>hk c o (λe=>Xj<|by simp[e]) (λe=>Xj<|by simp[e]) (λe=>Xj<|by simp[e]) (λe=>Xj<|by simp[e]) q;let Uo:∀c ob,H c=some ob->c≠z/\c≠TO/\c≠i1/\c≠i2:=λc ob q=>{λe=>(by rw[e,fz.1]at q;cases q),λe=>(by rw[e,VB.1]at q;cases q),λe=>(by rw[e,VA.1]at q;cases q),λe=>(by rw[e,Vz.1]at q;cases q)}
  show I.step (g':=s.gens) (d':=s.drawn) (t':=s.toks) (ch:=[z,TO,i1,i2]) (λc hb=>?_) (λc o _ _ Xj q _=>SY c o Xj q) (λc o _ _ Xj q _=>{o.slots,SY c o Xj q})
   (λc o _ q n=>n) (λc o Xj q=>{o,SY c o Xj q}) (λc ys q=>q) (λc o v q=>q)
   (λc ps q=>{#[],by rw[q];simp}) (λm hm=>?_) (λc v' q=>?_) I.bare
  .let Xe:c=z\/c=TO\/c=i1\/c=i2:=by simpa using hb
   rcases Xe with rfl|rfl|rfl|rfl
   .exists fz.2.2.2.1,fz.2.1,fz.2.2.2.2.1,fz.2.2.2.2.2
   .exists VB.2.2.2.1,VB.2.1,VB.2.2.2.2.1,VB.2.2.2.2.2
   .exists VA.2.2.2.1,VA.2.1,VA.2.2.2.2.1,VA.2.2.2.2.2
   .exists Vz.2.2.2.1,Vz.2.1,Vz.2.2.2.2.1,Vz.2.2.2.2.2
  .let⟨o,es,ep,UZ,r⟩:=hm;exists o,es,ep,hk _ o (XO fz.2.1) (XO VB.2.1) (XO VA.2.1) (XO Vz.2.1) UZ,r
  .show(I.hok c v' q).stay (λe w' Xe q'=>?_) (λe q=>q) λe ys q=>q;rcases Xe with rfl|Xe
   .have:=Uo e _ q
    show hk e w' this.1 this.2.1 this.2.2.1 this.2.2.2 q'
   .have:=Uo e _ Xe
    show hk e w' this.1 this.2.1 this.2.2.1 this.2.2.2 q'
 self:=λ_ _ _ _ _ st h=>FX st.1 h
def ItzK(K:Ad)(kd:Bool)(a b:Addr):(It):=match kd with
 |false=>xN K a b
 |true=>CP K a b
def nF(K:Ad)(ta:TA):(TI):=λσ H R=>ta σ H λvs H1=>∃a b kd,vs=[.ref a,.ref b]/\(∃xs ys,SqL K H1 a xs/\My.SqK kd K H1 b ys)/\R (ItzK K kd a b) H1
section
variable{prog:Program}{w:World}{A:Around}{E:Ae}{s:Shared}
def ZV8{Q:Ae}(hl:s.m.IsList l xs)(ht:s.m.IsTuple t us)
  (q:∀h',IsZip h' ((~~~s)+4) ((~~~s)+2) ((~~~s)+3) .none->IsPair h' ((~~~s)+2) (.ref (~~~s)) (.ref<|(~~~s)+1)->IsPair h' ((~~~s)+3) .none .none->
   h'.IsListIter (~~~s) l 0->h'.IsTupleIter ((~~~s)+1) t 0->(∀c o,s.m.D c=some o->h'.D c=some o)->Q (.ref<|(~~~s)+4) {s with heap:=h'}):
  wpAny (model prog w) A (call (.type "zip") [.ref l,.ref t]) Q E s:=by
 show callType_new F.called_zip vg (F.typeCall_zip_2 _ _) (F.newCall_zip_2 _ _) (λo=>F.args_object_init_3 o _ _) F.entry_zip_new (ZY9 l t xs us) {hl,ht,?_};obtain⟨h,eh⟩:∃h,h=s.m:={_,Z};rw[<-eh]at q ⊢;let at':∀(g:Heap)(o:Obj)(n:Nat),g.objs.t=n->o.isFreed=false->(g.push o).D n=some o:=λg o n e ho=>by subst e;show Yi _ ho
 let sz:∀(g:Heap)(o:Obj)(n:Nat),g.objs.t=n->(g.push o).objs.t=n+1:=λg o n e=>by rw[RY,e]
 let up:∀(g:Heap)(o o':Obj)(c:Addr),g.D c=some o->(g.push o').D c=some o:=λg o o' c e=>Xo _ e;let g0:(zH h l t).D h.objs.t=some {cls:=.type "list_iterator",data:=.fields #[.ref l,.int 0 0]}:=up _ _ _ _ (up _ _ _ _<|up _ _ _ _<|up _ _ _ _<|at' _ _ _ Z Z)
 let g1:(zH h l t).D (h.objs.t+1)=some {cls:=.type "tuple_iterator",data:=.fields #[.ref t,.int 0 0]}:=up _ _ _ _ (up _ _ _ _<|up _ _ _ _<|at' _ _ _ (sz _ _ _ Z) Z);let g2:IsPair (zH h l t) (h.objs.t+2) (.ref h.objs.t) (.ref<|h.objs.t+1):=up _ _ _ _ (up _ _ _ _<|at' _ _ _ (sz _ _ _<|sz _ _ _ Z) Z)
 let g3:IsPair (zH h l t) (h.objs.t+3) .none .none:=up _ _ _ _ (at' _ _ _ (sz _ _ _<|sz _ _ _<|sz _ _ _ Z) Z);let g4:IsZip (zH h l t) (h.objs.t+4) (h.objs.t+2) (h.objs.t+3) .none:=at' _ _ _ (sz _ _ _<|sz _ _ _<|sz _ _ _<|sz _ _ _ Z) rfl
 exists {_,g4,Z},q _ g4 g2 g3 {_,g0,Z,Z} {_,g1,Z,Z} λc o e=>up _ _ _ _<|up _ _ _ _<|up _ _ _ _<|up _ _ _ _<|up _ _ _ _ e
end
section
variable{X:Cx}
def nE(K:Ad){elts:List Expr}{x1:Nat}{UY:Pos}{e f:Expr}{ta:TA}{p pos:Pos}(hg:Gl X "zip")(hm:X.mg "zip"=none)(ha:PA X [e,f] ta)(hs:starEach [e,f] X.X=(false,eval e X.X)::starEach [f] X.X:=by rfl)(Ve:(backTo pos<|starEach [f] X.X).any (·.1)=false:=by rfl)(hk:X.K=K:=by rfl):
  PI X (.Tuple elts x1 UY) (.Call (.Name "zip" p) [e,f] [] pos) (nF K ta):=by
 subst hk;intro pins s σ H R I h;show Call_ (Rg I hg hm Boot.«zip»<|TX (thn (ha pos pins s σ H _ I h) λus s1 XA=>?_) hs Ve);let(vs,H1,I1,r1,q1):=XA;let(a,b,kd,ev,(xs,ys,hq,Vd),q):=q1;subst ev;let(u,u',rfl,ru,ql):=Ni r1;let rfl:u=Value.ref a:=ru;let rfl:u'=Value.ref b:=ql;let key:∀n x y:Nat,x<n->y<n->ZipApart (n+4) (n+2) (n+3) n (n+1) x y:=λn x y h1 h2=>by constructor<;>(intro q;let q':(_:Nat)=_:=q;lia)
 let xB:∀c∈[(~~~s1)+4,(~~~s1)+2,(~~~s1)+3,(~~~s1),(~~~s1)+1],(~~~s1)<=c:=λc hc=>by
  let Xe:c=(~~~s1)+4\/c=(~~~s1)+2\/c=(~~~s1)+3\/c=(~~~s1)\/c=(~~~s1)+1:=by simpa using hc
  rcases Xe with e|e|e|e|e<;>rw[e]<;>first|show XQ _|show vI _ _
 let(XX,rv,pl,_):=I1.list hq;let xM:a<(~~~s1):=by let(_,_,e,_):=pl;show Ym e
 cases kd with
 |false=>
  let(WD,NW,Ji,_):=I1.list Vd;let DE:b<(~~~s1):=by let(_,_,e,_):=Ji;show Ym e
  let D:=key _ _ _ xM DE;show call_zip_2 pl.isList Ji.isList λh' hz Vk UJ DD We hsz hk=>?_;show FX (s:={s1 with heap:=h'}) hz ?_;exists (~~~s1)+4,[(~~~s1)+4,(~~~s1)+2,(~~~s1)+3,(~~~s1),(~~~s1)+1],_,_,H1,Z,I1.kept (t':=s1.toks) hk,dS a b _ _ _ _ _ D,{hz,Vk,{_,_,UJ},DD,We},λc hc=>I1.fpOk (xB c hc)<|I1.hok.fresh<|xB c hc,q
 |true=>
  let(WD,NW,Ji,_):=I1.tuple Vd;let pT:s1.m.IsTuple b WD.o:=Ji
  let DE:b<(~~~s1):=by let(_,e,_):=pT;show Ym e
  let D:=key _ _ _ xM DE;show ZV8 pl.isList pT λh' hz Vk UJ DD We hk=>?_;show FX (s:={s1 with heap:=h'}) hz ?_;exists (~~~s1)+4,[(~~~s1)+4,(~~~s1)+2,(~~~s1)+3,(~~~s1),(~~~s1)+1],_,_,H1,Z,I1.kept (t':=s1.toks) hk,nG a b _ _ _ _ _ D,{hz,Vk,{_,_,UJ},DD,We},λc hc=>I1.fpOk (xB c hc)<|I1.hok.fresh<|xB c hc,q
end
end L2
namespace My
open PySem L2
def ItzK.go{i:Nat}{x y:V}(h1:SqL K H a xs)(h2:SqK kd K H b ys)(hx:xs[i]?=some x)(hy:ys[i]?=some y):(ItzK K kd a b).go i H:=by cases kd<;>exists xs,ys,x,y,h1,h2,hx,hy
def ItzK.stop{i:Nat}(h1:SqL K H a xs)(h2:SqK kd K H b ys)(h:xs.f<=i):(ItzK K kd a b).stop i H:=by cases kd<;>exists xs,ys,h1,h2,.inl h
def ItzK.yld{i:Nat}{H H':Hp}{v:V}(h1:SqL K H a xs)(h2:SqK kd K H b ys)(h:(ItzK K kd a b).yld i H v H'):∃T x y,H T=none/\v=.ref T/\H'=upd H T (.tup [x,y])/\xs[i]?=some x/\ys[i]?=some y:=by
 cases kd with
 |false=>
  let(T,x,y,a1,a2,a3,a4,a5):=h;exists T,x,y,a1,a2,a3,a4 _ h1,a5 _ h2
 |true=>
  let(T,x,y,a1,a2,a3,a4,a5):=h;exists T,x,y,a1,a2,a3,a4 _ h1,a5 _ h2
def nB{g:TG}{tb:TS}{D:Ends}(NX:xs.f=ys.f)(Pv:Nat->St->Hp->Prop)(h0:Pv 0 σ H)(hl:∀i σ H,i<=xs.f->Pv i σ H->SqL K H a xs/\SqK kd K H b ys)
  (hs:∀(i:Nat) x y σ H (p:Addr),H p=none->xs[i]?=some x->ys[i]?=some y->Pv i σ H->g ↑p σ (upd H p<|.tup [x,y]) λσ2 H2=>tb {D with nx:=Pv<|i+1,ct:=Pv<|i+1,bk:=D.nx} σ2 H2)(hd:∀σ H,Pv xs.f σ H->D.nx σ H):
  ∃W:Nat->Nat->St->Hp->Prop,(∃m,W 0 m σ H)/\∀i m σ H,W i m σ H->
   ((ItzK K kd a b).stop i H/\D.nx σ H)\/((ItzK K kd a b).go i H/\∃N:St->Hp->Prop,(∀σ' H',N σ' H'->∃m',m'<m/\W (i+1) m' σ' H')/\∀x H',(ItzK K kd a b).yld i H x H'->g x σ H' λσ2 H2=>tb {D with nx:=N,ct:=N,bk:=D.nx} σ2 H2):=by
 exists λi m σ H=>m=xs.f-i/\i<=xs.f/\Pv i σ H,{xs.f,AP,Yl _,h0},?_;rintro i m σ H ⟨rfl,hi,p⟩;let(q,q2):=hl i σ H hi p;cases Xt:i<xs.f
 .show .inr {ItzK.go q q2 (XI Xt)<|XI J,Pv<|i+1,λσ' H' p'=>{xs.f-(i+1),vk,Z,Xt,p'},λx H' hy=>?_};let(T,u,v,hT,ex,eH,hu,hv):=ItzK.yld q q2 hy;subst ex eH;show hs i u v σ H T hT hu hv p
 .let e:i=xs.f:=J;subst e;show .inl {ItzK.stop q q2<|XQ _,hd σ H p}
def ev(b:Int):(Ac->Int)
 |[]=>0
 |d::l=>d+b*ev b l
def nz(b:Int)(n:Nat):ev b (List.S n 0)=0:=by
 induction n with
 |zero=>rfl
 |succ n ih=>show 0+b*ev b (List.S n 0)=0;rw[ih,Sy];rfl
def cI(b:Int):∀l c,c<l.f->ev b (l.set c (l.E c 0+1))=ev b l+b^c
 |[],c,h=>absurd h (Wg _)
 |d::l,0,_=>by change d+1+b*ev b l=d+b*ev b l+b^0;rw[Ny];lia
 |d::l,c+1,h=>by change d+b*ev b (l.set c<|l.E c 0+1)=d+b*ev b l+b^(c+1);rw[cI b l c (Nat.lt_of_succ_lt_succ h),Tp,Kk,Vt b (b^c)];lia
def ny{b d v:Int}(h0:0<=d)(h1:d<b):(d+b*v)%b=d:=by rw[Int.add_mul_emod_self_left];show Int.emod_eq_of_lt h0 h1
def nu{b d v:Int}(h0:0<=d)(h1:d<b):(d+b*v)/b=v:=by rw[Int.add_mul_ediv_left _ _ J,Int.ediv_eq_zero_of_lt h0 h1,Nz]
def nt{l:Ac}{d:Int}(h:l[i]?=some d):ev b (l.drop i)=d+b*ev b (l.drop (i+1)):=by let(hi,e):=Xs.G h;rw[wk hi,e];rfl
def nr(l:Ac)(x:Int):(l++[x]).sum=l.sum+x:=by
 induction l with
 |nil=>show x+0=0+x;lia
 |cons y l ih=>show y+(l++[x]).sum=y+l.sum+x;lia
def cM(M:Ac)(p:Nat)(x:Int):(Int):=((M.R p).count x:Nat)
def CO:∀es:List (Nat×Nat),InN n es->∀i,i<n->0<=mk (Xl n es) i/\mk (Xl n es) i<=(i:Int)/\mk (Xl n es) (mk (Xl n es) i).j=mk (Xl n es) i:=by
 show Uh (λ_ i hi=>?_) λes e ih h=>?_
 .let e:mk (Xl n []) i=(i:Int):=Hd hi;rw[e,Yy];exists J,Tt _,e
 .let⟨h1,h2,h3⟩:=h.snoc;let ih:=ih h1
  intro i hi;rw[fj];let hl:=Zn n es
  generalize Xl n es=M at *;let(i1,i2,i3):=ih i hi;let(a1,a2,a3):=ih e.1 h2;let(b1,b2,b3):=ih e.2 h3;unfold pm;cases c:min (mk M e.1) (mk M e.2)<max (mk M e.1) (mk M e.2)
  .rw[if_pos c];obtain⟨lo,RT⟩:∃lo,lo=min (mk M e.1) (mk M e.2):={_,Z};obtain⟨Ui,Le⟩:∃Ui,Ui=max (mk M e.1) (mk M e.2):={_,Z};rw[<-RT,<-Le]at c ⊢;let nq:mk M lo.j=lo:=by
    rcases Int.le_total (mk M e.1) (mk M e.2) with q|q
    .rw[RT,yW q];show a3
    .rw[RT,vH q];show b3
   let lb:0<=lo/\lo<(n:Int):=by
    rcases Int.le_total (mk M e.1) (mk M e.2) with q|q
    .rw[RT,yW q];lia
    .rw[RT,vH q];lia
   rw[Sm _ _ J];cases d:mk M i=Ui
   .rw[if_pos d,Sm _ _ J,nq,if_neg J];lia
   .rw[if_neg d,Sm _ _ J,i3,if_neg d];exists i1,i2,Z
  .rw[if_neg c];exists i1,i2,i3
section
variable{n:Nat}{es:List (Nat×Nat)}(h:InN n es)
include h
def IU(hi:i<n):Conn es i (mk (Xl n es) i).j:=by let(a,b,c):=CO es h i hi;show(Hc h hi J).G c.symm
def nj(hi:i<n)(hj:j<n)(c:Conn es i j):mk (Xl n es) i<=(j:Int):=by rw[(Hc h hi hj).L c];show(CO es h j hj).2.1
end
def cH{φ:Nat->Prop}(h:∀e∈es,(φ e.1↔φ e.2))(c:Conn es i j):φ i↔φ j:=by
 induction c with
 |refl i=>show Iff.rfl
 |edge q=>show h _ q
 |symm _ ih=>show ih.symm
 |trans _ _ i1 i2=>show i1.l i2
def ni(f:Nat->Nat)(h:∀e∈es,Conn fs (f e.1) (f e.2))(c:Conn es i j):Conn fs (f i) (f j):=by
 induction c with
 |refl i=>show .refl _
 |edge e=>show h _ e
 |symm _ ih=>show ih.symm
 |trans _ _ Mz QX=>show Mz.l QX
def CN(f:Int->Int):∀{l:Ac},l≠[]->∃m∈l,∀z∈l,f z<=f m
 |[x],_=>{x,AP,λz hz=>by rw[XD.G hz];show Tt _}
 |x::y::l,_=>by
  let(m,hm,q):=CN f (l:=y::l) AP;cases c:f m<=f x
  .show⟨x,AP,λz hz=>by
    rcases Ye.G hz with r|r
    .rw[r];show Tt _
    .show Ht (q z r) c⟩
  .show⟨m,Yf _ hm,λz hz=>by
    rcases Ye.G hz with r|r
    .rw[r];lia
    .show q z r⟩
abbrev Xu(ls:Ac)(z:Int):Int:=ls.E z.j 0
def UB(ls:Ac)(x:Int):(Ac):=(Wu ls.f).U λz=>decide (Xu ls z<x)
def SV(ls:Ac)(x:Int):(Ac):=(Wu ls.f).U λz=>decide (Xu ls z<=x)
def Xa:z∈UB ls x↔(0<=z/\z<ls⁻¹)/\Xu ls z<x:=by unfold UB;rw[Yj,Xr,YW]
def Xi:z∈SV ls x↔(0<=z/\z<ls⁻¹)/\Xu ls z<=x:=by unfold SV;rw[Yj,Xr,YW]
def IT(h:y<x)(hz:z∈UB ls x)(hy:Xu ls z=y):(UB ls y).f<(UB ls x).f:=by
 let hn:∀x,(UB ls x).Nodup:=λx=>(MM<|qM _).U _;let SD:z∉UB ls y:=λc=>by have:=(Xa.G c).2;lia
 show Jm (l:=z::UB ls y) (Ru.L {SD,hn y}) λw hw=>by
  rcases Ye.G hw with r|r
  .show r▸hz
  .let q:=Xa.G r;show Xa.L ⟨q.1,J⟩
def mA(N:Nat)(ps:Aa)(ls:Ac)(x:Int):(Ac):=Xl N (XR ps<|UB ls x)
def mB(N:Nat)(ps:Aa)(ls:Ac)(x:Int):(Ac):=Xl N (XR ps<|SV ls x)
def WX(N:Nat)(ps:Aa)(ls:Ac)(x:Int)(i:Nat):(Int):=if mk (mA N ps ls x) i=mk (mB N ps ls x) i then 0 else mk (mA N ps ls x) i
def Wt(N:Nat)(ps:Aa)(ls:Ac):(Aa):=(List.range ps.f).H λi=>(WX N ps ls (ls.E i 0) (ps.E i (0,0)).1.j,WX N ps ls (ls.E i 0) (ps.E i (0,0)).2.j)
def xA(N:Nat)(ps:Aa)(ls:Ac):(Wt N ps ls).f=ps.f:=by unfold Wt;rw[Xy,YY]
def IS(h0:0<=z)(h1:z<ps⁻¹):Zx (Wt N ps ls) z=((WX N ps ls (Xu ls z) (Zx ps z).1).j,(WX N ps ls (Xu ls z) (Zx ps z).2).j):=by
 let e:(Wt N ps ls).E z.j (0,0)=(WX N ps ls (Xu ls z) (Zx ps z).1,WX N ps ls (Xu ls z) (Zx ps z).2):=by unfold Wt;rw[WW,Yk,OA J];rfl
 unfold Zx at *;rw[e]
section
variable{n:Int}{ps:Aa}{ls T:Ac}(g:Zv n ps)(hl:ls.f=ps.f)
include g hl
def CM(x:Int):InN n.j (XR ps (UB ls x)):=ZQ g λz hz=>by have:=(Xa.G hz).1;lia
def CL(x:Int):InN n.j (XR ps (SV ls x)):=ZQ g λz hz=>by have:=(Xi.G hz).1;omega
def Pa(x:Int)(hi:i<n.j):0<=mk (mA n.j ps ls x) i/\mk (mA n.j ps ls x) i<=(i:Int)/\mk (mA n.j ps ls x) (mk (mA n.j ps ls x) i).j=mk (mA n.j ps ls x) i:=CO _ (CM g hl x) i hi
def OZ(x:Int)(hi:i<n.j):0<=mk (mB n.j ps ls x) i/\mk (mB n.j ps ls x) i<=(i:Int)/\mk (mB n.j ps ls x) (mk (mB n.j ps ls x) i).j=mk (mB n.j ps ls x) i:=CO _ (CL g hl x) i hi
def RF(x:Int)(hi:i<n.j):Conn (XR ps (UB ls x)) i (mk (mA n.j ps ls x) i).j:=IU (CM g hl x) hi
def OY(x:Int)(hi:i<n.j):Conn (XR ps (SV ls x)) i (mk (mB n.j ps ls x) i).j:=IU (CL g hl x) hi
def nh(x:Int)(hi:i<n.j)(hj:j<n.j):mk (mA n.j ps ls x) i=mk (mA n.j ps ls x) j↔Conn (XR ps (UB ls x)) i j:=Hc (CM g hl x) hi hj
def Se(x:Int)(hi:i<n.j)(hj:j<n.j):mk (mB n.j ps ls x) i=mk (mB n.j ps ls x) j↔Conn (XR ps (SV ls x)) i j:=Hc (CL g hl x) hi hj
def ng(x:Int){i j:Nat}(hi:i<n.j)(hj:j<n.j)(c:Conn (XR ps (UB ls x)) i j):mk (mA n.j ps ls x) i<=(j:Int):=nj (CM g hl x) hi hj c
def OX(x:Int){i j:Nat}(hi:i<n.j)(hj:j<n.j)(c:Conn (XR ps (SV ls x)) i j):mk (mB n.j ps ls x) i<=(j:Int):=nj (CL g hl x) hi hj c
def IQ(x:Int){i j:Nat}(c:Conn (XR ps (UB ls x)) i j):Conn (XR ps (SV ls x)) i j:=c.mono (ZA λz hz=>by have:=Xa.G hz;show Xi.L ⟨this.1,J⟩)
def nc(h:y<x){i j:Nat}(c:Conn (XR ps (SV ls y)) i j):Conn (XR ps (UB ls x)) i j:=c.mono (ZA λz hz=>by have:=Xi.G hz;show Xa.L ⟨this.1,B⟩)
def ZL8(hv:v<n.j)(a1:mk (mA n.j ps ls x) v=v)(b1:mk (mB n.j ps ls x) v≠v)(a2:mk (mA n.j ps ls y) v=v)(b2:mk (mB n.j ps ls y) v≠v):x=y:=by
 let key:∀x y:Int,y<x->mk (mA n.j ps ls x) v=v->mk (mB n.j ps ls y) v≠v->False:=λx y h a b=>by
  let(o1,o2,_):=OZ g hl y hv
  have:=ng g hl x hv J (nc g hl h<|OY g hl y hv)
  lia
 rcases zh x y with c|c|c
 .show(key y x c a2 b1).elim
 .show c
 .show(key x y c a1 b2).elim
def xw(hi:i<n.j):0<=WX n.j ps ls x i/\WX n.j ps ls x i<n/\(WX n.j ps ls x i≠0->WX n.j ps ls x i=mk (mA n.j ps ls x) i/\mk (mA n.j ps ls x) (WX n.j ps ls x i).j=WX n.j ps ls x i/\mk (mB n.j ps ls x) (WX n.j ps ls x i).j≠WX n.j ps ls x i):=by
 let(o1,o2,o3):=Pa g hl x hi;unfold WX;cases c:mk (mA n.j ps ls x) i=mk (mB n.j ps ls x) i
 .rw[if_pos c];exists Tt _,J,λh=>absurd Z h
 .rw[if_neg c];exists o1,J,λ_=>{Z,o3,λe=>c ?_};rw[<-e];show(Se g hl x J hi).L (IQ g hl x<|RF g hl x hi).symm
def xu:Zv n (Wt n.j ps ls):=by
 let(g1,g2,g3,g4):=id g;show{g1,g2,by rw[xA];show g3,λp hp=>?_};unfold Wt at hp;let(i,hi,rfl):=Yp.G hp;let hi:=YG.G hi
 let he:=Tx (z:=(i:Int)) g J J;unfold Zx at he;rw[Yy]at he;let h1:=xw g hl (x:=ls.E i 0) he.1
 let h2:=xw g hl (x:=ls.E i 0) he.2;exists h1.1,h1.2.1,h2.1,h2.2.1
def m9(hT:Zf n (Wt n.j ps ls) T):∀k x,(UB ls x).f=k->∀a,a<n.j->Conn (XR ps (T.U λz=>decide (Xu ls z<=x))) a (mk (mB n.j ps ls x) a).j:=by
 intro k
 induction k using Nat.strongRecOn with
 |ind k ih=>
  intro x hk;let(t1,t2,t3):=id hT;rw[xA]at t1;let tm:∀{y z:Int},z∈T.U (λz=>decide<|Xu ls z<=y)↔z∈T/\Xu ls z<=y:=by intro y z;rw[Yj,YW]
  let low:∀{i j:Nat},Conn (XR ps<|UB ls x) i j->Conn (XR ps<|T.U λz=>decide<|Xu ls z<=x) i j:=λc=>c.lift λe he=>by
   let(z,hz,rfl):=Yp.G he;let q:=Xa.G hz
   let SD:z∈SV ls (Xu ls z):=Xi.L {q.1,Tt _};let ee:=Tx (z:=z) g q.1.1 J
   let i1:=ih _ (by rw[<-hk];show IT q.2 hz Z) (Xu ls z) Z _ ee.1;let i2:=ih _ (by rw[<-hk];show IT q.2 hz Z) (Xu ls z) Z _ ee.2
   let e1:mk (mB n.j ps ls<|Xu ls z) (Zx ps z).1=mk (mB n.j ps ls<|Xu ls z) (Zx ps z).2:=(Se g hl _ ee.1 ee.2).L (.edge<|Yp.L ⟨z,SD,Z⟩);rw[e1]at i1;show(i1.l i2.symm).mono (ZA λw hw=>by have:=tm.G hw;show tm.L ⟨this.1,J⟩)
  let xt:∀a,a<n.j->Conn (XR ps<|T.U λz=>decide<|Xu ls z<=x) a (mk (mA n.j ps ls x) a).j:=λa ha=>low (RF g hl x ha);let bA:∀a,a<n.j->mk (mB n.j ps ls x) (mk (mA n.j ps ls x) a).j=mk (mB n.j ps ls x) a:=λa ha=>by let o:=Pa g hl x ha;show(Se g hl x J ha).L (IQ g hl x<|RF g hl x ha).symm
  obtain⟨φ,hφ⟩:∃φ:Nat->Prop,φ=λw=>w<n.j->mk (mA n.j ps ls x) w=w->mk (mB n.j ps ls x) w≠w->Conn (XR ps<|T.U λz=>decide<|Xu ls z<=x) w (mk (mB n.j ps ls x) w).j:={_,Z};let IP:φ 0:=by
   rw[hφ];intro h1 _ h3
   have:=OZ g hl x h1
   show absurd J h3
  let other:∀y a,a<n.j->y≠x->φ (WX n.j ps ls y a).j:=λy a ha hy=>by
   let(q0,q1,q2):=xw g hl (x:=y) ha;cases c:WX n.j ps ls y a=0
   .rw[c];show IP
   .let⟨_,q3,q4⟩:=q2 c;rw[hφ];intro h1 h2 h3;show absurd (ZL8 g hl (v:=(WX n.j ps ls y a).j) J (by rw[q3];omega) (λe=>q4<|by rw[e];omega) h2 h3) hy
  let own:∀a,a<n.j->(φ (WX n.j ps ls x a).j↔Conn (XR ps<|T.U λz=>decide<|Xu ls z<=x) a (mk (mB n.j ps ls x) a).j):=λa ha=>by
   cases c:mk (mA n.j ps ls x) a=mk (mB n.j ps ls x) a
   .let e:WX n.j ps ls x a=0:=by unfold WX;rw[if_pos c]
    rw[e];exists λ_=>?_,λ_=>IP
    have:=xt a ha
    rwa[c]at this
   .let e:WX n.j ps ls x a=mk (mA n.j ps ls x) a:=by unfold WX;rw[if_neg c]
    let(o1,o2,o3):=Pa g hl x ha;let ba:=bA a ha
    rw[e,hφ];change(_->_->_->Conn _ _ _)↔_
    rw[ba];constructor
    .intro h;show(xt a ha).l (h B (by rw[o3];omega) λe2=>c<|by rw[e2];omega)
    .intro h _ _ _;show(xt a ha).symm.l h
  let all:∀w,w<n.j->φ w:=λw hw=>by
   show(cH (φ:=φ) (λe he=>?_)<|t3 0 w B hw).G IP;let(z,hz,rfl):=Yp.G he;let zb:=t1.all z hz
   let ee:=Tx (z:=z) g zb.1 zb.2;change φ (Zx (Wt n.j ps ls) z).1↔φ (Zx (Wt n.j ps ls) z).2
   rw[IS zb.1 zb.2];change φ (WX _ _ _ _ _).j↔φ (WX _ _ _ _ _).j
   cases c:Xu ls z=x
   .rw[c,own _ ee.1,own _ ee.2];let ce:Conn (XR ps<|T.U λz=>decide<|Xu ls z<=x) (Zx ps z).1 (Zx ps z).2:=.edge (Yp.L {z,tm.L ⟨hz,B⟩,Z})
    let e1:mk (mB n.j ps ls x) (Zx ps z).1=mk (mB n.j ps ls x) (Zx ps z).2:=(Se g hl _ ee.1 ee.2).L (.edge<|Yp.L {z,Xi.L {⟨zb.1,B⟩,B},Z});rw[e1];exists λh=>ce.symm.l h,λh=>ce.l h
   .exists λ_=>other _ _ ee.2 c,λ_=>other _ _ ee.1 c
  intro a ha;let(o1,o2,o3):=Pa g hl x ha;let ba:=bA a ha
  let c1:=xt a ha;cases c:mk (mB n.j ps ls x) (mk (mA n.j ps ls x) a).j=mk (mA n.j ps ls x) a
  .rw[<-ba,c];show c1
  .have:=all (mk (mA n.j ps ls x) a).j B
   rw[hφ]at this
   have:=this B (by rw[o3];omega) (λe=>c<|by rw[e];omega)
   rw[ba]at this;show c1.l this
end
def xr(n:Int)(ps:Aa)(ls T:Ac):(Prop):=∀x i j,i<n.j->j<n.j->Conn (XR ps<|SV ls x) i j->Conn (XR ps<|T.U λz=>decide<|Xu ls z<=x) i j
def CK(n:Int)(ps:Aa)(ls T:Ac):(Prop):=∀o z,exg n ps T o z->Xu ls o<=Xu ls z
def CJ(ls:Ac):∃U:Int,∀z:Int,Xu ls z<=U:=by
 let h:∀l:Ac,∃U:Int,∀i:Nat,l.E i 0<=U:=by
  intro l
  induction l with
  |nil=>exists 0,λi=>AP
  |cons x l ih=>
   let(U,hU):=ih;exists max x U,λi=>?_;cases i with
   |zero=>show x<=_;lia
   |succ i=>have:=hU i;change l.E i 0<=_;lia
 let(U,hU):=h ls;exists U,λz=>hU z.j
section
variable{n:Int}{ps:Aa}{ls T:Ac}(g:Zv n ps)(hl:ls.f=ps.f)
include g hl
def m8(hT:Zf n (Wt n.j ps ls) T):xr n ps ls T:=λx i j hi hj c=>by
 let h1:=m9 g hl hT _ x Z i hi;let h2:=m9 g hl hT _ x Z j hj
 rw[(Se g hl x hi hj).L c]at h1;show h1.l h2.symm
def CI(hT:Zf n (Wt n.j ps ls) T):Zf n ps T:=by
 let(t1,t2,t3):=id hT;rw[xA]at t1;let(U,hU):=CJ ls;let zero:∀a,a<n.j->mk (mB n.j ps ls U) a=0:=λa ha=>by
  let(o1,o2,o3):=OZ g hl U ha;show Yr λno=>?_;obtain⟨v,hv⟩:∃v:Nat,v=(mk (mB n.j ps ls U) a).j:={_,Z};let v0:v≠0:=J
  let vn:v<n.j:=J;let ov:mk (mB n.j ps ls U) v=(v:Int):=by rw[hv,o3];lia
  let st:=cH (φ:=λw=>w≠v) (λe he=>by
   let(z,hz,rfl):=Yp.G he;let zb:=t1.all z hz
   let ee:=Tx (z:=z) g zb.1 zb.2;change(Zx (Wt n.j ps ls) z).1≠v↔(Zx (Wt n.j ps ls) z).2≠v
   rw[IS zb.1 zb.2];let key:∀c,c<n.j->(WX n.j ps ls (Xu ls z) c).j≠v:=λc hc e=>by
    let(q0,q1,q2):=xw g hl (x:=Xu ls z) hc;let(_,q3,q4):=q2 J;rw[e]at q3 q4;let ov2:=OZ g hl (Xu ls z) vn
    let cb:=OY g hl (Xu ls z) vn;let cu:Conn (XR ps<|SV ls U) v (mk (mB n.j ps ls<|Xu ls z) v).j:=cb.mono (ZA λy hy=>by have:=Xi.G hy;show Xi.L {this.1,hU y})
    have:=OX g hl U vn J cu
    lia
   exists λ_=>key _ ee.2,λ_=>key _ ee.1) (t3 0 v J vn)
  show(st.G<|XO v0) rfl
 exists t1,t2,?_;let key:∀a,a<n.j->Conn (XR ps T) a 0:=λa ha=>by let h1:=m9 g hl hT _ U Z a ha;rw[zero a ha]at h1;show h1.mono (ZA λz hz=>(Yj.G hz).1)
 show λi j hi hj=>(key i hi).l (key j hj).symm
def CH(hv:v<n.j):∀k x,(UB ls x).f=k->mk (mB n.j ps ls x) v≠v->∃y,mk (mA n.j ps ls y) v=v/\mk (mB n.j ps ls y) v≠v:=by
 intro k
 induction k using Nat.strongRecOn with
 |ind k ih=>
  intro x hk hb;cases c:mk (mA n.j ps ls x) v=v
  .exists x,c,hb
  .let ne:UB ls x≠[]:=λe=>c (by unfold mA;rw[e];show Hd hv)
   let(m,hm,q):=CN (Xu ls) ne;let Wf:=Xa.G hm
   let e:SV ls (Xu ls m)=UB ls x:=by
    unfold SV UB;show vL λz hz=>?_;rw[zf];constructor
    .intro h;lia
    .intro h;show q z (Xa.L {Xr.G hz,h})
   show ih _ (by rw[<-hk];show IT Wf.2 hm Z) (Xu ls m) Z ?_;let e2:mB n.j ps ls (Xu ls m)=mA n.j ps ls x:=by unfold mB mA;rw[e]
   rwa[e2]
def m7(hT:Zf n ps T)(hv:xr n ps ls T):Zf n (Wt n.j ps ls) T:=by
 let(t1,t2,t3):=id hT;let(U,hU):=CJ ls;show{by rw[xA];show t1,t2,?_};let tm:∀{y z:Int},z∈T.U (λz=>decide<|Xu ls z<=y)↔z∈T/\Xu ls z<=y:=by intro y z;rw[Yj,YW]
 let key:∀v,v<n.j->Conn (XR (Wt n.j ps ls) T) v 0:=λv GN=>by
  cases v0:v=0
  .rw[v0];show .refl _
  let bU:mk (mB n.j ps ls U) v≠v:=by
   let cu:Conn (XR ps<|SV ls U) v 0:=(t3 v 0 GN J).mono (ZA λy hy=>by have:=t1.all y hy;show Xi.L {⟨this.1,J⟩,hU y})
   have:=OX g hl U GN B cu
   lia
  let(y,ya,yb):=CH g hl GN _ U Z bU;let(b1,b2,b3):=OZ g hl y GN;obtain⟨u,hu⟩:∃u:Nat,u=(mk (mB n.j ps ls y) v).j:={_,Z};let un:u<n.j:=J
  let bu:mk (mB n.j ps ls y) u=(u:Int):=by rw[hu,b3];lia
  let cvu:Conn (XR ps<|SV ls y) v u:=by rw[hu];show OY g hl y GN
  let cT:=hv y v u GN un cvu;let mp:=ni (fs:=XR (Wt n.j ps ls) T) (λi=>(WX n.j ps ls y i).j) (λe he=>by
   let(z,hz,rfl):=Yp.G he;let(zT,zy):=tm.G hz;let zb:=t1.all z zT
   let ee:=Tx (z:=z) g zb.1 zb.2;change Conn _ (WX n.j ps ls y (Zx ps z).1).j (WX n.j ps ls y (Zx ps z).2).j
   cases c:Xu ls z=y
   .let e:=IS (N:=n.j) (ls:=ls) zb.1 zb.2;rw[c]at e
    have:(Zx (Wt n.j ps ls) z)∈XR (Wt n.j ps ls) T:=Yp.L ⟨z,zT,Z⟩
    rw[e]at this;show .edge this
   .let z1:z∈UB ls y:=Xa.L {⟨zb.1,J⟩,J};let z2:z∈SV ls y:=Xi.L {⟨zb.1,B⟩,zy}
    let ea:=(nh g hl y ee.1 ee.2).L (.edge<|Yp.L ⟨z,z1,Z⟩);let eb:=(Se g hl y ee.1 ee.2).L (.edge<|Yp.L ⟨z,z2,Z⟩)
    let e:WX n.j ps ls y (Zx ps z).1=WX n.j ps ls y (Zx ps z).2:=by unfold WX;rw[ea,eb]
    rw[e];show .refl _) cT
  let sv:WX n.j ps ls y v=(v:Int):=by unfold WX;rw[if_neg J,ya]
  let su:WX n.j ps ls y u=0:=by
   let(a1,a2,a3):=Pa g hl y un;let ca:=RF g hl y un
   have:=OX g hl y (i:=(mk (mA n.j ps ls y) u).j) (j:=(mk (mA n.j ps ls y) u).j) J B (.refl _)
   let e1:mk (mB n.j ps ls y) (mk (mA n.j ps ls y) u).j=mk (mB n.j ps ls y) u:=(Se g hl y B un).L (IQ g hl y ca).symm;unfold WX;rw[if_pos J]
  let mp:Conn (XR (Wt n.j ps ls) T) (WX n.j ps ls y v).j (WX n.j ps ls y u).j:=mp;rwa[sv,su]at mp
 show λi j hi hj=>(key i hi).l (key j hj).symm
omit hl in
def m6(hl:ls.f=ps.f)(hT:Zf n ps T)(hg:CK n ps ls T):xr n ps ls T:=λx i j _ _ c=>c.lift λe he=>by
 let(z,hz,rfl):=Yp.G he;let(zb,zx):=Xi.G hz;change Conn _ (Zx ps z).1 (Zx ps z).2
 cases zT:z∈T
 .show .edge (Yp.L {z,Yj.L {zT,Ys zx},Z})
 .show(d5 g hT zb.1 J).mono (ZA λy hy=>?_);let(yT,yc):=VE.G hy
  have:=hg y z {yT,λe=>zT<|e▸yT,yc}
  show Yj.L {yT,Ys J}
def m5(hT:Zf n ps T)(hv:xr n ps ls T):CK n ps ls T:=λo z he=>by
 show Yr λno=>?_;let(h1,h2,h3):=he;let(z0,z1):=eU h3;let ee:=Tx (z:=z) g z0 z1
 show(UN g hT z0 z1).G h3 ?_;show(hv (Xu ls z) _ _ ee.1 ee.2<|.edge<|Yp.L {z,Xi.L {⟨z0,J⟩,Tt _},Z}).mono (ZA λy hy=>?_);let(yT,yl):=Yj.G hy;let yl:=Yu yl
 show Xc.L {yT,λe=>no<|by rwa[<-e]}
def mZ:Zf n (Wt n.j ps ls) T↔Zf n ps T/\CK n ps ls T:=
 {λh=>{CI g hl h,m5 g hl (CI g hl h)<|m8 g hl h},λh=>m7 g hl h.1<|m6 g hl h.1 h.2}
end
def CG(h1:InN n es)(h2:InN n fs)(h:∀i j,Conn es i j↔Conn fs i j):Xl n es=Xl n fs:=by
 let key:∀{es fs:List (Nat×Nat)},InN n es->InN n fs->(∀i j,Conn es i j↔Conn fs i j)->∀i,i<n->mk (Xl n es) i<=mk (Xl n fs) i:=λ{es fs} h1 h2 h i hi=>by
  let(o1,o2,_):=CO fs h2 i hi
  have:=nj h1 hi J ((h i _).L (IU h2 hi))
  lia
 show QG λi=>?_;cases c:i<n
 .rw[He (by rwa[Zn]),He (by rwa[Zn])];show YZ some (Int.le_antisymm (key h1 h2 h i c)<|key h2 h1 (λi j=>(h i j).symm) i c)
 .rw[YC (by rw[Zn];lia),YC (by rw[Zn];omega)]
def lvl(ls:Ac)(x:Int)(i:Nat):(Ac):=(Wu i).U λz=>decide (Xu ls z=x)
def CF(ls:Ac)(x:Int)(i:Nat):lvl ls x (i+1)=lvl ls x i++(if ls.E i 0=x then [(i:Int)] else []):=by
 unfold lvl Wu;rw[Kt,YD,Qj];congr 1;let e:Xu ls (i:Int)=ls.E i 0:=by unfold Xu;rw[Yy]
 cases c:ls.E i 0=x
 .rw[if_pos c];show NL (by simp only[YW];rwa[e])
 .rw[if_neg c];show UA (by simp only[YW];rwa[e])
def VM:z∈lvl ls x i↔(0<=z/\z<(i:Int))/\Xu ls z=x:=by unfold lvl;rw[Yj,Xr,YW]
def cG(ls:Ac)(x:Int)(i:Nat):IsSet i (lvl ls x i):=XU.L {λz hz=>(VM.G hz).1,(qM i).U _}
def xq(N:Nat)(ps:Aa)(ls:Ac)(i:Nat):(Int×Int):=(WX N ps ls (ls.E i 0) (ps.E i (0,0)).1.j,WX N ps ls (ls.E i 0) (ps.E i (0,0)).2.j)
def RE(N:Nat)(ps:Aa)(ls:Ac)(p:Nat->Prop)[DecidablePred p]:(Aa):=(List.range ps.f).H λi=>if p i then xq N ps ls i else ps.E i (0,0)
def mY(N:Nat)(ps:Aa)(ls:Ac)(p:Nat->Prop)[DecidablePred p]:(RE N ps ls p).f=ps.f:=by unfold RE;rw[Xy,YY]
def cF{p q:Nat->Prop}[DecidablePred p][DecidablePred q](h:∀i,i<ps.f->(p i↔q i)):RE N ps ls p=RE N ps ls q:=by
 unfold RE;show YN λi hi=>?_
 have:=h i (YG.G hi)
 cases c:p i
 .rw[if_pos c,if_pos (this.G c)]
 .rw[if_neg c,if_neg λd=>c (this.L d)]
def mX{p:Nat->Prop}[DecidablePred p](h:∀i,i<ps.f->¬p i):RE N ps ls p=ps:=by
 unfold RE;show QG λi=>?_;rw[Yk];cases c:i<ps.f
 .rw[OA c,XI c];change some (if p i then _ else ps.E i (0,0))=_
  rw[if_neg (h i c),WW,XI c];rfl
 .rw[YC (by rw[YY];lia),YC B];rfl
def mW{p:Nat->Prop}[DecidablePred p](h:∀i,i<ps.f->p i):RE N ps ls p=Wt N ps ls:=by unfold RE Wt;show YN λi hi=>?_;rw[if_pos (h i<|YG.G hi)];rfl
def mV{p q:Nat->Prop}[DecidablePred p][DecidablePred q](h:∀i,i<ps.f->(q i↔p i\/i=k)):(RE N ps ls p).set k (xq N ps ls k)=RE N ps ls q:=by
 unfold RE;show QG λi=>?_;rw[Yk];cases c:i<ps.f
 .let hq:=h i c;rw[OA c];cases d:k=i
  .rw[d,vW (by rwa[Xy,YY])];change _=some (if q i then _ else _)
   rw[if_pos (hq.L<|.inr d.symm)]
  .rw[vQ d,Yk,OA c];change some (if p i then _ else _)=some (if q i then _ else _)
   cases e:p i
   .rw[if_pos e,if_pos (hq.L<|.inl e)]
   .rw[if_neg e,if_neg λf=>(hq.G f).elim e λg=>d g.symm]
 .rw[YC (by rw[Qf,Xy,YY];omega),YC (by rw[YY];omega)];rfl
section
variable{n:Int}{ps:Aa}{ls Ls S:Ac}{j:Nat}{x:Int}(g:Zv n ps)(hl:ls.f=ps.f)(KP:Ls.Q (·<·))(Ub:∀z,z∈Ls↔z∈ls)(hx:Ls[j]?=some x)
include KP hx
def CD{y:Int}(hy:y∈Ls):y∈Ls.R j↔y<x:=by
 let(hj,e):=Xs.G hx;constructor
 .intro h;let(i,hi,ei):=vS.G h;rw[Yo]at hi;rw[List.getElem_take]at ei;rw[<-ei,<-e];show YT.G KP i j J hj J
 .intro h;let(i,hi,ei):=vS.G hy
  have:i<j:=Yr λno=>by
   rcases Nat.lt_or_eq_of_le (Qb no) with c|c
   .have:=YT.G KP j i hj hi c
    lia
   .subst c;lia
  show vS.L {i,by rw[Yo];lia,by rwa[List.getElem_take]}
include g hl Ub
def mU(hS:∀z,z∈S↔(0<=z/\z<ps⁻¹)/\Xu ls z∈Ls.R j):Xl n.j (XR ps S)=mA n.j ps ls x:=by show CG (ZQ g λz hz=>((hS z).G hz).1) (CM g hl x) λa b=>TM λz=>?_;rw[hS,Xa,hl];show and_congr_right λzb=>?_;show CD KP hx ((Ub _).L ?_);unfold Xu;rw[WW,XI (show z.j<ls.f by lia)];show QE _
def mT(hS:∀z,z∈S↔(0<=z/\z<ps⁻¹)/\Xu ls z∈Ls.R j):Qp (Xl n.j (XR ps S)) (XR ps (lvl ls x ps.f))=Xl n.j (XR ps (S++lvl ls x ps.f))/\Xl n.j (XR ps (S++lvl ls x ps.f))=mB n.j ps ls x/\∀z,z∈S++lvl ls x ps.f↔(0<=z/\z<ps⁻¹)/\Xu ls z∈Ls.R (j+1):=by
 let m1:∀z,z∈S++lvl ls x ps.f↔(0<=z/\z<ps⁻¹)/\Xu ls z∈Ls.R (j+1):=λz=>by
  rw[Yb,hS,VM,YI,hx];change _↔_/\Xu ls z∈Ls.R j++[x]
  rw[Yb,XD];constructor
  .rintro(⟨a,b⟩|⟨a,b⟩)
   .exists a,.inl b
   .exists a,.inr b
  .rintro⟨a,b|b⟩
   .show .inl ⟨a,b⟩
   .show .inr ⟨a,b⟩
 exists ?_,?_,m1
 .unfold Qp Xl XR;rw[YD,Qe]
 .show CG (ZQ g λz hz=>((m1 z).G hz).1) (CL g hl x) λa b=>TM λz=>?_;rw[Yb,hS,VM,Xi,hl];let t:(0<=z/\z<ps⁻¹)->(Xu ls z∈Ls.R j↔Xu ls z<x):=λzb=>CD KP hx ((Ub _).L (by unfold Xu;rw[WW,XI (show z.j<ls.f by omega)];show QE _))
  constructor
  .rintro(⟨a,b⟩|⟨a,b⟩)
   .exists a,yL<|(t a).G b
   .exists a,Int.le_of_eq b
  .rintro⟨a,b⟩;rcases Int.lt_or_eq_of_le b with c|c
   .show .inl {a,(t a).L c}
   .show .inr ⟨a,c⟩
end
def XW(ls T:Ac):(Int):=(T.H<|Xu ls).sum
def cE(h:a.Perm b):XW ls a=XW ls b:=by
 unfold XW
 induction h with
 |nil=>rfl
 |cons x _ ih=>rw[YJ,YJ,WQ,WQ,ih]
 |swap x y l=>rw[YJ,YJ,YJ,YJ,WQ,WQ,WQ,WQ];lia
 |trans _ _ i1 i2=>show i1.l i2
def CC:∀{T:Ac},T.Nodup->o∈T->XW ls (wo T o)+Xu ls o=XW ls T
 |[],_,h=>by cases h
 |x::T,hn,h=>by
  let(n1,n2):=Ru.G hn;unfold wo;cases c:x=o
  .rw[UA (by simpa using c)];let e:T.U (λy=>decide<|y≠o)=T:=Gf.L λy hy=>Ys λe=>n1 (by rwa[c,<-e])
   rw[e,<-c];change XW ls T+Xu ls x=Xu ls x+XW ls T
   lia
  .rw[NL (by simpa using c)]
   have:=CC (ls:=ls) n2 ((Ye.G h).resolve_left λe=>c e.symm)
   change Xu ls x+XW ls (wo T o)+Xu ls o=Xu ls x+XW ls T;lia
def mS(hn:T.Nodup)(ho:o∈T)(hp:M.Perm (wo T o++[z])):XW ls M=XW ls T-Xu ls o+Xu ls z:=by
 rw[cE hp]
 have:=CC (ls:=ls) hn ho
 let e:XW ls (wo T o++[z])=XW ls (wo T o)+Xu ls z:=by unfold XW;rw[YD,Ge];show nr _ _
 lia
section
variable{n:Int}{ps:Aa}{ls T:Ac}(g:Zv n ps)
include g
def cD(hT:Zf n ps T)(hW:Zf n ps W)(h:∀z∈T,z∈W):T.Perm W:=by
 have:=oh (l:=W) hT.1.nodup (by have:=hT.2.1;have:=hW.2.1;lia) h
 show this.symm
def mR(hT:Zf n ps T)(hg:CK n ps ls T):∀k W,Zf n ps W->(T.U λz=>decide (z∉W)).f=k->XW ls T<=XW ls W:=by
 intro k
 induction k using Nat.strongRecOn with
 |ind k ih=>
  intro W hW hk;cases c:∀z∈T,z∈W
  .rw[cE (cD g hT hW c)];show Tt _
  .obtain⟨z,hz⟩:∃z,z∈T/\z∉W:=Yr λno=>c λz hz=>Yr λhn=>no ⟨z,hz,hn⟩;let(y,h1,h2):=d3 g hT hW hz.1 hz.2;let lz:=hg z y h1
   let(M,OW,GL):=xO (wo W y++[z]);let tM:=qU g hW h2 OW GL
   let sM:=mS (ls:=ls) hW.1.nodup h2.1 OW;let yT:y∉T:=((MH g hT).G h1).2.1
   let less:(T.U λx=>decide<|x∉M).f<k:=by
    rw[<-hk];show Jm (l:=z::T.U λx=>decide<|x∉M) ?_ λx hx=>?_
    .show Ru.L {λh=>?_,hT.1.nodup.U _}
     have:=Yu (Yj.G h).2
     show this (OW.mem_iff.L<|Yh _<|XD.L Z)
    .rcases Ye.G hx with e|e
     .rw[e];show Yj.L {hz.1,Ys hz.2}
     .let⟨e1,e2⟩:=Yj.G e;let e2:=Yu e2
      show Yj.L {e1,Ys λh=>e2<|OW.mem_iff.L<|Yn _<|Xc.L {h,λq=>yT<|q▸e1}}
   have:=ih _ less M tM rfl
   lia
def mQ(hT:Zf n ps T)(h:∀W,Zf n ps W->XW ls T<=XW ls W):CK n ps ls T:=λo z he=>by
 let(M,OW,GL):=xO (wo T o++[z]);let tM:=qU g hT he OW GL
 let sM:=mS (ls:=ls) hT.1.nodup he.1 OW
 have:=h M tM
 lia
def NV(hl:ls.f=ps.f):Zf n (Wt n.j ps ls) T↔Zf n ps T/\∀W,Zf n ps W->XW ls T<=XW ls W:=by rw[mZ g hl];exists λh=>{h.1,λW hW=>mR g h.1 h.2 _ W hW Z},λh=>{h.1,mQ g h.1 h.2}
def mP(hl:ls.f=ps.f):(∃W,Zf n ps W)↔∃W,Zf n (Wt n.j ps ls) W:=by
 constructor
 .rintro⟨W,hW⟩;let(L,Qs,oj):=nK g;let key:∀l:Ab,l≠[]->∃m∈l,∀x∈l,XW ls m<=XW ls x:=by
   intro l
   induction l with
   |nil=>intro h;show absurd Z h
   |cons x l ih=>
    intro _;cases c:l=[]
    .rw[c];exists x,AP,λy hy=>by rw[XD.G hy];show Tt _
    .let⟨m,hm,q⟩:=ih c;cases d:XW ls m<=XW ls x
     .show⟨m,Yf _ hm,λy hy=>by
       rcases Ye.G hy with r|r
       .rw[r];show d
       .show q y r⟩
     .show⟨x,AP,λy hy=>by
       rcases Ye.G hy with r|r
       .rw[r];show Tt _
       .have:=q y r;lia⟩
  let(m,hm,q):=key L (λe=>by rw[e]at Qs;show absurd ((Qs W).L hW) AP);exists m,(NV g hl).L {(Qs m).G hm,λV hV=>q V<|(Qs V).L hV}
 .rintro⟨W,hW⟩;exists W,((NV g hl).G hW).1
end
end My
namespace L2
open PySem PySem.Spec PyProof.Rows
section
def Xf(p:IsTup h a us):h.IsTuple a us:=by let(o,e,c,n,d):=p;exists o,e,c,n,d
def mN(hh:A.handled=none)(it l:Addr)(ne:l≠it)(us:Array Value):
  Draws prog w A it [it,l] us.t (λi v=>us[i]?=some v) (λi h=>h.IsTupleIter it l i/\h.IsTuple l us) where
 live:=λ_ _ st=>by let((o,ho,_),_):=st;exists o,ho
 frame:=λ_ _ _ st hk=>by let((o,ho,r),o2,UU,r2):=st;exists {o,hk it AP o ho,r},o2,hk l AP o2 UU,r2
 item:=λi s Q E hi st q=>cJ st.1 st.2 (u:=us[i]) (by simp[hi]) λg t1 sb=>q _ g s.toks (by simp[hi]) {t1,st.2.extBut sb.extBut ne} sb
 done:=λs Q E st q=>nI hh st.1 st.2 AP q
variable{prog:Program}{w:World}{A:Around}{E:Ae}{s:Shared}
set_option maxRecDepth 100000 in
def ZS8(l:Addr)(us:Array Value):
  Meets (Builtin.«enumerate.__new__» {[.type "enumerate",.ref l],[]}) (λ_ R s=>s.m.IsTuple l us/\
   R (.ok<|.ret<|.ref (s.m.push {cls:=.type "tuple_iterator",data:=.fields #[.ref l,.int 0 0]}).objs.t)
    {s with heap:=(s.m.push {cls:=.type "tuple_iterator",data:=.fields #[.ref l,.int 0 0]}).push {cls:=.type "enumerate",data:=.fields #[.none,.bool false,.ref (~~~s),rawInt 0,.none,.none]} }):=
 .of_wp λprog w A R s h=>by
  let(hp,g,d,tk,os):=s;let(hl,h):=h;let q0:=sub_enumerate
  let hL:Heap.IsTuple (Shared.m ⟨hp,g,d,tk,os⟩) l us:=hl;let((c,dct,dt,sl),e1,e2,n,e3):=hl;simp only at e2 e3;subst e2 e3
  wp_walk using vU e1
  show wpAny_stack_any λst=>Yg ?_;split
  .rename_i c _ _ _ _ _;cases (c == Value.type "enumerate")
   all_goals
    wp_walk using vU e1,HD hL
    exists _,Z,h
  .wp_walk using vU e1,HD hL
   exists _,Z,h
def ZV7{Q:Ae}(ht:s.m.IsTuple l us)
  (q:∀g,IsEnum g ((~~~s)+1) (~~~s) 0 .none->g.IsTupleIter (~~~s) l 0->g.objs.t=(~~~s)+2->(∀b o,s.m.D b=some o->g.D b=some o)->Q (.ref<|(~~~s)+1) {s with heap:=g}):
  wpAny (model prog w) A (call (.type "enumerate") [.ref l]) Q E s:=by
 show callType_new F.called_enumerate vg (F.typeCall_enumerate_1 _) (F.newCall_enumerate_1 _) (λob=>F.args_object_init_2 ob _) F.entry_enumerate_new (ZS8 l us) {ht,?_};obtain⟨G,hG⟩:∃G,G=s.m.push {cls:=.type "tuple_iterator",data:=.fields #[.ref l,.int 0 0]}:={_,Z};let z:G.objs.t=(~~~s)+1:=by rw[hG];show RY ..
 change _/\_;rw[<-hG,z];let e1:=Yi G (o:={cls:=.type "enumerate",data:=.fields #[.none,.bool false,.ref (~~~s),rawInt 0,.none,.none]}) rfl
 rw[z]at e1;let i1:G.IsTupleIter (~~~s) l 0:=by rw[hG];exists _,Yi _ Z,Z,Z
 let(o1,i2,i3):=i1;exists {_,e1,Z},q _ e1 {o1,Xo _ i2,i3} (by rw[RY,z]) λb o x=>Xo _<|by rw[hG];show Xo _ x
end
def CB(K:Ad)(a:Addr):(It):=
 {λi H=>∃xs x,SqT K H a xs/\xs[i]?=some x,λi H v H'=>∃T x,H T=none/\v=.ref T/\H'=upd H T (.tup [.int i,x])/\∀xs,SqT K H a xs->xs[i]?=some x,λi H=>∃xs,SqT K H a xs/\xs.f<=i}
def Ze6{P:Program}{w:World}{K:Ad}{elts:List Expr}{x1:Nat}{pos:Pos}(a e it:Addr)(XJ:e≠it)(hae:a≠e)(hai:a≠it):Turn P w K (.Tuple elts x1 pos) (CB K a) [e,it] e (λi h=>(∃old,IsEnum h e it i old)/\h.IsTupleIter it a i) where
 mem:=AP
 obj:=λi h st b hb=>by
  let((old,he),o,eo,c,d):=st;rcases Ye.G hb with z|hb
  .subst z;exists _,he,λv z=>by let z':Data.fields _=Data.cell v:=z;cases z'
  .let z:b=it:=by simpa using hb
   subst z;exists o,eo,λv z=>by rw[d]at z;cases z
 keep:=λi h h' st k=>by let((old,he),o,ho,r):=st;exists {old,k e AP _ he},o,k it AP o ho,r
 item:=by
  intro X hP hw hK hc i pins s σ H E I hf st hg;subst hP hw hK;let(xs,x,hq,hx):=hg;let((old,he),hit):=st;let(XX,rv,p,hz):=I.tuple hq;let(u,hu,ru):=rv.get hx;let(f0,f1,f2,f3,f4,f5):=hf e AP;let(g0,g1,g2,g3,g4,g5):=hf it AP;let JB:H (~~~s)=none:=I.hok.fresh (XQ _)
  let Xt:i<XX.o.t:=by simpa using (Xs.mp hu).1
  let pT:s.m.IsTuple a XX.o:=Xf p;show wpAny_pyNext_enum_itemD (mN (A:=X.A.in1) (by simpa using I.ok.hd hc) it a hai XX.o) he ⟨hit,pT⟩ Xt XJ (by simp[XJ,XO hae]) λx' h' tk Tg ho XF hT hsz hk=>?_;let ex':x'=u:=by
   let e1:XX.o[i]?=some u:=by simpa using hu
   let e2:XX.o[i]?=some x':=Tg;rw[e1]at e2;show(Ya e2).symm
  subst ex';let Up:∀b ob,s.m.D b=some ob->b≠(~~~s):=λb ob z=>Yq (Ym z)
  let UR:∀b ob,H b=some ob->b≠(~~~s):=λb ob z=>Yq (I.hok.lt z);let Uo:∀b ob,H b=some ob->b≠e/\b≠it:=λb ob z=>{λq=>(by rw[q,f0]at z;cases z),λq=>(by rw[q,g0]at z;cases z)}
  let I1:Inv X pins σ (upd H (~~~s)<|.tup [.int i,x]) {s with heap:=h',toks:=tk+1}:=by
   show I.step (g':=s.gens) (d':=s.drawn) (ch:=[e,it]) (λb hb=>?_) (λb o _ _ Xj z _=>hk b o (λq=>Xj<|by simp[q]) (λq=>Xj<|by simp[q]) z) (λb o _ _ Xj z _=>{o.slots,hk b o (λq=>Xj<|by simp[q]) (λq=>Xj<|by simp[q]) z})
    (λb o _ z n=>by rwa[Za (Up b o z)]) (λb o Xj z=>{o,hk b o (λq=>Xj<|by simp[q]) (λq=>Xj<|by simp[q]) z}) (λb ys z=>by rwa[Za (UR b _ z)]) (λb o v z=>by rwa[Za (UR b _ z)])
    (λb ps z=>{#[],by rw[Za (UR b _ z),z];simp}) (λm hm=>?_) (λb v z=>?_) I.bare
   .rcases Ye.G hb with q|hb
    .rw[q];exists f3,f1,f4,f5
    .let q:b=it:=by simpa using hb
     rw[q];exists g3,g1,g4,g5
   .let⟨o,es,ep,UZ,r⟩:=hm;exists o,es,ep,hk _ o (XO f1) (XO g1) UZ,r
   .cases hb:b=(~~~s)
    .subst hb;rw[XS]at z;cases z;exists by change 2<=sizeLine;decide,[.int i tk,x'],.cons {_,Z}<|.cons ru .nil,{_,hT,Z,_,Z}
    .rw[Za hb]at z;show(I.hok b v z).stay (λc w' Xe q=>?_) (λc q=>by rwa[Za (UR c _ q)]) λc ys q=>by rwa[Za (UR c _ q)]
     rcases Xe with rfl|Xe
     .show hk c w' (Uo c _ z).1 (Uo c _ z).2 q
     .show hk c w' (Uo c _ Xe).1 (Uo c _ Xe).2 q
  exists _,Z,wpAny_letOwnedTupleGo_enum ho λh2 Qu VG=>?_;let fT:e≠(~~~s):=Up e _ he
  let I2:Inv X pins σ (upd H (~~~s)<|.tup [.int i,x]) {s with heap:=h2,toks:=tk+1}:=Inv.turned (s:={s with heap:=h',toks:=tk+1}) (h':=h2) (t':=tk+1) (it:=e) I1 (λb o hb z=>VG.extBut b o hb z) (by rwa[Za fT]) f1 f3 f4 f5;exists .ref (~~~s),_,I2,Z,{_,x,JB,Z,Z,λys hy=>by rwa[I.tuple_inj hy hq]},{{x',by simpa using Qu},XF.1.extBut VG.extBut<|XO XJ},λb hb=>?_;rcases Ye.G hb with q|hb
  .rw[q,Za fT];show f0
  .let q:b=it:=by simpa using hb
   let(o,eo,_):=hit;rwa[q,Za (Up it o eo)]
 done:=by
  intro X hP hw hK hc i pins s σ H E I hf st hg;subst hP hw hK;let(xs,hq,hx):=hg;let((old,he),hit):=st;let(XX,rv,p,hz):=I.tuple hq;let(g0,g1,g2,g3,g4,g5):=hf it AP;let hl:=rv.f
  let hT:s.TypeIs ↑e "enumerate":={_,he,Z};unfold pyNext;show XY (ND<|NK (name:=Str.Y "__next__") hT F.slot_enumerate_next<|Rv F.slot_enumerate_next hT F.entry_enumerate_next ?_<|F.args_enumerate_next_1 _);change wpAny _ _ (field ↑e 2 >>= _) _ _ _
  show XY (VH he Z (x:=.ref it) Z<|XY<|nI (by simpa using I.ok.hd hc) hit (Xf p) (by simp;lia) λh' x he' ⟨o,ho,Tu⟩=>XY<|FW (T:="StopIteration") (b:=true) ⟨o,ho,Tu⟩ yQ<|Yg ?_);exists Z,I.turned (t':=s.toks) (it:=it) (λb o hb z=>he' b o hb z) g0 g1 g3 g4 g5
 self:=λ_ _ _ _ _ st h=>by let((_,he),_):=st;show FZ he h
def CA(kd:Bool)(K:Ad)(a:Addr):(It):=match kd with
 |false=>JC K a
 |true=>CB K a
def mM(K:Ad)(ta:TA):(TI):=λσ H R=>ta σ H λvs H1=>∃a kd,vs=[.ref a]/\(∃xs,My.SqK kd K H1 a xs)/\R (CA kd K a) H1
section
variable{X:Cx}
def mL(K:Ad){elts:List Expr}{x1:Nat}{UY:Pos}{a:Expr}{ta:TA}{p pos:Pos}(hg:Gl X "enumerate")(hm:X.mg "enumerate"=none)(ha:PA X [a] ta)(hs:starEach [a] X.X=[(false,eval a X.X)]:=by rfl)(hk:X.K=K:=by rfl):
  PI X (.Tuple elts x1 UY) (.Call (.Name "enumerate" p) [a] [] pos) (mM K ta):=by
 subst hk;intro pins s σ H R I h;show Call_ (Rg I hg hm Boot.«enumerate»<|TX (thn (ha pos pins s σ H _ I h) λus s1 XA=>?_) hs Z);let(vs,H1,I1,r1,q1):=XA;let(b,kd,e,(xs,hq),q):=q1;subst e;let(u,rfl,ru):=Ut r1;let rfl:u=Value.ref b:=ru;let nn:∀k,(~~~s1)<=k->H1 k=none:=λk hk=>I1.hok.fresh hk
 let fin:∀c∈[(~~~s1)+1,(~~~s1)],(~~~s1)<=c:=λc hc=>by
  rcases Ye.G hc with q|hc
  .rw[q];show SI _
  .let q:c=(~~~s1):=by simpa using hc
   rw[q];show XQ _
 cases kd with
 |false=>
  let(XX,rv,pl,hz):=I1.list hq;show call_enumerate_list pl.isList λh' he hit hsz hk=>?_;let I2:Inv X pins σ H1 {s1 with heap:=h'}:=I1.kept (t':=s1.toks) hk
  show FZ he {(~~~s1)+1,[(~~~s1)+1,(~~~s1)],_,_,H1,Z,I2,fD b _ _<|zd _,⟨⟨_,he⟩,hit⟩,λc hc=>?_,q};show I1.fpOk (fin c hc) (nn c<|fin c hc)
 |true=>
  let(XX,rv,pl,hz):=I1.tuple hq;let pT:s1.m.IsTuple b XX.o:=Xf pl
  let GR:b<(~~~s1):=by let(_,e,_):=pT;show Ym e
  show ZV7 pT λh' he hit hsz hk=>?_;let I2:Inv X pins σ H1 {s1 with heap:=h'}:=I1.kept (t':=s1.toks) hk
  show FZ he {(~~~s1)+1,[(~~~s1)+1,(~~~s1)],_,_,H1,Z,I2,Ze6 b _ _ (zd _) (Yq<|Qh GR)<|Yq GR,⟨⟨_,he⟩,hit⟩,λc hc=>?_,q};show I1.fpOk (fin c hc) (nn c<|fin c hc)
end
section
variable{prog:Program}{w:World}{A:Around}{E:Ae}{s:Shared}
def Zj8{h0:Heap}{Q:Ae}(hh:A.handled=none)(SX:h0.D b=some (RH w))(hl:h0.IsTuple l items)(XJ:l≠b)(hi:IntsAre items.C ns)(hn:items.t+1<scanBound)
  (k:∀h' tk,SetR prog w h' b (!w.params.followText "set-order") (λz=>(firstMet (λi=>ns.E i 0) items.t).any (· == z)) (firstMet (λi=>ns.E i 0) items.t).f->(∀c o,c≠b->h0.D c=some o->h'.D c=some o)->Q .none {s with heap:=h',toks:=tk}):
  wpAny (model prog w) A.in1 (Builtin.«set.__init__» {[.ref b,.ref l],[]}) (λfin s'=>match fin with | .done f=>wants Q E (.ok f) s' | .again c'=>c'.quiet=true/\codeAny (model prog w) A c' (wants Q E) s') (λe s'=>wants Q E (.error e) s') {s with heap:=h0}:=by
 let hT:Shared.TypeIs {s with heap:=h0} ↑b "set":={_,SX,Z};let QV:=hl
 let((oS,Dh,Dg,IY),Ra,Tu,nl,GS):=hl;simp only at Tu GS;subst Tu GS;let q1:=F.sub_tuple_set
 let q2:=F.sub_tuple_frozenset;let q3:(Value.type "tuple" == Value.type "dict")=false:=vg
 unfold RH at SX;unfold Builtin.«set.__init__» noKeywords Builtin.Frozenset.updateFrom;generalize oQ:pyIter=PI
 wp_walk
 subst oQ;show HD QV ?_;show XY (FP ?_);let IX:l<h0.objs.t:=Ym Ra
 let GR:b<h0.objs.t:=Ym SX;let bf:b∉[h0.objs.t,l]:=λq=>by
  rcases Ye.G q with e|e
  .show Yq GR e
  .show XJ (XD.G e).symm
 show oV ((Walks.tuple (A:=A.in1.in1) (by simp[hh]) _ l (Yq IX) items).toS) b bf (led:=!w.params.followText "set-order") (λi=>ns.E i 0) (λi v hv=>yF hi i v<|by rw[YK];show hv) hn (items.t-0) 0 _ J (Yl _)
  {{_,Yi _ Z,Z,Z},QV.push _} ?_ ?_
 .show de (Xo _ SX)
 .rintro⟨h',g',d',oP,EM⟩ m hS;let e1:g'=s.gens:=m.gens
  let e2:d'=s.drawn:=m.drawn;let e3:EM=s.os:=m.os
  subst e1 e2 e3;change wpAny _ _ _ _ _ _
  show Yg ?_;change wpAny _ _ (ret Value.none) _ _ _
  show Yg (k h' oP hS λc o hc e=>m.m c o (λq=>?_)<|Xo _ e);rcases Ye.G q with e'|e'
  .show hc e'
  .show Yq (Ym e) (XD.G e')
set_option maxRecDepth 100000 in
set_option maxHeartbeats 3000000 in
def mK{Q:Ae}(hh:A.handled=none)(hl:s.m.IsTuple l items)(hi:IntsAre items.C ns)(hn:items.t+1<scanBound)
  (k:∀h' tk,SetR prog w h' (~~~s) (!w.params.followText "set-order") (λz=>(firstMet (λi=>ns.E i 0) items.t).any (· == z)) (firstMet (λi=>ns.E i 0) items.t).f->(∀c o,s.m.D c=some o->h'.D c=some o)->Q (.ref (~~~s)) {s with heap:=h',toks:=tk}):
  wpAny (model prog w) A (call (.type "set") [.ref l]) Q E s:=by
 let(c,tl,oO):=SJ.mro;let a1:=SJ.made
 let a2:=SJ.sub;let a3:=SJ.notType
 let a4:=SJ.canCreate;let a5:=F.typeCall_set_1 ↑l
 show FH (codeAny_of_tree ?_);change wpAny _ _ (callAny (.type "set") _) _ _ _
 show Yg {Qc _ vh,SK F.entry_type_call ?_};rw[Around.under_plain (weight_type_call_type "set" [.ref l] []) Z]
 repeat any_goals first|assumption|wp_step
 show Oo (df ↑l (E:=E) (Q:=λob s1=>ob=.ref (~~~s)/\s1={s with heap:=s.m.push (RH w)}) ⟨Z,Z⟩) λr s1 hr=>?_
 match r,hr with
 | .error e,hr=>show hr
 | .ok (.ret ob),hr=>
  let(rfl,rfl):=hr;let SX:(s.m.push<|RH w).D (~~~s)=some (RH w):=Yi _ rfl
  let hT:Shared.TypeIs {s with heap:=s.m.push (RH w)} (.ref (~~~s)) "set":={_,SX,Z};let a6:=SJ.init.M
  let a7:=SJ.init.bind (.ref (~~~s))
  repeat any_goals first|assumption|wp_step
  let IX:l<(~~~s):=by let(_,e,_):=hl;show Ym e
  show Oo (codeAny_call_builtin (R:=wants (λr s2=>r=.none/\Q (.ref (~~~s)) s2) E) SJ.init.plain F.entry_set_init<|check_set_init_1 hT<|Zj8 (A:=_) (s:=s) ?_ SX (hl.push _) (Yq IX) hi hn λh' tk hS kp=>{Z,k h' tk hS λc o e=>kp c o (Yq<|Ym e)<|Xo _ e}) λr2 s2 Wd=>?_
  .simp[hh]
  .match r2,Wd with
   | .error e,Wd=>show Wd
   | .ok (.ret v),Wd=>
    let(rfl,q):=Wd
    repeat any_goals first|assumption|wp_step
def mJ{Q:Ae}(hh:A.handled=none)(hl:s.m.IsList l items\/s.m.IsTuple l items)(hi:IntsAre items.C ns)(hn:items.t+1<scanBound)
  (k:∀h' tk,SetR prog w h' (~~~s) (!w.params.followText "set-order") (λz=>(firstMet (λi=>ns.E i 0) items.t).any (· == z)) (firstMet (λi=>ns.E i 0) items.t).f->(∀c o,s.m.D c=some o->h'.D c=some o)->Q (.ref (~~~s)) {s with heap:=h',toks:=tk}):
  wpAny (model prog w) A (call (.type "set") [.ref l]) Q E s:=by
 rcases hl with h|h
 .show dc hh h hi hn k
 .show mK hh h hi hn k
end
section
variable{X:Cx}{p p2 pos UH:Pos}{e:Expr}{t:TA}
def ZE5(K:Ad)(t:TA):(TE):=λσ H Q=>t σ H λvs H1=>∃(kd:Bool)(a:Addr)(ns:Ac),vs=[.ref a]/\My.SqK kd K H1 a (ns.H V.int)/\ns.f<64/\∀ms:Ac,ms.Q (·<·)->(∀z,z∈ms↔z∈ns)->∀l,H1 l=none->Q ↑l (upd H1 l<|.lst<|ms.H V.int)
def Zs3(K:Ad)(hc:X.calm=true)(g1:Gl X "sorted")(m1:X.mg "sorted"=none)(g2:Gl X "set")(m2:X.mg "set"=none)(ha:PA X [e] t)(hk:X.K=K:=by rfl)
  (he:starEach [e] X.X=[(false,eval e X.X)]:=by rfl)
  (Qu:starEach [.Call (.Name "set" p2) [e] [] UH] X.X=[(false,eval (.Call (.Name "set" p2) [e] [] UH) X.X)]:=by rfl):
  PE X (.Call (.Name "sorted" p) [.Call (.Name "set" p2) [e] [] UH] [] pos) (ZE5 K t):=by
 subst hk;intro pins s σ H Q I h;show NH (Rg I g1 m1 Boot.«sorted» ?_);show Ko ?_ (by rw[Qu];rfl) rfl;rw[Qu];change wpAny _ _ (spliced<|(false,eval (.Call (.Name "set" p2) [e] [] UH) X.X)::backTo pos []) _ _ s
 show vD ?_;show NH (Rg I g2 m2 Boot.«set» ?_);show TX (thn (ha UH pins s σ H _ I h) λus s1 zz=>?_) (by rw[he];rfl) rfl;let(vs,H1,I1,r1,q1):=zz;let(kd,a,ns,rfl,hq,hn,q):=q1;let(u,rfl,ru):=Ut r1;let rfl:u=Value.ref a:=ru;obtain⟨XX,rv,pl,hz⟩:∃XX:Ag,Vals (ns.H V.int) XX/\(s1.m.IsList a XX.o\/s1.m.IsTuple a XX.o)/\(ns.H V.int).f<=sizeLine:=by
  cases kd with
  |false=>
   let(XX,rv,pl,hz):=I1.list hq;exists XX,rv,.inl pl.isList,hz
  |true=>
   let(XX,rv,pl,hz):=I1.tuple hq;exists XX,rv,.inr<|Xf pl,hz
 let hi:=ZD rv;let el:XX.o.t=ns.f:=by rw[Yc,<-rv.f,Xy]
 let sb:scanBound=4096:=rfl;show mJ (I.ok.hd hc) pl (ns:=ns) (by simpa using hi) J λh2 tk hS kp=>?_;show vC ?_;let fl:=firstMet_length_le (λi=>ns.E i 0) XX.o.t
 show cV (led:=true) (s:={s1 with heap:=h2,toks:=tk}) (I.ok.hd hc) hS J λms out r h3 n6 d c hI hs hl VO Si hr n5=>?_;let em:∀z,z∈ms↔z∈ns:=λz=>by
  rw[VO,firstMet_any,el];let e1:(List.range ns.f).H (λi=>ns.E i 0)=ns:=by
   show QG λi=>?_;rw[Yk];cases c:i<ns.f
   .rw[OA c,XI c,y9,WW,XI c];rfl
   .rw[YC (by rw[YY];lia),YC B];rfl
  rw[e1];simp
 let Sf:ms.Nodup:=(oh (GP _ _) hl λx hx=>(VO x).L (Hy.L ⟨x,hx,AP⟩)).nodup_iff.L (GP _ _);let Xt:(~~~s1)<=h2.objs.t:=by let(_,_,_,_,e,_):=hS;show LC (Ym e)
 let Pc:(~~~s1)<=r:=YB Xt Si;let MN:ms.f<=ns.f:=by rwa[hl,<-el]
 let I2:=(I1.laid (o:=.lst<|ms.H V.int) (h':=h3) (t':=n6) (λb o e=>n5 b o<|kp b o e) Pc ⟨by rw[Xy];have:sizeLine=16777216:=TF;lia,out,c,Pu hI,hr⟩).drew d;exists .ref r,_,I2,Z,q ms (My.VW hs Sf) em r<|I1.hok.fresh Pc
end
end L2
namespace My
open PySem L2
section
variable{K:Ad}{kd:Bool}{a:Addr}{xs:List V}{g:TG}{tt:TT}{te:TE}{o:Nat}{fr:List Nat}{σ:St}{H:Hp}{Q:VK}
def Cz(Pv:Nat->List V->Hp->Prop)(h0:Pv 0 [] H)(hz:xs.f<sizeLine)(hl:∀i ys H,i<=xs.f->Pv i ys H->SqK kd K H a xs/\ys.f<=i)
  (hs:∀(i:Nat) x ys H (p:Addr),H p=none->xs[i]?=some x->Pv i ys H->Lh Pv g tt te o fr σ i ↑p ys (upd H p<|.tup [.int i,x]))(hd:∀ys H,Pv xs.f ys H->∀p,H p=none->Q ↑p (upd H p<|.lst ys)):Od (CA kd K a) g tt te o fr σ H Q:=by
 cases kd with
 |false=>show Js Pv h0 hz hl hs hd
 |true=>
  exists λi m ys H=>m=xs.f-i/\i<=xs.f/\Pv i ys H,{xs.f,AP,Yl _,h0},?_;rintro i m ys H ⟨rfl,hi,p⟩;let(q,hy):=hl i ys H hi p;let q:SqT K H a xs:=q
  cases Xt:i<xs.f
  .show .inr {{xs,xs[i],q,by simp[Xt]},J,λx H' zz=>?_};let(T,y,hT,ex,eH,qX):=zz;subst ex eH;show hs i y ys H T hT (qX xs q) p (λj ys H=>∃m',m'<xs.f-i/\m'=xs.f-j/\j<=xs.f/\Pv j ys H) λys H p'=>{xs.f-(i+1),J,Z,Xt,p'}
  .let e:i=xs.f:=J;subst e;show .inl {{xs,q,XQ _},J,hd ys H p}
end
end My
namespace HT
open PySem PyProof.Rows
section
open PySem.SeqAt
open PySem.AutoSeq1 (wpAny_loadPart')
open PySem.MeetsSeq PySem.MeetsSeq2 PySem.MeetsSeq3
def Zf6(l b:Addr)(xs ys:Array Value)(n n2:Nat)(dd QB:Option Addr)(sl QA:Array (Option Value))(d:Nat)(r:Bool)(cC:d<=min xs.t ys.t):
  Meets (Builtin.«tuple.__lt__» {[.ref l,.ref b],[]})
   (λA R s=>s.m.D l=some {cls:=.type "tuple",dict:=dd,data:=.seq xs n,slots:=sl}/\s.m.D b=some {cls:=.type "tuple",dict:=QB,data:=.seq ys n2,slots:=QA}/\
    (∀j (h1:j<xs.t) (h2:j<ys.t),j<=d->EqAt A.in1 s xs[j] ys[j] (decide<|j≠d))/\
    (∀(h1:d<xs.t)(h2:d<ys.t)(prog:Program)(w:World)(E:Ae)(Q:Ae),Q (.bool r) s->wpAny (model prog w) A.in1 (richCompare .Lt xs[d] ys[d]) Q E s)/\
    (d=min xs.t ys.t->r=decide (xs.t<ys.t))/\R (.ok<|.ret<|.bool r) s):=
 .of_wp λprog w A R s h=>by
  let(hp,g,d1,tk,os):=s;let(hl,hb,he,Xt,OV,h):=h;let f2:=AutoSeq1.sub_tuple_tuple
  let hZ:(xs.C.zip ys.C).f=min xs.t ys.t:=AP
  wp_walk using LH hl,LH hb,wpAny_forIn_list _ (λrest b s'=>b.1=none/\s'=⟨hp,g,d1,tk,os⟩/\∃i,i<=d/\rest=(xs.toList.zip ys.toList).drop i) _
  case turn=>
   rintro⟨y,x⟩ rest b s' ⟨TQ,rfl,i,Dc,hz⟩;let hi:i<(xs.C.zip ys.C).f:=by
    rcases Nat.lt_or_ge i (xs.C.zip ys.C).f with q|q
    .show q
    .rw[List.drop_of_length_le q]at hz;cases hz
   let hm:i<min xs.t ys.t:=hZ▸hi;let h1:i<xs.t:=Yt hm (Nat.min_le_left _ _)
   let h2:i<ys.t:=Yt hm (Nat.min_le_right _ _);rw[wk hi]at hz;injection hz with EJ PM
   let hy:y=xs[i]:=by have:=YZ Prod.fst EJ;simpa using this
   let hx:x=ys[i]:=by have:=YZ Prod.snd EJ;simpa using this
   subst hy hx;show XY (he i h1 h2 Dc prog w _ _ ?_);cases c:i=d
   .subst c;rw[YR AP];let tV:=Xt h1 h2 prog w
    wp_walk using tV
    exists _,Z,by simpa using h
   .rw[Ys c]
    wp_walk
    exists Z,Z,i+1,B,PM
  case fin=>
   rintro⟨b1,b2⟩ s' ⟨TQ,rfl,i,Dc,hz⟩;simp only at TQ;subst TQ;let Si:min xs.t ys.t<=i:=by
    rcases Nat.lt_or_ge i (xs.C.zip ys.C).f with q|q
    .rw[wk q]at hz;cases hz
    .show hZ▸q
   rw[OV B]at h
   wp_walk
   exists _,Z,by simpa[Builtin.Tuple.tupleCompareSizes] using h
  case h=>exists Z,Z,0,Yl _,Z
end
section
variable{prog:Program}{w:World}{A:Around}{E:Ae}{s:Shared}
def mH{d:Nat}{r:Bool}{Q:Ae}(hl:IsTup s.m l xs)(hb:IsTup s.m b ys)(cC:d<=min xs.t ys.t)(hu:A.units<cLine)
  (he:∀j (h1:j<xs.t) (h2:j<ys.t),j<=d->SeqAt.EqAt A.in1 s xs[j] ys[j] (decide<|j≠d))
  (Xt:∀(h1:d<xs.t)(h2:d<ys.t)(prog:Program)(w:World)(E:Ae)(Q:Ae),Q (.bool r) s->wpAny (model prog w) A.in1 (richCompare .Lt xs[d] ys[d]) Q E s)
  (OV:d=min xs.t ys.t->r=decide (xs.t<ys.t))(h:Q (.bool r) s):wpAny (model prog w) A (compareOp .Lt ↑l<|.ref b) Q E s:=by
 let((cls,dd,data,sl),ho,hc,n,hd):=id hl;let((JN,QB,data2,QA),UU,VY,n2,hd2):=id hb;simp only at hc hd VY hd2;subst hc hd VY hd2;show richCompare_meets_room (op:=.Lt) {_,ho,Z} {_,UU,Z} FE gG (gJ _ _) (Zf6 l b xs ys n n2 dd QB sl QA d r cC)
  {ho,UU,he,Xt,OV,show Value.bool r≠Value.notImplemented/\Q (.bool r) s from{(λx=>nomatch x),h}} hu
def Vy(hl:IsTup s.m l xs)(hb:IsTup s.m b ys)(hi:IntsAre xs.C ns)(hj:IntsAre ys.C ms)(hu:A.units<cLine):SeqAt.EqAt A s ↑l ↑b (decide (ns=ms)):=by
 let z1:xs.t=ns.f:=by rw[<-hi.f];simp
 let z2:ys.t=ms.f:=by rw[<-hj.f];simp
 cases Vo:l=b
 .subst Vo;let(o1,e1,_,n1,d1):=hl;let(o2,e2,_,n2,d2):=hb;rw[e1]at e2;cases e2;rw[d1]at d2;cases d2;let en:ns=ms:=L2.Uc hi hj
  rw[Ys en];show Nt _
 .let k:=SeqAt.RcAt.tuples (A:=A) (s:=s) (e:=λj=>ns.E j 0 == ms.E j 0) (L2.Xf hl) (L2.Xf hb) hu λj h1 h2=>by let(t,ea):=yF hi j xs[j] (by simp[h1]);let(u,ec):=yF hj j ys[j] (by simp[h2]);rw[ea,ec];show HC _ _ _ _
  let e:((List.range<|min xs.t ys.t).all (λj=>ns.E j 0 == ms.E j 0)&&xs.t == ys.t)=decide (ns=ms):=by
   rw[z1,z2,Rt,Ou,Rw,YW];constructor
   .rintro⟨q1,q2⟩;let q2:ns.f=ms.f:=by simpa using q2
    show QG λj=>?_;cases c:j<ns.f
    .have:=q1 j (YG.L J)
     rw[WW,WW,XI c,XI J]at this
     have:=eq_of_beq this
     rw[XI c,XI B];show YZ some this
    .rw[YC J,YC J]
   .rintro rfl;exists λj _=>AP,AP
  rw[e]at k;show ze Vo k
def Vi(x y:Int×Ac):(Bool):=decide (x.1<y.1)||(decide (x.1=y.1)&&lexLt x.2 y.2)
def Mo{a c:Int}{t u:Tok}{r1 r2:Ag}{Q:Ae}(hl:IsTup s.m l (.int a t::.ref p::r1).o)(hb:IsTup s.m b (.int c u::.ref q::r2).o)
  (hp:IsTup s.m p xs)(hq:IsTup s.m q ys)(hi:IntsAre xs.C ns)(hj:IntsAre ys.C ms)(hr:a=c->ns=ms->r1=[]/\r2=[])(hu:A.units+2<cLine)(h:Q (.bool<|Vi (a,ns) (c,ms)) s):wpAny (model prog w) A (compareOp .Lt ↑l<|.ref b) Q E s:=by
 let u1:A.units<cLine:=J;let u2:A.in1.units<cLine:=by change A.units+1<cLine;omega
 cases c1:a=c
 .subst c1;cases c2:ns=ms
  .let⟨rfl,rfl⟩:=hr Z c2;let e:Vi (a,ns) (a,ms)=false:=by
    subst c2;change(decide (a<a)||(decide (a=a)&&lexLt ns ns))=false
    rw[My.WM];simp
   show mH (d:=2) (r:=Vi (a,ns) (a,ms)) hl hb AP u1 (λj h1 h2 UC=>?_) (λh1=>absurd h1 AP) (λ_=>by rw[e];simp) h
   match j,h1,h2,UC with
   |0,_,_,_=>show(show SeqAt.EqAt A.in1 s (.int a t) (.int a u) true from by have:=HC (A:=A.in1) (s:=s) a t a u;simpa using this)
   |1,_,_,_=>show(show SeqAt.EqAt A.in1 s ↑p ↑q true from by have:=Vy (A:=A.in1) hp hq hi hj u2;rwa[Ys c2]at this)
   |j+2,h1,_,_=>show absurd h1 AP
  .let e:Vi (a,ns) (a,ms)=lexLt ns ms:=by
    change(decide (a<a)||(decide (a=a)&&lexLt ns ms))=_
    simp
   rw[e]at h;show mH (d:=1) (r:=lexLt ns ms) hl hb AP u1 (λj h1 h2 UC=>?_) (λh1 h2 prog w E Q Nh=>?_) (λz=>absurd z AP) h
   .match j,h1,h2,UC with
    |0,_,_,_=>show(show SeqAt.EqAt A.in1 s (.int a t) (.int a u) true from by have:=HC (A:=A.in1) (s:=s) a t a u;simpa using this)
    |1,_,_,_=>show(show SeqAt.EqAt A.in1 s ↑p ↑q false from by have:=Vy (A:=A.in1) hp hq hi hj u2;rwa[YR c2]at this)
    |j+2,_,_,z=>lia
   .show(show wpAny (model prog w) A.in1 (compareOp .Lt ↑p<|.ref q) Q E s from UW hp hq hi hj u2 Nh)
 .let e:Vi (a,ns) (c,ms)=decide (a<c):=by
   change(decide (a<c)||(decide (a=c)&&lexLt ns ms))=_
   simp[c1]
  rw[e]at h;show mH (d:=0) (r:=decide<|a<c) hl hb (Yl _) u1 (λj h1 h2 UC=>?_) (λh1 h2 prog w E Q Nh=>?_) (λz=>absurd z AP) h
  .match j,h1,h2,UC with
   |0,_,_,_=>show(show SeqAt.EqAt A.in1 s (.int a t) (.int c u) false from by have:=HC (A:=A.in1) (s:=s) a t c u;rwa[show(a == c)=false by simpa using c1]at this)
   |j+1,_,_,z=>lia
  .show fR A.in1 s a t c u prog w E Q Nh
end
def VV(x:Int×Ac):Vi x x=false:=by
 change(decide (x.1<x.1)||(decide (x.1=x.1)&&lexLt x.2 x.2))=false
 rw[My.WM];simp
def Wh:Vi x y=true↔x.1<y.1\/(x.1=y.1/\lexLt x.2 y.2=true):=by unfold Vi;simp
def Vx(h1:Vi x y=true)(h2:Vi y z=true):Vi x z=true:=by
 rw[Wh]at h1 h2 ⊢;rcases h1 with a|⟨a,b⟩
 .rcases h2 with c|⟨c,d⟩
  .show .inl B
  .show .inl J
 .rcases h2 with c|⟨c,d⟩
  .show .inl J
  .show .inr {J,My.Wj b d}
end HT
namespace My
open PySem L2
def Vv{lt:Nat->Nat->Bool}(hi:∀i,lt i i=false)(ht:∀i j k,lt i j=true->lt j k=true->lt i k=true):∀j i,i<=j->lt i (argBest lt j)=false
 |0,i,h=>by
  have:i=0:=J
  subst this;show hi _
 |j+1,i,h=>by
  let ih:=Vv hi ht j;unfold argBest;cases hb:lt (j+1) (argBest lt j) with
  |true=>
   rw[if_pos Z];cases e:i=j+1
   .subst e;show hi _
   .cases hc:lt i (j+1) with
    |false=>rfl
    |true=>
     have:=ih i J
     rw[ht _ _ _ hc hb]at this;cases this
  |false=>
   rw[if_neg AP];cases e:i=j+1
   .subst e;show hb
   .show ih i B
end My
namespace L2
open PySem PySem.Spec PyProof.Rows
section
variable{prog:Program}{w:World}{A:Around}{I S:Addr}{fp wr:List Addr}{n:Nat}{P:Nat->Value->Prop}{St:Nat->Heap->Prop}{R:Result->Shared->Prop}
def Zv8(W:Walks prog w A.in1 I fp wr n P St)(lt:Nat->Nat->Bool)(C:Heap->Prop)(ck:∀h h',C h->(∀b o,b≠S->b∉wr->h.D b=some o->h'.D b=some o)->C h')(cc:∀s i j v u E Q,C s.m->i≠j->P i v->P j u->Q (.bool (lt i j)) s->wpAny (model prog w) A.in1 (compareOp .Lt v u) Q E s)(Mp:S∉fp):∀k j s vb c,n-(j+1)=k->j+1<=n->St (j+1) s.m->P (argBest lt j) vb->C s.m->
  s.m.D S=some {cls:=.type "list",dict:=none,data:=.seq #[vb,vb] c,slots:=#[]}->
  (∀v h' tk,P (argBest lt<|n-1) v->(∀b o,b≠S->b∉wr->s.m.D b=some o->h'.D b=some o)->R (.ok<|.ret v) {s with heap:=h',toks:=tk})->
  codeAny (model prog w) A (.builtin "min.loop" {[.ref I,.none,.ref S],[]}) R s:=by
 let xp:S∉wr:=λh=>Mp (W.sub _ h);let nm:(toString "min"++toString ".loop":String)="min.loop":=vg
 intro k
 induction k with
 |zero=>
  intro j s vb c hk hj st pb ta hS hR;let ej:j+1=n:=J
  show SK Kh ?_;rw[LJ Kq _];change wpAny _ A.in1 (seqItems? ↑S >>= _) _ _ s
  show XY (Rr hS Z ?_);change wpAny _ A.in1 (tryCatch (pyNext<|.ref I) _ >>= _) _ _ s
  show XY (yU<|W.done s _ _ (ej▸st) λh' tk VD=>?_);let Tb:=VD S _ xp hS
  change wpAny _ A.in1 (updateSeq S (λ_=>#[]) >>= _) _ _ _;show XY (Nw Tb Z<|XY<|Lz<|Yg ?_);show hR vb _ tk (by rwa[<-ej]) λb o b1 b2 e=>(YU _ _<|XO b1).l (VD b o b2 e)
 |succ k ih=>
  intro j s vb c hk hj st pb ta hS hR;let Xt:j+1<n:=B
  show SK Kh ?_;rw[LJ Kq _];change wpAny _ A.in1 (seqItems? ↑S >>= _) _ _ s
  show XY (Rr hS Z ?_);change wpAny _ A.in1 (tryCatch (pyNext<|.ref I) _ >>= _) _ _ s
  show XY (yU<|W.item (j+1) s _ _ Xt st λv h' tk pv XF VD=>?_);let Tb:=VD S _ xp hS
  let mG:=ck _ h' ta λb o _ b2 e=>VD b o b2 e;change wpAny _ A.in1 (tryCatch (holding [v,v]<|richCompare .Lt (v) (vb) >>= _) _ >>= _) _ _ _
  show XY (yU<|RW<|XY<|show wpAny _ _ (compareOp .Lt (v)<|vb) _ _ _ from cc {s with heap:=h',toks:=tk} (j+1) _ v vb _ _ mG (RV<|Nat.lt_succ_of_le<|My.RN _ _) pv pb ?_);show XY (RW<|NG ?_);show XY (Lz<|Yg ?_);cases hb:lt (j+1) (argBest lt j) with
  |true=>
   simp only[if_true];show XY (Nw Tb Z<|XY<|Lz ?_);rw[nm];let up:∀b o,b≠S->h'.D b=some o->(h'.update S<|Obj.mapSeq λ_=>#[v,v]).D b=some o:=λb o b1 e=>(YU _ _<|XO b1).l e
   show Yg {NC Kq _,ih (j+1) _ (v) _ B Xt (W.frame _ h' _ XF λb KW o e=>up b o (λh=>Mp<|h▸KW) e) ?_ (ck _ _ mG λb o b1 _ e=>up b o b1 e) (Vb _ Tb Z) λv' Cy OU Cw Cv=>?_}
   .unfold argBest;rw[if_pos hb];show pv
   .show hR v' Cy OU Cw λb o b1 b2 e=>Cv b o b1 b2 (up b o b1<|VD b o b2 e)
  |false=>
   simp only[Gd,if_false];show XY (Lz ?_);rw[nm];show Yg {NC Kq _,ih (j+1) _ (vb) c B Xt XF ?_ mG Tb λv' Cy OU Cw Cv=>?_}
   .unfold argBest;rwa[if_neg (by rw[hb];decide)]
   .show hR v' Cy OU Cw λb o b1 b2 e=>Cv b o b1 b2 (VD b o b2 e)
def mF(W:Walks prog w A.in1 I fp wr n P St)(lt:Nat->Nat->Bool)(C:Heap->Prop)(ck:∀h h',C h->(∀b o,b≠S->b∉wr->h.D b=some o->h'.D b=some o)->C h')(cc:∀s i j v u E Q,C s.m->i≠j->P i v->P j u->Q (.bool (lt i j)) s->wpAny (model prog w) A.in1 (compareOp .Lt v u) Q E s)(Mp:S∉fp)(hn:0<n){c:Nat}(st:St 0 s.m)(ta:C s.m)(hS:s.m.D S=some {cls:=.type "list",dict:=none,data:=.seq #[] c,slots:=#[]})
  (hR:∀v h' tk,P (argBest lt<|n-1) v->(∀b o,b≠S->b∉wr->s.m.D b=some o->h'.D b=some o)->R (.ok<|.ret v) {s with heap:=h',toks:=tk}):
  codeAny (model prog w) A (.builtin "min.loop" {[.ref I,.none,.ref S],[]}) R s:=by
 let xp:S∉wr:=λh=>Mp (W.sub _ h);let nm:(toString "min"++toString ".loop":String)="min.loop":=vg
 show SK Kh ?_;rw[LJ Kq _];change wpAny _ A.in1 (seqItems? ↑S >>= _) _ _ s
 show XY (Rr hS Z ?_);change wpAny _ A.in1 (tryCatch (pyNext<|.ref I) _ >>= _) _ _ s
 show XY (yU<|W.item 0 s _ _ hn st λv h' tk pv XF VD=>?_);let Tb:=VD S _ xp hS
 change wpAny _ A.in1 (updateSeq S (λ_=>#[v,v]) >>= _) _ _ _;show XY (Nw Tb Z ?_);rw[nm];let up:∀b o,b≠S->h'.D b=some o->(h'.update S<|Obj.mapSeq λ_=>#[v,v]).D b=some o:=λb o b1 e=>(YU _ _<|XO b1).l e
 show Yg {NC Kq _,Zv8 W lt C ck cc Mp _ 0 _ v _ Z hn (W.frame _ h' _ XF λb KW o e=>up b o (λh=>Mp<|h▸KW) e) pv (ck _ _ ta λb o b1 b2 e=>up b o b1<|VD b o b2 e) (Vb _ Tb Z) λv' Cy OU Cw Cv=>?_};show hR v' Cy OU Cw λb o b1 b2 e=>Cv b o b1 b2 (up b o b1<|VD b o b2 e)
end
section
variable{X:Cx}
def Cu(r:Vals (x::xs) us):∃u vs,us=u::vs/\RelV x u/\Vals xs vs:=by
 cases r with
 |cons a b=>exists _,_,Z,a,b
def ZU7(K:Ad)(hc:X.calm=true)(hu:X.A.units+8<cLine)(hk:X.K=K:=by rfl):Vf X (.builtin "min") (λxs H Q=>∃(p:Addr)(ys:List V)(L:List (Int×Ac))(fl:Bool),xs=[.ref p]/\SqL K H p ys/\0<ys.f/\ys.f=L.f/\
  (∀(i:Nat)(x:Int×Ac),L[i]?=some x->∃(a q:Addr)(rest:List V),ys[i]?=some ↑a/\SqT K H a (.int x.1::.ref q::rest)/\SqT K H q (x.2.H V.int)/\(fl=true->rest=[]))/\(fl=false->L.Nodup)/\
  ∀(i:Nat)(a:Addr)(x:Int×Ac),L[i]?=some x->ys[i]?=some ↑a->(∀m∈L,HT.Vi m x=false)->Q ↑a H):=by
 subst hk;intro pins s σ H xs us Q I r h;let(p,ys,L,fl,rfl,hq,hn,hl,hT,Sf,q):=h;let(u,rfl,ru):=Ut r;let rfl:u=Value.ref p:=ru;let(XX,rv,pl,hz):=I.list hq;let el:XX.f=ys.f:=rv.f.symm
 let hp:p<(~~~s):=by let(_,_,e,_):=pl;show Ym e
 let nm:(toString "min"++toString ".loop":String)="min.loop":=vg;show call_function_tree F.kind_min F.plain_min F.entry_min (F.args_min1 _) ?_;change wpAny _ X.A.in1 (Builtin.Builtins.bindParams "min" ["key","default"] 0 {[],[]} >>= _) _ _ s
 show XY (Om (a:=[none,none]) Z ?_);show XY (Yg ?_);show XY (Hw pl.isList ?_);show XY (Qg ?_);rw[nm];let W:=Walks.list (prog:=X.prog) (w:=X.w) (A:=X.A.in1) (I.ok.hd hc) (~~~s) p (Yq hp) XX.o
 obtain⟨G,hG⟩:∃G,G=s.m.push {cls:=.type "list_iterator",data:=.fields #[.ref p,.int 0 0]}:={_,Z};let e1:G.D (~~~s)=some {cls:=.type "list_iterator",data:=.fields #[.ref p,.int 0 0]}:=by rw[hG];show Yi s.m rfl
 let z1:G.objs.t=(~~~s)+1:=by rw[hG];show RY ..
 let up:∀b o,s.m.D b=some o->G.D b=some o:=λb o e=>by rw[hG];show Xo _ e
 let plG:G.IsList p XX.o:=by rw[hG];show pl.isList.push _
 rw[<-hG];let at':∀(i:Nat)(v:Value),XX.o[i]?=some v->∃(a:Addr)(x:Int×Ac)(qa:Addr)(rest:List V),L[i]?=some x/\ys[i]?=some ↑a/\v=.ref a/\SqT X.K H a (.int x.1::.ref qa::rest)/\SqT X.K H qa (x.2.H V.int)/\(fl=true->rest=[]):=λi v e=>by
  let e:XX[i]?=some v:=by simpa using e
  let hi:i<XX.f:=(Xs.G e).1;let(a,qa,rest,ea,ta,tq,tf):=hT i L[i] (XI B);let(x,ex,rx):=rv.at hi;let cB:=ea
  rw[ex]at cB;cases cB;rw[XI hi]at e;let e:XX[i]=v:=Ya e
  rw[e]at rx;exists a,L[i],qa,rest,XI B,ea,rx,ta,tq,tf
 show Yg {NC Kq _,?_};obtain⟨lt,Xt⟩:∃lt:Nat->Nat->Bool,lt=λi j=>HT.Vi (L.E i (0,[])) (L.E j (0,[])):={_,Z};show mF (A:=X.A) (S:=G.objs.t) W lt (λh=>∀b o,s.m.D b=some o->h.D b=some o) (λh h' c k b o e=>k b o (by rw[z1];show Yq<|Qh<|Ym e) (λz=>absurd (XD.G z)<|Yq<|Ym e)<|c b o e) (λs2 i j v u E Q c WI pv pu hQ=>?_) ?_ (by rw[Yc];lia) {{_,Xo _ e1,Z,Z},plG.push _} (λb o e=>Xo _<|up b o e) (Yi _ Z) λv h' tk pv VD=>?_
 .let⟨a1,x1,q1,r1,l1,_,rfl,t1,tq1,f1⟩:=at' i v pv;let(a2,x2,q2,r2,l2,_,rfl,t2,tq2,f2):=at' j u pu;let keep:∀{a:Addr}{xs:Array Value},IsTup s.m a xs->IsTup s2.m a xs:=λzz=>by let(o,ho,z):=zz;exists o,c _ o ho,z
  let(i1,v1,p1,_):=I.tuple t1;let(i2,v2,p2,_):=I.tuple t2;let(j1,w1,o1,_):=I.tuple tq1;let(j2,w2,o2,_):=I.tuple tq2;let(c1,Ct,rfl,rc1,v1'):=Cu v1;let(c2,Cs,rfl,rc2,v2'):=Cu v2;let(d1,Ct,rfl,rd1,cz):=Cu v1';let(d2,Cs,rfl,rd2,cy):=Cu v2';obtain⟨tk1,rfl⟩:∃t,c1=Value.int x1.1 t:=rc1;obtain⟨tk2,rfl⟩:∃t,c2=Value.int x2.1 t:=rc2;let rfl:d1=Value.ref q1:=rd1;let rfl:d2=Value.ref q2:=rd2;let g1:L.E i (0,[])=x1:=My.XG l1
  let g2:L.E j (0,[])=x2:=My.XG l2;show HT.Mo (keep p1) (keep p2) (keep o1) (keep o2) (by simpa using ZD w1) (by simpa using ZD w2) (λb1 b2=>?_) (by change X.A.units+1+2<cLine;lia) (by rw[Xt]at hQ;simpa only[g1,g2] using hQ);let xo:x1=x2:=Prod.ext b1 b2
  cases RQ:fl with
  |true=>
   let z1:=f1 RQ;let z2:=f2 RQ
   rw[z1]at cz;rw[z2]at cy;let a1:=cz.f
   let a2:=cy.f;exists QP.G a1.symm,QP.G a2.symm
  |false=>
   show absurd (My.Xg (Sf RQ) l1<|by rwa[xo]) WI
 .rw[z1];simp only[Ye,List.not_mem_nil,or_false,not_or];exists zd _,RV<|Qh hp
 .let⟨a,x,qa,rest,l1,y1,rfl,_⟩:=at' _ v pv;let hs:XX.o.t=ys.f:=by rwa[Yc]
  exists .ref a,H,I.kept λb o e=>VD b o ?_ ?_<|Xo _<|up b o e,Z,q _ a x l1 y1 λm hm=>?_
  .rw[z1];show Yq (Qh<|Ym e)
  .show λh=>absurd (XD.G h) (Yq<|Ym e)
  .let⟨i,hi,ei⟩:=Rm hm;let k:=My.Vv (lt:=lt) (λi=>by rw[Xt];show HT.VV _) (λi j k a b=>by rw[Xt]at a b ⊢;show HT.Vx a b) (XX.o.t-1) i J
   let g1:L.E i (0,[])=m:=by rw[WW,XI hi,ei];rfl
   let g2:L.E (argBest lt<|XX.o.t-1) (0,[])=x:=My.XG l1;rw[<-g1,<-g2];rw[Xt]at k ⊢;show k
end
end L2
namespace My
open PySem L2
section
variable{one d0 d1:Int}{other:Option Int}
def gb(one:Int)(other:Option Int)(d0 d1 y:Int):(Int):=if y=one then d0 else if some y=other then d1 else y
end
end My
namespace PyProof.Rows
open PySem
section
variable{M:Model}{A:Around}{E:Ae}{s:Shared}{O:KeyOrd}{key:Keyed->O.α}{kd:SortKind}{S:Keyed->Prop}
def mE(L:Tc M A E s O key kd S){a₀:Array Keyed}(hS:∀x∈a₀.C,S x){st:SortSt}{Q:Unit->SortSt->Prop}(hk:kindOf st=kd)(hf:failedOf st=none)(ha:arrOf st=a₀)(hp:pendingOf st=#[])(Pd:a₀.t<64)
  (h:∀XF,(arrOf XF).Perm a₀->failedOf XF=none->(arrOf XF).C.Q (RK O key)->Q () XF):wpS M A E s sortRuns' Q st:=by
 rw[sortRuns'_eq];show WG (wpS_get ?_);dsimp only;rw[ha];let pi0:PI O key kd a₀ st [] a₀.C:={hk,hf,ha▸FY _,by rw[ha];rfl,λ_ h=>(by cases h),by rw[hp];rfl}
 show WG (wpS_mono (Rj
  (I:=λx c XF=>∃lo,c=(none,lo)/\∃Xx rest,lo=Xx.flatten.f/\PI O key kd a₀ XF Xx rest/\((x=0/\Xx=[])\/(a₀.t<=lo/\Xx.f<=1)))
  (Q:=λc XF=>∃lo,c=(none,lo)/\∃Xx rest,lo=Xx.flatten.f/\PI O key kd a₀ XF Xx rest/\a₀.t<=lo/\Xx.f<=1) ?_ ?_ {0,Z,[],a₀.C,Z,pi0,.inl ⟨Z,Z⟩}) ?_)
 .rintro x c XF _ hx ⟨lo,rfl,Xx,rest,rfl,pi,RD⟩;dsimp only;cases c1:Xx.flatten.f >= a₀.t
  .rw[if_pos c1];show WO {_,Z,Xx,rest,Z,pi,c1,?_};rcases RD with ⟨_,rfl⟩|⟨_,h⟩
   .show Yl _
   .show h
  rw[if_neg c1];let rfl:Xx=[]:=by
   rcases RD with ⟨_,e⟩|⟨h,_⟩
   .show e
   .show absurd h c1
  let hz:=pi.t;let KU:∀x∈(arrOf XF).C,S x:=λx hx=>hS x ((Ku.G pi.perm).mem_iff.G hx)
  let hsz:=pi.perm.size_eq;let hmr:minRun' a₀.t a₀.t 0=a₀.t:=by obtain⟨k,VD⟩:∃k,a₀.t=k+1:={a₀.t-1,J};rw[VD,minRun'_succ,if_pos J]
  show WG (qH L pi.kind KU J J λm VI t2 RM Wf VG=>?_);dsimp only;let SD:=t2.t
  let fl0:([]:List (List Keyed)).flatten.f=0:=rfl;cases c2:m<minRun' a₀.t a₀.t 0
  .rw[if_pos c2];show WG (wpS_lift<|Uz ⟨Z,?_⟩);show WG (ZC5 L (t2.1.l pi.kind) (t2.all KU) J J VG λWk t3 hs3=>?_);rw[if_neg AP];let n1:1<=min (a₀.t-([]:List (List Keyed)).flatten.f) (minRun' a₀.t a₀.t 0):=J
   let n2:min (a₀.t-([]:List (List Keyed)).flatten.f) (minRun' a₀.t a₀.t 0)<=rest.f:=J;let n3:a₀.t<=min (a₀.t-([]:List (List Keyed)).flatten.f) (minRun' a₀.t a₀.t 0):=J
   let(run,Ud,KO,Cr,IM,IK):=pi.push n2 (t2.l t3) hs3;generalize min (a₀.t-([]:List (List Keyed)).flatten.f) (minRun' a₀.t a₀.t 0)=n at *;obtain⟨Mn,e4⟩:∃Mn,Mn=Wk:={_,Z};rw[<-e4]at IM ⊢;show WG (wpS_get ?_);cases SU:(pendingOf Mn).back? with
   |none=>
    dsimp only;let Sd:=IM
    let OT:([]:List (List Keyed)).flatten.f=([]:List (List Keyed)).flatten.f:=rfl;obtain⟨VL,e5⟩:∃VL,VL=([]:List (List Keyed)):={_,Z};obtain⟨To,Cq⟩:∃To,To=Mn:={_,Z};rw[<-e5,<-Cq]at Sd;let OT:VL.flatten.f=([]:List (List Keyed)).flatten.f:=by rw[e5]
    rw[<-Cq];show WG (wpS_modify<|WO ?_);exists _,Z,VL++[run],Ud,by rw[e5];simp[KO],{Sd.kind,Sd.fail,Sd.perm,?_,?_,?_},.inr {?_,?_}
    .change(arrOf To).C=_;rw[Sd.arr];simp
    .intro g hg;rcases Yb.G hg with hg|hg
     .show Sd.srt g hg
     .rw[XD.G hg];exists J,IK
    .change((pendingOf To).push _).C.H _=_;rw[Qd,YD,Sd.pend,Jo,Ot,OT];simp[UK,KO]
    .lia
    .rw[e5];show XQ _
   |some p=>
    exfalso;let ps:=IM.psize
    rw[gV ps]at SU;cases SU
  .rw[if_neg c2];let(run,Ud,KO,Cr,IM,IK):=pi.push J t2 VG;obtain⟨n,en⟩:∃n,n=m:={_,Z};let n3:a₀.t<=m:=J
   rw[<-en]at KO Cr n3 ⊢;obtain⟨Mn,e4⟩:∃Mn,Mn=VI:={_,Z};rw[<-e4]at IM ⊢;show WG (wpS_get ?_);cases SU:(pendingOf Mn).back? with
   |none=>
    dsimp only;let Sd:=IM
    let OT:([]:List (List Keyed)).flatten.f=([]:List (List Keyed)).flatten.f:=rfl;obtain⟨VL,e5⟩:∃VL,VL=([]:List (List Keyed)):={_,Z};obtain⟨To,Cq⟩:∃To,To=Mn:={_,Z};rw[<-e5,<-Cq]at Sd;let OT:VL.flatten.f=([]:List (List Keyed)).flatten.f:=by rw[e5]
    rw[<-Cq];show WG (wpS_modify<|WO ?_);exists _,Z,VL++[run],Ud,by rw[e5];simp[KO],{Sd.kind,Sd.fail,Sd.perm,?_,?_,?_},.inr {?_,?_}
    .change(arrOf To).C=_;rw[Sd.arr];simp
    .intro g hg;rcases Yb.G hg with hg|hg
     .show Sd.srt g hg
     .rw[XD.G hg];exists J,IK
    .change((pendingOf To).push _).C.H _=_;rw[Qd,YD,Sd.pend,Jo,Ot,OT];simp[UK,KO]
    .lia
    .rw[e5];show XQ _
   |some p=>
    exfalso;let ps:=IM.psize
    rw[gV ps]at SU;cases SU
 .rintro c XF ⟨lo,rfl,Xx,rest,e,pi,RD⟩;exists lo,Z,Xx,rest,e,pi,?_;rcases RD with ⟨h0,rfl⟩|h
  .exists by have:lo=0:=e;lia,Yl _
  .show h
 .rintro c XF ⟨lo,rfl,Xx,rest,e,pi,RD,KQ⟩;dsimp only;show WG (wpS_mono (Rj
   (I:=λx c VI=>c=(none,())/\∃Xx,PI O key kd a₀ VI Xx rest/\a₀.t<=Xx.flatten.f/\Xx.f<=1)
   (Q:=λc VI=>c=(none,())/\∃Xx,PI O key kd a₀ VI Xx rest/\a₀.t<=Xx.flatten.f/\Xx.f<=1) ?_ (λ_ _ z=>z) ⟨Z,Xx,pi,J,KQ⟩) ?_)
  .rintro x c VI _ hx ⟨rfl,OS,KN,Ti,hc⟩;show WG (wpS_get ?_);let c1:(pendingOf VI).t<=1:=by rwa[KN.psize]
   rw[if_pos c1];show WO ⟨Z,OS,KN,Ti,hc⟩
  .rintro c VI ⟨rfl,OS,KN,Ti,hc⟩;show WO (h VI KN.perm KN.fail ?_);let hr:rest=[]:=by have:=KN.t;show QP.G J
   rw[KN.arr,hr,WH]
   match OS,hc,KN.srt with
   |[],_,_=>show List.Q.nil
   |[g],_,hg=>simpa using (hg g Yd).2
end
end PyProof.Rows
namespace L2
open PySem PySem.Spec PyProof.Rows
section
variable{prog:Program}{w:World}{A:Around}{E:Ae}{s:Shared}
def Zo6{key:Keyed->O.α}{kd:SortKind}{P:Fin->Shared->Prop}(ho:s.m.D a=some (seqObj "list" vs.o n))(hz:vs.f<64)
  (Cp:∀h':Heap,sameBut a s.m h'->2<=vs.f->∀Q:SortKind->Shared->Prop,Q kd {s with heap:=h'}->wpAny (model prog w) A (keyKind' vs.o) Q E {s with heap:=h'})
  (L:∀h':Heap,sameBut a s.m h'->Tc (model prog w) A E {s with heap:=h'} O key kd λx=>x∈(pairsOf vs).C)
  (h:∀out:Array Keyed,out.Perm (pairsOf vs)->out.C.Q (RK O key)->P (.done<|.ret .none) {s with heap:=sortedHeap s.m a vs (out.H (·.2))}):wpAny (model prog w) A (Builtin.«list.sort» {[.ref a],[]}) P E s:=by
 let KQ:sizeLine=16777216:=TF;let ha:a<(~~~s):=Ym ho
 obtain⟨e1,Co⟩:∃e1,(s.m.update a<|Obj.mapSeq λ_=>(#[]:Array Value)).D a=some (seqObj "list" #[] e1):={_,FN ho λ_=>#[]};rw[list_sort_plain];show XY (FJ ho Z<|XY<|Oq ho Z ?_ (by rw[Yc];lia)<|Yl _);show XY (seqEpoch_at Co Z<|XY<|yS ?_<|by simp;omega);show XY (LD<|RW ?_);let sm:sameBut a s.m (((s.m.update a<|Obj.mapSeq λ_=>#[]).push (seqObj "tuple" vs.o 0)).push (seqObj "list" #[] 0)):=λb o hb e=>Xo _ (Xo _<|(YU _ _<|XO hb).l e)
 let xn:(((s.m.update a<|Obj.mapSeq λ_=>#[]).push (seqObj "tuple" vs.o 0)).push (seqObj "list" #[] 0)).D a=some (seqObj "list" #[] e1):=Xo _ (Xo _ Co);change wpAny (model prog w) A _ P E {s with heap:=((s.m.update a<|Obj.mapSeq λ_=>#[]).push (seqObj "tuple" vs.o 0)).push (seqObj "list" #[] 0)}
 dsimp only;let VG:vs.o.t=vs.f:=AP
 cases h2:vs.o.t<2
 .rw[if_pos h2,if_pos h2];show XY (Yg ?_);rw[StateT.run_pure];show XY (Yg ?_);dsimp only;show XY (seqEpoch_at xn Z<|XY<|Oq xn Z ?_ (Yl _)<|by rw[Array.size_map];change(pairsOf vs).t<=sizeLine+1;rw[pairsOf_size];lia);simp only[vM,Gd,if_false];show Yg (h (pairsOf vs) (FY _) ?_);show qC (by rw[YA,pairsOf_size];lia)
 .rw[if_neg h2,if_neg h2];show XY (Cp _ sm J _ ?_);show XY (Ts (mE (L _ sm) (a₀:=pairsOf vs) (λx hx=>hx) (st:=SortSt.mk' kd (vs.o.zip vs.o) #[] 7 none)
   (Q:=λ_ XF=>(arrOf XF).Perm (pairsOf vs)/\failedOf XF=none/\(arrOf XF).C.Q (RK O key)) Z Z Z Z (by rw[pairsOf_size];lia) λXF a1 a2 a3=>⟨a1,a2,a3⟩) ?_ λ_ _ e=>e)
  rintro⟨⟨⟩,XF⟩ s' ⟨rfl,hp,hf,hs⟩;dsimp only;let hsz:(arrOf XF).t=vs.f:=hp.size_eq.l (pairsOf_size _)
  show XY (seqEpoch_at xn Z<|XY<|Oq xn Z ?_ (Yl _)<|by show YB (yN<|(Array.size_map ..).l hsz) ?_;lia);rw[hf];simp only[vM,Gd,if_false];show Yg (h _ hp hs)
def ZU3{key:Keyed->O.α}{kd:SortKind}{Q:Ae}(hl:s.m.IsList l vs.o)(hz:vs.f<64)
  (Cp:∀A h',(∀b o,s.m.D b=some o->h'.D b=some o)->2<=vs.f->∀E Q,Q kd {s with heap:=h'}->wpAny (model prog w) A (keyKind' vs.o) Q E {s with heap:=h'})
  (L:∀A' h' E,A'.units<=A.units+4->(∀b o,s.m.D b=some o->h'.D b=some o)->Tc (model prog w) A' E {s with heap:=h'} O key kd λx=>x∈(pairsOf vs).C)
  (h:∀out:Array Keyed,out.Perm (pairsOf vs)->out.C.Q (RK O key)->Q (.ref<|(~~~s)+1) {s with heap:=sortedAll s.m vs (out.H (·.2))}):wpAny (model prog w) A (call (.builtin "sorted") [.ref l]) Q E s:=by
 let hsz:((s.m.push<|seqObj "list" #[] 0).update (~~~s) (Obj.mapSeq (·++vs.o))).objs.t=(~~~s)+1:=by rw[Heap.size_update,size_push']
 let Kd:(((s.m.push<|seqObj "list" #[] 0).update (~~~s) (Obj.mapSeq (·++vs.o))).push (seqObj "list" vs.o 0)).D ((~~~s)+1)=some (seqObj "list" vs.o 0):=hsz▸Yi _ rfl;let KQ:sizeLine=16777216:=TF
 show Calls.call_function_entry kind_sorted plain_sorted entry_sorted (args_sorted1 _) ?_;unfold Builtin.«sorted»;show XY (m:=checkCount "sorted" 1 1 _) (Yg<|XY<|collect_list hl ?_ J);show XY (LD ?_ B);change wpAny _ _ _ _ _ {s with heap:=((s.m.push<|seqObj "list" #[] 0).update (~~~s) (Obj.mapSeq (·++vs.o))).push (seqObj "list" vs.o 0)}
 rw[hsz];let old:∀b o,s.m.D b=some o->(((s.m.push<|seqObj "list" #[] 0).update (~~~s) (Obj.mapSeq (·++vs.o))).push (seqObj "list" vs.o 0)).D b=some o:=λb o e=>
  Xo _ ((YU _ _<|XO<|Yq<|Ym e).l (Xo _ e))
 let ne:∀b o,s.m.D b=some o->b≠(~~~s)+1:=λb o e=>Yq (Qh<|Ym e);show XY (RW<|Rv slot_list_sort ⟨_,Kd,rfl⟩ entry_list_sort (Zo6 (O:=O) (key:=key) (kd:=kd) Kd hz (λh' k h2 Q q=>Cp _ h' (λb o e=>k b o (ne b o e)<|old b o e) h2 _ Q q) (λh' k=>L _ h' _ (by first|(show A.units+1<=A.units+4;omega)|(show A.units+1+1<=A.units+4;lia)|(show A.units<=A.units+4;omega)) λb o e=>k b o (ne b o e)<|old b o e) λout a1 a2=>{_,rfl,?_})<|args_list_sort _)
 show Yg {_,Z,h out a1 a2}
end
def TL(l:List Str):(List V):=l.H V.str
def cx:∀{l:List Str}{us:Ag},Vals (TL l) us->∃k:List (Str×Tok),us=strValues k/\k.H (λx=>x.fst)=l
 |[],_,.nil=>{[],Z,Z}
 |x::l,_,.cons r t=>by let(tk,rfl):=r;let(k,rfl,h):=cx (l:=l) t;exists (x,tk)::k,Z,by rw[YJ,h]
section
variable{X:Cx}
def mD(K:Ad):(V->List V->Hp->VK->Prop):=λx vs H Q=>∃sep a l,x=.str sep/\vs=[.ref a]/\SqL K H a (TL l)/\JoinOk sep l=true/\Q (.str<|sep.join l) H
def cv(K:Ad)(h:X.K=K:=by rfl):Oe X "str.join" (mD K):=by subst h;intro pins s σ H x vs v us Q I rx rv h;let(sep,a,l,rfl,rfl,hq,hj,q):=h;let(tk,rfl):=rx;let(u,rfl,ru):=rv.one;cases ru;let(XX,r,pl,hz):=I.list hq;let(k,rfl,hk):=cx r;show PySem.SC.join pl.isList hk hj λt' n=>{.str _,H,I.tok n,⟨t',Z⟩,?_};rwa[show Txt.join sep l=sep.join l from PySem.StrLaws.glued_eq_join sep l]
def xm:Vf X (.type "str") (λxs H Q=>∃i:Int,xs=[.int i]/\-(10^70)<i/\i<10^70/\Q (.str (Str.Y (toString i))) H):=by intro pins s σ H xs us Q I r h;let(i,rfl,h1,h2,q):=h;show Zp4 pins s σ H _ us Q I r {i,Z,Zx8 h1 h2,q}
end
def cq:∀l n,Vals (TL l) (strsFrom n l)
 |[],_=>.nil
 |_::l,n=>.cons ⟨n,Z⟩ (cq l<|n+1)
section
variable{X:Cx}
def mC:(V->List V->Hp->VK->Prop):=λx vs H Q=>∃z y,x=.str z/\vs=[.str y]/\(y.f == 0)=false/\z.f<=sizeLine/\(Txt.split z y).f<=sizeLine/\∀p,H p=none->Q ↑p (upd H p<|.lst<|TL<|Txt.split z y)
def cp:Oe X "str.split" mC:=by
 intro pins s σ H x vs v us Q I rx rv h;let(z,y,rfl,rfl,hy,hz,hl,q):=h;let(t,rfl):=rx;let(u,rfl,ru):=rv.one;let(u',rfl):=ru;let self:Txt.split z y=[z]->EP X pins σ Q (.ref (~~~s)) {s with heap:=s.m.push {cls:=.type "list",data:=.seq #[.str z t]} }:=λe=>by rw[e]at q;exists .ref (~~~s),_,I.laid (t':=s.toks) (o:=.lst<|TL [z]) (λb ob q=>Xo _ q) (XQ _) ?_,Z,q _<|I.hok.fresh<|XQ _;exists by rw[e]at hl;show hl,[.str z t],0,.cons ⟨t,Z⟩ .nil,Yi _ Z
 cases c1:(decide (z.f<y.f)||decide (Builtin.Str.strKind z<Builtin.Str.strKind y))=true
 .let e:Txt.split z y=[z]:=by unfold Txt.split;rw[if_pos c1]
  show Uy Gn (Hs _ _ _) vY (wd _ _) (meets_str_split_cannot_occur z y t u' c1) (self e)
 .let cn:=zg.L c1;cases c2:(Builtin.Str.occurrences z y 0 z.f<|z.f+1).isEmpty=true
  .let e:Txt.split z y=[z]:=by unfold Txt.split;rw[if_neg c1,if_pos c2]
   show Uy Gn (Hs _ _ _) vY (wd _ _) (meets_str_split_not_found z y t u' cn hy c2) (self e)
  .let e:Txt.split z y=Builtin.Str.partsBetween z (Builtin.Str.occurrences z y 0 z.f<|z.f+1) y.f:=by unfold Txt.split;rw[if_neg c1,if_neg c2]
   rw[e]at hl q;show Uy Gn (Hs _ _ _) vY (wd _ _) (meets_str_split_sep z y t u' cn hy (zg.L c2) hz hl) ?_;exists .ref (~~~s),_,I.laid (o:=.lst<|TL<|Builtin.Str.partsBetween z (Builtin.Str.occurrences z y 0 z.f<|z.f+1) y.f) (λb ob q=>Xo _ q) (XQ _) ?_,Z,q _<|I.hok.fresh<|XQ _;exists by unfold TL;rw[Xy];show hl,_,0,cq _ _,Yi _ Z
def mz:(V->List V->Hp->VK->Prop):=λx vs H Q=>∃z y,x=.str z/\vs=[.str y]/\Q (.bl<|Txt.startswith z y) H
def Zt8:Oe X "str.startswith" mz:=by intro pins s σ H x vs v us Q I rx rv h;let(z,y,rfl,rfl,q):=h;let(t,rfl):=rx;let(u,rfl,ru):=rv.one;let(u',rfl):=ru;show PySem.SC.startswith {.bl _,H,I,Z,q}
def ZW8:Vf X (.type "int") (λxs H Q=>∃z n,xs=[.str z]/\intText? z=some n/\z.f<=640/\Q (.int n) H):=by intro pins s σ H xs us Q I r h;let(z,n,rfl,hz,hl,q):=h;let(u,rfl,ru):=Ut r;let(t,rfl):=ru;show PySem.W.KIN.call_text hz hl {.int n,H,I.tok _,{_,Z},q}
def my(z:Str):(It):={λi _=>i<z.cps.t,λi H x H'=>H'=H/\∃c,z.cps[i]?=some c/\x=.str {#[c]},λi _=>z.cps.t<=i}
def mx{P:Program}{w:World}{K:Ad}{tg:Expr}(z:Str)(t:Tok)(it:Addr):Turn P w K tg (my z) [it] it (λi h=>h.IsStrIter it "str_ascii_iterator" z t i) where
 mem:=AP
 obj:=λi h st b hb=>by
  let e:b=it:=by simpa using hb
  subst e;let(o,e,c,d):=st;exists o,e,λv z=>by rw[d]at z;cases z
 keep:=λi h h' st k=>by let(o,e,c,d):=st;exists o,k it AP o e,c,d
 item:=by
  intro X hP hw hK hc i pins s σ H E I hf st hg;subst hP hw hK;obtain⟨c,Xe⟩:∃c,z.cps[i]?=some c:={_,YL hg};let(f0,f1,f2,f3,f4,f5):=hf it AP;show wpAny_pyNext_ascii_item st Xe λh' XF sb=>?_;let I1:Inv X pins σ H {s with heap:=h',toks:=s.toks+1}:=I.turned (λb o hb e=>(sb.2 b hb).l e) f0 f1 f3 f4 f5
  let(o,e,c',d):=id XF;exists _,Z,Nn (s:={s with heap:=h',toks:=s.toks+1}) e c' d vg {.str {#[c]},H,I1,{_,Z},⟨Z,c,Xe,Z⟩,XF,λb hb=>(hf b hb).1}
 done:=by intro X hP hw hK hc i pins s σ H E I hf st hg;subst hP hw hK;let(f0,f1,f2,f3,f4,f5):=hf it AP;show wpAny_pyNext_ascii_end (I.ok.hd hc) st (Gi hg) λh' eb=>{Z,I.turned (t':=s.toks) (λb o hb e=>eb b o hb e) f0 f1 f3 f4 f5}
 self:=λ_ _ _ _ _ st h=>wpAny_pyIter_striter_ascii st h
def mw(tl:TE):(TI):=λσ H R=>tl σ H λx H1=>∃z:Str,x=.str z/\(z.cps.all λc=>decide<|c<128)=true/\R (my z) H1
def mv{l tg:Expr}{tl:TE}(hl:PE X l tl):PI X tg l (mw tl):=by
 intro pins s σ H R I h;show thn (hl pins s σ H _ I h) λv s1 XA=>?_;let(x,H1,I1,r1,q1):=XA;let(z,e,ha,q):=q1;subst e;let(t,rfl):=r1;show wpAny_pyIter_ascii ha ?_;exists (~~~s1),[(~~~s1)],_,_,H1,Z,I1.kept (t':=s1.toks) λb o e=>Xo _ e,mx z t _,{_,Yi _ Z,Z,Z},λb hb=>?_,q;let e:b=(~~~s1):=by simpa using hb
 subst e;show I1.fpOk (XQ _) (I1.hok.fresh<|XQ _)
def mr:(V->Option Int->Option Int->Hp->VK->Prop):=λx lo hi H Q=>∃z:Str,x=.str z/\(StrLaws.sliceText z lo hi).f<=sizeLine/\Q (.str<|StrLaws.sliceText z lo hi) H
def cm(h:IsPart v o):∃l:Option (Int×Tok),v=partValue l/\l.H (λx=>x.fst)=o:=by
 cases h with
 |none=>exists none,Z,Z
 |int i t=>exists some (i,t),Z,Z
def mq:yp X mr:=by
 intro pins s σ H x v vl vu lo hi sl Q I rx hs pl pu h;let(z,rfl,hz,q):=h;let(t,rfl):=rx;exists "str",_,slot_str_getitem.M,Hs s z t,?_;let(l,rfl,e1):=cm pl;let(u,rfl,e2):=cm pu;subst e1 e2;show wpAny_getItem_str_slice (l:=l) (u:=u) (st:=none) hs vi ?_;unfold StrLaws.sliceText at hz q;unfold sliceMade slicePicked;change Made.post (if (1 == 1&&(Builtin.Str.strSliceIndices (l.H λx=>x.fst) (u.H λx=>x.fst) 1 z.f).f == z.f)=true then _ else _) _ s
 split at hz
 .rename_i c;rw[if_pos c]at q;rw[if_pos c];exists .str z,H,I,⟨t,Z⟩,q
 .rename_i c;rw[if_neg c]at q;rw[if_neg c];exists hz,.str _,H,I.tok _,{_,Z},q
end
end L2
namespace My
open PySem L2
section
variable{g:TG}{tt:TT}{te:TE}{o:Nat}{fr:List Nat}{σ:L2.St}{H:Hp}{Q:VK}
def Cn(Pv:Nat->List V->Hp->Prop)(h0:Pv 0 [] H)(hz:z.cps.t<sizeLine)(hl:∀i ys H,i<=z.cps.t->Pv i ys H->ys.f<=i)
  (hs:∀i c ys H,z.cps[i]?=some c->Pv i ys H->Lh Pv g tt te o fr σ i (.str {#[c]}) ys H)(hd:∀ys H,Pv z.cps.t ys H->∀p,H p=none->Q ↑p (upd H p<|.lst ys)):Od (my z) g tt te o fr σ H Q:=by
 exists λi m ys H=>m=z.cps.t-i/\i<=z.cps.t/\Pv i ys H,{z.cps.t,AP,Yl _,h0},?_;rintro i m ys H ⟨rfl,hi,p⟩;let hy:=hl i ys H hi p
 cases Xt:i<z.cps.t
 .show .inr {Xt,J,λx H' zz=>?_};let(e,c,hc,y):=zz;subst e;subst y;show hs i c ys _ hc p (λj ys H=>∃m',m'<z.cps.t-i/\m'=z.cps.t-j/\j<=z.cps.t/\Pv j ys H) λys H p'=>{z.cps.t-(i+1),vk,Z,Xt,p'}
 .let e:i=z.cps.t:=J;subst e;show .inl {XQ _,J,hd ys H p}
end
def nT(i:Int):(Str):=Str.Y (toString i)
def dg(m:Nat):(List Nat):=(Nat.toDigits 10 m).H Char.j
def NU(i:Int):(List Nat):=if i<0 then 45::dg i.natAbs else dg i.natAbs
def Cm(i:Int):(nT i).cps.C=NU i:=by
 unfold nT NU;cases i with
 |ofNat m=>
  rw[if_neg (show ¬Int.ofNat m<0 from FK.L<|Int.natCast_nonneg m)];show W.KIN.signs_num m
 |negSucc m=>
  rw[if_pos (Int.negSucc_lt_zero m)];let e:(Str.Y<|toString ((m+1:Nat):Int)).cps.C=dg (m+1):=W.KIN.signs_num (m+1)
  rw[Str.ofString_eq_toList]at e ⊢;let e2:(toString<|Int.negSucc m).C='-'::(toString ((m+1:Nat):Int)).C:=by change("-"++toString (m+1)).C='-'::(toString<|m+1).C;rw[String.toList_append];rfl
  rw[e2,YJ];change 45::List.H Char.j _=45::dg (m+1)
  rw[<-e]
def cg{d:Nat}(h:d<10):(Nat.digitChar d).j=48+d:=(by decide:∀d<10,(Nat.digitChar d).j=48+d) d h
def RC(h:m<10):dg m=[48+m]:=by unfold dg;rw[Nat.toDigits_of_lt_base h,Ge,cg h]
def RB(h:10<=m):dg m=dg (m/10)++[48+m%10]:=by unfold dg;rw[Nat.toDigits_of_base_le vg h,YD,Ge,cg (Nat.mod_lt _ vg)]
def GK(m:Nat):NumText.AllDigits (dg m):=by
 induction m using Nat.strongRecOn with
 |ind m ih=>
  intro c hc;cases h:m<10
  .rw[RC h]at hc
   have:=XD.G hc
   lia
  .rw[RB J]at hc;rcases Yb.G hc with q|q
   .show ih (m/10) J c q
   .have:=XD.G q
    grind
def Mm(m:Nat):dg m≠[]:=by
 cases h:m<10
 .rw[RC h];simp
 .rw[RB B];simp
def Ck(m:Nat):NumText.digitsVal (dg m)=m:=by
 induction m using Nat.strongRecOn with
 |ind m ih=>
  cases h:m<10
  .rw[RC h];change 0*10+(48+m-48)=m
   lia
  .rw[RB B,NumText.digitsVal_snoc,ih (m/10) B];lia
def Cj{m k:Nat}(hk:1<=k)(h:m<10^k):(dg m).f<=k:=by unfold dg;rw[Xy];show toDigits_len_pow vg hk h
def ml(h:0<m):∃c r,dg m=c::r/\c≠48:=by
 induction m using Nat.strongRecOn with
 |ind m ih=>
  cases c:m<10
  .exists 48+m,[],RC c,J
  .let⟨a,r,e,ne⟩:=ih (m/10) B J;exists a,r++[48+m%10],by rw[RB B,e];rfl,ne
def Ml(x:Str):x.f=x.cps.C.f:=by change x.cps.t=_;rw[YA]
def Ci{x y:Str}(h:x.cps.C=y.cps.C):x=y:=Str.ext' (Array.toList_inj.G h)
def mj{k:Nat}(hk:1<=k)(h1:-(10^k)<i)(h2:i<10^k):(NU i).f<=k+1:=by
 let e:((10^k:Nat):Int)=(10:Int)^k:=by rw[Int.natCast_pow];rfl
 rw[<-e]at h1 h2
 have:=Cj hk (m:=i.natAbs) vk
 unfold NU;split
 .rw[Yx];lia
 .lia
def Cg{k:Nat}(hk:1<=k)(h1:-(10^k)<i)(h2:i<10^k):(nT i).f<=k+1:=by rw[Ml,Cm];show mj hk h1 h2
def mi{k:Nat}(hk:1<=k)(h4:k<=4000)(h1:-(10^k)<i)(h2:i<10^k):intText? (nT i)=some i:=by
 let hl:=Cg hk h1 h2;let e:=Cm i
 unfold NU at e;split at e
 .rw[intText_neg e (GK _) (Mm _) J,Ck];congr 1;grind
 .rw[intText_digits (by rw[e];show GK _) (by rw[e];show Mm _) B,e,Ck];congr 1;lia
def Wq(cs:List Nat):(List Nat):=if cs.head?=some 45 then cs.tail else cs
def GJ(cs:List Nat):(Bool):=decide (1<=(Wq cs).f/\(Wq cs).f<=60/\(∀c∈Wq cs,48<=c/\c<=57)/\(cs=[48]\/(Wq cs).head?≠some 48))
def mh(m:Nat):(dg m).head?≠some 45:=λh=>by
 cases e:dg m with
 |nil=>show Mm m e
 |cons c r=>
  rw[e]at h;let hc:c=45:=Ya h
  have:=GK m c (by rw[e];show Yd)
  lia
def mf(i:Int):Wq (NU i)=dg i.natAbs:=by
 unfold Wq NU;split
 .rfl
 .rw[if_neg (mh _)]
def me(h1:-(10^60)<i)(h2:i<10^60):GJ (NU i)=true:=by
 show Ys ?_;rw[mf];exists List.length_pos_iff.L<|Mm _,Cj (k:=60) vg B,GK _,?_;cases c:i=0
 .subst c;show .inl rfl
 .let⟨a,r,e,ne⟩:=ml (m:=i.natAbs) J;show .inr ?_;rw[e];intro q;show ne (Ya q)
def jn(c:Nat):(List (List Nat)->List Nat)
 |[]=>[]
 |[a]=>a
 |a::b::l=>a++c::jn c (b::l)
def Cf(c:Nat):∀l:List Str,(Str.join {#[c]} l).cps.C=jn c (l.H λx=>x.cps.C)
 |[]=>rfl
 |[a]=>rfl
 |a::b::l=>by
  let ih:=Cf c (b::l);change((a++{#[c]}++Str.join {#[c]} (b::l)):Str).cps.C=a.cps.C++c::jn c ((b::l).H λx=>x.cps.C)
  rw[<-ih,Str.cps_append,Str.cps_append,vP,vP,QF];rfl
def cf{c:Nat}:∀{a b x y:List Nat},c∉a->c∉b->a++c::x=b++c::y->a=b/\x=y
 |[],[],_,_,_,_,e=>{Z,(FT e).2}
 |[],b::bs,_,_,_,hb,e=>absurd (Yd) ((FT e).1▸hb)
 |a::as,[],_,_,ha,_,e=>absurd (Yd) ((FT e).1▸ha)
 |a::as,b::bs,x,y,ha,hb,e=>by let(e1,e2):=FT e;let(h1,h2):=cf (a:=as) (b:=bs) (λh=>ha<|Yf _ h) (λh=>hb<|Yf _ h) e2;exists by rw[e1,h1],h2
def KL:∀{A uX:List (List Nat)},A≠[]->uX≠[]->(∀a∈A,c∉a)->(∀b∈uX,c∉b)->jn c A=jn c uX->A=uX
 |[],_,h,_,_,_,_=>absurd Z h
 |_,[],_,h,_,_,_=>absurd Z h
 |[a],[b],_,_,_,_,e=>by let e:a=b:=e;rw[e]
 |[a],b::b'::uX,_,_,ha,_,e=>by let e:a=b++c::jn c (b'::uX):=e;show absurd (by rw[e];simp) (ha a Yd)
 |a::a'::A,[b],_,_,_,hb,e=>by let e:a++c::jn c (a'::A)=b:=e;show absurd (by rw[<-e];simp) (hb b Yd)
 |a::a'::A,b::b'::uX,_,_,ha,hb,e=>by let(e1,e2):=cf (ha a Yd) (hb b Yd) (show a++c::jn c (a'::A)=b++c::jn c (b'::uX) from e);rw[e1,KL (A:=a'::A) (uX:=b'::uX) AP AP (λx hx=>ha x<|Yf _ hx) (λx hx=>hb x<|Yf _ hx) e2]
def ma(x y:Str):Txt.split x y≠[]:=by
 unfold Txt.split;split
 .simp
 .split
  .simp
  .rw[StrLaws.partsBetween_eq];let(p,r,e):=StrLaws.partsFrom_ne x y.f 0 (Builtin.Str.occurrences x y 0 x.f<|x.f+1);rw[e];simp
def b9{c:Nat}{l:List Str}(hl:l≠[])(hf:∀p∈l,c∉p.cps.C):Txt.split (Str.join {#[c]} l) {#[c]}=l:=by
 let e:=StrLaws.join_split (Str.join {#[c]} l) {#[c]};let e2:=YZ (λx:Str=>x.cps.C) e
 rw[Cf,Cf]at e2;let m:=KL (by simpa using ma _ _) (by simpa using hl) (λa ha=>by
  let(p,hp,rfl):=Yp.G ha;show StrLaws.split_free _ c p hp) (λa ha=>by let(p,hp,rfl):=Yp.G ha;show hf p hp) e2
 show(Kj λx y h=>Ci h).G m
def QS{mg:Af}{z:Str}{v:Value}(X:K.In h)(G:h.Ns mainGlobals mg)(a:PySem.W.nsIn K mainGlobals x=some (some v))(e:∃tk,v=.str z tk):∃tk,mg x=some (.str z tk):=by let(tk,rfl):=e;exists tk,FU X G a
def Vh:(Str):=Str.Y " "
def Ce:(Str):=Str.Y "\n"
def QR(p:Int×Int)(l:Int):(Str):=Str.join Vh [Str.Y "tie",nT p.1,nT p.2,nT l]
def Wy(n:Int)(ps:Aa)(ls:Ac):(List Str):=(Str.Y "places "++nT n)::List.zipWith QR ps ls
def UE(n:Int)(ps:Aa)(ls:Ac):(Str):=Str.join Ce (Wy n ps ls)
def Cd:Vh={#[32]}:=by rfl
def IJ:Ce={#[10]}:=by rfl
def b8(n:Int):Str.Y "places "++nT n=Str.join Vh [Str.Y "places",nT n]:=by let e:Str.Y "places "=Str.Y "places"++Vh:=vi;rw[e];rfl
def bZ{c:Nat}(h:c∈NU i):c=45\/48<=c/\c<=57:=by
 unfold NU at h;split at h
 .rcases Ye.G h with e|e
  .show .inl e
  .show .inr (GK _ c e)
 .show .inr (GK _ c h)
def bY{c:Nat}(h1:c≠45)(h2:c<48\/57<c):c∉(nT i).cps.C:=λh=>by rw[Cm]at h;rcases bZ h with e|e<;>lia
def l9(i:Int):((nT i).cps.all λc=>decide (c<128))=true:=by rw[<-Array.all_toList,Cm,Rw];intro c hc;show Ys ?_;rcases bZ hc with e|e<;>lia
def KJ{c x:Nat}:∀{A:List (List Nat)},x∈jn c A->x=c\/∃a∈A,x∈a
 |[],h=>by cases h
 |[a],h=>.inr ⟨a,Yd,h⟩
 |a::b::A,h=>by
  let h:x∈a++c::jn c (b::A):=h;rcases Yb.G h with h|h
  .show .inr ⟨a,Yd,h⟩
  .rcases Ye.G h with h|h
   .show .inl h
   .rcases KJ h with e|⟨y,hy,hx⟩
    .show .inl e
    .show .inr {y,Yf _ hy,hx}
def KI{c uX:Nat}:∀{A:List (List Nat)},(∀a∈A,a.f<=uX)->(jn c A).f<=A.f*(uX+1)
 |[],_=>Yl _
 |[a],h=>by
  have:=h a Yd
  change a.f<=1*(uX+1);lia
 |a::b::A,h=>by
  let h1:=h a Yd;let ih:=KI (c:=c) (A:=b::A) λx hx=>h x (Yf _ hx)
  change(a++c::jn c (b::A)).f<=_;rw[Xm,Yx,Yx,Nat.add_mul];lia
def l8{c uX:Nat}{l:List Str}(h:∀a∈l,a.f<=uX):(Str.join {#[c]} l).f<=l.f*(uX+1):=by rw[Ml,Cf];show YB (KI (uX:=uX) λa ha=>?_) (by rw[Xy];show XQ _);let(p,hp,rfl):=Yp.G ha;rw[<-Ml];show h p hp
def bX{c uX:Nat}{l:List Str}(h:∀a∈l,a.f<=uX)(hl:l.f*uX+l.f<=16777216):JoinOk {#[c]} l=true:=by unfold JoinOk;rw[StrLaws.joinFits h (by change l.f*uX+l.f*1<=_;lia)];rfl
def Told(l:Ac):(Prop):=∀z∈l,-(10^60)<z/\z<(10:Int)^60
def l7(h:Told l):∀a∈l.H nT,a.f<=61:=λa ha=>by let(z,hz,rfl):=Yp.G ha;show Cg (k:=60) vg (h z hz).1 (h z hz).2
def Cc{name:Str}{l:Ac}(hn:32∉name.cps.C):Txt.split (Str.join Vh (name::l.H nT)) Vh=name::l.H nT:=by
 rw[Cd];show b9 AP λp hp=>?_;rcases Ye.G hp with e|e
 .rw[e];show hn
 .let⟨z,_,rfl⟩:=Yp.G e;show bY vg (.inl vg)
def bW{name:Str}{l:Ac}(hn:10∉name.cps.C):10∉(Str.join Vh (name::l.H nT)).cps.C:=λh=>by
 rw[Cd,Cf]at h;rcases KJ h with e|⟨a,ha,hx⟩
 .cases e
 .let⟨p,hp,rfl⟩:=Yp.G ha;rcases Ye.G hp with e|e
  .rw[e]at hx;show hn hx
  .let⟨z,_,rfl⟩:=Yp.G e;show bY vg (.inl vg) hx
def Cb:Txt.split (UE n ps ls) Ce=Wy n ps ls:=by
 unfold UE;rw[IJ];show b9 (by unfold Wy;simp) λp hp=>?_;rcases Ye.G hp with e|e
 .rw[e,b8];show bW (l:=[n]) vg
 .let⟨i,hi,e⟩:=Rm e;rw[List.getElem_zipWith]at e;rw[<-e];show bW (l:=[_,_,_]) vg
def Zd8(w:Str):Txt.startswith w (Str.Y "-")=decide (w.cps.C.head?=some 45):=by
 let h:=StrLaws.subAt_one w 45 0;let e:Str.Y "-"=⟨#[45]⟩:=vi
 rw[e];unfold Txt.startswith;rw[List.head?_eq_getElem?];cases c:w.cps.C[0]?=some 45
 .let⟨h1,h2⟩:=h.L c;rw[Ys c,h2,Nq];show Ys h1
 .rw[YR c];show zg.L λq=>c (h.G ?_);let(q1,q2):=Bool.and_eq_true_iff.G q;exists Yu q1,q2
def Zq6(h:1<=w.cps.C.f):(StrLaws.sliceText w (some 1) none).cps.C=w.cps.C.tail:=by
 rw[StrLaws.sliceText_from (i:=1) ⟨vg,J⟩];change(List.R _<|List.drop 1 _)=_
 rw[List.drop_one];show YS ?_;rw[zc];omega
def ZR8(c:Nat):(!(!(Builtin.Str.occurrences (Str.Y "0123456789") {#[c]} 0 (Str.Y "0123456789").f 1).isEmpty))=!decide (48<=c/\c<=57):=by
 rw[StrLaws.found_one];congr 1;let e:(Str.Y "0123456789").cps.C=[48,49,50,51,52,53,54,55,56,57]:=vi
 rw[e];show zf.L {λh=>?_,λh=>?_}
 .simp at h;omega
 .simp;lia
def KH{i:Nat}{v:V}(h:(TL l)[i]?=some v):∃x,v=.str x/\l[i]?=some x:=by unfold TL at h;rw[Yk]at h;let(x,hx,rfl):=Gk.G h;exists x,Z,hx
def GI(l:List Str):(TL l).f=l.f:=by unfold TL;rw[Xy]
def Ca(l:List Str)(x:Str):TL l++[.str x]=TL (l++[x]):=by unfold TL;rw[YD];rfl
def l6{ps:Aa}{ls:Ac}{p:Int×Int}{l:Int}(hp:ps[i]?=some p)(hl:ls[i]?=some l):Wy n (ps.R (i+1)) (ls.R (i+1))=Wy n (ps.R i) (ls.R i)++[QR p l]:=by
 let h1:=(Xs.G hp).1;let h2:=(Xs.G hl).1
 unfold Wy;rw[YI,YI,hp,hl];rw[List.zipWith_append (by rw[Yo,Yo];grind)];rfl
def II(hl:ls.f=ps.f):(Wy n ps ls).f=ps.f+1:=by unfold Wy;rw[Yx,OB];grind
def BZ(h:Told [p.1,p.2,l]):(QR p l).f<=400:=by
 unfold QR;rw[Cd];show YB (l8 (uX:=61) (l:=Str.Y "tie" :: [p.1,p.2,l].H nT) λa ha=>?_) (show 4*(61+1)<=400 by decide);rcases Ye.G ha with e|e
 .rw[e];decide
 .show l7 h a e
def lZ(g:Zv n ps)(hT:Told ls){i:Nat}{p:Int×Int}{l:Int}(hp:ps[i]?=some p)(hl:ls[i]?=some l):Told [p.1,p.2,l]:=λz hz=>by
 have:=g.2.2.2 p (Xn hp)
 have:=g.2.1
 rcases Ye.G hz with e|e
 .omega
 .rcases Ye.G e with e|e
  .grind
  .rw[XD.G e];show hT l (Xn hl)
def BY(g:Zv n ps)(hT:Told ls):∀a∈Wy n ps ls,a.f<=400:=λa ha=>by
 rcases Ye.G ha with e|e
 .rw[e,Ml,Str.cps_append,vP,Xm,<-Ml,<-Ml]
  have:=Cg (i:=n) (k:=60) vg (by have:=g.1;omega) (by have:=g.2.1;omega)
  let e2:(Str.Y "places ").f=7:=vg;lia
 .let⟨i,hi,e⟩:=Rm e;rw[List.getElem_zipWith]at e;rw[<-e];rw[OB]at hi;show BZ (lZ g hT (i:=i) (XI vk)<|XI vk)
abbrev Tr:=Int×Aa×Ac
end My
namespace My
open PySem PySem.W PyProof.Rows
def Ua{α:Type}(c:Nat->Nat->Bool):(KasT α->α)
 | .ret a=>a
 | .ask i j k=>Ua c (k<|c i j)
def GH{α β:Type}{c:Nat->Nat->Bool}{f:α->KasT β}:∀t:KasT α,Ua c (t.bind f)=Ua c (f (Ua c t))
 | .ret _=>rfl
 | .ask i j k=>GH (k<|c i j)
section
variable{n:Nat}{key:Nat->Int}
def Ahd(key:Nat->Int)(i j:Nat):(Prop):=key i<key j\/(key i=key j/\i<j)
def Ahd.trans{i j k:Nat}(h1:Ahd key i j)(h2:Ahd key j k):Ahd key i k:=by unfold Ahd at *;lia
structure Ord(n m:Nat)(p:Array Nat):Prop where
 perm:p.Perm (List.range n).o
 suf:∀i,m<=i->i<n->p.E i 0=i
def Ord.size(h:Ord n m p):p.t=n:=by rw[h.perm.size_eq];simp
def Mj{p:Array Nat}(h:i<p.t):p[i]?=some (p.E i 0):=by rw[Yv,YL h];rfl
def Ord.inj(h:Ord n m p)(hi:i<n)(hj:j<n)(e:p.E i 0=p.E j 0):i=j:=by
 let hn:p.C.Nodup:=(Ku.G h.perm).nodup_iff.L List.nodup_range;let hs:=h.t
 let e1:=Mj (p:=p) (i:=i) J;let e2:=Mj (p:=p) (i:=j) J
 rw[<-YK]at e1 e2;show(List.getElem?_inj (i:=i) (j:=j) (by rw[YA];omega) hn).G (by rw[e1,e2,e])
def Ord.lt(h:Ord n m p)(hm:m<=n)(hi:i<m):p.E i 0<m:=by
 cases hc:p.E i 0<m
 .show hc
 .let hs:=h.t;let hb:p.E i 0<n:=by let e1:=Mj (p:=p) (i:=i) J;rw[<-YK]at e1;show YG.G ((Ku.G h.perm).mem_iff.G (Xn e1))
  let e:=h.inj J hb (h.suf _ B hb).symm;lia
def Ord.mono(h:Ord n m p)(hk:m<=k):Ord n k p:={h.perm,λi hi=>h.suf i J}
def NT{i j k:Nat}(hj:j<=p.t):(kas_rev p i j).E k 0=if i<=k/\k<j then p.E (i+j-1-k) 0 else p.E k 0:=by unfold kas_rev;rw[Yv,Kg hj,apply_ite λo:Option Nat=>o.E 0,<-Yv,<-Yv]
def Ord.rev(h:Ord n m p)(hj:j<=m)(hm:m<=n):Ord n m (kas_rev p i j):=by let hs:=h.t;exists (mirror_perm _ _ _ _).l h.perm,λk hk hn=>?_;rw[NT J,if_neg J];show h.suf k hk hn
def Asc(key:Nat->Int)(m:Nat)(p:Array Nat):(Prop):=∀i j,i<j->j<m->Ahd key (p.E i 0) (p.E j 0)
def Asc.more(hm:1<=m)(h:Asc key m p)(h2:Ahd key (p.E (m-1) 0) (p.E m 0)):Asc key (m+1) p:=λi j WI hj=>by
 cases e:j=m
 .subst e;cases e2:i=j-1
  .rw[e2];show h2
  .show(h i (j-1) J B).l h2
 .show h i j WI J
def IG:∀f m p,m+f=n->1<=m->Ord n m p->Asc key m p->∃k,Ua (λi j=>decide (key i<key j)) (kas_asc p f m)=k/\m<=k/\k<=n/\Asc key k p/\(k<n->key (p.E k 0)<key (p.E (k-1) 0))
 |0,m,p,hf,h1,ho,ha=>{m,Z,XQ _,J,ha,λh=>J}
 |f+1,m,p,hf,h1,ho,ha=>by
  change ∃k,Ua _ (if decide (key (p.E m 0)<key (p.E (m-1) 0))=true then KasT.ret m else kas_asc p f (m+1))=k/\_;cases hc:key (p.E m 0)<key (p.E (m-1) 0)
  .rw[if_pos (Ys hc)];exists m,Z,XQ _,J,ha,λ_=>hc
  .rw[if_neg λz=>hc (Yu z)];let e:=ho.suf m (XQ _) J
   let l:=ho.lt J (i:=m-1) J;let(k,e1,e2,e3,e4,e5):=IG f (m+1) p J J (ho.mono J) (ha.more h1<|by unfold Ahd;rw[e]at hc ⊢;lia);exists k,e1,J,e3,e4,e5
structure Dsc(key:Nat->Int)(m g:Nat)(p:Array Nat):Prop where
 le:g+1<=m
 old:∀i j,i<j->j<m-(g+1)->Ahd key (p.E j 0) (p.E i 0)
 mid:∀i j,i<m-(g+1)->m-(g+1)<=j->j<m->key (p.E j 0)<key (p.E i 0)
 own:∀i j,m-(g+1)<=i->i<j->j<m->key (p.E i 0)=key (p.E j 0)/\p.E i 0<p.E j 0
def Fall(key:Nat->Int)(m:Nat)(p:Array Nat):(Prop):=∀i j,i<j->j<m->Ahd key (p.E j 0) (p.E i 0)
def Dsc.turn(h:Dsc key m g p)(hs:m<=p.t):Fall key m (kas_rev p (m-(g+1)) m):=λi j WI hj=>by
 let hl:=h.le;rw[NT hs,NT hs];cases c1:m-(g+1)<=j
 .rw[if_pos ⟨c1,hj⟩];cases c2:m-(g+1)<=i
  .rw[if_pos ⟨c2,J⟩];show .inr (h.own (m-(g+1)+m-1-j) (m-(g+1)+m-1-i) B B J)
  .rw[if_neg J];show .inl (h.mid i _ J J J)
 .rw[if_neg J,if_neg J];show h.old i j WI J
def Dsc.last(h:Dsc key m g p)(hs:m<=p.t):key ((kas_rev p (m-(g+1)) m).E (m-1) 0)=key (p.E (m-1) 0):=by
 let hl:=h.le;rw[NT hs,if_pos J];cases e:g=0
 .congr 2;lia
 .show(h.own (m-(g+1)+m-1-(m-1)) (m-1) B B J).1
def Dsc.fall(h:Dsc key m 0 p):Fall key m p:=λi j WI hj=>by
 let hl:=h.le;cases e:j<m-(0+1)
 .show h.old i j WI e
 .show .inl (h.mid i j J J hj)
def Fall.new(hm:1<=m)(h:Fall key m p)(hk:key (p.E m 0)<key (p.E (m-1) 0)):Dsc key (m+1) 0 p:=by
 exists J,λi j WI hj=>h i j WI J,λi j hi h1 h2=>?_,λi j h1 h2 h3=>J;let e:j=m:=J
 subst e;cases c:i=j-1
 .rw[c];show hk
 .have:=h i (j-1) J B
  unfold Ahd at this;omega
def Fall.rev(h:Fall key m p)(hs:m<=p.t):Asc key m (kas_rev p 0 m):=λi j WI hj=>by rw[NT hs,NT hs,if_pos {Yl _,J},if_pos {Yl _,hj}];show h _ _ B B
def Asc.rev(h:Asc key m p)(hs:m<=p.t):Fall key m (kas_rev p 0 m):=λi j WI hj=>by rw[NT hs,NT hs,if_pos {Yl _,hj},if_pos {Yl _,B}];show h _ _ B B
def xk:∀f m g p,m+f=n->Ord n m p->Dsc key m g p->∃p' m' g',Ua (λi j=>decide (key i<key j)) (kas_desc f p m g)=(p',m',g')/\m<=m'/\m'<=n/\Ord n m' p'/\Dsc key m' g' p'
 |0,m,g,p,hf,ho,hd=>{p,m,g,Z,XQ _,B,ho,hd}
 |f+1,m,g,p,hf,ho,hd=>by
  let hl:=hd.le;let hs:=ho.t
  let em:=ho.suf m (XQ _) J;let ll:=ho.lt J (i:=m-1) J
  change ∃p' m' g',Ua _ (if decide (key (p.E m 0)<key (p.E (m-1) 0))=true then (if g>0 then kas_desc f (kas_rev p (m-(g+1)) m) (m+1) 0 else kas_desc f p (m+1) 0) else KasT.ask (p.E (m-1) 0) (p.E m 0) λd=>if d=true then .ret (p,m,g) else kas_desc f p (m+1) (g+1))=_/\_;cases hc:key (p.E m 0)<key (p.E (m-1) 0)
  .rw[if_pos (Ys hc)];cases hg:g>0
   .rw[if_pos hg];let hr:=ho.rev (i:=m-(g+1)) (XQ m) J
    let em2:=hr.suf m (XQ _) J;let(p',m',g',e1,e2,e3,e4,e5):=xk f (m+1) 0 (kas_rev p (m-(g+1)) m) J (hr.mono J) ((hd.turn J).new J (by rw[hd.last B,em2];rwa[em]at hc));exists p',m',g',e1,J,e3,e4,e5
   .rw[if_neg hg];let rfl:g=0:=J;let(p',m',g',e1,e2,e3,e4,e5):=xk f (m+1) 0 p B (ho.mono B) (hd.fall.new J hc);exists p',m',g',e1,J,e3,e4,e5
  .rw[if_neg λz=>hc (Yu z)];change ∃p' m' g',Ua _ (if decide (key (p.E (m-1) 0)<key (p.E m 0))=true then KasT.ret (p,m,g) else kas_desc f p (m+1) (g+1))=_/\_
   cases VY:key (p.E (m-1) 0)<key (p.E m 0)
   .rw[if_pos (Ys VY)];exists p,m,g,Z,XQ _,B,ho,hd
   .rw[if_neg λz=>VY (Yu z)];let ek:key (p.E (m-1) 0)=key (p.E m 0):=J
    let(p',m',g',e1,e2,e3,e4,e5):=xk f (m+1) (g+1) p B (ho.mono B) ⟨J,λi j h1 h2=>hd.old i j h1 J,λi j h1 h2 h3=>by
     cases c:j=m
     .rw[c,<-ek];show hd.mid i (m-1) J J J
     .show hd.mid i j J J J,λi j h1 h2 h3=>by
     cases c:j=m
     .rw[c];cases c2:i=m-1
      .rw[c2,em];rw[em]at ek;exists ek,ll
      .have:=hd.own i (m-1) J J B
       rw[em];rw[em]at ek;exists this.1.l ek,J
     .show hd.own i j J h2 B⟩
    exists p',m',g',e1,J,e3,e4,e5
def BX(hm:1<=m)(hn:m<=n)(ho:Ord n m p)(hf:Fall key m p):∃k p',Ua (λi j=>decide (key i<key j)) (kas_tail3 m n p)=(k,p')/\1<=k/\k<=n/\Ord n k p'/\Asc key k p':=by
 let hs:=ho.t;unfold kas_tail3;rw[GH];let hr:=ho.rev (i:=0) (XQ m) hn
 let(k,e1,e2,e3,e4,_):=IG (n-m) m (kas_rev p 0 m) J hm hr (hf.rev J);rw[e1];exists k,_,Z,J,e3,hr.mono e2,e4
def bV(hm:1<=m)(hn:m<n)(ho:Ord n m p)(hf:Fall key m p)(hk:key (p.E m 0)<key (p.E (m-1) 0)):∃k p',Ua (λi j=>decide (key i<key j)) (kas_descPart m n p)=(k,p')/\1<=k/\k<=n/\Ord n k p'/\Asc key k p':=by
 unfold kas_descPart;rw[GH];let(p',m',g',e1,e2,e3,e4,e5):=xk (n-(m+1)) (m+1) 0 p J (ho.mono J) (hf.new hm hk);rw[e1];let hs:=e4.t
 change ∃k q,Ua _ (if g'>0 then kas_tail3 m' n (kas_rev p' (m'-(g'+1)) m') else kas_tail3 m' n p')=_/\_;cases hg:g'>0
 .rw[if_pos hg];show BX J e3 (e4.rev (XQ _) e3) (e5.turn J)
 .rw[if_neg hg];let rfl:g'=0:=J;show BX J e3 e4 e5.fall
def lY(hn:1<=n)(ho:Ord n 1 p):∃k p',Ua (λi j=>decide (key i<key j)) (kas_count n p)=(k,p')/\1<=k/\k<=n/\Ord n k p'/\Asc key k p':=by
 unfold kas_count;rw[GH];let(k,e1,e2,e3,e4,e5):=IG (key:=key) (n-1) 1 p J (XQ _) ho λi j h1 h2=>J;rw[e1];let hs:=ho.t
 let hk:=ho.mono e2;cases c:k=n
 .rw[if_pos (by rw[c];show Hz n)];exists k,p,Z,e2,e3,hk,e4
 .rw[if_neg λz=>c (QD.G z)];let Xt:k<n:=J
  let h5:=e5 Xt;cases c1:k>1
  .rw[if_pos c1];change ∃k' p',Ua _ (if decide (key (p.E 0 0)<key (p.E (k-1) 0))=true then KasT.ret (k,p) else kas_descPart k n (kas_rev p 0 k))=_/\_
   cases c2:key (p.E 0 0)<key (p.E (k-1) 0)
   .rw[if_pos (Ys c2)];exists k,p,Z,e2,e3,hk,e4
   .rw[if_neg λz=>c2 (Yu z)];let a0:=e4 0 (k-1) J J
    let eq:key (p.E 0 0)=key (p.E (k-1) 0):=by unfold Ahd at a0;lia
    let hr:=hk.rev (i:=0) (XQ k) J;show bV e2 Xt hr (e4.rev J) ?_;rwa[NT B,NT B,if_neg J,if_pos J,show 0+k-1-(k-1)=0 by lia,eq]
  .rw[if_neg c1];let rfl:k=1:=J;show bV (XQ _) Xt hk (λi j h1 h2=>J) h5
def IF(hk:Asc key k p):∀f l r,r-l<=f->l<=r->r<=k->(∀i,i<l->¬key (p.E k 0)<key (p.E i 0))->(∀i,r<=i->i<k->key (p.E k 0)<key (p.E i 0))->∃l',Ua (λi j=>decide (key i<key j)) (kas_place p k f l r)=l'/\l'<=k/\(∀i,i<l'->¬key (p.E k 0)<key (p.E i 0))/\(∀i,l'<=i->i<k->key (p.E k 0)<key (p.E i 0))
 |0,l,r,hf,h1,h2,ha,hb=>{l,Z,J,ha,λi hi=>hb i J}
 |f+1,l,r,hf,h1,h2,ha,hb=>by
  let mono:∀i j,i<=j->j<k->key (p.E i 0)<=key (p.E j 0):=λi j WI hj=>by
   cases e:i=j
   .rw[e];show Tt _
   .have:=hk i j J hj
    unfold Ahd at this;lia
  unfold kas_place;cases c:l >= r
  .rw[if_pos c];exists l,Z,J,ha,λi hi=>hb i J
  .rw[if_neg c];change ∃l',Ua _ (if decide (key (p.E k 0)<key (p.E ((l+r)/2) 0))=true then kas_place p k f l ((l+r)/2) else kas_place p k f ((l+r)/2+1) r)=l'/\_
   cases c2:key (p.E k 0)<key (p.E ((l+r)/2) 0)
   .rw[if_pos (Ys c2)];show IF hk f l ((l+r)/2) J J J ha λi hi o9=>by
     have:=mono ((l+r)/2) i hi o9
     omega
   .rw[if_neg λz=>c2 (Yu z)];show IF hk f ((l+r)/2+1) r J J J (λi hi=>by
     have:=mono i ((l+r)/2) J J
     omega) hb
def IE{k d x:Nat}(hk:k<p.t)(hd:d<=k):(bubble p k d).E x 0=if x=k-d then p.E k 0 else if k-d<x/\x<=k then p.E (x-1) 0 else p.E x 0:=by rw[Yv,getElem?_bubble hk d hd,apply_ite λo:Option Nat=>o.E 0,apply_ite λo:Option Nat=>o.E 0,<-Yv,<-Yv,<-Yv]
def BW:∀f k p,k+f=n->Ord n k p->Asc key k p->∃p',Ua (λi j=>decide (key i<key j)) (kas_bin f p k)=p'/\Ord n n p'/\Asc key n p'
 |0,k,p,hf,ho,ha=>by let rfl:k=n:=J;exists p,Z,ho,ha
 |f+1,k,p,hf,ho,ha=>by
  let hs:=ho.t;let ek:=ho.suf k (XQ _) J
  unfold kas_bin;rw[GH];let(l,e1,e2,e3,e4):=IF ha k 0 k J J (XQ _) (λi hi=>J) λi hi We=>J;rw[e1];show BW f (k+1) (bubble p k<|k-l) J {(bubble_perm _ _ _).l ho.perm,λi hi hn=>?_} λi j WI hj=>?_
  .rw[IE J J,if_neg J,if_neg J];show ho.suf i J hn
  .let low:∀x,x<k->p.E x 0<k:=λx hx=>ho.lt J hx;rw[IE J J,IE B B];let ekl:k-(k-l)=l:=J
   rw[ekl];cases c1:i=l
   .rw[if_pos c1,if_neg J,if_pos J];show .inl (e4 (j-1) J J)
   .rw[if_neg c1];cases c2:j=l
    .rw[if_pos c2,if_neg J];let a:=e3 i J
     let b:=low i J;rw[ek]at a ⊢;unfold Ahd;lia
    .rw[if_neg c2];cases c3:l<i
     .rw[if_pos ⟨c3,J⟩,if_pos ⟨J,J⟩];show ha _ _ J J
     .rw[if_neg J];cases c4:l<j
      .rw[if_pos ⟨c4,B⟩];show ha _ _ J J
      .rw[if_neg J];show ha _ _ WI J
def Mi(hn:1<=n):∃p,Ua (λi j=>decide (key i<key j)) (kas_sort n)=p/\p.C.Perm (List.range n)/\p.C.Q (Ahd key):=by
 let fin:∀p,Ord n n p->Asc key n p->p.C.Perm (List.range n)/\p.C.Q (Ahd key):=λp ho ha=>by
  let hs:=ho.t;exists Ku.G ho.perm,YT.L λi j hi hj WI=>?_;rw[YA]at hi hj
  have:=ha i j WI J
  rwa[Yv,Yv,YL hi,YL hj]at this
 unfold kas_sort;rw[GH];let(k,p,e1,e2,e3,e4,e5):=lY (key:=key) hn (p:=(List.range n).o) {FY _,λi _ hi=>by simp[Array.getD,hi]};rw[e1];change ∃q,Ua _ (if k<n then kas_bin (n-max k 1) p (max k 1) else .ret p)=q/\_
 cases c:k<n
 .rw[if_pos c,Nat.max_eq_left e2];let(q,h1,h2,h3):=BW (n-k) k p J e4 e5;exists q,h1,fin q h2 h3
 .rw[if_neg c];let rfl:k=n:=J;exists p,Z,fin p e4 e5
end
end My
namespace L2
open PySem PySem.Spec PyProof.Rows
def OR(P:Program)(w:World)(K:Ad)(mg:Af)(base:Heap)(N:List Str)(qual:Str)(scope:Scope)(f:Addr)(cd:Value)(cl:List (Str×Addr))(A:Around)(outer:List Env)(s:Shared)(H:Hp):(Cx) where
 prog:=P
 w:=w
 K:=K
 mg:=mg
 base:=base
 A:=A.deeper (PySem.W.envX qual scope (~~~s) f cd cl)
 N:=N
 s₀:=s
 H₀:=H
 env:=PySem.W.envX qual scope (~~~s) f cd cl
 outer:=outer
 stack:=PySem.W.envX qual scope (~~~s) f cd cl::outer
 ex:=[]
 calm:=true
 fn:=λ_=>false
 pn:=[]
 xe:=λ_ _=>False
structure LamScope(v x:Str)(sc:Scope):Prop where
 kind:sc.kind=.function
 co:sc.isCoroutine=false
 gen:sc.isGenerator=false
 nocell:∀y∈sc.names,y.2≠.cell
 par:sc.names.M v=some .local
 free:sc.names.M x=some .free
 only:∀y,sc.names.M y=some .free->y=x
 ne:v≠x
section
variable{P:Program}{w:World}{K:Ad}{mg:Af}{base:Heap}{qual name v x:Str}{scope:Scope}{f c c':Addr}{cd pm RA u ux:Value}{A:Around}{outer:List Env}{s:Shared}{H:Hp}{vv vx:V}{params:Arguments}{body:Expr}{k:Nat}{t:TE}{Q:VK}
def xj{c2:Addr}(h:List.M y [(x,c)]=some c2):y=x/\c2=c:=by
 unfold List.lookup at h;split at h
 .rename_i e;exists QD.G e,(Ya h).symm
 .cases h
def lX(S:LamScope v x scope)(hd:A.handled=none)(e0:Env0 P w K mg base A outer s H)(hc:s.m.IsCell c (some ux))(rx:RelV vx ux)(lW:H c=none)(rv:RelV vv u){h1:Heap}{tk:Nat}
  (NS:h1.Ns (~~~s) λy=>[(v,u)].reverse.M y)(hk:∀b o,s.m.D b=some o->h1.D b=some o):
  Inv (OR P w K mg base [v,x] qual scope f cd [(x,c)] A outer s H) [] [some vv,some vx] H {s with heap:=h1,toks:=tk}:=by
 let JO:∀b:Addr,b∉(OR P w K mg base [v,x] qual scope f cd [(x,c)] A outer s H).ex:=λb z=>absurd (show b∈([]:List Addr) from z) AP;let bT:h1.IsCell c (some ux):=by let(o,e,d):=hc;exists o,hk _ _ e,d
 let lk:List.M x [(x,c)]=some c:=by unfold List.lookup;rw[Hz]
 show⟨{e0.mod,S.kind,Z,Z,XQ _,λy z c2 h1 h2=>?_,λy hy=>?_,λy c2 z _=>(nomatch z),λ_=>hd,Around.frames_deeper e0.frames,.inr ⟨Z,Z⟩,λb z=>absurd z<|JO b,e0.bs,e0.bsz,λb _ _=>JO b,λb z=>absurd z<|JO b,e0.funs,e0.frf},
  rfl,e0.bare,Un.kept hk,{_,NS,λi y v' h1 h2 h3=>?_},λy c2 h=>?_,e0.hok.fresh<|XQ _,λy c2 h=>?_,λp hp=>absurd (show p∈([]:List (Addr×Obj)) from hp) AP,e0.hok.kept hk,Z⟩
 .rw[(xj h1).1,(xj h2).1]
 .let hy:scope.names.M y=some .cell\/scope.names.M y=some .free:=hy;rcases hy with hy|hy
  .show absurd Z (S.nocell _<|Sx hy)
  .rw[S.only y hy];exists c,lk
 .match i,h1,h2 with
  |0,h1,h2=>
   let rfl:v=y:=Ya h1;let rfl:vv=v':=Ya (Ya h2);exists u,rv,.inl {S.par,?_};change List.M v [(v,u)]=some u
   unfold List.lookup;rw[Hz]
  |1,h1,h2=>
   let rfl:x=y:=Ya h1;let rfl:vx=v':=Ya (Ya h2);exists ux,rx,.inr {.inr S.free,c,lk,bT}
  |i+2,h1,h2=>cases h1
 .rw[(xj h).2];exists _,bT
 .rw[(xj h).2];show lW
def BV(S:LamScope v x scope)(hr:Room (k+1) A)(e0:Env0 P w K mg base A outer s H)(ho:s.m.D f=some (PySem.W.kla_obj name qual params body scope [(x,c)] pm c' RA))(SG:s.m.CodeRec ↑c' qual)
  (SR:bindArgs (PySem.W.kla_fn name qual params body scope [(x,c)] pm ↑c' RA) {[u],[]}=pure [(v,u)])(hc:s.m.IsCell c (some ux))(rx:RelV vx ux)(lW:H c=none)(rv:RelV vv u)
  (hb:PE (OR P w K mg base [v,x] qual scope f ↑c' [(x,c)] A outer s H) body t)(hq:t [some vv,some vx] H Q):
  codeAny (model P w) A (.call ↑f {[u],[]}) (λr s'=>∃u',r=.ok (.ret u')/\CE outer P w H s Q u' s') s:=by
 let lim:s.m.NoLimit:=e0.mod.nolimit.keeps λb o e=>(e0.bs b o e).1;show PySem.W.kla_callFunE hr.depth ho Z S.co S.gen Z SG ?_;rw[SR];show Yg (wpAny_newFunctionEnv S.nocell (λy hy=>?_) (λh1 NS lV=>{lim.fresh _ lV,?_}) S.kind)
 .rw[XD.G hy];show S.par
 let hk:∀b o,s.m.D b=some o->h1.D b=some o:=λb o e=>lV.extBut b o (Yq<|Ym e) (Xo _ e);let I:Inv (OR P w K mg base [v,x] qual scope f ↑c' [(x,c)] A outer s H) [] [some vv,some vx] H {s with heap:=h1,toks:=s.toks+[(v,u)].f}:=lX S hr.hd e0 hc rx lW rv NS hk
 show PySem.W.kla_codeExpr (Ts (hb [] _ _ H _ I hq) (λu' s' h=>?_) λe s' h=>False.elim h);let(y,H',tB,r,q):=h;exists u',Z,y,H',tB.os,tB.bare,tB.base,tB.hok,r,q
end
end L2
namespace My
open PySem PySem.W PyProof.Rows
def Asks{α:Type}(n:Nat)(R:α->Prop):(KasT α->Prop)
 | .ret a=>R a
 | .ask i j k=>i<n/\j<n/\∀b,Asks n R (k b)
def Asks.bind{α β:Type}{R:α->Prop}{S:β->Prop}{f:α->KasT β}:∀{t:KasT α},Asks n R t->(∀a,R a->Asks n S (f a))->Asks n S (t.bind f)
 | .ret a,h,hf=>hf a h
 | .ask _ _ _,h,hf=>{h.1,h.2.1,λb=>Asks.bind (h.2.2 b) hf}
def goT_wp'{α:Type}{R:α->Prop}{c:Nat->Nat->Bool}{cmp:Nat->Nat->(Bool->Shared->Prop)->Shared->Prop}{tB:Shared->Prop}(h:∀i j C s,i<n->j<n->tB s->(∀s',tB s'->C (c i j) s')->cmp i j C s){Q:α->Shared->Prop}:∀t s,Asks n R t->tB s->(∀s',tB s'->Q (Ua c t) s')->t.kasWp cmp Q s
 | .ret _,s,_,hs,q=>q s hs
 | .ask i j k,s,ha,hs,q=>h i j _ s ha.1 ha.2.1 hs λs' Wb=>goT_wp' h (k<|c i j) s' (ha.2.2 _) Wb q
section
variable{n:Nat}
def Bd(n:Nat)(p:Array Nat):(Prop):=p.Perm (List.range n).o
def Bd.lt(h:Bd n p)(hn:1<=n)(i:Nat):p.E i 0<n:=by
 cases hi:i<p.t
 .let e1:=Mj (p:=p) hi;rw[<-YK]at e1;show YG.G ((Ku.G h).mem_iff.G (Xn e1))
 .rw[Yv,Gi J];show hn
def Bd.rev(h:Bd n p)(i j:Nat):Bd n (kas_rev p i j):=(mirror_perm _ _ _ _).l h
def lU(hn:1<=n)(hp:Bd n p):∀f m:Nat,Asks n (λ_=>True) (kas_asc p f m)
 |0,m=>trivial
 |f+1,m=>⟨hp.lt hn _,hp.lt hn _,λb=>by
  cases b with
  |true=>show trivial
  |false=>show lU hn hp f<|m+1⟩
def Mh(hn:1<=n):∀f p m q,Bd n p->Asks n (λr=>Bd n r.1) (kas_desc f p m q)
 |0,p,m,q,hp=>hp
 |f+1,p,m,q,hp=>⟨hp.lt hn _,hp.lt hn _,λb=>by
  cases b with
  |true=>
   change Asks n _ (if q>0 then kas_desc f (kas_rev p (m-(q+1)) m) (m+1) 0 else kas_desc f p (m+1) 0);split
   .show Mh hn f _ _ _ (hp.rev _ _)
   .show Mh hn f _ _ _ hp
  |false=>
   exists hp.lt hn _,hp.lt hn _,λd=>?_;cases d with
   |true=>show hp
   |false=>show Mh hn f _ _ _ hp⟩
def bS(hn:1<=n)(hp:Bd n p)(m r:Nat):Asks n (λz=>Bd n z.2) (kas_tail3 m r p):=
 (lU hn (hp.rev _ _) _ _).bind λ_ _=>hp.rev _ _
def bR(hn:1<=n)(hp:Bd n p)(m r:Nat):Asks n (λz=>Bd n z.2) (kas_descPart m r p):=
 (Mh hn _ p _ _ hp).bind λz hz=>by
  split
  .show bS hn (hz.rev _ _) _ _
  .show bS hn hz _ _
def ZM7(hn:1<=n)(hp:Bd n p)(r:Nat):Asks n (λz=>Bd n z.2) (kas_count r p):=
 (lU hn hp _ _).bind λz _=>by
  split
  .show hp
  .split
   .exists hp.lt hn _,hp.lt hn _,λb=>?_;cases b with
    |true=>show hp
    |false=>show bR hn (hp.rev _ _) _ _
   .show bR hn hp _ _
def lT(hn:1<=n)(hp:Bd n p)(k:Nat):∀f l r:Nat,Asks n (λ_=>True) (kas_place p k f l r)
 |0,l,r=>trivial
 |f+1,l,r=>by
  unfold kas_place;split
  .show trivial
  .exists hp.lt hn _,hp.lt hn _,λb=>?_;cases b with
   |true=>show lT hn hp k f _ _
   |false=>show lT hn hp k f _ _
def bQ(hn:1<=n):∀f p k,Bd n p->Asks n (λz=>Bd n z) (kas_bin f p k)
 |0,p,k,hp=>hp
 |f+1,p,k,hp=>(lT hn hp k _ _ _).bind λl _=>bQ hn f _ _ ((bubble_perm _ _ _).l hp)
def QQ(hn:1<=n):Asks n (λz=>Bd n z) (kas_sort n):=
 (ZM7 hn (p:=(List.range n).o) (FY _) n).bind λz hz=>by
  split
  .show bQ hn _ _ _ hz
  .show hz
end
end My
namespace L2
open PySem PySem.Spec PyProof.Rows PySem.W
def Sb(key:Int->Int)(ns ms:Ac):(Prop):=∃p:List Nat,p.Perm (List.range ns.f)/\p.Q (My.Ahd λi=>key<|ns.E i 0)/\ms=p.H λi=>ns.E i 0
section
variable{X:Cx}{pins:List (Addr×Obj)}{σ:St}{H:Hp}{s:Shared}{b:Addr}{o:Obj}
def Inv.pin1(I:Inv X pins σ H s)(F:FpOk X pins H b)(e:s.m.D b=some o)(hd:∀v,o.data≠.cell v):Inv X (pins++[(b,o)]) σ H s:=I.pins_of λp hp=>by
 rcases Yb.G hp with hp|hp
 .show I.pin p (Yh _ hp)
 .rw[XD.G hp];exists e,F.1,F.2.1,F.2.2.1,hd
def FpOk.more{pl:List (Addr×Obj)}(F:FpOk X pins H b)(hn:∀p∈pl,p.1≠b):FpOk X (pins++pl) H b:=⟨F.1,F.2.1,F.2.2.1,F.2.2.2.1,F.2.2.2.2.1,λp hp=>by
 rcases Yb.G hp with hp|hp
 .show F.2.2.2.2.2 p (Yn _ hp)
 .rcases Yb.G hp with hp|hp
  .show F.2.2.2.2.2 p (Yh _ hp)
  .show hn p hp⟩
def Inv.changed{h':Heap}{t':Nat}(I:Inv X pins σ H s)(F:FpOk X pins H b)(k:∀c o,c≠b->s.m.D c=some o->h'.D c=some o):Inv X pins σ H {s with heap:=h',toks:=t'}:=
 I.turned k F.1 F.2.1 F.2.2.2.1 F.2.2.2.2.1 F.2.2.2.2.2
def Inv.adopt(I:Inv X pins σ H s)(hex:X.ex=[])(F:FpOk X pins H b)(new:ObjOk X.prog X.w (upd H b u) s.m b u):Inv X pins σ (upd H b u) s:=by
 let f4:(~~~X.s₀)<=b:=F.2.2.2.1.resolve_left (by rw[hex];simp);let hn:=F.1
 exists I.ok,I.os,I.bare,{I.base.keep,I.base.slot,λc o e n hc=>?_,I.base.there,λc xs q=>?_,λc o w q=>?_,λc ps q=>?_},I.loc,I.cell,?_,λx c e=>?_,λp hp=>?_,λc w e=>?_,I.len
 .rw[Za (Yq<|Yt (Ym e) f4)];show I.base.free c o e n hc
 .have:=I.base.tups c xs q
  rwa[Za (Zb this hn)]
 .have:=I.base.frzs c o w q
  rwa[Za (Zb this hn)]
 .let⟨m,this⟩:=I.base.tbls c ps q;exists m,by rwa[Za (Zb this hn)]
 .rw[Za (XO F.2.1)];show I.free
 .rw[Za (F.2.2.2.2.1 x c e)];show I.freeC x c e
 .have:=I.pin p hp
  exists this.1,by rw[Za (F.2.2.2.2.2 p hp)];show this.2.1,this.2.2
 .cases hb:c=b
  .subst hb;rw[XS]at e;cases e;show new
  .rw[Za hb]at e;show(I.hok c w e).stay (λ_ _ _ q=>q) (λd q=>by rwa[Za (Zb q hn)]) λd xs q=>by rwa[Za (Zb q hn)]
end
section
variable{X:Cx}{pins:List (Addr×Obj)}{σ:St}{H:Hp}{s:Shared}{a kS:Addr}{A:Around}{E:Ae}{P:PySem.Fin->Shared->Prop}{kA:Array Value}{e e1:Nat}{f:Value}{key:Int->Int}{ns:Ac}{vs:Ag}
def bP{st:SortSt}{out:Ag}(I:Inv X (pins++[(a,seqObj "list" #[] e1),(kS,seqObj "list" kA e)]) σ H s)(Fa:FpOk X pins H a)(Fk:FpOk X pins H kS)(Pn:a≠kS)(hz:kA.t<64)(RQ:failedOf st=none)
  (ID:(arrOf st).H (·.2)=out.o)(hlen:out.f<64)(h:∀s' m,Inv X pins σ H s'->s'.m.D a=some (seqObj "list" out.o m)->P (.done<|.ret .none) s'):
  wpAny (model X.prog X.w) A (ksk_tail a false e1 ↑kS st) P E s:=by
 let KQ:sizeLine=16777216:=TF;let pa:=(I.pin (a,seqObj "list" #[] e1) AP).1
 let pk:=(I.pin (kS,seqObj "list" kA e) AP).1;let I0:Inv X pins σ H s:=I.unpinned
 let lS:(s.m.update kS<|Obj.mapSeq λ_=>(#[]:Array Value)).D a=some (seqObj "list" #[] e1):=(YU _ _<|XO Pn).l pa;obtain⟨m,hm⟩:∃m,((s.m.update kS<|Obj.mapSeq λ_=>(#[]:Array Value)).update a (Obj.mapSeq λ_=>out.o)).D a=some (seqObj "list" out.o m):={_,FN lS λ_=>out.o};unfold ksk_tail;dsimp only;rw[ID];show XY (Oq pk Z ?_ J<|Yl _);show XY (Lz ?_);show XY (seqEpoch_at lS Z ?_);show XY (Oq lS Z ?_ (Yl _)<|by simp;lia);rw[RQ];simp only[vM,Gd,if_false];show Yg (h _ m ?_ hm);let I1:Inv X pins σ H {s with heap:=s.m.update kS<|Obj.mapSeq λ_=>(#[]:Array Value),toks:=s.toks}:=I0.changed Fk λc o hc q=>(YU _ _<|XO hc).l q
 show I1.changed (t':=s.toks) Fa λc o hc q=>(YU _ _<|XO hc).l q
def lR{vs:Ag}{ns:Ac}(h0:IntsAre vs ns):∀i,i<ns.f->∃t,vs[i]?=some (.int (ns.E i 0) t):=by
 induction h0 with
 |nil=>show λi h=>absurd h (Wg _)
 |cons n t r ih=>
  intro i h;cases i with
  |zero=>exists t,Z
  |succ i=>show ih i (by rw[Yx]at h;lia)
def lQ(hv:IntsAre vs ns)(hk:IntsAre kA.C (ns.H key))(hi:i<ns.f):∃t u,kas_item (kA.zip vs.o) i=(.int (key (ns.E i 0)) t,.int (ns.E i 0) u):=by
 let(u,hu):=lR hv i hi;let(t,ht):=lR hk i (by rwa[Xy]);let e:(ns.H key).E i 0=key (ns.E i 0):=by rw[WW,Yk,WW,XI hi];rfl
 rw[e]at ht;exists t,u,?_;unfold kas_item;rw[Yv,<-YK,ksk_zip,(gQ (z:=(Value.int (key<|ns.E i 0) t,Value.int (ns.E i 0) u))).L ⟨ht,hu⟩];rfl
def bO(hv:IntsAre vs ns)(hk:IntsAre kA.C (ns.H key)):∀l:List Nat,(∀i∈l,i<ns.f)->IntsAre (l.H λi=>(kas_item (kA.zip vs.o) i).2) (l.H λi=>ns.E i 0)
 |[],_=>.nil
 |i::l,h=>by
  let(t,u,e):=lQ hv hk (h i Yd);let r:=bO hv hk l λj hj=>h j (Yf _ hj)
  rw[YJ,YJ,e];show .cons _ u r
def BU(I:Inv X (pins++[(a,seqObj "list" #[] e1),(kS,seqObj "list" kA e)]) σ H s)(Fa:FpOk X pins H a)(Fk:FpOk X pins H kS)(Pn:a≠kS)(hv:IntsAre vs ns)(Pd:ns.f<64)(hk:IntsAre kA.C (ns.H key))
  (h:∀s' m out ms,Inv X pins σ H s'->s'.m.D a=some (seqObj "list" out m)->IntsAre out.C ms->Sb key ns ms->P (.done<|.ret .none) s'):
  wpAny (model X.prog X.w) A (ksk_end a false vs.o e1 ↑kS kA) P E s:=by
 let BS:=hv.f;let hkl:=hk.f
 rw[YA,Xy]at hkl;let hzs:(kA.zip vs.o).t=ns.f:=by rw[Array.size_zip,show vs.o.t=vs.f from Yc];lia
 unfold ksk_end;dsimp only;rw[if_neg vg];cases h2:vs.o.t<2
 .rw[if_pos h2,if_pos h2];rw[Yc]at h2;show XY (Yg ?_);rw[StateT.run_pure];show XY (Yg ?_);dsimp only;show bP (out:=vs) I Fa Fk Pn J Z ?_ J λs' m tB e=>h s' m vs.o ns tB e (by simpa using hv) ?_
  .change(if false=true then (kA.zip vs.o).reverse else kA.zip vs.o).H (·.2)=vs.o;rw[if_neg vg,Array.map_snd_zip (by rw[Yc];lia)]
  .exists List.range ns.f,List.Perm.refl _,?_,?_
   .match ns.f,(show ns.f<2 by lia) with
    |0,_=>show List.Q.nil
    |1,_=>show Vu _ _
   .match ns,(show ns.f<2 by omega) with
    |[],_=>rfl
    |[x],_=>rfl
 .rw[if_neg h2,if_neg h2];rw[Yc]at h2;rw[ksk_kind hk J];show XY (Yg ?_);rw[if_neg vg];let(p,VU,Vw,KG):=My.Mi (n:=ns.f) (key:=λi=>key<|ns.E i 0) J;let runs:=kas_runs (prog:=X.prog) (w:=X.w) (A:=A) (E:=E) (κ:=oneType') (it:=kA.zip vs.o) (n:=ns.f) (s:=s) (Q:=λ_ st s'=>s'=s/\failedOf st=none/\arrOf st=p.H (kas_item<|kA.zip vs.o))
   (G:=λq s'=>s'=s/\q=p) J Pd (λq st s' _ e2 e3 e4=>{e4.1,e3,by rw[e2,e4.2]})
   (My.goT_wp' (c:=λi j=>decide<|key (ns.E i 0)<key (ns.E j 0)) (tB:=λs'=>s'=s) (λi j C s' hi hj hs hC=>by let(t,u,e):=lQ hv hk hi;let(t',u',e'):=lQ hv hk hj;unfold kas_cmp;rw[e,e'];show kat_lt_int<|hC s' hs) _ s (My.QQ B) Z λs' hs=>⟨hs,VU⟩)
  unfold kasC kas_st at runs;rw[<-hzs,kas_range]at runs;show XY (Ts runs ?_ λ_ _ z=>z);rintro⟨⟨⟩,st⟩ s' ⟨rfl,hf,ha⟩;dsimp only;let hb:∀i∈p.C,i<ns.f:=λi hi=>YG.G (Vw.mem_iff.G hi)
  let Ve:p.C.f=ns.f:=by rw[Vw.length_eq,YY]
  show bP (out:=p.C.H λi=>(kas_item (kA.zip vs.o) i).2) I Fa Fk Pn J hf ?_ (by rw[Xy];lia) λSF m tB e=>h SF m _ _ tB e (by simpa using bO hv hk p.toList hb) ⟨p.C,Vw,KG,Z⟩;let ha:arrOf st=p.H (kas_item<|kA.zip vs.o):=ha
  rw[ha,Array.map_map];show Array.toList_inj.G AP
def BR(I:Inv X (pins++[(a,seqObj "list" #[] e1),(kS,seqObj "list" #[] 0)]) σ H s)(Fa:FpOk X pins H a)(Fk:FpOk X pins H kS)(Pn:a≠kS)(hv:IntsAre vs ns)(Pd:ns.f<64)
  (turn:∀pl z t s',z∈ns->Inv X (pins++pl) σ H s'->wpAny (model X.prog X.w) A (call f [.int z t]) (λv SF=>∃t',v=.int (key z) t'/\Inv X (pins++pl) σ H SF) (λ_ _=>False) s')
  (h:∀s' m out ms,Inv X pins σ H s'->s'.m.D a=some (seqObj "list" out m)->IntsAre out.C ms->Sb key ns ms->P (.done<|.ret .none) s'):
  wpAny (model X.prog X.w) A (ksk_rest a f false vs.o e1<|.ref kS) P E s:=by
 let KQ:sizeLine=16777216:=TF;let BS:=hv.f
 unfold ksk_rest;show XY (Uz ?_);rw[<-Array.forIn_toList];simp only[List.toList_toArray];show XY (ksk_fold (λi s'=>∃kA e,Inv X (pins++[(a,seqObj "list" #[] e1),(kS,seqObj "list" kA e)]) σ H s'/\IntsAre kA.C ((ns.R i).H key)) vs 0 s {#[],0,I,by simpa using IntsAre.nil} ?step ?done)
 case step=>
  rintro j x s' hx ⟨kA,e,tB,hk⟩;rw[Ot]at hk ⊢;let hj:j<ns.f:=by rw[<-BS];show(Xs.G hx).1
  let(t,ht):=lR hv j hj;rw[hx]at ht;let rfl:=Ya ht;let hz:kA.t<=j:=by let h1:=hk.f;rw[YA,Xy,Yo]at h1;lia
  let eg:ns.E j 0=ns[j]:=by rw[WW,XI hj];rfl
  let VO:ns.E j 0∈ns:=by rw[eg];show QE hj
  show XY (ND<|Ts (turn _ _ t s' VO tB) (λv SF he=>?_) λ_ _ hF=>hF.elim);let(t2,rfl,J2):=he;dsimp only;let pk:=(J2.pin (kS,seqObj "list" kA e) AP).1
  obtain⟨c2,VY⟩:∃c2,(SF.m.update kS (Obj.mapSeq (·.push (.int (key<|ns.E j 0) t2)))).D kS=some (seqObj "list" (kA.push<|.int (key<|ns.E j 0) t2) c2):={_,FN pk (·.push (.int (key<|ns.E j 0) t2))};show XY (Oq pk Z ?_ J<|by rw[Array.size_push];lia);show Yg {Z,kA.push<|.int (key<|ns.E j 0) t2,c2,?_,?_}
  .let J3:Inv X (pins++[(a,seqObj "list" #[] e1)]) σ H SF:=J2.pins_of λp hp=>J2.pin p (Yh _ (by
    rcases Yb.G hp with hp|hp
    .show Yn _ hp
    .show Yh _<|by rw[XD.G hp];show Yd))
   let bN:FpOk X (pins++[(a,seqObj "list" #[] e1)]) H kS:=Fk.more λp hp=>by rw[XD.G hp];show Pn
   let J4:=(J3.changed (t':=SF.toks) bN λc o hc q=>(YU SF.m (Obj.mapSeq (·.push (.int (key<|ns.E j 0) t2)))<|XO hc).l q).pin1 bN VY λv z=>by cases z
   rwa[QF]at J4
  .let ek:(ns.R<|j+1).H key=(ns.R j).H key++[key (ns.E j 0)]:=by rw[List.take_add_one,XI hj,YD,eg];rfl
   rw[Qd,ek];show ksk_snoc hk
 case done=>
  rintro s' ⟨kA,e,tB,hk⟩;rw[Ot,BS,YF]at hk;let pk:=(tB.pin (kS,seqObj "list" kA e) AP).1
  show XY (FJ pk Z ?_);show BU tB Fa Fk Pn hv Pd hk h
def BQ(I:Inv X pins σ H s)(Fa:FpOk X pins H a)(ho:s.m.D a=some (seqObj "list" vs.o n))(hv:IntsAre vs ns)(Pd:ns.f<64)
  (turn:∀pl z t s',z∈ns->Inv X (pins++pl) σ H s'->wpAny (model X.prog X.w) A (call f [.int z t]) (λv SF=>∃t',v=.int (key z) t'/\Inv X (pins++pl) σ H SF) (λ_ _=>False) s')
  (h:∀s' m out ms,Inv X pins σ H s'->s'.m.D a=some (seqObj "list" out m)->IntsAre out.C ms->Sb key ns ms->P (.done<|.ret .none) s'):
  wpAny (model X.prog X.w) A (ksk_tree a f false) P E s:=by
 let KQ:sizeLine=16777216:=TF;let BS:=hv.f
 obtain⟨e1,Co⟩:∃e1,(s.m.update a<|Obj.mapSeq λ_=>(#[]:Array Value)).D a=some (seqObj "list" #[] e1):={_,FN ho λ_=>#[]};let I1:Inv X pins σ H {s with heap:=s.m.update a<|Obj.mapSeq λ_=>(#[]:Array Value),toks:=s.toks}:=I.changed Fa λc o hc q=>(YU _ _<|XO hc).l q
 let I2:Inv X pins σ H {s with heap:=(s.m.update a<|Obj.mapSeq λ_=>(#[]:Array Value)).push (seqObj "tuple" vs.o 0),toks:=s.toks}:=I1.kept λc o q=>Xo _ q;let UU:((s.m.update a<|Obj.mapSeq λ_=>(#[]:Array Value)).push (seqObj "tuple" vs.o 0)).D a=some (seqObj "list" #[] e1):=Xo _ Co
 unfold ksk_tree;show XY (FJ ho Z ?_);show XY (Oq ho Z ?_ (by rw[Yc];lia)<|Yl _);show XY (seqEpoch_at Co Z ?_);show XY (yS ?_<|by change vs.f<=_;omega);show XY (LD ?_<|Yl _);show RW ?_;let Fk:FpOk X pins H ((s.m.update a<|Obj.mapSeq λ_=>(#[]:Array Value)).push (seqObj "tuple" vs.o 0)).objs.t:=I2.fpOk (XQ _) (I2.hok.fresh<|XQ _)
 let Pn:a≠((s.m.update a<|Obj.mapSeq λ_=>(#[]:Array Value)).push (seqObj "tuple" vs.o 0)).objs.t:=Yq (Ym UU);let I3:Inv X pins σ H {s with heap:=((s.m.update a<|Obj.mapSeq λ_=>(#[]:Array Value)).push (seqObj "tuple" vs.o 0)).push (seqObj "list" #[] 0),toks:=s.toks}:=I2.kept λc o q=>Xo _ q
 let I4:=(I3.pin1 Fa (Xo _ UU) λv z=>by cases z).pin1 (Fk.more (pl:=[(a,seqObj "list" #[] e1)]) λp hp=>by rw[XD.G hp];show Pn) (Yi _ Z) λv z=>by cases z
 rw[QF]at I4;show BR I4 Fa Fk Pn hv Pd turn h
def Zn6{tp q:Addr}{ot:Obj}{Q:Ae}(I:Inv X pins σ H s)(ht:s.m.D tp=some ot)(hc:ot.cls=.type "tuple")(hd:ot.data=.seq vs.o m)(hv:IntsAre vs ns)(Pd:ns.f<64)
  (turn:∀pl z t s',z∈ns->Inv X (pins++pl) σ H s'->wpAny (model X.prog X.w) A.in1.in1 (call ↑q [.int z t]) (λv SF=>∃t',v=.int (key z) t'/\Inv X (pins++pl) σ H SF) (λ_ _=>False) s')
  (h:∀s' a m out ms,FpOk X pins H a->Inv X pins σ H s'->s'.m.D a=some (seqObj "list" out m)->IntsAre out.C ms->Sb key ns ms->Q ↑a s'):
  wpAny (model X.prog X.w) A (call (.builtin "sorted") [.ref tp] [(Str.Y "key",.ref q)]) Q E s:=by
 let KQ:sizeLine=16777216:=TF;let BS:=hv.f
 show call_function_entry_kw kind_sorted plain_sorted entry_sorted (ksk_s1 _ _) ?_;unfold Builtin.«sorted»;show XY (m:=checkCount "sorted" 1 1 _) (Yg ?_);show XY (ZU5 ht hc hd B ?_);show XY (LD ?_ B);let hsz:((s.m.push<|seqObj "list" #[] 0).update (~~~s) (Obj.mapSeq (·++vs.o))).objs.t=(~~~s)+1:=by rw[Heap.size_update,size_push']
 let Kd:(((s.m.push<|seqObj "list" #[] 0).update (~~~s) (Obj.mapSeq (·++vs.o))).push (seqObj "list" vs.o 0)).D ((~~~s)+1)=some (seqObj "list" vs.o 0):=by rw[<-hsz];show Yi _ rfl
 let keep:∀b o,s.m.D b=some o->(((s.m.push<|seqObj "list" #[] 0).update (~~~s) (Obj.mapSeq (·++vs.o))).push (seqObj "list" vs.o 0)).D b=some o:=λb o q=>by let Xt:b<(~~~s):=Ym q;show Xo _ ((YU _ _<|RV Xt).l (Xo _ q))
 change wpAny _ _ _ _ _ {s with heap:=((s.m.push<|seqObj "list" #[] 0).update (~~~s) (Obj.mapSeq (·++vs.o))).push (seqObj "list" vs.o 0)};rw[hsz];let Fa:FpOk X pins H ((~~~s)+1):=I.fpOk (SI _) (I.hok.fresh<|SI _)
 show XY (RW<|wpAny_call_entry_kw slot_list_sort ⟨_,Kd,Z⟩ entry_list_sort ?body (ksk_l1 _ _));change wpAny (model X.prog X.w) A.in1.in1 (Builtin.«list.sort» {[.ref ((~~~s)+1)],[(Str.Y "key",.ref q)]}) _ _ _
 rw[ksk_t1];show BQ (s:={s with heap:=((s.m.push<|seqObj "list" #[] 0).update (~~~s) (Obj.mapSeq (·++vs.o))).push (seqObj "list" vs.o 0),toks:=s.toks}) (I.kept keep) Fa Kd hv Pd turn λs' m out ms tB e hi hs=>{_,Z,?_};show Yg {_,Z,h s' _ m out ms Fa tB e hi hs}
end
def xi(c:Addr)(qual:Str):(HO):=.ext λh=>h.CodeRec ↑c qual
def TabH(H:Hp)(Pt:Addr)(pos:Pos)(qual:Str):(Prop):=∃ps:Array Value,H Pt=some (.tbl ps)/\TriplesOk ps.C/\(codeAmong pos ps.C=none\/∃c,codeAmong pos ps.C=some ↑c/\H c=some (xi c qual))
def SameX(Pt:Addr)(H H':Hp):(Prop):=∀b o,b≠Pt->H b=some o->H' b=some o
def bM{c:Addr}(h1 h2:Heap)(r:h1.CodeRec ↑c qual)(k:∀o,h1.D c=some o->h2.D c=some o):h2.CodeRec ↑c qual:=by let(c2,o,vs,t,e,g,r):=r;cases e;exists c,o,vs,t,Z,k _ g,r
section
variable{X:Cx}{pins:List (Addr×Obj)}{σ:St}{H:Hp}{s:Shared}{c Pt cc:Addr}{x:Str}{params:Arguments}{body:Expr}{scope:Scope}{pos:Pos}{E:Ae}{Q:Ae}
def Inv.builtinsAt(I:Inv X pins σ H s)(hB:X.base.BuiltinsAt X.mg Pt):s.m.BuiltinsAt X.mg Pt:=by let(bm,o,h1,h2,h3,h4,h5,h6):=hB;exists bm,o,h1,h2,h3,h4,I.bk _ _ h5,h6
def BP(I:Inv X pins σ H s)(TZ:X.X.code=.ref c)(hC:codeHdIn X.K c Pt=true)(hB:X.base.BuiltinsAt X.mg Pt)(hT:TabH H Pt pos (X.X.qual++Str.Y "<lambda>"))(Tu:closureFor scope X.X=pure [(x,cc)])(IC:defaultsOf params X.X=([],[]))(BO:mainGlobals≠Pt)
  (h:∀f c' pm RA s' H',SameX Pt H H'->TabH H' Pt pos (X.X.qual++Str.Y "<lambda>")->FpOk X pins H' f->Inv X pins σ H' s'->s'.m.D f=some (kla_obj (Str.Y "<lambda>") (X.X.qual++Str.Y "<lambda>") params body scope [(x,cc)] pm c' RA)->H' c'=some (xi c'<|X.X.qual++Str.Y "<lambda>")->Q ↑f s'):
  wpAny (model X.prog X.w) X.A (eval (.Lambda params body scope pos) X.X) Q E s:=by
 let(ps,hP,Mg,BN):=hT;let lP:s.m.D Pt=some (tabObj ps):=I.hok Pt _ hP
 let NS:s.m.Ns mainGlobals X.mg:=I.mod.glob.keeps I.bk;let bL:=codeHd_of_K I.kIn hC
 show kla_eval IC ?_;rcases BN with bK|⟨c',hf,Xe⟩
 .show kla_makeFunction Tu I.ok.glob NS TZ bL lP Mg bK BO (I.builtinsAt hB) λc' RA h' tk hx Si Xt Mf bJ=>?_;let bI:Pt<(~~~s):=Ym lP
  let hcn:H c'=none:=I.hok.fresh Si;let bH:c'≠Pt:=RV (Yt bI Si)
  let keep:∀b o,b≠Pt->s.m.D b=some o->(h'.push<|kla_obj (Str.Y "<lambda>") (X.X.qual++Str.Y "<lambda>") params body scope [(x,cc)] ((X.mg "__name__").E .none) c' RA).D b=some o:=λb o hb e=>Xo _ (hx b o hb e);let sx:SameX Pt H (upd (upd H Pt<|.tbl<|ps++#[rawInt pos.line,rawInt pos.col,.ref c']) c'<|xi c'<|X.X.qual++Str.Y "<lambda>"):=λb o hb e=>by rwa[Za (Zb e hcn),Za hb]
  let tb:TabH (upd (upd H Pt<|.tbl<|ps++#[rawInt pos.line,rawInt pos.col,.ref c']) c'<|xi c'<|X.X.qual++Str.Y "<lambda>") Pt pos (X.X.qual++Str.Y "<lambda>"):=by let et:(ps++#[rawInt pos.line,rawInt pos.col,Value.ref c']).C=ps.C++[rawInt pos.line,rawInt pos.col,.ref c']:=AP;exists ps++#[rawInt pos.line,rawInt pos.col,.ref c'],by rw[Za (XO bH),XS],by rw[et];show TriplesOk_snoc _ _ _ _ Mg,.inr {c',by rw[et];show codeAmong_snoc _ Mg bK,XS}
  let IB:∀b,H b=none->b≠Pt:=λb n z=>by rw[z,hP]at n;cases n
  show h h'.objs.t c' _ RA _ _ sx tb ?_ (I.un {λb o e n _ _=>keep b o (IB b n) e,λb o e n _ _=>{o.slots,keep b o (IB b n) e},λb o e n _=>?_,λb o e _=>?_,λb xs e=>?_,λb o u e=>?_,λb qs e=>?_} λb u e=>?_) (Yi _ Z) XS
  .let lO:(~~~s)<=h'.objs.t:=J;show I.fpOk lO ?_;rw[Za (RV Xt),Za (RV<|Yt bI lO)];show I.hok.fresh lO
  .rw[Za (Yq<|Yt (Ym e) Si),Za (IB b n)];show n
  .cases hb:b=Pt
   .rw[hb];exists _,Xo _ bJ
   .exists o,keep b o hb e
  .show sx b _ (λz=>by rw[z,hP]at e;cases e) e
  .show sx b _ (λz=>by rw[z,hP]at e;cases e) e
  .cases hb:b=Pt
   .subst hb;rw[hP]at e;let rfl:ps=qs:=by cases e;rfl
    exists #[rawInt pos.line,rawInt pos.col,.ref c'],by rw[Za (XO bH),XS]
   .exists #[],by rw[sx b _ hb e];simp
  .cases hb:b=c'
   .subst hb;rw[XS]at e;cases e;exists bM _ _ Mf λo g=>Xo _ g,?_,bM;let(c2,o,_,_,e2,g,_):=Mf;cases e2;exists o,Xo _ g
   .rw[Za hb]at e;cases Sa:b=Pt
    .subst Sa;rw[XS]at e;cases e;show Xo _ bJ
    .rw[Za Sa]at e;show(I.hok b u e).stay (λd o hd g=>keep d o (λz=>?_) g) (λd g=>sx d _ (λz=>by rw[z,hP]at g;cases g) g) λd xs g=>sx d _ (λz=>by rw[z,hP]at g;cases g) g;rcases hd with hd|hd
     .show Sa (hd.symm.l z)
     .rw[z,hP]at hd;cases hd
 .show kla_makeFunctionHit Tu I.ok.glob NS TZ bL lP Mg hf (I.builtinsAt hB) λRA h' tk hk hsz=>?_;show h h'.objs.t c' _ RA _ H (λ_ _ _ e=>e) {ps,hP,Mg,.inr ⟨c',hf,Xe⟩} (I.fpOk hsz<|I.hok.fresh hsz) (I.kept λb o e=>Xo _<|hk b o e) (Yi _ Z) Xe
end
def BM(K:Ad)(Pt:Addr)(SQ:Pos)(qual:Str)(i:Nat)(te tb:TE):(TE):=λσ H Q=>te σ H λy H1=>∃p ns vx key,y=.ref p/\SqT K H1 p (ns.H V.int)/\ns.f<64/\TabH H1 Pt SQ qual/\σ[i]?=some (some vx)/\
 (∀H2,SameX Pt H1 H2->∀z∈ns,tb [some (.int z),some vx] H2 λr H3=>r=.int (key z)/\H3=H2)/\
 ∀ms l H2,Sb key ns ms->SameX Pt H1 H2->TabH H2 Pt SQ qual->H2 l=none->Q ↑l (upd H2 l<|.lst<|ms.H V.int)
section
variable{X:Cx}{p kp pos SQ:Pos}{e body:Expr}{params:Arguments}{scope:Scope}{te tb:TE}{v x:Str}{i k:Nat}{c Pt cc:Addr}
def SqT.samex{K:Ad}{H H2:Hp}{a:Addr}{xs:List V}{qual:Str}(h:SqT K H a xs)(t:TabH H Pt SQ qual)(sx:SameX Pt H H2):SqT K H2 a xs:=by
 let(ps,hP,_):=t;rcases h with (h|⟨o,h⟩)|h
 .show .inl (.inl<|sx _ _ (λz=>by rw[z,hP]at h;cases h) h)
 .show .inl (.inr {o,sx _ _ (λz=>by rw[z,hP]at h;cases h) h})
 .show .inr h
def ZH6(he:PE X e te)(hg:Gl X (Str.Y "sorted"))(hm:X.mg (Str.Y "sorted")=none)(hr:Room (k+3) X.A)(hex:X.ex=[])(TZ:X.X.code=.ref c)(hC:codeHdIn X.K c Pt=true)(hB:X.base.BuiltinsAt X.mg Pt)(BO:mainGlobals≠Pt)
  (S:LamScope v x scope)(Tu:closureFor scope X.X=pure [(x,cc)])(IC:defaultsOf params X.X=([],[]))(SR:∀c' pm RA u,bindArgs (kla_fn (Str.Y "<lambda>") (X.X.qual++Str.Y "<lambda>") params body scope [(x,cc)] pm ↑c' RA) {[u],[]}=pure [(v,u)])
  (hi:X.N[i]?=some x)(bG:X.X.kindOf x=some .cell)(Xj:X.X.cells.M x=some cc)
  (hb:∀f c' A outer s H,Room k (A.deeper<|envX (X.X.qual++Str.Y "<lambda>") scope (~~~s) f ↑c' [(x,cc)])->PE (OR X.prog X.w X.K X.mg X.base [v,x] (X.X.qual++Str.Y "<lambda>") scope f ↑c' [(x,cc)] A outer s H) body tb)(hs:starEach [e] X.X=[(false,eval e X.X)]:=by rfl):
  PE X (.Call (.Name (Str.Y "sorted") p) [e] [{some<|Str.Y "key",.Lambda params body scope SQ,kp}] pos) (BM X.K Pt SQ (X.X.qual++Str.Y "<lambda>") i te tb):=by
 intro pins s σ H Q I h;show NH (Rg I hg hm Boot.«sorted» ?_ vg vg);let ha:PA X [e] (JP te JQ):=XZ he XT hs
 show callWith_kw (thn (ha pos pins s σ H (λvs H1=>match vs with
  |[y]=>∃p ns vx key,y=.ref p/\SqT X.K H1 p (ns.H V.int)/\ns.f<64/\TabH H1 Pt SQ (X.X.qual++Str.Y "<lambda>")/\σ[i]?=some (some vx)/\
   (∀H2,SameX Pt H1 H2->∀z∈ns,tb [some (.int z),some vx] H2 λr H3=>r=.int (key z)/\H3=H2)/\
   ∀ms l H2,Sb key ns ms->SameX Pt H1 H2->TabH H2 Pt SQ (X.X.qual++Str.Y "<lambda>")->H2 l=none->Q ↑l (upd H2 l<|.lst<|ms.H V.int)
  |_=>False) I h) λus s1 hh=>?_) (by rw[hs];rfl) (by rw[hs];rfl) Z rfl
 let(vs,H1,I1,r,q):=hh
 match vs,r,q with
 |[],_,q=>show False.elim q
 |_::_::_,_,q=>show False.elim q
 |[y],r,q=>
  let(p2,ns,vx,key,rfl,hq,Pd,hT,hσ,hk,q):=q;let(u,rfl,ru):=Ut r;let rfl:u=Value.ref p2:=ru;show kws_cons (BP I1 TZ hC hB hT Tu IC BO λf c' pm RA s2 H2 sx tab F I2 hf Xe=>kws_nil ?_);let I3:=I2.pin1 F hf λv z=>by cases z
  let Vd:=SqT.samex hq hT sx;let(XX,rv,(ot,g1,g2,m,g3),hz):=I2.tuple Vd;let hv:=ZD rv
  show Zn6 I3 g1 g2 g3 hv Pd (key:=key) (λpl z t s3 VO tB=>?_) λs3 a m out ms Fa tB Me ID Wl=>?_
  .-- the lambda called
   let JD:s3.m.D f=some (kla_obj (Str.Y "<lambda>") (X.X.qual++Str.Y "<lambda>") params body scope [(x,cc)] pm c' RA):=(tB.pin (f,_)<|Yh _<|Yn _<|Yh _ Yd).1;let(mm,_,lN):=tB.loc;let(ux,rx,BL):=lN i x vx hi hσ (.inr<|.inl bG);let RU:s3.m.IsCell cc (some ux):=by
    rcases BL with ⟨kz,_⟩|⟨_,c2,e2,VY⟩
    .rw[bG]at kz;cases kz
    .rw[Xj]at e2;cases e2;show VY
   let Mf:s3.m.CodeRec ↑c' (X.X.qual++Str.Y "<lambda>"):=(tB.hok c' _ Xe).1;let Wd:Room (k+1) X.A.in1.in1:=(hr.in1).in1
   show FH (Oo (BV (u:=.int z t) (vv:=.int z) S Wd tB.env0.in1.in1 JD Mf (SR c' pm RA _) RU rx (tB.freeC x cc Xj) ⟨t,Z⟩ (hb f c' _ _ s3 H2<|Wd.deeper _)<|hk H2 sx z VO) λrr s4 hh=>?_);let(u',rfl,ce):=hh;let(v',H',J',DG,e1,e2):=tB.after ce;subst e1 e2;let(t',rfl):=DG;exists t',Z,J'
  .let J0:Inv X pins σ H2 s3:=tB.unpinned;let Fa0:FpOk X pins H2 a:=⟨Fa.1,Fa.2.1,Fa.2.2.1,Fa.2.2.2.1,Fa.2.2.2.2.1,λp hp=>Fa.2.2.2.2.2 p (by
    rcases Yb.G hp with hp|hp
    .show Yn _ hp
    .show Yh _<|Yn _ hp)⟩
   let MN:ms.f=ns.f:=by let(pp,h1,_,rfl):=Wl;rw[Xy,h1.length_eq,YY]
   exists .ref a,_,J0.adopt hex Fa0 (u:=.lst<|ms.H V.int) {?_,out.C,m,Pu ID,by simpa using Me},Z,q ms a H2 Wl sx tab Fa.1;rw[Xy,MN]
   have:sizeLine=16777216:=TF
   lia
end
def OQ(Pt:Addr)(H:Hp):(Prop):=H Pt=some (.tbl #[])/\∀b,b=Pt\/H b=none\/∃o xs,H b=some (.frz o<|.lst xs)
def Yz8{P:Program}{w:World}{K:Ad}{mg mb:Af}{CX:QC}{k:Nat}{fa a Pt c:Addr}{fd:FuncData}{x:Str}{sp:Sp}{s₁:Shared}{vs:Ag}{ns:Ac}
  (KX:K.In s₁.m)(NS:s₁.m.Ns mainGlobals mg)(hb:s₁.m.Ns builtinsNs mb)(DH:∀x:Str,x≠"__name__"->mb x=bootBuiltins x)(lL:s₁.m.NoLimit)(hg:s₁.gens=#[])
  (hT:s₁.m.D Pt=some (tabObj #[]))(hC:codeHdIn K c Pt=true)(lK:K.M Pt=none)(hbm:∃bm ob,mg (Str.Y "__builtins__")=some ↑bm/\bm≠builtinsNs/\s₁.m.D bm=some ob/\ob.cls=.type "module"/\ob.dict=some builtinsNs/\ob.data=.plain)
  (ha:s₁.m.D a=some {cls:=.type "list",data:=.seq vs.o})(hi:IntsAre vs ns)(hl:ns.f<=sizeLine)(hr:Room k callerA)
  (F:∀base:Heap,K.In base->base.Ns mainGlobals mg->base.BuiltinsAt mg Pt->FnOk P w K mg base CX k fa fd [x] sp)(SR:∀s u,BindsTo s fd {[u],[]} [(x,u)])
  (TR:∀H:Hp,OQ Pt H->SqL K H a (ns.H V.int)->sp [.ref a] H (λv _=>v=.bl true) λ_ _ _=>False)
  (lJ:∀H e s',CX [] H s₁ (λ_ _ _=>False) e s'->False):
  codeAny (model P w) callerA (.call ↑fa {[.ref a],[]}) (λr s'=>r=.ok (.ret<|.bool true)/\OldK s₁.m s'.m/\s'.os=s₁.os/\AllBare s'.gens) s₁:=by
 let rv:=sI hi;let lI:=hi.f
 let bF:a≠Pt:=λz=>by rw[z,hT]at ha;cases ha
 let core:∀H:Hp,OQ Pt H->SqL K H a (ns.H V.int)->HOk P w H s₁.m->(∀b,H b≠none->b=a\/b=Pt)->(H a≠none->K.M a=none)->
   codeAny (model P w) callerA (.call ↑fa {[.ref a],[]}) (λr s'=>r=.ok (.ret<|.bool true)/\OldK s₁.m s'.m/\s'.os=s₁.os/\AllBare s'.gens) s₁:=by
  intro H hO hS hok hA hK;let base_of:∀{b:Addr}{o:Obj},s₁.m.D b=some o->H b=none->(Ux s₁.m H).D b=some o:=λe n=>Zaf e n
  let free:∀{b:Addr}{o:Obj},s₁.m.D b=some o->(∀XX n,o.data≠.seq XX n)->(∀vs,o.data≠.fields vs)->H b=none:=λ{b o} e d1 d2=>by
   cases q:H b with
   |none=>rfl
   |some u=>
    rcases hA b (by rw[q];simp) with e'|e'
    .subst e';rw[ha]at e;cases e;show absurd Z (d1 _ _)
    .subst e';rw[hT]at e;cases e;show absurd Z (d2 _)
  let xh:∀{b:Addr}{m:Af},s₁.m.Ns b m->(Ux s₁.m H).Ns b m:=λ{b m} ⟨o,es,ep,e,d,r⟩=>{o,es,ep,base_of e (free e (λ_ _ z=>by rw[d]at z;cases z) λ_ z=>by rw[d]at z;cases z),d,r};let bE:K.In (Ux s₁.m H):=λb o e=>base_of (KX b o e) (by
   cases q:H b with
   |none=>rfl
   |some u=>
    rcases hA b (by rw[q];simp) with e'|e'
    .subst e';rw[hK (by rw[q];simp)]at e;cases e
    .subst e';rw[lK]at e;cases e)
  let hM:Mod K mg (Ux s₁.m H):={bE,xh NS,{mb,xh hb,DH},by let(mc,h1,h2):=lL;exists mc,xh h1,h2};let hB:(Ux s₁.m H).BuiltinsAt mg Pt:=by
   let(bm,ob,b1,b2,b3,b4,b5,b6):=hbm;exists bm,ob,b1,b2,λz=>?_,λz=>?_,base_of b3 (free b3 (λ_ _ z=>by rw[b6]at z;cases z) λ_ z=>by rw[b6]at z;cases z),b4,b5,b6
   .let⟨o,es,ep,e,d,_⟩:=NS;rw[z,e]at b3;cases b3;rw[d]at b6;cases b6
   .rw[z,hT]at b3;cases b3;cases b4
  let e0:Env0 P w K mg (Ux s₁.m H) callerA [] s₁ H:={Z,hM,λb o e=>Zag e,yN<|ZG8 _ _,trivial,λb hb=>absurd (show b∈([]:List Addr) from hb) AP,hok,.of_eq hg};show Oo ((F _ bE (xh NS) hB).run callerA [] s₁ H {[.ref a],[]} [.ref a] [.ref a] _ _ hr e0 (SR s₁<|.ref a) (.cons Z .nil) (TR H hO hS)) λr s' h=>?_;cases r with
  |error e=>show(lJ H e s' h).elim
  |ok fl=>
   cases fl with
   |next=>show False.elim h
   |brk=>show False.elim h
   |cont=>show False.elim h
   |ret u=>
    let(v,H',os,bare,un,BK,r',q):=h;let q':v=.bl true:=q
    subst q';let rfl:u=Value.bool true:=r';let(more,eP):=un.tbls Pt #[] hO.1;let bD:s'.m.D Pt=some {cls:=.none,data:=.fields (#[]++more)}:=BK Pt _ eP
    let kept:∀b o,b≠Pt->s₁.m.D b=some o->s'.m.D b=some o:=λb o VJ e=>by
     cases q:H b with
     |none=>show un.keep b o e q (by intro z;show absurd (show b∈([]:List Addr) from z) AP) AP
     |some u=>
      rcases hO.2 b with z|z|⟨ob,xs,z⟩
      .show absurd z VJ
      .rw[q]at z;cases z
      .let z2:=un.frzs b ob _ z;let(e1,_):=hok b _ z;let(e2,_):=BK b _ z2;rw[e]at e1;cases e1;show e2
    exists Z,{λb o e=>?_,λb o e=>?_},os,bare
    .cases VJ:b=Pt
     .subst VJ;rw[hT]at e;let rfl:=Ya e;let(oc,vsc,_,_,_,_,_,_,_,c1,c2,c3,c4,_):=codeHd_of_K KX hC;show .inr (.inl {⟨c,oc,vsc,c1,c2,c3,c4⟩,Z,#[],more,Z,bD})
     .show .inl (kept b o VJ e)
    .cases VJ:b=Pt
     .rw[VJ];exists _,bD
     .exists o,kept b o VJ e
 cases hk:K.M a with
 |some o=>
  let e:=KX a o hk;rw[ha]at e;cases e;show core (λb=>if b=Pt then some (.tbl #[]) else none) {if_pos Z,λb=>?_} (.inr {_,vs.o,_,hk,Z,Z,Z,by rw[Yc,lI];show hl,by simpa using rv}) (λb u z=>?_) (λb z=>?_) λz=>absurd (if_neg bF) z
  .cases VJ:b=Pt
   .show .inl VJ
   .show .inr (.inl<|if_neg VJ)
  .cases VJ:b=Pt
   .let z':=(if_pos VJ).symm.l z;cases z';subst VJ;show hT
   .let z':=(if_neg VJ).symm.l z;cases z'
  .cases VJ:b=Pt
   .show .inr VJ
   .show absurd (if_neg VJ) z
 |none=>
  show core (λb=>if b=Pt then some (.tbl #[]) else if b=a then some (.frz {cls:=.type "list",data:=.seq vs.o} (.lst<|ns.H V.int)) else none) {if_pos Z,λb=>?_} (.inl<|.inr {{cls:=.type "list",data:=.seq vs.o},(if_neg bF).l (if_pos Z)}) (λb u z=>?_) (λb z=>?_) λ_=>hk
  .cases VJ:b=Pt
   .show .inl VJ
   .cases hb:b=a
    .show .inr (.inr {_,_,(if_neg VJ).l (if_pos hb)})
    .show .inr (.inl<|(if_neg VJ).l (if_neg hb))
  .cases VJ:b=Pt
   .let z':=(if_pos VJ).symm.l z;cases z';subst VJ;show hT
   .cases hb:b=a
    .let z':=((if_neg VJ).l (if_pos hb)).symm.l z;cases z';subst hb;exists ha,by rw[Xy];show hl,vs,_,rv,ha
    .let z':=((if_neg VJ).l (if_neg hb)).symm.l z;cases z'
  .cases VJ:b=Pt
   .show .inr VJ
   .cases hb:b=a
    .show .inl hb
    .show absurd ((if_neg VJ).l (if_neg hb)) z
def OP{l:PySem.W.OpenLaw}{n k:Nat}{q:Program}{loose:List Str}{XP:Af->Heap->Prop}{YP:World->Heap->Prop}{d:DefRec}{K:Params->Ad}{CX:QC}{sp:Ad->Sp}{x:Str}{c Pt:Addr}
  (hn:l.most=some n)(PN:n<=sizeLine)(sJ:d.params.defaults=[])(hr:Room k callerA)
  (hY:∀(w:World)(h:Heap),YP w h->(K w.params).In h/\h.D Pt=some (tabObj #[]))(hC:∀w:World,codeHdIn (K w.params) c Pt=true)(lK:∀w:World,(K w.params).M Pt=none)
  (F:∀(w:World)(mg:Af)(fa:Addr)(h:Heap),(K w.params).In h->h.Ns mainGlobals mg->mg d.name=some ↑fa->
   ∃fd:FuncData,(∀(s:Shared)(u:Value),BindsTo s fd {[u],[]} [(x,u)])/\
    ∀base:Heap,(K w.params).In base->base.Ns mainGlobals mg->base.BuiltinsAt mg Pt->FnOk l.prog w (K w.params) mg base CX k fa fd [x] (sp<|K w.params))
  (TR:∀(w:World)(H:Hp)(a:Addr)(ns:Ac),ns.f<=n->OQ Pt H->SqL (K w.params) H a (ns.H V.int)->sp (K w.params) [.ref a] H (λv _=>v=.bl true) λ_ _ _=>False)
  (lJ:∀(H:Hp)(s:Shared)(e:Value)(s':Shared),CX [] H s (λ_ _ _=>False) e s'->False):
  PySem.W.WalkO q loose XP YP l.row.toRowW d [] (λf vs=>PySem.call f vs):=by show Att.Th hn sJ λw s₀ s₁ mg mb fa o pm cd doc a vs ns G Y ho hd SG Ez JH hints hlen hg=>?_;let(KX,hT):=hY w _ Y;let(fd,hb,hF):=F w mg fa _ KX G.T.g Ez;show Yz8 KX G.T.g G.T.b G.T.builtins G.T.nolimit hg hT (hC w) (lK w) G.T.bmain JH hints (YB hlen PN) hr hF hb (λH hO hS=>TR w H a ns hlen hO hS) λH e s'=>lJ H s₁ e s'
def BJ(K:Ad)(mg:Af)(base:Heap)(fd:FuncData)(Pt:Addr):(Prop):=∃c,fd.code=.ref c/\codeHdIn K c Pt=true/\base.BuiltinsAt mg Pt/\mainGlobals≠Pt
def LamScope.of(h1:sc.kind=.function)(h2:sc.isCoroutine=false)(h3:sc.isGenerator=false)(h4:sc.names=[(v,.local),(x,.free)]\/sc.names=[(x,.free),(v,.local)])(hn:v≠x):LamScope v x sc:=by
 let b1:(v == x)=false:=za hn;let b2:(x == v)=false:=za (XO hn)
 exists h1,h2,h3,λy hy=>?_,?_,?_,λy hy=>?_,hn
 .let l1:NameKind.local≠NameKind.cell:=vg;let l2:NameKind.free≠NameKind.cell:=vg
  rcases h4 with e|e<;>rw[e]at hy<;>rcases Ye.G hy with rfl|hy
  .show l1
  .rw[XD.G hy];show l2
  .show l2
  .rw[XD.G hy];show l1
 .rcases h4 with e|e<;>rw[e]<;>simp[List.lookup,b1,b2]
 .rcases h4 with e|e<;>rw[e]<;>simp[List.lookup,b1,b2]
 .rcases h4 with e|e<;>rw[e]at hy<;>simp only[List.lookup]at hy
  .split at hy
   .cases hy
   .split at hy
    .rename_i q;show QD.G q
    .cases hy
  .split at hy
   .rename_i q;show QD.G q
   .split at hy
    .cases hy
    .cases hy
section
variable{P:Program}{w:World}{K:Ad}{mg:Af}{base:Heap}
def Fun.okL{x qual:Str}{st:Stmt}{f c:Addr}{fd:FuncData}{N ps:List Str}{k:Nat}{sp:Sp}(F:Fun K x qual st f fd)(hc:fd.code=.ref c)(S:FnScope N ps (Zd st))(len:∀vs H Q E,sp vs H Q E->vs.f=ps.f)
  (UX:∀A outer s H vs Q E,Room k (A.deeper<|envOfC qual (Zd st) (~~~s) f<|.ref c)->sp vs H Q E->
   ∃t,PSs (Tj Xd P w K mg base N qual (Zd st) f ↑c A outer s H E).nox (Qx st) t/\t {nx:=λ_ H'=>Q .non H',rt:=Q} (start N vs) H):FnOk P w K mg base Xd (k+1) f fd ps sp:=by let(oc,od,kV,doc,pm,an,Xw,ct,Tz,rfl,lk,SG):=F.ex;let rfl:Xw=.ref c:=hc;show EL lk SG S len λA outer s H vs Q E hr TR=>?_;let(t,h,q):=UX A outer s H vs Q E hr TR;exists t,h.nox,q
end
end L2
namespace My
open PySem L2
def bC(K:Ad)(mg:Af)(x qual:Str)(st:Stmt)(Pt:Addr):(Prop):=∃f fd c,mg x=some ↑f/\Fun K x qual st f fd/\fd.code=.ref c/\PySem.W.codeHdIn K c Pt=true
def IA{K:Ad}{h:Heap}{mg:Af}{x:Str}{st:Stmt}{f cA Pt:Addr}{oc:Value}{od an:Option Addr}{Tz:Array (Option Value)}{kV doc pm ct:Value}(X:K.In h)(G:h.Ns mainGlobals mg)
  (a:PySem.W.nsIn K mainGlobals x=some (some<|.ref f))(l:K.M f=some {oc,od,.func<|PySem.W.fnOf x x (Lk st) (Qx st) (Zd st) .none kV doc pm an ↑cA ct,Tz})(c:PySem.W.codeIn K ↑cA x=true)(k:PySem.W.keepIn K ↑f=true)(z:PySem.W.codeHdIn K cA Pt=true):bC K mg x x st Pt:=
 {f,_,cA,FU X G a,ym l c k,Z,z}
end My
namespace L2
open PySem PySem.Spec PyProof.Rows PySem.MeetsSeq
def lH(l:Addr)(xs:Array Value)(n:Nat)(v:Value)(g:Value->Bool)(j:Nat)(hj:j<xs.t)(yes:g xs[j]=true)(hz:xs.t<=sizeLine):∀k i,j-i=k->i<=j->(∀m (hm:m<xs.t),i<=m->m<j->g xs[m]=false)->
  Meets (Builtin.«list.remove.loop» {[.ref l,v,rawInt i],[]}) (λA R s=>s.m.D l=some {cls:=.type "list",dict:=none,data:=.seq xs n,slots:=#[]}/\(∀y,y∈xs->SeqAt.EqAt A.in1 s y v (g y))/\R (.ok<|.ret .none) {s with heap:=s.m.update l (Obj.mapSeq λys=>ys.eraseIdxIfInBounds j)}):=by
 intro k
 induction k with
 |zero=>
  intro i e1 e2 no prog w A R s h;let(hp,gs,d,tk,os):=s;let(ho,he,h):=h;let rfl:i=j:=J
  wp_walk using (LH ho)
  let at_:xs[((i:Nat):Int).j]?=some xs[i]:=by simp[hj]
  rw[at_];show XY (he _ (Array.getElem_mem hj) prog w _ _ ?_);rw[yes];let SD:(xs.eraseIdxIfInBounds i).t<=sizeLine+1:=YB (size_erased xs _) (Nat.le_succ_of_le hz)
  wp_walk using (Nw ho Z (hz:=hz) (_hz':=SD)),(LH ho)
  simpa using h
 |succ k ih=>
  intro i e1 e2 no prog w A R s h;let(hp,gs,d,tk,os):=s;let(ho,he,h):=h;let lt:i<xs.t:=J
  wp_walk using (LH ho)
  let at_:xs[((i:Nat):Int).j]?=some xs[i]:=by simp[lt]
  let nx:((i:Int)+1)=((i+1:Nat):Int):=by push_cast;rfl
  rw[at_];show XY (he _ (Array.getElem_mem lt) prog w _ _ ?_);rw[no i lt (XQ _) B]
  wp_walk
  rw[nx];exists NC plain_remove_loop _,SK entry_remove_loop ?_;rw[LJ plain_remove_loop _];show ih (i+1) B B (λm hm a b=>no m hm B b) prog w A R _ ⟨ho,he,h⟩
def Zk8(l:Addr)(xs:Array Value)(n:Nat)(v:Value)(g:Value->Bool)(j:Nat)(hj:j<xs.t)(yes:g xs[j]=true)(no:∀m (hm:m<xs.t),m<j->g xs[m]=false)(hz:xs.t<=sizeLine):
  Meets (Builtin.«list.remove» {[.ref l,v],[]}) (λA R s=>s.m.D l=some {cls:=.type "list",dict:=none,data:=.seq xs n,slots:=#[]}/\(∀y,y∈xs->SeqAt.EqAt A.in1 s y v (g y))/\R (.ok<|.ret .none) {s with heap:=s.m.update l (Obj.mapSeq λys=>ys.eraseIdxIfInBounds j)}):=by
 intro prog w A R s h;let(hp,gs,d,tk,os):=s;let(ho,he,h):=h
 wp_walk using (LH ho)
 exists NC plain_remove_loop _,SK entry_remove_loop ?_;rw[LJ plain_remove_loop _];show lH l xs n v g j hj yes hz _ 0 Z (Yl _) (λm hm _ b=>no m hm b) prog w A R _ ⟨ho,he,h⟩
section
variable{X:Cx}
def lG(K:Ad):(V->List V->Hp->VK->Prop):=λx vs H Q=>∃(n:Nat)(l:Addr)(xs:List V)(y:V)(e:Addr->Bool)(j:Nat)(a:Addr),x=.ref l/\vs=[y]/\H l=some (.lst xs)/\n<=6/\(∀v∈xs,∃a,v=.ref a/\EqD K H n v y (e a))/\xs[j]?=some ↑a/\e a=true/\(∀m b,m<j->xs[m]?=some ↑b->e b=false)/\Q .non (upd H l<|.lst<|xs.eraseIdx j)
def Vals.erase(r:Vals xs us)(j:Nat):Vals (xs.eraseIdx j) (us.eraseIdx j):=by rw[FL,FL];show(r.R _).append (r.drop _)
def ZY6(K:Ad)(hu:X.A.units+8<cLine)(hk:X.K=K:=by rfl):Oe X "list.remove" (lG K):=by
 subst hk;intro pins s σ H x vs v us Q I rx rv h;let(n,l,xs,y,e,j,a,rfl,rfl,hH,hn,he,hj,hy,UD,q):=h;cases rx;let(u,rfl,ru):=rv.one;let(z,XX,m,r,hl,ho):=I.lstM hH;let MO:j<xs.f:=(Xs.G hj).1
 let at_:∀(i:Nat)(hi:i<XX.o.t),∃b,xs[i]?=some ↑b/\XX.o[i]=.ref b:=λi hi=>by
  let We:i<XX.f:=by simpa using hi
  let(w,ew,Nf):=r.at We;let(b,rfl,_):=he w (Xn ew);let e3:XX[i]=Value.ref b:=Nf
  exists b,ew,by simpa using e3
 let lF:j<XX.o.t:=by rw[Yc];lia
 show Uy F.slot_list_remove {_,ho,Z} F.entry_list_remove (F.args_list_remove_2 _ _) (Zk8 l XX.o m u (λw=>match w with | .ref b=>e b|_=>false) j lF ?_ ?_<|by rw[Yc];lia) {ho,λw hw=>?_,?_}
 .let⟨b,e1,e2⟩:=at_ j lF;rw[hj]at e1;cases e1;rwa[e2]
 .intro i hi WI;let(b,e1,e2):=at_ i hi;rw[e2];show UD i b WI e1
 .show qW I (by change X.A.units+1+n<cLine;lia) ru r he w (by simpa using hw)
 .exists .non,_,I.lset (its':=XX.eraseIdx j) hH ho ?_ (r.erase j) ?_,Z,q
  .rw[Array.eraseIdxIfInBounds_eq,dif_pos lF];apply Array.ext';simp
  .rw[Rn,if_pos MO];lia
end
end L2
namespace My
open PySem L2
def TH(n:Int)(ps:Aa)(I O W:Ac):(Prop):=Zf n ps W/\(∀z∈I,z∈W)/\∀z∈O,z∉W
def pl(ls T U:Ac):(Prop):=HT.Vi (XW ls T,T) (XW ls U,U)=true
def Wo:pl ls T U↔XW ls T<XW ls U\/(XW ls T=XW ls U/\HT.lexLt T U=true):=HT.Wh
def pl.trans{ls T U W:Ac}(h1:pl ls T U)(h2:pl ls U W):pl ls T W:=HT.Vx h1 h2
def ZV:¬pl ls T T:=λh=>by
 have:=HT.VV (XW ls T,T)
 unfold pl at h;rw[this]at h;cases h
def OO(ls:Ac)(m:Nat)(os:Ac):(Prop):=os.Perm (Wu m)/\os.Q λx y=>Xu ls x<Xu ls y\/(Xu ls x=Xu ls y/\x<y)
def bB(g:Zv n ps)(hT:Zf n ps T)(hW:Zf n ps W)(h:∀z∈T,z∈W):T=W:=
 Jl (dX hT) (dX hW) λz=>(cD g hT hW h).mem_iff
section
variable{n:Int}{ps:Aa}{ls os I O ms:Ac}(g:Zv n ps)(ho:OO ls ps.f os)
include g ho
def BI{z:Int}:z∈os↔0<=z/\z<ps⁻¹:=by rw[ho.1.mem_iff,Xr]
def xg(hI:∀z∈I,0<=z/\z<ps⁻¹):∀z∈I++os.U λz=>decide (z∉O),0<=z/\z<ps⁻¹:=λz hz=>by
 rcases Yb.G hz with hz|hz
 .show hI z hz
 .show(BI g ho).G (Yj.G hz).1
def BH(hW:TH n ps I O W):∀z∈W,z∈I++os.U λz=>decide (z∉O):=λz hz=>
 Yh _ (Yj.L {(BI g ho).L (hW.1.1.all z hz),Ys λh=>hW.2.2 z h hz})
def bx(hI:∀z∈I,0<=z/\z<ps⁻¹)(hn:I.Nodup)(h:¬((WY n.j ps (I++os.U λz=>decide (z∉O))).R I.f=I/\¬((WY n.j ps (I++os.U λz=>decide (z∉O))).f:Int)<n-1))(W:Ac):¬TH n ps I O W:=λhW=>
 h (qp g hW.1 hn hW.2.1 (BH g ho hW)<|xg g ho hI)
def bw(hI:∀z∈I,0<=z/\z<ps⁻¹)(CV:∀z∈I,z∉O)(h1:(WY n.j ps (I++os.U λz=>decide (z∉O))).R I.f=I)(h2:¬((WY n.j ps (I++os.U λz=>decide (z∉O))).f:Int)<n-1)
  (hp:ms.Perm (WY n.j ps<|I++os.U λz=>decide<|z∉O))(hs:ms.Q (·<=·)):TH n ps I O ms/\∀W,TH n ps I O W->W=ms\/pl ls ms W:=by
 let hb:=xg (O:=O) g ho hI;let hT:=ZP5 g hb h2 hp hs
 let Vl:∀z∈ms,z∈I++os.U λz=>decide (z∉O):=λz hz=>(xS _ _ _).subset (hp.mem_iff.G hz);let br:∀z∈I,z∈ms:=λz hz=>hp.mem_iff.L (NJ<|h1.symm▸hz)
 let bq:∀z∈O,z∉ms:=λz hz hm=>by
  rcases Yb.G (Vl z hm) with h|h
  .show CV z h hz
  .show Yu (Yj.G h).2 hz
 let before:∀z y,z∉I->y∉ms->y∉O->exg n ps ms z y->Xu ls z<Xu ls y\/(Xu ls z=Xu ls y/\z<y):=λz y GG Md hyO hx=>by
  let(xf,_,y0,y1,_):=(MH g hT).G hx;let hyd:y∈os.U λz=>decide (z∉O):=Yj.L {(BI g ho).L ⟨y0,y1⟩,Ys hyO}
  let(as,bs,ed):=List.append_of_mem hyd;let TQ:∀z∈I++as,0<=z/\z<ps⁻¹:=λz hz=>hb z ((Yb.G hz).elim (λh=>Yn _ h) λh=>Yh _<|by rw[ed];show Yn _ h)
  let hyG:y∉WY n.j ps ((I++as)++y::bs):=by rw[QF,<-ed];show λh=>Md (hp.mem_iff.L h)
  let c:=qt g TQ y0 y1 hyG;let SD:z∈WY n.j ps (I++as):=Yr λUD=>(UN g hT y0 y1).G hx.2.2 (c.mono (ZA λx xo=>Xc.L ⟨hp.mem_iff.L (by
   have:=qr (bs:=y::bs) xo
   rwa[QF,<-ed]at this),λe=>UD<|by rwa[<-e]⟩))
  let hza:z∈as:=(Yb.G<|(xS _ _ _).subset SD).resolve_left GG;let pw:=ho.2.sublist (List.filter_sublist (p:=λz=>decide<|z∉O))
  rw[ed]at pw;show(YV.G pw).2.2 z hza y Yd
 exists ⟨hT,br,bq⟩,?_;let main:∀k W,TH n ps I O W->(W.U λz=>decide<|z∉ms).f=k->W=ms\/pl ls ms W:=by
  intro k
  induction k with
  |zero=>
   intro W hW hk;let Sh:∀z∈W,z∈ms:=λz hz=>Yr λhn=>by
    have:z∈W.U λz=>decide (z∉ms):=Yj.L {hz,Ys hn}
    rw[QP.G hk]at this;cases this
   show .inl (bB g hW.1 hT Sh)
  |succ k ih=>
   intro W hW hk;obtain⟨y,hy⟩:∃y,y∈W.U λz=>decide (z∉ms):=Kl J;let(Lb,Md):=Yj.G hy;let Md:=Yu Md
   let(z,e1,e2):=d3 g hW.1 hT Lb Md;let xP:z∉W:=((MH g hW.1).G e1).2.1
   let xf:z∈ms:=e2.1;let Sg:=before z y (λh=>xP<|hW.2.1 z h) Md (λh=>hW.2.2 y h Lb) e2
   let(M,OW,GL):=xO (wo W y++[z]);let tM:=qU g hW.1 e1 OW GL
   let sM:=mS (ls:=ls) hW.1.1.nodup Lb OW;let mem:∀x,x∈M↔(x∈W/\x≠y)\/x=z:=λx=>qS g hW.1 e1 OW GL
   let cM:TH n ps I O M:=⟨tM,λx hx=>(mem x).L (.inl {hW.2.1 x hx,λe=>Md<|e▸br x hx}),λx hx h=>by
    rcases(mem x).G h with h|h
    .show hW.2.2 x hx h.1
    .show bq x hx<|h▸xf⟩
   let lM:pl ls M W:=by
    rw[Wo];rcases Sg with h|⟨h,h'⟩
    .show .inl J
    .show .inr {J,(nN (XU.G tM.1).2 (XU.G hW.1.1).2 (by have:=tM.2.1;have:=hW.1.2.1;lia)).L ⟨z,(mem z).L (.inr Z),xP,λs hs=>?_⟩};rw[mem];constructor
     .rintro(q|q)
      .show q.1
      .lia
     .show λq=>.inl ⟨q,J⟩
   let hk2:(M.U λz=>decide<|z∉ms).f=k:=by
    let hx:∀x,x∈y::(M.U λz=>decide<|z∉ms)↔x∈W.U λz=>decide (z∉ms):=λx=>by
     rw[Ye,Yj,Yj,mem];constructor
     .rintro(q|⟨q|q,q2⟩)
      .rw[q];exists Lb,Ys Md
      .exists q.1,q2
      .show absurd (q▸xf) (Yu q2)
     .rintro⟨q1,q2⟩;cases c:x=y
      .show .inl c
      .show .inr {.inl ⟨q1,c⟩,q2}
    let nd:(y::(M.U λz=>decide<|z∉ms)).Nodup:=Ru.L ⟨λh=>by
     rcases(mem y).G (Yj.G h).1 with q|q
     .show q.2 rfl
     .show Md<|q▸xf,tM.1.nodup.U _⟩
    let l1:=Jm nd λx h=>(hx x).G h;let l2:=Jm (hW.1.1.nodup.U λz=>decide<|z∉ms) λx h=>(hx x).L h
    rw[Yx]at l1 l2;lia
   rcases ih M cM hk2 with q|q
   .show .inr (q▸lM)
   .show .inr (q.l lM)
 show λW hW=>main _ W hW rfl
end
structure Ent where
 T:Ac
 I:Ac
 O:Ac
deriving DecidableEq
def QO(n:Int)(ps:Aa)(E:Ent)(W:Ac):(Prop):=TH n ps E.I E.O W
structure EOk(n:Int)(ps:Aa)(ls:Ac)(E:Ent):Prop where
 own:QO n ps E E.T
 min:∀W,QO n ps E W->W=E.T\/pl ls E.T W
 iN:E.I.Nodup
 oN:E.O.Nodup
 oR:∀z∈E.O,0<=z/\z<ps⁻¹
def Dsj(n:Int)(ps:Aa)(E F:Ent):(Prop):=∀W,QO n ps E W->¬QO n ps F W
def Dsj.symm(h:Dsj n ps E F):Dsj n ps F E:=λW a b=>h W b a
def EOk.iL(h:EOk n ps ls E):E.I.f<=E.T.f:=Jm h.iN h.own.2.1
def EOk.oL(h:EOk n ps ls E):E.O.f<=ps.f:=by
 have:=Jm (m:=Wu ps.f) h.oN λz hz=>Xr.L (h.oR z hz)
 rwa[ZR]at this
structure FB(n:Int)(ps:Aa)(ls:Ac)(E:Ent)(l:Ac)(Es:List Ent):Prop where
 ok:∀F∈Es,EOk n ps ls F
 sub:∀F∈Es,∀W,QO n ps F W->QO n ps E W
 cov:∀W,QO n ps E W->((∃t∈l,t∉W)↔∃F∈Es,QO n ps F W)
 dsj:Es.Q (Dsj n ps)
section
variable{n:Int}{ps:Aa}{ls os:Ac}{E:Ent}{l:Ac}{Es:List Ent}{t:Int}
def FB.nil:FB n ps ls E [] []:={λ_ h=>(by cases h),λ_ h=>(by cases h),λ_ _=>{λzz=>by let(_,h,_):=zz;show(by cases h),λzz=>by let(_,h,_):=zz;show(by cases h)},.nil}
def FB.skip(h:FB n ps ls E l Es)(ht:t∈E.I):FB n ps ls E (l++[t]) Es:=⟨h.ok,h.sub,λW hW=>(by
 rw[<-h.cov W hW];constructor
 .rintro⟨z,hz,hn⟩;rcases Yb.G hz with hz|hz
  .exists z,hz,hn
  .rw[XD.G hz]at hn;show absurd (hW.2.1 t ht) hn
 .rintro⟨z,hz,hn⟩;exists z,Yn _ hz,hn),h.dsj⟩
def Xh(E:Ent)(l:Ac):(Ac):=E.I++l.U λz=>decide (z∉E.I)
def WL{z:Int}:z∈Xh E l↔z∈E.I\/z∈l:=by
 unfold Xh;rw[Yb,Yj];constructor
 .rintro(h|h)
  .show .inl h
  .show .inr h.1
 .rintro(h|h)
  .show .inl h
  .cases c:z∈E.I
   .show .inl c
   .show .inr {h,Ys c}
def Wn:TH n ps (Xh E l) (E.O++[t]) W↔QO n ps E W/\(∀z∈l,z∈W)/\t∉W:=by
 constructor
 .rintro⟨h1,h2,h3⟩;exists {h1,λz hz=>h2 z<|WL.L<|.inl hz,λz hz=>h3 z<|Yn _ hz},λz hz=>h2 z<|WL.L<|.inr hz,h3 t<|Yh _<|XD.L Z
 .rintro⟨⟨h1,h2,h3⟩,h4,h5⟩;exists h1,λz hz=>(WL.G hz).elim (h2 z) (h4 z),λz hz=>?_;rcases Yb.G hz with hz|hz
  .show h3 z hz
  .rw[XD.G hz];show h5
def FB.none(h:FB n ps ls E l Es)(UD:∀W,¬TH n ps (Xh E l) (E.O++[t]) W):FB n ps ls E (l++[t]) Es:=⟨h.ok,h.sub,λW hW=>(by
 rw[<-h.cov W hW];constructor
 .rintro⟨z,hz,hn⟩;show Yr λno=>UD W (Wn.L {hW,λy hy=>Yr λq=>no ⟨y,hy,q⟩,?_});rcases Yb.G hz with hz|hz
  .show absurd ⟨z,hz,hn⟩ no
  .rw[<-XD.G hz];show hn
 .rintro⟨z,hz,hn⟩;exists z,Yn _ hz,hn),h.dsj⟩
def FB.more{ms:Ac}(h:FB n ps ls E l Es)(hF:EOk n ps ls {ms,Xh E l,E.O++[t]}):FB n ps ls E (l++[t]) (Es++[{ms,Xh E l,E.O++[t]}]) where
 ok:=λF QN=>by
  rcases Yb.G QN with q|q
  .show h.ok F q
  .rw[XD.G q];show hF
 sub:=λF QN W hW=>by
  rcases Yb.G QN with q|q
  .show h.sub F q W hW
  .rw[XD.G q]at hW;show(Wn.G hW).1
 cov:=λW hW=>by
  constructor
  .rintro⟨z,hz,hn⟩;cases c:∃y∈l,y∉W
   .let⟨F,hF1,lE⟩:=(h.cov W hW).G c;exists F,Yn _ hF1,lE
   .exists _,Yh _<|XD.L Z,Wn.L {hW,λy hy=>Yr λq=>c ⟨y,hy,q⟩,?_};rcases Yb.G hz with hz|hz
    .show absurd ⟨z,hz,hn⟩ c
    .rw[<-XD.G hz];show hn
  .rintro⟨F,QN,lD⟩;rcases Yb.G QN with q|q
   .let⟨z,hz,hn⟩:=(h.cov W hW).L ⟨F,q,lD⟩;exists z,Yn _ hz,hn
   .rw[XD.G q]at lD;exists t,Yh _<|XD.L Z,(Wn.G lD).2.2
 dsj:=YV.L {h.dsj,Vu _ _,λG hG F QN W a b=>by rw[XD.G QN]at b;let(b1,b2,_):=Wn.G b;let(z,hz,hn):=(h.cov W b1).L ⟨G,hG,a⟩;show hn<|b2 z hz}
def FB.all(g:Zv n ps)(hE:EOk n ps ls E)(h:FB n ps ls E E.T Es)(W:Ac)(hW:QO n ps E W):W≠E.T↔∃F∈Es,QO n ps F W:=by
 rw[<-h.cov W hW];constructor
 .intro hn;show Yr λno=>hn (bB g hE.own.1 hW.1 λz hz=>Yr λq=>no ⟨z,hz,q⟩).symm
 .rintro⟨z,hz,hn⟩ rfl;show hn hz
def lC{ms:Ac}(g:Zv n ps)(ho:OO ls ps.f os)(hE:EOk n ps ls E)(hl:l.Nodup)(hlT:∀z∈l,z∈E.T)(ht:t∈E.T)(hti:t∉Xh E l)
  (h1:(WY n.j ps<|Xh E l++os.U λz=>decide<|z∉E.O++[t]).R (Xh E l).f=Xh E l)(h2:¬((WY n.j ps<|Xh E l++os.U λz=>decide<|z∉E.O++[t]).f:Int)<n-1)
  (hp:ms.Perm (WY n.j ps<|Xh E l++os.U λz=>decide<|z∉E.O++[t]))(hs:ms.Q (·<=·)):EOk n ps ls {ms,Xh E l,E.O++[t]}:=by
 let Vl:∀z∈Xh E l,z∈E.T:=λz hz=>(WL.G hz).elim (hE.own.2.1 z) (hlT z);let(c1,c2):=bw g ho (λz hz=>hE.own.1.1.all z<|Vl z hz) (λz hz hO=>by
  rcases Yb.G hO with q|q
  .show hE.own.2.2 z q (Vl z hz)
  .show hti<|(XD.G q)▸hz) h1 h2 hp hs
 exists c1,c2,?_,?_,λz hz=>?_
 .show VR.L {hE.iN,hl.U _,λa ha b hb e=>Yu (Yj.G hb).2 (e▸ha)}
 .show VR.L {hE.oN,Vu _ _,λa ha b hb e=>hE.own.2.2 a ha<|by rwa[e,XD.G hb]}
 .rcases Yb.G hz with q|q
  .show hE.oR z q
  .rw[XD.G q];show hE.own.1.1.all t ht
end
structure RI(n:Int)(ps:Aa)(ls:Ac)(L:Ab)(Es:List Ent):Prop where
 tr:∀T∈L,Zf n ps T
 asc:L.Q (pl ls)
 ok:∀E∈Es,EOk n ps ls E
 cov:∀W,Zf n ps W->W∈L\/∃E∈Es,QO n ps E W
 beh:∀E∈Es,∀W,QO n ps E W->∀T∈L,pl ls T W
 dsj:Es.Q (Dsj n ps)
def Iz:∀a b:Ac,a.f=b.f->a≠b->HT.lexLt a b=true\/HT.lexLt b a=true
 |[],[],_,h=>absurd Z h
 |[],_::_,h,_=>by cases h
 |_::_,[],h,_=>by cases h
 |x::a,y::b,hl,h=>by
  rw[HT.Xz,HT.Xz];cases c:x=y
  .rw[if_pos c,if_pos c.symm];show Iz a b (by simpa using hl) λe=>h (by rw[c,e])
  .rw[if_neg c,if_neg λq=>c q.symm,YW,YW];lia
def lB(hT:Zf n ps T)(hU:Zf n ps U)(h:T≠U):pl ls T U\/pl ls U T:=by
 rw[Wo,Wo];rcases zh (XW ls T) (XW ls U) with c|c|c
 .show .inl (.inl c)
 .rcases Iz T U (by have:=hT.2.1;have:=hU.2.1;lia) h with q|q
  .show .inl (.inr ⟨c,q⟩)
  .show .inr (.inr ⟨c.symm,q⟩)
 .show .inr (.inl c)
section
variable{n:Int}{ps:Aa}{ls:Ac}{L:Ab}{Es Fs:List Ent}
def RI.apart(h:RI n ps ls L Es){i j:Nat}{E F:Ent}(hE:Es[i]?=some E)(hF:Es[j]?=some F)(XJ:i≠j):Dsj n ps E F:=by
 let(hi,ei):=Xs.G hE;let(hj,ej):=Xs.G hF;let pw:=YT.G h.dsj
 cases c:i<j
 .have:=pw i j hi hj c
  rwa[ei,ej]at this
 .have:=pw j i hj hi J
  rw[ei,ej]at this;show this.symm
def RI.unlike(h:RI n ps ls L Es){i j:Nat}{E F:Ent}(hE:Es[i]?=some E)(hF:Es[j]?=some F)(XJ:i≠j):E.T≠F.T:=λe=>
 h.apart hE hF XJ E.T (h.ok E<|Xn hE).own (e▸(h.ok F<|Xn hF).own)
def RI.step(g:Zv n ps)(h:RI n ps ls L Es){j:Nat}{E:Ent}(hE:Es[j]?=some E)(hm:∀F∈Es,¬pl ls F.T E.T)(hF:FB n ps ls E E.T Fs):RI n ps ls (L++[E.T]) (Es.eraseIdx j++Fs):=by
 let Iy:=h.ok E (Xn hE);let er:∀F∈Es.eraseIdx j,∃i,i≠j/\Es[i]?=some F:=λF hF=>by let(i,hi,e):=gX.G hF;exists i,hi,e
 let all:=hF.all g Iy;exists λT hT=>?_,?_,λF QN=>?_,λW hW=>?_,λF QN W hW T hT=>?_,?_
 .rcases Yb.G hT with q|q
  .show h.tr T q
  .rw[XD.G q];show Iy.own.1
 .show YV.L {h.asc,Vu _ _,λT hT U hU=>?_};rw[XD.G hU];show h.beh E (Xn hE) E.T Iy.own T hT
 .rcases Yb.G QN with q|q
  .let⟨i,_,e⟩:=er F q;show h.ok F (Xn e)
  .show hF.ok F q
 .rcases h.cov W hW with q|⟨F,q1,q2⟩
  .show .inl (Yn _ q)
  .let⟨i,hi⟩:=YH q1;cases c:i=j
   .subst c;rw[hE]at hi;let rfl:=Ya hi;cases c2:W=E.T
    .show .inl (Yh _<|XD.L c2)
    .let⟨G,g1,g2⟩:=(all W q2).G c2;show .inr {G,Yh _ g1,g2}
   .show .inr {F,Yn _<|gX.L ⟨i,c,hi⟩,q2}
 .rcases Yb.G QN with q|q
  .let⟨i,hi,e⟩:=er F q;let bp:=h.ok F (Xn e)
   rcases Yb.G hT with qT|qT
   .show h.beh F (Xn e) W hW T qT
   .rw[XD.G qT];let less:=(lB (ls:=ls) bp.own.1 Iy.own.1<|h.unlike e hE hi).resolve_left (hm F<|Xn e)
    rcases bp.min W hW with c|c
    .rw[c];show less
    .show less.l c
  .let ly:=hF.sub F q W hW;rcases Yb.G hT with qT|qT
   .show h.beh E (Xn hE) W ly T qT
   .rw[XD.G qT];show(Iy.min W ly).resolve_left ((all W ly).L ⟨F,q,hW⟩)
 .show YV.L {h.dsj.sublist<|List.eraseIdx_sublist _ _,hF.dsj,λF q G q2 W a b=>?_};let(i,hi,e):=er F q;show h.apart e hE hi W a (hF.sub G q2 W b)
end
structure Rkd(n:Int)(ps:Aa)(ls:Ac)(most:Nat)(L:Ab):Prop where
 tr:∀T∈L,Zf n ps T
 asc:L.Q (pl ls)
 few:L.f<=most
 all:∀W,Zf n ps W->W∈L\/(L.f=most/\∀T∈L,pl ls T W)
end My
namespace L2
open PySem PySem.Spec PyProof.Rows PySem.W My
def SameX.same(s:Same H H'):SameX Pt H H':=λb o _ e=>s b o e
def SameX.trans{Pt:Addr}{H H1 H2:Hp}(a:SameX Pt H H1)(b:SameX Pt H1 H2):SameX Pt H H2:=λc o hc e=>b c o hc (a c o hc e)
def TabH.same(t:TabH H Pt pos qual)(s:Same H H'):TabH H' Pt pos qual:=by
 let(ps,h1,h2,h3):=t;exists ps,s _ _ h1,h2,?_;rcases h3 with h|⟨c,h,h'⟩
 .show .inl h
 .show .inr {c,h,s _ _ h'}
def TabH.ne{Pt a:Addr}{o:HO}(t:TabH H Pt pos qual)(h:H a=some o)(hn:∀ps,o≠.tbl ps):a≠Pt:=λe=>by let(ps,h1,_):=t;rw[e,h1]at h;show hn ps (Ya h).symm
end L2
namespace My
open PySem L2
def lu{m i:Nat}(h:i<m):(Wu m).E i 0=(i:Int):=by unfold Wu;rw[WW,Yk,OA h];rfl
def lr(h:Sb (λz=>Xu ls z) (Wu m) ms):OO ls m ms:=by
 let(p,hp,hw,rfl):=h;rw[ZR]at hp;let hb:∀i∈p,i<m:=λi hi=>YG.G (hp.mem_iff.G hi)
 let e:(p.H λi=>(Wu m).E i 0)=p.H λ(i:Nat)=>(i:Int):=YN λi hi=>lu (hb i hi);rw[e];exists hp.H _,?_;rw[Oy];show hw.imp_of_mem λ{i j} hi hj h=>?_;let h:Xu ls ((Wu m).E i 0)<Xu ls ((Wu m).E j 0)\/(Xu ls ((Wu m).E i 0)=Xu ls ((Wu m).E j 0)/\i<j):=h
 rw[lu (hb i hi),lu (hb j hj)]at h;grind
def SqK.samex(h:SqK kd K H a xs)(t:TabH H Pt pos qual)(sx:SameX Pt H H2):SqK kd K H2 a xs:=by
 cases kd with
 |true=>show SqT.samex (show SqT K H a xs from h) t sx
 |false=>
  rcases(show SqL K H a xs from h) with (h|⟨o,h⟩)|h
  .show .inl (.inl<|sx _ _ (t.ne h AP) h)
  .show .inl (.inr {o,sx _ _ (t.ne h AP) h})
  .show .inr h
def WebAt.samex(h:WebAt C H w n ps)(t:TabH H Pt pos qual)(sx:SameX Pt H H2):WebAt C H2 w n ps:=by let(dx,tl,xs,h1,h2,h3):=h;exists dx,tl,xs,sx _ _ (t.ne h1 AP) h1,sx _ _ (t.ne h2 AP) h2,h3.1,λi p hp=>?_;let(x,hx,q,e,hq):=h3.2 i p hp;exists x,hx,q,e,sx _ _ (t.ne hq AP) hq
end My
namespace L2
open PySem PySem.Spec PyProof.Rows My
def KD:(KeyOrd) where
 α:=Int×Ac
 blt:=HT.Vi
 irrefl:=HT.VV
 trans a b c:=HT.Vx
 negTrans a b c h:=by
  rw[HT.Wh]at h;rw[HT.Wh,HT.Wh];let lx:=MB.negTrans a.2 b.2 c.2
  rcases h with h|⟨h,h'⟩
  .omega
  .rcases zh a.1 b.1 with q|q|q
   .show .inl (.inl q)
   .rcases lx h' with z|z
    .show .inl (.inr ⟨q,z⟩)
    .show .inr (.inr ⟨J,z⟩)
   .show .inr (.inl J)
 total a b h1 h2:=by
  let k1:¬HT.Vi a b=true:=by rw[h1];simp
  let k2:¬HT.Vi b a=true:=by rw[h2];simp
  rw[HT.Wh]at k1 k2;let e:a.1=b.1:=B
  show Prod.ext e (MB.total a.2 b.2 ?_ ?_)
  .cases q:MB.blt a.2 b.2 with
   |false=>rfl
   |true=>show absurd (.inr ⟨e,q⟩) k1
  .cases q:MB.blt b.2 a.2 with
   |false=>rfl
   |true=>show absurd (.inr ⟨e.symm,q⟩) k2
section
variable{prog:Program}{w:World}{A:Around}{s:Shared}
def lq{a c:Int}{t u:Tok}{Q:Bool->Shared->Prop}(hp:IsTup s.m p xs)(hq:IsTup s.m q ys)(hi:IntsAre xs.C ns)(hj:IntsAre ys.C ms)(hu:A.units+2<cLine)(h:Q (HT.Vi (a,ns) (c,ms)) s):W.KatLex prog w A b false Q [(.int a t,.int c u),(.ref p,.ref q)] 0 s:=by
 let u1:A.units<cLine:=J;show W.kat_cons (wpAny_eqBool_int<|W.kat_go (λe=>?_) λe=>?_)
 .let e:a=c:=eq_of_beq e;subst e;let el:HT.Vi (a,ns) (a,ms)=HT.lexLt ns ms:=by
   change(decide (a<a)||(decide (a=a)&&HT.lexLt ns ms))=_
   simp
  rw[el]at h;show W.kat_yes (W.kat_cons<|HT.Vy hp hq hi hj u1 prog w _ _<|W.kat_go (λe2=>?_) λe2=>?_)
  .let e2:ns=ms:=Yu e2;subst e2;rw[My.WM]at h;show W.kat_yes (W.kat_nil h)
  .show W.kat_no ?_;rw[show(b&&(0+1 == 0))=false by simp];show W.kat_one _ _ (HT.UW hp hq hi hj u1 h)
 .let XJ:a≠c:=λz=>by rw[z]at e;simp at e
  let el:HT.Vi (a,ns) (c,ms)=decide (a<c):=by
   change(decide (a<c)||(decide (a=c)&&HT.lexLt ns ms))=_
   simp[XJ]
  rw[el]at h;show W.kat_no ?_;cases (b&&0 == 0) with
  |true=>show oneLt_int h
  |false=>show W.kat_one _ _ (lt_int h)
end
end L2
namespace My
open PySem L2
def Iw(n:Int)(ps:Aa)(ls T:Ac):(Prop):=Zf n ps T/\∀W,Zf n ps W->W=T\/pl ls T W
def lp(t1:Zf n ps U)(t2:∀W,Zf n ps W->XW ls U<=XW ls W)(t3:∀W,Zf n ps W->XW ls U=XW ls W->HT.lexLt W U=false):Iw n ps ls U:=by
 exists t1,λW hW=>?_;cases e:W=U
 .show .inl e
 .show .inr (Wo.L ?_);let h:=t2 W hW
  cases c:XW ls U<XW ls W
  .show .inl c
  .show .inr {J,?_};rcases Iz U W (by have:=t1.2.1;have:=hW.2.1;lia) (λh=>e h.symm) with q|q
   .show q
   .rw[t3 W hW B]at q;cases q
def lj(g:Zv n ps)(hl:ls.f=ps.f)(hU:Zf n (Wt n.j ps ls) U)(hm:∀W,Zf n (Wt n.j ps ls) W->HT.lexLt W U=false):Iw n ps ls U:=by let(t1,t2):=(NV g hl).G hU;show lp t1 t2 λW hW e=>hm W ((NV g hl).L {hW,λV hV=>by have:=t2 V hV;lia})
def lh(hk:0<k)(h:Rkd n ps ls k L)(hU:Iw n ps ls U):L[0]?=some U:=by
 let hm:U∈L:=by
  rcases h.all U hU.1 with q|⟨q1,q2⟩
  .show q
  .obtain⟨T,hT⟩:∃T,T∈L:=Kl J;rcases hU.2 T (h.tr T hT) with e|e
   .show e▸hT
   .show absurd (e.l<|q2 T hT) ZV
 let(i,hi):=YH hm;rcases Nat.eq_zero_or_pos i with z|z
 .rw[<-z];show hi
 .let⟨b1,b2⟩:=Xs.G hi
  have:=YT.G h.asc 0 i J b1 z
  rw[b2]at this;rcases hU.2 (L[0]'(by omega)) (h.tr _<|QE _) with e|e
  .rw[XI B,e]
  .show absurd (e.l this) ZV
end My
namespace My
def un1{α:Type}{P:List α->Prop}(h:∀a,P [a])(l:List α)(e:l.f=1):P l:=by let(a,rfl):=DL e;show h a
def sE{α:Type}{P:List α->Prop}(h:∀a b,P [a,b])(l:List α)(e:l.f=2):P l:=by let(a,b,rfl):=DK e;show h a b
def lg{α:Type}{P:List α->Prop}(h:∀a b c,P [a,b,c])(l:List α)(e:l.f=3):P l:=by let(a,b,c,rfl):=DJ e;show h a b c
def un4{α:Type}{P:List α->Prop}(h:∀a b c d,P [a,b,c,d])(l:List α)(e:l.f=4):P l:=by let(a,b,c,d,rfl):=DI e;show h a b c d
def un5{α:Type}{P:List α->Prop}(h:∀a b c d e,P [a,b,c,d,e])(l:List α)(e:l.f=5):P l:=by
 cases l with
 |nil=>cases e
 |cons x r=>
  let(a,b,c,d,rfl):=DI (NB e);show h x a b c d
end My
namespace My
open PySem L2
def k9(h:TC n ps c):c=0↔∀T,¬Zf n ps T:=by
 let(L,a1,a2,a3):=h;constructor
 .intro e T hT;rw[e]at a3
  have:=(a2 T).L hT
  rw[QP.G a3]at this;cases this
 .intro e;rw[<-a3,QP];show gW.L λT hT=>e T ((a2 T).G hT)
def k8(h:Rkd n ps ls k L)(hn:∀T,¬Zf n ps T):L=[]:=gW.L λT hT=>hn T (h.tr T hT)
end My
namespace L2
open PySem PySem.Spec PyProof.Rows
def Vg{N P:List Str}{sc:Scope}(h:sc.kind=.function/\sc.isCoroutine=false/\sc.isGenerator=false/\N.Nodup/\N.R P.f=P/\(∀x∈P,sc.names.M x=some .local\/sc.names.M x=some .cell)/\∀y∈sc.names,y.2≠.free):FnScope N P sc:=⟨h.1,h.2.1,h.2.2.1,h.2.2.2.1,h.2.2.2.2.1,h.2.2.2.2.2.1,h.2.2.2.2.2.2⟩
structure DfA(K:Ad)(mg:Af)(x:Str)(st:Stmt)(f:Addr)(fd:FuncData)(ps:List Str):Prop where
 fn:Fun K x x st f fd
 bi:Binds K fd ps []
 mm:mg x=some ↑f
def Xp{X:Cx}{CX:QC}{k m:Nat}{f:Addr}{fd:FuncData}{ps:List Str}{sp:Sp}{x:Str}{st:Stmt}{e:Expr}{es:List Expr}{t:TA}{p pos:Pos}{E:XK}(F:FnOk X.prog X.w X.K X.mg X.base CX k f fd ps sp)(hr:Room m X.A)(d:DfA X.K X.mg x st f fd ps)(hx:Hm CX X E)(ha:PA X (e::es) t)(hk:k<=m:=by decide)(hg:Gl X x:=by show Z)(Sr:(x == ("__debug__":Str))=false:=by decide)(he:starEach (e::es) X.X=(false,eval e X.X)::starEach es X.X:=by rfl)(Ve:(backTo pos<|starEach es X.X).any (·.1)=false:=by rfl):PE X (.Call (.Name x p) (e::es) [] pos) (Ln sp [] E t):=
 t7 F (hr.mono hk) hg d.mm d.fn.kp d.bi .nil hx ha Sr he Ve
def k7(N P:List Str)(sc:Scope):(Prop):=sc.kind=.function/\sc.isCoroutine=false/\sc.isGenerator=false/\N.Nodup/\N.R P.f=P/\(∀x∈P,sc.names.M x=some .local\/sc.names.M x=some .cell)/\∀y∈sc.names,y.2≠.free
instance (N P:List Str) (sc:Scope):Decidable (k7 N P sc):=by unfold k7;infer_instance
section
variable{P:Program}{w:World}{K:Ad}{mg:Af}{base:Heap}{x:Str}{st:Stmt}{f:Addr}{fd:FuncData}{ps:List Str}{k:Nat}{sp:Sp}
abbrev WR(P:Program)(w:World)(base:Heap)(CX:QC)(_:DfA K mg x st f fd ps)(k:Nat)(sp:Sp):Prop:=FnOk P w K mg base CX k f fd ps sp
def DfA.okI(q:DfA K mg x st f fd ps)(N:List Str)(S:k7 N ps (Zd st))
  (UX:∀Xw A outer s H vs Q E,Room k (A.deeper<|envOfC x (Zd st) (~~~s) f Xw)->sp vs H Q E->
   ∃t,PSs (Tj Xd P w K mg base N x (Zd st) f Xw A outer s H E).nox (Qx st) t/\t {nx:=λ_ H'=>Q .non H',rt:=Q} (start N vs) H) (len:∀vs H Q E,sp vs H Q E->vs.f=ps.f:=by intro _ _ _ _ h;cases h;subst_vars;rfl):WR P w base Xd q (k+1) sp:=q.fn.ok (Vg S) len UX
end
end L2
namespace My
open PySem L2
def FQ(K:Ad)(mg:Af)(x:Str)(st:Stmt)(ps:List Str):(Prop):=∃f fd,DfA K mg x st f fd ps
def BG{K:Ad}{h:Heap}{mg:Af}{x:Str}{st:Stmt}{ps:List Str}{f:Addr}{oc:Value}{od an:Option Addr}{Tz:Array (Option Value)}{kV doc pm Xw ct:Value}(X:K.In h)(G:h.Ns mainGlobals mg)
  (a:PySem.W.nsIn K mainGlobals x=some (some<|.ref f))(l:K.M f=some {oc,od,.func<|PySem.W.fnOf x x (Lk st) (Qx st) (Zd st) .none kV doc pm an Xw ct,Tz})(c:PySem.W.codeIn K Xw x=true)(k:PySem.W.keepIn K ↑f=true)
  (b:∀kV doc pm an Xw ct us,us.f=ps.f->bindArgs (PySem.W.fnOf x x (Lk st) (Qx st) (Zd st) .none kV doc pm an Xw ct) {us,[]}=pure (ps.zip us)):FQ K mg x st ps:=
 {f,_,ym l c k,(ym l c k).binds b,FU X G a}
def BF:(List Str):=["count","cheapest"]
def k5:(List Str):=["tree","row","rank"]
def k4:(List Str):=["number","place","next","share"]
def bo(w:Str):(Bool):=GJ w.cps.C
def BE(x0:Str)(r:List Str):(Prop):=(x0∈BF/\r.f+1=1)\/(x0∈k5/\r.f+1=2/\r.all bo=true)\/(x0∈k4/\1<r.f+1/\(r=[("-":Str)]\/r.all bo=true))
instance:Decidable (BE x0 r):=by unfold BE;infer_instance
variable{m k:Nat}{n:Int}{ps:Aa}{ls T uX:Ac}{L R:Ab}
def VZ(m:Nat)(ls:Ac)(L:Ab):(Ac):=(List.range m).H λk=>((L.U λT=>decide<|XW ls T=((k:Nat):Int)).f:Int)
def Iv:(VZ m ls L).f=m:=by unfold VZ;rw[Xy,YY]
def xc(h:k<m):(VZ m ls L)[k]?=some ((L.U λT=>decide (XW ls T=((k:Nat):Int))).f:Int):=by unfold VZ;rw[Yk,OA h];rfl
def bj(h:k<m):(VZ m ls L).E k 0=((L.U λT=>decide (XW ls T=((k:Nat):Int))).f:Int):=by rw[WW,xc h];rfl
def k0{c:Nat}(hc:c<m)(e:XW ls T=(c:Int)):VZ m ls (T::L)=(VZ m ls L).set c ((VZ m ls L).E c 0+1):=by
 apply QG;intro i;cases hi:i<m
 .rw[xc hi,Ox];cases bh:c=i
  .subst bh;rw[if_pos Z,if_pos (by rwa[Iv]),bj hc,NL (by simp[e]),Yx];rfl
  .rw[if_neg bh,xc hi,UA (by simp[e];lia)]
 .rw[YC (by rw[Iv];lia),YC (by rw[Qf,Iv];lia)]
def kZ:VZ m ls []=List.S m 0:=by show Fy.L {Iv,λx hx=>?_};let(k,_,rfl):=Yp.G hx;rfl
def BD(b:Int)(L:Ab)(h:∀T∈L,0<=XW ls T/\XW ls T<(m:Int)):ev b (VZ m ls L)=(L.H λT=>b^(XW ls T).j).sum:=by
 induction L with
 |nil=>rw[kZ,nz];rfl
 |cons T L ih=>
  let(h0,h1):=h T AP;rw[k0 (c:=(XW ls T).j) J J,cI _ _ _ (by rw[Iv];lia),ih λU hU=>h U (by simp[hU]),YJ,WQ,Int.add_comm]
def BC:∀x∈VZ m ls L,0<=x/\x<=L⁻¹:=λx hx=>by
 let(k,_,rfl):=Yp.G hx
 have:=OD (λT=>decide<|XW ls T=((k:Nat):Int)) L
 lia
def kY(l:Ac):ev 1 l=l.sum:=by
 induction l with
 |nil=>rfl
 |cons d l ih=>show d+1*ev 1 l=_;rw[ih,SH,WQ]
def kX(h:∀T∈L,0<=XW ls T/\XW ls T<(m:Int)):(VZ m ls L).sum=L⁻¹:=by
 rw[<-kY,BD 1 L h];clear h
 induction L with
 |nil=>rfl
 |cons T L ih=>rw[YJ,WQ,ih,Int.one_pow,Yx];lia
def wL(b:Int)(ls:Ac):(Ac):=ls.H λz=>b^z.j
def kW(b:Int)(h0:∀x∈ls,0<=x)(T:Ac)(hT:∀z∈T,0<=z/\z<ls⁻¹):GO (wL b ls) T=b^(XW ls T).j/\0<=XW ls T:=by
 induction T with
 |nil=>exists (Ny b).symm,Tt _
 |cons z T ih=>
  let(z0,z1):=hT z AP;let(ih,i0):=ih λy hy=>hT y (by simp[hy]);obtain⟨y,hy⟩:∃y,ls[z.j]?=some y:={_,XI J};let e:Xu ls z=y:=XG hy
  let y0:=h0 y (Xn hy);let es:XW ls (z::T)=y+XW ls T:=by unfold XW;rw[YJ,WQ,e]
  let ew:(wL b ls).E z.j 0=b^y.j:=by unfold wL;rw[WW,Yk,hy];rfl
  exists ?_,J;change(wL b ls).E z.j 0*GO (wL b ls) T=_
  rw[ew,ih,es,Int.toNat_add y0 i0,Int.pow_add]
def xb(g:Zv n ps)(hl:ls.f=ps.f)(h0:∀x∈ls,0<=x/\x<=4)(hT:Zf n ps T):0<=XW ls T/\XW ls T<((4*n).j:Int):=by
 let hs:=(XU.G hT.1).1;let h2:=hT.2.1
 let g1:=g.1;let key:∀T:Ac,(∀z∈T,0<=z/\z<ps⁻¹)->0<=XW ls T/\XW ls T<=4*T.f:=by
  intro T
  induction T with
  |nil=>intro _;exists Tt _,Tt _
  |cons z T ih=>
   intro h;let(z0,z1):=h z AP;let(i0,i1):=ih λy hy=>h y (by simp[hy]);obtain⟨y,hy⟩:∃y,ls[z.j]?=some y:={_,XI J};let e:Xu ls z=y:=XG hy
   let y0:=h0 y (Xn hy);let es:XW ls (z::T)=y+XW ls T:=by unfold XW;rw[YJ,WQ,e]
   rw[es,Yx];lia
 have:=key T hs
 lia
def BB(b:Int)(g:Zv n ps)(hl:ls.f=ps.f)(h0:∀x∈ls,0<=x/\x<=4)(hn:L.Nodup)(hm:∀T,T∈L↔Zf n ps T):WS n ps (wL b ls) (ev b (VZ (4*n).j ls L)):=by exists L,hn,hm,?_;rw[BD b L λT hT=>xb g hl h0 ((hm T).G hT)];congr 1;show YN λT hT=>(kW b (λx hx=>(h0 x hx).1) T λz hz=>?_).1;rw[hl];show(XU.G ((hm T).G hT).1).1 z hz
def BA(g:Zv n ps)(h9:n<=9)(hn:L.Nodup)(hm:∀T,T∈L↔Zf n ps T):L⁻¹<10^14:=by
 let(g1,g2,g3,_):=g;let h:L.f<10^14:=by
  show zm (m:=30^8) (YB (cP (m:=Qq ps⁻¹ (n-1).j) hn λx hx=>Wi.L {?_,((hm x).G hx).1})<|YB (cL J _)<|Ro vg B) vg
  have:=((hm x).G hx).2.1
  omega
 omega
def kU(hL:∀T,T∈L↔Zf n ps T)(hn:L.Nodup)(h:Rkd n ps ls k R):∃S:Ac,S.Q (·<=·)/\S.Perm (L.H (XW ls))/\S.R k=R.H (XW ls):=by
 let rn:R.Nodup:=h.asc.imp λq e=>by rw[e]at q;show ZV q
 let(S,s1,s2):=xO ((L.U λT=>decide<|T∉R).H (XW ls));let hle:∀{T U:Ac},pl ls T U->XW ls T<=XW ls U:=λq=>by rcases Wo.G q with z|z<;>lia
 exists R.H (XW ls)++S,?_,?_,?_
 .show YV.L {?_,s2,λx hx y hy=>?_}
  .rw[Oy];show h.asc.imp hle
  .let⟨T,hT,rfl⟩:=Yp.G hx;let(U,hU,rfl):=Yp.G (s1.mem_iff.G hy);let(u1,u2):=Yj.G hU;show hle (((h.all U<|(hL U).G u1).resolve_left (Yu u2)).2 T hT)
 .show(Fx _ s1).l ?_;rw[<-YD];show List.Perm.H _ ((Kv ?_ hn).L λT=>?_)
  .show VR.L {rn,hn.U _,λa ha b hb e=>?_};subst e;show Yu (Yj.G hb).2 ha
  .rw[Yb,Yj,hL];constructor
   .rintro(q|q)
    .show h.tr T q
    .show q.1
   .intro q;cases c:T∈R
    .show .inl c
    .show .inr {q,Ys c}
 .cases c:R.f=k
  .rw[<-c,<-Xy (f:=XW ls) (as:=R),List.take_left]
  .let e0:(L.U λT=>decide<|T∉R)=[]:=zq.L λT hT=>by
    rcases h.all T ((hL T).G hT) with q|q
    .simp[q]
    .show absurd q.1 c
   rw[e0]at s1;let rfl:=s1.eq_nil;rw[WH,YS];rw[Xy];show h.few
def ZQ8{k:Int}{S:Ac}(h:S.Q (·<=·)):S.U (λx=>decide (x<k+1))=S.U (λx=>decide (x<k))++S.U (λx=>decide (x=k)):=by
 induction S with
 |nil=>rfl
 |cons x S ih=>
  let(h1,h2):=VS.G h;let ih:=ih h2
  cases c:x<k
  .rw[NL (by simp;lia),NL (by simp;lia),UA (by simp;lia),ih];rfl
  .let e0:S.U (λx=>decide<|x<k)=[]:=zq.L λy hy=>by
    have:=h1 y hy
    simp;lia
   rw[e0,Ks]at ih;cases c2:x=k
   .rw[NL (by simp;lia),UA (by simp;lia),NL (by simp;lia),e0,ih];rfl
   .rw[UA (by simp;lia),UA (by simp;lia),UA (by simp;lia),e0,ih];rfl
def VT(cs:Ac):(Nat->Ac)
 |0=>[]
 |k+1=>if (VT cs k).f<60 then VT cs k++List.S (min 60<|cs.E k 0).j ((k:Nat):Int) else VT cs k
def kT{S cs:Ac}(hs:S.Q (·<=·))(hp:∀x∈S,0<=x)(hc:∀k,k<m->cs.E k 0=((S.U λx=>decide (x=((k:Nat):Int))).f:Int))(k:Nat)(hk:k<=m):(VT cs k).R 60=(S.U λx=>decide (x<((k:Nat):Int))).R 60:=by
 induction k with
 |zero=>
  rw[zq.L λy hy=>by have:=hp y hy;simp;lia];rfl
 |succ k ih=>
  let ih:=ih J;let e1:S.U (λx=>decide<|x=((k:Nat):Int))=List.S (cs.E k 0).j ((k:Nat):Int):=by show Fy.L {by rw[hc k hk];rfl,λx hx=>Yu (Yj.G hx).2}
  let e2:(S.U λx=>decide<|x<((k+1:Nat):Int))=S.U (λx=>decide<|x<((k:Nat):Int))++List.S (cs.E k 0).j ((k:Nat):Int):=by rw[<-e1,<-ZQ8 hs];simp only[Int.natCast_add,Int.natCast_one]
  rw[e2];change(if (VT cs k).f<60 then VT cs k++List.S (min 60<|cs.E k 0).j ((k:Nat):Int) else VT cs k).R 60=_
  cases c:(VT cs k).f<60
  .rw[if_pos c];rw[YS J]at ih;let hl:(S.U λx=>decide<|x<((k:Nat):Int)).f<60:=by
    have:=YZ List.f ih
    rw[Yo]at this;lia
   rw[YS J]at ih;rw[<-ih,List.take_append,List.take_append,List.take_replicate,List.take_replicate];congr 2;lia
  .rw[if_neg c];let hl:60<=(S.U λx=>decide<|x<((k:Nat):Int)).f:=by
    have:=YZ List.f ih
    rw[Yo,Yo]at this;lia
   rwa[Km hl]
def kR(g:Zv n ps)(hl:ls.f=ps.f)(h0:∀x∈ls,0<=x/\x<=4)(hL:∀T,T∈L↔Zf n ps T)(hn:L.Nodup)(h:Rkd n ps ls 60 R):(VT (VZ (4*n).j ls L) (4*n).j).R 60=R.H (XW ls):=by
 let(S,s1,s2,s3):=kU hL hn h;let hS:∀x∈S,0<=x/\x<((4*n).j:Int):=λx hx=>by let(T,hT,rfl):=Yp.G (s2.mem_iff.G hx);show xb g hl h0 ((hL T).G hT)
 rw[kT s1 (λx hx=>(hS x hx).1) (λk hk=>?_) _ (XQ _),Gf.L λx hx=>Ys (hS x hx).2,s3];rw[bj hk,(s2.U _).length_eq,List.filter_map,Xy];rfl
def bg(g:Zv n ps)(hl:ls.f=ps.f)(h:Rkd n ps ls m R)(h0:R[0]?=some uX)(hk:R[k]?=some T)(e:XW ls T=XW ls uX):Zf n (Wt n.j ps ls) T/\Rk n (Wt n.j ps ls) T k:=by
 let hle:∀{T U:Ac},pl ls T U->XW ls T<=XW ls U:=λq=>by rcases Wo.G q with z|z<;>lia
 let pw:=YT.G h.asc;let(z0,e0):=Xs.G h0;let(zk,ek):=Xs.G hk;let lo:∀W,Zf n ps W->XW ls T<=XW ls W:=λW hW=>by
  rw[e];rcases h.all W hW with q|q
  .let⟨i,hi⟩:=YH q;let(zi,ei):=Xs.G hi;cases c:i=0
   .subst c;rw[<-e0,<-ei];show Tt _
   .have:=pw 0 i z0 zi J
    rw[e0,ei]at this;show hle this
  .show hle (q.2 uX<|Xn h0)
 let hT:=h.tr T (Xn hk);let rn:R.Nodup:=h.asc.imp λq e=>by rw[e]at q;show ZV q
 show{(NV g hl).L ⟨hT,lo⟩,R.R k,rn.sublist<|HG _ _,λW=>?_,by rw[Yo];lia};constructor
 .intro hW;let(i,hi):=YH hW;rw[NI]at hi;cases c:i<k
  .rw[if_pos c]at hi;let(zi,ei):=Xs.G hi;let q:=pw i k zi zk c
   rw[ei,ek]at q;let bc:=h.tr W (Xn hi)
   let l1:=lo W bc;rcases Wo.G q with z|z
   .lia
   .exists (NV g hl).L {bc,λU hU=>by have:=lo U hU;lia},z.2
  .rw[if_neg c]at hi;cases hi
 .rintro⟨hW,hx⟩;let(w1,w2):=(NV g hl).G hW;let eW:XW ls W=XW ls T:=by have:=w2 T hT;have:=lo W w1;lia
  let q:pl ls W T:=Wo.L (.inr ⟨eW,hx⟩);rcases h.all W w1 with z|z
  .let⟨i,hi⟩:=YH z;let(zi,ei):=Xs.G hi;cases c:i<k
   .show Xn (i:=i) ?_;rwa[NI,if_pos c]
   .cases c2:i=k
    .subst c2;rw[hk]at hi;let rfl:=Ya hi;show absurd q ZV
    .let q2:=pw k i zk zi J;rw[ek,ei]at q2;show absurd (q.l q2) ZV
  .show absurd (q.l<|z.2 T<|Xn hk) ZV
def Bz(g:Zv n ps)(hl:ls.f=ps.f)(hL:∀T,T∈L↔Zf n ps T)(hn:L.Nodup)(hB:Zf n ps uX)(hm:∀W,Zf n ps W->XW ls uX<=XW ls W):TC n (Wt n.j ps ls) (L.U λT=>decide (XW ls T=XW ls uX)).f:=by
 exists _,hn.U _,λT=>?_,Z;rw[Yj,hL,NV g hl,HH];constructor
 .rintro⟨h1,h2⟩;exists h1,λW hW=>by rw[h2];show hm W hW
 .rintro⟨h1,h2⟩;exists h1,by have:=h2 uX hB;have:=hm T h1;lia
def kQ(P:Ac->Prop)(C:Ab):∃L:Ab,L.Nodup/\∀T,T∈L↔T∈C/\P T:=by
 induction C with
 |nil=>exists [],.nil,λT=>{λh=>(by cases h),λh=>(by cases h.1)}
 |cons x C ih=>
  let(L,h1,h2):=ih;cases c:P x/\x∉L
  .exists x::L,Ru.L ⟨c.2,h1⟩,λT=>?_;rw[Ye,Ye,h2];constructor
   .rintro(rfl|q)
    .exists .inl Z,c.1
    .exists .inr q.1,q.2
   .rintro⟨q|q,r⟩
    .show .inl q
    .show .inr ⟨q,r⟩
  .exists L,h1,λT=>?_;rw[Ye];constructor
   .intro q;exists .inr ((h2 T).G q).1,((h2 T).G q).2
   .rintro⟨rfl|q,r⟩
    .show Yr λz=>c ⟨r,z⟩
    .show(h2 T).L ⟨q,r⟩
def By(g:Zv n ps):∃L:Ab,L.Nodup/\∀T,T∈L↔Zf n ps T:=by
 let(L,h1,h2):=kQ (Zf n ps) (Qq ps⁻¹ (n-1).j);exists L,h1,λT=>(h2 T).l {λh=>h.2,λh=>{Wi.L {?_,h.1},h}}
 have:=h.2.1
 have:=g.1
 omega
end My
namespace L2
open PySem PySem.Spec PyProof.Rows My
section
variable{X:Cx}
def ZK3(K:Ad)(hu:X.A.units+8<cLine)(hk:X.K=K:=by rfl):Vf X (.builtin "sorted") (λxs H Q=>∃(p:Addr)(ys:List V)(L:List (Int×Ac))(R:V->Int×Ac->Prop),xs=[.ref p]/\SqL K H p ys/\Bears R ys L/\(∀v l,R v l->∃a q,v=.ref a/\SqT K H a [.int l.1,.ref q]/\SqT K H q (l.2.H V.int))/\ys.f<64/\
  ∀(zs:List V)(M:List (Int×Ac)),Bears R zs M->M.Perm L->M.Q (λa b=>HT.Vi b a=false)->∀l,H l=none->Q ↑l (upd H l<|.lst zs)):=by
 subst hk;intro pins s σ H xs us Q I r h;let(p,ys,L,R,rfl,hq,hb,hR,hz,q):=h;let(u,rfl,ru):=Ut r;let rfl:u=Value.ref p:=ru;let(XX,rv,pl,hz'):=I.list hq;let NR:ys.f=XX.f:=rv.f
 let uniq:∀{a:Addr}{l m:Int×Ac},R ↑a l->R ↑a m->l=m:=λ{a l m} h1 h2=>by
  let(a1,q1,e1,t1,kP):=hR _ _ h1;let(a2,q2,e2,t2,t2'):=hR _ _ h2;cases e1;cases e2;let e:=I.tuple_inj t1 t2
  injection e with e3 e4;injection e3 with e3;injection e4 with e4;injection e4 with e4;subst e4;let e5:=I.tuple_inj kP t2'
  let e5:l.2=m.2:=(Kj (f:=V.int) λx y h=>by injection h).G e5;show Prod.ext e3 e5
 classical
 obtain⟨f,hf⟩:∃f:Value->Int×Ac,∀(a:Addr)(l:Int×Ac),R ↑a l->f ↑a=l:=by
  exists λv=>if h:∃l,∃a,v=Value.ref a/\R ↑a l then Classical.choose h else (0,[]),λa l hl=>?_;let ex:∃l,∃b,Value.ref a=Value.ref b/\R ↑b l:=⟨l,a,Z,hl⟩
  change(if h:∃l,∃b,Value.ref a=Value.ref b/\R ↑b l then Classical.choose h else (0,[]))=l;rw[dif_pos ex];let(b,e,hb):=gD ex;cases e;show uniq hb hl
 let each:∀(i:Nat)(v:Value),XX[i]?=some v->∃a,v=.ref a/\ys[i]?=some ↑a/\R ↑a (f v)/\L[i]?=some (f v):=λi v e=>by
  let(hi,hv):=Xs.G e;let(y,ey,ry):=rv.at hi;rw[hv]at ry;let(l,el,hl):=hb.at ey;let(a,_,ea,_):=hR _ _ hl;subst ea;let rfl:v=Value.ref a:=ry
  have:=hf a l hl
  exists a,Z,ey,by rw[this];show hl,by rwa[this]
 let eL:L=XX.H f:=by
  apply QG;intro i;rw[Yk];cases e:XX[i]? with
  |none=>
   have:XX.f<=i:=wm.G e
   show YC (by have:=hb.1;lia)
  |some v=>
   let(_,_,_,_,el):=each i v e;rw[el];rfl
 let tup:∀v∈XX,∃a p xs t,v=Value.ref a/\IsTup s.m a (List.o [.int (f v).1 t,.ref p])/\IsTup s.m p xs/\IntsAre xs.C (f v).2:=λv hv=>by let(i,e):=YH hv;let(a,rfl,_,hr,_):=each i v e;let(a1,q1,e1,t1,kP):=hR _ _ hr;cases e1;let(i1,r1,h1,_):=I.tuple t1;let(i2,r2,h2,_):=I.tuple kP;let(u1,w1,rfl,(t,rfl),r1'):=Cu r1;let(u2,rfl,ru2):=Ut r1';let rfl:u2=Value.ref q1:=ru2;exists a,q1,_,t,Z,h1,h2,by simpa using ZD r2
 let Mc:∀x∈(pairsOf XX).C,x.1∈XX/\x.2=x.1:=λx hx=>by
  let hx:x∈(XX.o.zip XX.o).C:=hx;rw[Array.toList_zip]at hx;let(i,e):=YH hx;rw[gQ]at e;let e1:XX[i]?=some x.1:=by simpa using e.1
  let e2:XX[i]?=some x.2:=by simpa using e.2
  rw[e1]at e2;cases x;cases e2;exists Xn e1,Z
 show ZU3 (O:=KD) (key:=λk=>f k.1) (kd:=tuples'<|Value.type "int" != Value.type "tuple") pl.isList J (λA' h' keep h2 E' Q' q'=>?_) (λA' h' E' hA' keep x y st Q' hx hy hkd q'=>?_) λout a1 a2=>?_
 .obtain⟨fs,t,l,k⟩:∃fs,W.KatTups h' XX fs/\fs.f=XX.f/\∀v∈fs,∃n t,v=Value.int n t:=by
   let key:∀ws:Ag,(∀v∈ws,v∈XX)->∃fs,W.KatTups h' ws fs/\fs.f=ws.f/\∀v∈fs,∃n t,v=Value.int n t:=by
    intro ws
    induction ws with
    |nil=>show λ_=>{[],W.KatTups.nil,Z,λ_ h=>(by cases h)}
    |cons v ws ih=>
     intro hw;let(fs,t,l,k):=ih λy hy=>hw y (Yf _ hy);let(a,p2,xs,tk,e1,(o,g1,g2,m,g3),_):=tup v (hw v Yd);rw[e1];show{.int (f v).1 tk::fs,W.KatTups.cons (keep a o g1) g2 g3 Z t,by simp[l],λy hy=>?_};rcases Ye.G hy with rfl|hy
     .exists _,_,Z
     .show k y hy
   show key XX λv h=>h
  show W.kat_kind (T:=.type "int") t J (λv hv=>?_) Z q';let(n,t,rfl):=k v hv;show W.Looks.now
 .let⟨ax,px,xx,tx,e1,⟨o1,g1,g2,m1,g3⟩,e3,e4⟩:=tup x.1 (Mc x hx).1;let(ay,py,xy,ty,f1,(o2,k1,k2,m2,k3),f3,f4):=tup y.1 (Mc y hy).1;rw[lt'_eq];show WG (wpS_get ?_);rw[hkd,e1,f1];show WG (wpS_lift<|ND<|W.kat_lt (keep ax o1 g1) g3 (keep ay o2 k1) k3 ?_);let t1:IsTup h' px xx:=by let(o,a,b):=e3;exists o,keep _ _ a,b
  let t2:IsTup h' py xy:=by let(o,a,b):=f3;exists o,keep _ _ a,b
  show lq (s:={s with heap:=h'}) t1 t2 e4 f4 J {Z,?_};show WO q'
 .let⟨e,he⟩:=sortedAll_at s.m XX (out.H (·.2));let po:out.C.Perm (pairsOf XX).C:=Ku.G a1
  let zip2:((pairsOf XX).C.H (·.2))=XX:=by change((XX.o.zip XX.o).C.H (·.2))=XX;rw[Array.toList_zip];show List.map_snd_zip AP
  let pv:(out.H (·.2)).C.Perm XX:=by rw[Array.toList_map];show zip2▸po.H (·.2)
  let mo:∀v∈(out.H (·.2)).C,∃a,v=Value.ref a/\R ↑a (f v):=λv hv=>by let(i,e):=YH (pv.mem_iff.G hv);let(a,e1,_,e3,_):=each i v e;exists a,e1,e3
  obtain⟨zs,vz,bz⟩:∃zs:List V,Vals zs (out.H (·.2)).C/\Bears R zs ((out.H (·.2)).C.H f):=by
   clear he pv;generalize (out.H (·.2)).C=os at mo
   induction os with
   |nil=>exists [],.nil,Z,λi a e=>by simp at e
   |cons v os ih=>
    let(zs,vz,bz):=ih λy hy=>mo y (Yf _ hy);let(a,rfl,hr):=mo v Yd;show{.ref a::zs,.cons Z vz,by simp[bz.1],λi l e=>?_};cases i with
    |zero=>
     have:f ↑a=l:=by simpa using e
     exists .ref a,Z,this▸hr
    |succ i=>show bz.2 i l (by simpa using e)
  let GF:zs.f=XX.f:=by rw[vz.f,pv.length_eq]
  exists .ref<|(~~~s)+1,_,I.laid (t':=s.toks) (o:=.lst zs) (λb o g=>sortedAll_old g) (SI _) {?_,(out.H (·.2)).C,e,vz,?_},Z,q zs _ bz ?_ ?_ _<|I.hok.fresh<|SI _
  .have:sizeLine=16777216:=TF
   lia
  .show he
  .rw[eL];show pv.H f
  .rw[Array.toList_map,LB,Oy];show gL (λ{x y} hx hy NX=>?_) a2;let h1:=(Mc x<|po.mem_iff.G hx).2
   let h2:=(Mc y<|po.mem_iff.G hy).2;change HT.Vi (f y.2) (f x.2)=false
   rwa[h1,h2]
end
end L2
namespace My
open PySem L2
def top(i:Nat):(Stmt):=PySem.Challenge.pw_spanrow_k94_whole_lengths_by_sums.main.body.E i (.Pass ⟨0,0,0,0⟩)
abbrev sZ8:Stmt:=sH (top 19) 0
abbrev sZA:Stmt:=top 54
abbrev sZO:Stmt:=top 73
set_option genInjectivity false in
structure Adr where
 (aZ0 aZ1 aZ2 aZ3 aZ4 aZ5 aZ6 aZ7 aZ8 aZ9 aZa aZb aZc aZd aZe aZf aZg aZh aZi aZj aZk aZl aZm aZn aZo aZp aZq aZr aZs aZt aZu aZv aZw aZx aZy aZz aZA aZB aZC aZD aZE aZF aZG aZH aZI aZJ aZK aZL aZM aZN aZO A_Web:Addr)
 (dZ0 dZ1 dZ2 dZ3 dZ4 dZ5 dZ6 dZ7 dZ8 dZ9 dZa dZb dZc dZd dZe dZf dZg dZh dZi dZj dZk dZl dZm dZn dZo dZp dZq dZr dZs dZt dZu dZv dZw dZx dZy dZz dZA dZB dZC dZD dZE dZF dZG dZH dZI dZJ dZK dZL dZM dZN dZO:FuncData)
def Txt(K:Ad)(mg:Af)(t:Adr):(Prop):=(((((((DfA K mg "refuse_not_square" (top 10) t.aZ0 t.dZ0 ["table"]/\DfA K mg "row_taken_off" (top 11) t.aZ1 t.dZ1 ["row","pivot","last"])/\DfA K mg "first_with_some" (top 12) t.aZ2 t.dZ2 ["rows"])/\(DfA K mg "determinant" (top 13) t.aZ3 t.dZ3 ["table"]/\DfA K mg "row_without" (top 14) t.aZ4 t.dZ4 ["row","number"]))/\(((DfA K mg "table_without" (top 15) t.aZ5 t.dZ5 ["table","number"]/\DfA K mg "is_tie" (top 21) t.aZ6 t.dZ6 ["web","number"])/\DfA K mg "refuse_bad_web" (top 20) t.aZ7 t.dZ7 ["places","ties"])/\(Fun K "__init__" "Web.__init__" sZ8 t.aZ8 t.dZ8/\Binds K t.dZ8 ["self","places","ties"] [])))/\((((DfA K mg "refuse_bad_row" (top 22) t.aZ9 t.dZ9 ["web","numbers"]/\DfA K mg "all_ties" (top 23) t.aZa t.dZa ["web"])/\DfA K mg "ties_beside" (top 24) t.aZb t.dZb ["web","ties"])/\(DfA K mg "is_set" (top 25) t.aZc t.dZc ["web","ties"]/\DfA K mg "made_set" (top 26) t.aZd t.dZd ["web","ties"]))/\((DfA K mg "merged_marks" (top 27) t.aZe t.dZe ["web","marks","ties"]/\DfA K mg "piece_marks" (top 28) t.aZf t.dZf ["web","ties"])/\(DfA K mg "pieces_of" (top 29) t.aZg t.dZg ["web","ties"]/\DfA K mg "is_joined" (top 30) t.aZh t.dZh ["web","ties"]))))/\(((((DfA K mg "refuse_parted" (top 31) t.aZi t.dZi ["web"]/\DfA K mg "weighted_table" (top 33) t.aZj t.dZj ["web","weights"])/\DfA K mg "pull_table" (top 34) t.aZk t.dZk ["web"])/\(DfA K mg "tree_count" (top 35) t.aZl t.dZl ["web"]/\DfA K mg "part_count" (top 36) t.aZm t.dZm ["web","inside","outside"]))/\(((DfA K mg "is_tree" (top 38) t.aZn t.dZn ["web","ties"]/\DfA K mg "refuse_no_tree" (top 39) t.aZo t.dZo ["web","tree"])/\DfA K mg "grown_tree" (top 40) t.aZp t.dZp ["web","inside","order"])/\(DfA K mg "least_tree" (top 41) t.aZq t.dZq ["web"]/\DfA K mg "lesser_ties" (top 43) t.aZr t.dZr ["ties","bound"])))/\((((DfA K mg "number_of" (top 44) t.aZs t.dZs ["web","tree"]/\DfA K mg "length_of" (top 46) t.aZt t.dZt ["web","lengths","ties"])/\DfA K mg "cheapest_web" (top 47) t.aZu t.dZu ["web","lengths"])/\(DfA K mg "cheapest_tree" (top 48) t.aZv t.dZv ["web","lengths"]/\DfA K mg "cheapest_count" (top 49) t.aZw t.dZw ["web","lengths"]))/\((DfA K mg "cheapest_number" (top 50) t.aZx t.dZx ["web","lengths","tree"]/\DfA K mg "first_of" (top 52) t.aZy t.dZy ["web","lengths","order","inside","outside"])/\(DfA K mg "firsts_behind" (top 53) t.aZz t.dZz ["web","lengths","order","taken"]/\DfA K mg "ranked" sZA t.aZA t.dZA ["web","lengths","most"])))))/\((((((DfA K mg "tree_sum" (top 56) t.aZB t.dZB ["web","weights"]/\DfA K mg "is_number" (top 60) t.aZC t.dZC ["word"])/\DfA K mg "read_number" (top 61) t.aZD t.dZD ["word"])/\(DfA K mg "read_line" (top 62) t.aZE t.dZE ["line","name","many"]/\DfA K mg "read_web" (top 63) t.aZF t.dZF ["text"]))/\(((DfA K mg "_law_cell" (top 65) t.aZG t.dZG ["script","k"]/\DfA K mg "_law_mixed" (top 66) t.aZH t.dZH ["cell","k"])/\DfA K mg "_law_draws" (top 67) t.aZI t.dZI ["script","start","count","way"])/\(DfA K mg "_law_ties" (top 68) t.aZJ t.dZJ ["draws","places","hang"]/\DfA K mg "_law_web" (top 69) t.aZK t.dZK ["script","most","count"])))/\((((DfA K mg "_law_text" (top 70) t.aZL t.dZL ["places","ties","lengths"]/\DfA K mg "_law_counts" (top 71) t.aZM t.dZM ["web","lengths","places"])/\DfA K mg "_law_ranks_good" (top 72) t.aZN t.dZN ["web","lengths","counts","ranks"])/\(DfA K mg "law" sZO t.aZO t.dZO ["script"]/\mg "Web"=some (.ref t.A_Web)))/\((Cls K t.A_Web/\Mk K t.A_Web t.aZ8)/\(NoAttr K t.A_Web "places"/\NoAttr K t.A_Web "ties"))))/\((((((∃tk,mg "MOST_PLACES"=some (.int 14 tk))/\(∃tk,mg "MOST_TIES"=some (.int 30 tk)))/\(∃tk,mg "FIGURES"=some (.str "0123456789" tk)))/\((∃tk,mg "MOST_FIGURES"=some (.int 60 tk))/\mg "any"=none))/\((mg "enumerate"=none/\mg "int"=none)/\(mg "len"=none/\mg "list"=none)))/\((((mg "max"=none/\mg "min"=none)/\mg "range"=none)/\(mg "set"=none/\mg "sorted"=none))/\((mg "str"=none/\mg "sum"=none)/\(mg "tuple"=none/\mg "zip"=none))))))
def Txt.qZ0(T:Txt K mg t):=T.1.1.1.1.1.1.1
def Txt.qZ1(T:Txt K mg t):=T.1.1.1.1.1.1.2
def Txt.qZ2(T:Txt K mg t):=T.1.1.1.1.1.2
def Txt.qZ3(T:Txt K mg t):=T.1.1.1.1.2.1
def Txt.qZ4(T:Txt K mg t):=T.1.1.1.1.2.2
def Txt.qZ5(T:Txt K mg t):=T.1.1.1.2.1.1.1
def Txt.qZ6(T:Txt K mg t):=T.1.1.1.2.1.1.2
def Txt.qZ7(T:Txt K mg t):=T.1.1.1.2.1.2
def Txt.fZ8(T:Txt K mg t):=T.1.1.1.2.2.1
def Txt.bZ8(T:Txt K mg t):=T.1.1.1.2.2.2
def Txt.qZ9(T:Txt K mg t):=T.1.1.2.1.1.1.1
def Txt.qZa(T:Txt K mg t):=T.1.1.2.1.1.1.2
def Txt.qZb(T:Txt K mg t):=T.1.1.2.1.1.2
def Txt.qZc(T:Txt K mg t):=T.1.1.2.1.2.1
def Txt.qZd(T:Txt K mg t):=T.1.1.2.1.2.2
def Txt.qZe(T:Txt K mg t):=T.1.1.2.2.1.1
def Txt.qZf(T:Txt K mg t):=T.1.1.2.2.1.2
def Txt.qZg(T:Txt K mg t):=T.1.1.2.2.2.1
def Txt.qZh(T:Txt K mg t):=T.1.1.2.2.2.2
def Txt.qZi(T:Txt K mg t):=T.1.2.1.1.1.1.1
def Txt.qZj(T:Txt K mg t):=T.1.2.1.1.1.1.2
def Txt.qZk(T:Txt K mg t):=T.1.2.1.1.1.2
def Txt.qZl(T:Txt K mg t):=T.1.2.1.1.2.1
def Txt.qZm(T:Txt K mg t):=T.1.2.1.1.2.2
def Txt.qZn(T:Txt K mg t):=T.1.2.1.2.1.1.1
def Txt.qZo(T:Txt K mg t):=T.1.2.1.2.1.1.2
def Txt.qZp(T:Txt K mg t):=T.1.2.1.2.1.2
def Txt.qZq(T:Txt K mg t):=T.1.2.1.2.2.1
def Txt.qZr(T:Txt K mg t):=T.1.2.1.2.2.2
def Txt.qZs(T:Txt K mg t):=T.1.2.2.1.1.1.1
def Txt.qZt(T:Txt K mg t):=T.1.2.2.1.1.1.2
def Txt.qZu(T:Txt K mg t):=T.1.2.2.1.1.2
def Txt.qZv(T:Txt K mg t):=T.1.2.2.1.2.1
def Txt.qZw(T:Txt K mg t):=T.1.2.2.1.2.2
def Txt.qZx(T:Txt K mg t):=T.1.2.2.2.1.1
def Txt.qZy(T:Txt K mg t):=T.1.2.2.2.1.2
def Txt.qZz(T:Txt K mg t):=T.1.2.2.2.2.1
def Txt.qZA(T:Txt K mg t):=T.1.2.2.2.2.2
def Txt.qZB(T:Txt K mg t):=T.2.1.1.1.1.1.1
def Txt.qZC(T:Txt K mg t):=T.2.1.1.1.1.1.2
def Txt.qZD(T:Txt K mg t):=T.2.1.1.1.1.2
def Txt.qZE(T:Txt K mg t):=T.2.1.1.1.2.1
def Txt.qZF(T:Txt K mg t):=T.2.1.1.1.2.2
def Txt.qZG(T:Txt K mg t):=T.2.1.1.2.1.1.1
def Txt.qZH(T:Txt K mg t):=T.2.1.1.2.1.1.2
def Txt.qZI(T:Txt K mg t):=T.2.1.1.2.1.2
def Txt.qZJ(T:Txt K mg t):=T.2.1.1.2.2.1
def Txt.qZK(T:Txt K mg t):=T.2.1.1.2.2.2
def Txt.qZL(T:Txt K mg t):=T.2.1.2.1.1.1.1
def Txt.qZM(T:Txt K mg t):=T.2.1.2.1.1.1.2
def Txt.qZN(T:Txt K mg t):=T.2.1.2.1.1.2
def Txt.qZO(T:Txt K mg t):=T.2.1.2.1.2.1
def Txt.c_Web(T:Txt K mg t):=T.2.1.2.1.2.2
def Txt.cl_Web(T:Txt K mg t):=T.2.1.2.2.1.1
def Txt.k_Web(T:Txt K mg t):=T.2.1.2.2.1.2
def Txt.n_Web_places(T:Txt K mg t):=T.2.1.2.2.2.1
def Txt.n_Web_ties(T:Txt K mg t):=T.2.1.2.2.2.2
def Txt.g_MOST_PLACES(T:Txt K mg t):=T.2.2.1.1.1.1.1
def Txt.g_MOST_TIES(T:Txt K mg t):=T.2.2.1.1.1.1.2
def Txt.g_FIGURES(T:Txt K mg t):=T.2.2.1.1.1.2
def Txt.g_MOST_FIGURES(T:Txt K mg t):=T.2.2.1.1.2.1
def Txt.n_any(T:Txt K mg t):=T.2.2.1.1.2.2
def Txt.n_enumerate(T:Txt K mg t):=T.2.2.1.2.1.1
def Txt.n_int(T:Txt K mg t):=T.2.2.1.2.1.2
def Txt.n_len(T:Txt K mg t):=T.2.2.1.2.2.1
def Txt.n_list(T:Txt K mg t):=T.2.2.1.2.2.2
def Txt.n_max(T:Txt K mg t):=T.2.2.2.1.1.1.1
def Txt.n_min(T:Txt K mg t):=T.2.2.2.1.1.1.2
def Txt.n_range(T:Txt K mg t):=T.2.2.2.1.1.2
def Txt.n_set(T:Txt K mg t):=T.2.2.2.1.2.1
def Txt.n_sorted(T:Txt K mg t):=T.2.2.2.1.2.2
def Txt.n_str(T:Txt K mg t):=T.2.2.2.2.1.1
def Txt.n_sum(T:Txt K mg t):=T.2.2.2.2.1.2
def Txt.n_tuple(T:Txt K mg t):=T.2.2.2.2.2.1
def Txt.n_zip(T:Txt K mg t):=T.2.2.2.2.2.2
end My
namespace My
open PySem L2 PyProof.Rows
set_option maxHeartbeats 4000000
section
variable{P:Program}{w:World}{K:Ad}{mg:Af}{base:Heap}{t:Adr}
inductive spZ0(K:Ad)(vs:List V)(H:Hp)(Q:VK)(_:XK):Prop
 |mk (a kd xs L:_) (_:vs=[.ref a]) (_:SqK kd K H a xs) (_:Bears (Du K H) xs L) (_:((∀l∈L,l.f=L.f)->Q .non H)) (_:(¬(∀l∈L,l.f=L.f)->False))
def kO(T:Txt K mg t):WR P w base Xd T.qZ0 1 (spZ0 K):=by
 show T.qZ0.okI ["table","row"] vh λXw A outer s H vs Q E hr h=>?_
 .let⟨a,kd,xs,L,rfl,hS,hB,q,qe⟩:=h;show⟨_,(XE (Uu YX Z (Jy K<|pv 0) (Zc 1)
   (XE (Wm (Zl Vr (Zg (Zi K) vi T.n_len Boot.«len»<|XZ (pv 1) XT) (Zg (Zi K) vi T.n_len Boot.«len»<|XZ (pv 0) XT)<|Zs _)
   (XE Uv)
   Zq)))),?_⟩
  let RD:=hB.1;exists _,Z,a,Z,MW (K:=K) (k:=kd) (a:=a) (xs:=xs) (λi σ H2=>∃v1,σ=[some ↑a,v1]/\H2=H/\∀l∈L.R i,l.f=L.f) {none,Z,Z,λl h=>(by cases h)} (λi σ H2 _ zz=>by let(_,_,e,_):=zz;show e▸hS) ?_ ?_
  .rintro i v σ H2 hi ⟨v1,rfl,rfl,WA⟩;let(l,hl,r,k,rfl,hr):=hB.at hi;show nm ?_;exists _,Z,r,_,Z,hr.or,_,Z,a,xs,Z,hS.or,Z,_,Z,?_;rw[Xv,ZO];show VF (λe=>?_) (λe=>?_)
   .exists _,Z,Z,λm hm=>?_;rw[YI,hl]at hm;rcases Yb.G hm with h|h
    .show WA m h
    .let NY:m=l:=by simpa using h
     rw[NY];lia
   .show qe λh=>e (by rw[h l (Xn hl),RD])
  .rintro σ H2 ⟨v1,rfl,rfl,WA⟩;rw[RD,YF]at WA;show q WA
inductive spZ1(K:Ad)(vs:List V)(H:Hp)(Q:VK)(_:XK):Prop
 |mk (r p x y last l q:_) (_:vs=[.ref r,.ref p,.int last]) (_:SqL K H r (IL<|x::l)) (_:SqL K H p (IL<|y::q)) (_:l.f=q.f) (_:l.f<=1000) (_:last≠0) (_:last.natAbs<2^9000) (_:(∀z∈x::l,z.natAbs<2^9000)) (_:(∀z∈y::q,z.natAbs<2^9000)) (_:∀c H',Same H H'->H c=none->H' c=some (.lst<|IL<|Ph y q last<|x::l)->Q ↑c H')
def kN(T:Txt K mg t):WR P w base Xd T.qZ1 1 (spZ1 K):=by
 show T.qZ1.okI ["row","pivot","last"] vh λXw A outer s H vs Q E hr h=>?_
 .let⟨r,p,x,y,last,l,q',rfl,hR,hP,a9,hl,l0,l1,hx,hy,q⟩:=h;exists _,(XE<|Zm<|SE Z (sc0:=Zd<|top 11) (N0:=["row","pivot","last"]) (N':=["own","other","pivot","row","last"]) (o:=2) (fr:=[1,0,2]) ⟨Z,vh,vh,vh,Z,vh⟩ (DF K Z T.n_zip<|XZ (ZT (UP K) (pv 0) (Qy XN) Qz)<|XZ (ZT (UP K) (pv 1) (Qy XN) Qz) XT) (Et<|Oc vg<|Oc vg Eu) (λ_ _ _ _=>(NZ (n:=2) K Z<|Zz (Zc 0)<|Zz (Zc 1) Oh)) (λ_ _ _ _=>ZM) λ_ _ _ _=>(Zt dI (Zt Lv (Zt pS (Zw (Ze K) (pv 2) XN λ_ _=>rfl)<|pv 0)<|Zt pS (Zw (Ze K) (pv 3) XN λ_ _=>rfl)<|pv 1)<|pv 4)),?_;exists _,Z,_,Z,r,_,Z,hR,λp1 VU=>?_;rw[dF];let s1:=XH (o:=.lst<|IL l) VU
  exists _,Z,_,Z,p,_,Z,s1.seq hP,λp2 Vw=>?_;rw[dF];let s2:=XH (o:=.lst<|IL q') Vw
  let Iu:=s1.l s2;let h1:=s2 _ _ (XS (H:=H) (a:=p1) (o:=.lst<|IL l))
  let h2:(upd (upd H p1<|.lst<|IL l) p2<|.lst<|IL q') p2=some (.lst<|IL q'):=XS;generalize upd (upd H p1<|.lst<|IL l) p2 (.lst<|IL q')=H2 at *;show⟨p1,p2,Z,{_,_,SqL.of h1,SqL.of h2},DC (K:=K) (a:=p1) (b:=p2) (xs:=IL l) (ys:=IL q') (λi zs H3=>Same H2 H3/\i<=l.f/\zs=IL ((Ph y q' last<|x::l).R i)) {Same.refl _,Yl _,Z} (by rwa[Xv,Xv]) (Zk<|by rw[Xv];lia)
   (λi zs H3 hi zz=>by let(e,We,ez):=zz;show{SqL.of<|e _ _ h1,SqL.of<|e _ _ h2,by rw[ez,Xv,Yo];lia}) ?_ ?_⟩
  .rintro i u v zs H3 pt RZ hu hv ⟨s3,Tv,rfl⟩ S WZ;let(own,rfl,ho):=Um hu;let(kM,rfl,ht):=Um hv;let Wc:=(Xs.G ho).1
   let s4:=XH (o:=.tup [.int own,.int kM]) RZ;exists pt,_,Z,SqT.of XS,Z,_,_,Z,_,_,Z,Z,?_;let a8:=Iu.l (s3.l s4)
   let a1:=hy y Yd;let a2:=hx own (Yf _<|Xn ho)
   let a3:=hx x Yd;let a4:=hy kM (Yf _<|Xn ht)
   exists _,Z,p,_,0,.int y,Z,Z,a8.seq hP,Zy (n:=0) Z Z,_,Z,_,_,Z,Z,⟨a1,a2⟩,_,Z,r,_,0,.int x,Z,Z,a8.seq hR,Zy (n:=0) Z Z,_,Z,_,_,Z,Z,⟨a3,a4⟩,_,_,Z,Z,_,Z,_,_,Z,Z,⟨l0,l1⟩,?_;show WZ _ _ {s3.l s4,Wc,?_};let e:(Ph y q' last<|x::l)[i]?=some ((y*own-x*kM).fdiv last):=by change(List.zipWith _ l q')[i]?=_;rw[OC,ho,ht];rfl
   rw[YI,e];show(ZJ _ _).symm
  .rintro zs H3 ⟨s3,_,rfl⟩ c hc;rw[Xv,YS (by rw[Dw (by rw[Yx,a9])];lia)];show q c _ (Iu.l<|s3.l<|XH hc) ((Iu.l s3).free hc) XS
inductive spZ2(K:Ad)(vs:List V)(H:Hp)(Q:VK)(_:XK):Prop
 |mk (a ys R:_) (_:vs=[.ref a]) (_:SqL K H a ys) (_:Bears (RO H) ys R) (_:(∀l∈R,0<l.f)) (_:(∀H':Hp,Same H H'->(∀i,i<R.f->fnL R i 0=0)->Q .non H')) (_:(∀t H',Same H H'->t<R.f->fnL R t 0≠0->Q (.int t) H'))
def kL(T:Txt K mg t):WR P w base Xd T.qZ2 1 (spZ2 K):=by
 show T.qZ2.okI ["rows","at","row"] vh λXw A outer s H vs Q E hr h=>?_
 .let⟨a,ys,R,rfl,hS,hB,hp,q0,q1⟩:=h;show⟨_,(XM (Uu YX Z (yg K Z T.n_enumerate<|XZ (pv 0) XT) (NZ (n:=2) K Z<|Zz (Zc 1)<|Zz (Zc 2) Oh)
   (XE (Wm (Zl Vr (Zw (Ze K) (pv 2) XN λ_ _=>rfl) XN<|Zs _)
   (XE<|Zm<|pv 1)
   Zq)))
   (XE<|Zm yB)),?_⟩
  let NR:=hB.1;exists _,Z,a,Z,{_,hS},fo (K:=K) (a:=a) (xs:=ys) (λi σ H2=>∃v1 v2,σ=[some ↑a,v1,v2]/\Same H H2/\∀j,j<i->fnL R j 0=0) {none,none,Z,Same.refl _,λj h=>absurd h<|Wg _} (λi σ H2 _ zz=>by let(_,_,_,e,_):=zz;show e.seq hS) ?_ ?_
  .rintro i v σ H2 pt RZ hi ⟨v1,v2,rfl,s2,hz⟩;let(l,hl,r,rfl,hr):=hB.at hi;let GD:=hp l (Xn hl)
   obtain⟨x,l',rfl⟩:∃x l',l=x::l':=by
    cases l with
    |nil=>show absurd GD (Va 0)
    |cons x l'=>exists x,l',Z
   let e0:fnL R i 0=x:=Qo hl rfl;let s3:=s2.l (XH (o:=.tup [.int i,.ref r]) RZ)
   exists pt,_,Z,SqT.of XS,Z,_,_,Z,_,_,Z,Z,?_;generalize upd H2 pt (.tup [.int i,.ref r])=H3 at *;exists _,Z,r,_,0,.int x,Z,Z,SqL.of<|s3 _ _ hr,Zy (n:=0) Z Z,Z,_,Z,?_;rw[ZO];show VF (λe=>?_) (λe=>?_)
   .exists _,_,Z,s3,λj hj=>?_;cases c:j=i
    .rw[c,e0,e]
    .show hz j J
   .exists _,Z,q1 i H3 s3 (by have:=(Xs.G hl).1;show this)<|by rwa[e0]
  .rintro σ H2 ⟨v1,v2,rfl,s2,hz⟩;show q0 H2 s2 λi hi=>hz i J
inductive spZ3(K:Ad)(vs:List V)(H:Hp)(Q:VK)(_:XK):Prop
 |mk (a kd xs L:_) (_:vs=[.ref a]) (_:SqK kd K H a xs) (_:Bears (Du K H) xs L) (_:L.f<=16) (_:(∀i j,i<L.f->j<L.f->(fnL L i j).natAbs<=2^400)) (_:((∀l∈L,l.f=L.f)->∀H':Hp,Same H H'->Q (.int<|det L.f<|fnL L) H')) (_:(¬(∀l∈L,l.f=L.f)->∀H':Hp,Same H H'->False))
def Bx{s rest:TS}{D:Ends}{σ:L2.St}{H:Hp}(P:L2.St->Hp->Prop)(h1:∀σ' H',P σ' H'->rest D σ' H')(h2:∀K:L2.St->Hp->Prop,(∀σ' H',P σ' H'->K σ' H')->s {D with nx:=K} σ H):Sw s rest D σ H:=h2 _ h1
def ON:FnScope ["table","rows","sign","last","at","pivot"] ["table"] (Zd (top 13)):=Vg vh
def Bw(T:Txt K mg t):WR P w base Xd T.qZ3 2 (spZ3 K):=by
 show T.qZ3.okI ["table","rows","sign","last","at","pivot"] vh λXw A outer s H vs Q E hr h=>?_
 .let⟨a,kd,xs,L,rfl,hS,hB,Bv,aZ,q,qe⟩:=h;show⟨_,(XM (ZI<|Xp (kO T) hr T.qZ0 ZB<|XZ (pv 0) XT)
   (XM (Uq (i:=1) Z ON.nd Z Z (sc0:=Zd<|top 13) (N0:=["table","rows","sign","last","at","pivot"]) (N':=["row"]) (o:=1) (fr:=[]) ⟨Z,vh,vh,vh,Z,vh⟩ (Jy K<|pv 0) (Zu vg) (λ_ _ _ _=>(Zc 0)) (λ_ _ _ _=>ZM) λ_ _ _ _=>(Zo (Sn K) vi T.n_list Boot.«list»<|XZ (pv 0) XT))
   (XM (Zh 2 XN)
   (XM (PX (i:=3) ON.nd Z (Or.inr Z) XN)
   (XM (gp YX (Zl Lq (Zg (Zi K) vi T.n_len Boot.«len»<|XZ (pv 1) XT) XN<|Zs _)
   (XM (Zh 4<|Xp (kL T) hr T.qZ2 ZB<|XZ (pv 1) XT)
   (XM (Wm (Zl EU (pv 4) yB<|Zs _)
   (XE<|Zm XN)
   Zq)
   (XM (Wm (Zl PQ (Zt ZW (pv 4) XN) XN<|Zs _)
   (XE<|Zh 2<|Fb Lr<|pv 2)
   Zq)
   (XM (PX (i:=5) ON.nd Z (Or.inr Z)<|Ul K YO PySem.F.slot_list_pop PySem.F.type_list_pop tu (pv 1)<|XZ (pv 4) XT)
   (XM (Uq (i:=1) Z ON.nd Z Z (sc0:=Zd<|top 13) (N0:=["table","rows","sign","last","at","pivot"]) (N':=["row","pivot","last"]) (o:=1) (fr:=[5,3]) ⟨Z,vh,vh,vh,Z,vh⟩ (ZL K<|pv 1) (Zu vg) (λ_ _ _ _=>(Zc 0)) (λ_ _ _ _=>ZM) λ_ _ _ _=>(Xp (kN T) hr T.qZ1 ZB<|XZ (pv 0)<|XZ (pv 1)<|XZ (pv 2) XT))
   (XE<|PX (i:=3) ON.nd Z (Or.inr Z)<|Zw (Ze K) (pv 5) XN λ_ _=>rfl)))))))
   (XE<|Zm<|Zt pS (pv 2)<|pv 3)))))),?_⟩
  let RD:=hB.1;exists _,Z,a,kd,xs,L,Z,hS,hB,λPo=>?_,λh=>qe h H<|Same.refl H;let q:=q Po
  obtain⟨n,hn⟩:∃n,n=L.f:={_,Z};rw[<-hn]at q Po aZ Bv;exists _,Z,a,Z,Px (K:=K) (k:=kd) (a:=a) (xs:=xs) (λi zs H2=>Same H H2/\i<=xs.f/\Bears (RO H2) zs (L.R i)) {Same.refl _,Yl _,{Z,λi l e=>by simp at e}} (Zk J) (λi zs H2 hi zz=>by let(e,We,ez):=zz;show{hS.same e,by rw[ez.1,Yo];lia}) ?_ ?_
  .rintro i v zs H2 hi ⟨s2,Tv,hZ⟩ S WZ;let(l,hl,r,k,rfl,hr):=hB.at hi;let Wc:=(Xs.G hi).1
   show nm ?_;exists _,Z,r,_,Z,(hr.same s2).or,λc hc=>WZ _ _ {s2.l<|XH hc,Wc,?_};rw[YI,hl];show(hZ.imp λ_ _ zz=>by let(r',e,h):=zz;exists r',e,XH hc _ _ h).snoc ⟨c,Z,XS⟩
  rintro zs H2 ⟨s2,_,hZ⟩ rA GC;rw[RD,YF]at hZ;let s3:=s2.l (XH (o:=.lst zs) GC)
  exists λm σ H4=>∃A k rA ys R sgn last v4 v5,σ=[some ↑a,some<|.ref rA,some<|.int sgn,some<|.int last,v4,v5]/\Same H H4/\H rA=none/\H4 rA=some (.lst ys)/\Bears (LiV rA H4) ys R/\R.f=m/\(∀l∈R,l.f=m)/\k+m=n/\RJ A k m (fnL R) last/\det n (fnL L)=sgn*det n A/\(∀i j,i<n->j<n->(A i j).natAbs<=2^400)/\(m=0->last=det n A)/\(sgn=1\/sgn=-1)/\last.natAbs<2^9000,{n,fnL L,0,rA,zs,L,1,1,none,none,Z,s3,s2.free GC,XS,?_,hn.symm,Po,J,ZY8 _ _,vk,aZ,λe=>by rw[e];rfl,.inl Z,Nat.one_lt_two_pow vg},?_
  .show hZ.imp λv l zz=>by let(r,e,h):=zz;exists r,e,XH GC _ _ h,Zb h GC
  rintro m σ H4 ⟨A,k,rA,ys,R,sgn,last,v4,v5,rfl,s4,TY,kK,hR,hRm,xa,w9,Mb,Ir,aY,OV,aX,aW⟩;let NR:=hR.1
  exists _,Z,rA,ys,Z,.inl<|SqL.of kK,_,_,Z,Z,_,Z,?_;show WN (λIq=>?_) (λIq=>?_)
  .obtain⟨M,rfl⟩:∃M,m=M+1:={m-1,J};exists _,λσ' H' h=>{M,Ow M,h},?_;let kJ:∀l∈R,∀z∈l,z.natAbs<2^9000:=λl hl z hz=>by
    let(i,hi):=YH hl;let(j,hj):=YH hz;let h1:=(Xs.G hi).1
    let h2:=(Xs.G hj).1;let h3:=xa l hl
    have:=ZZ8 Mb w9 Bv aY (i:=i) (j:=j) J J
    rwa[Qo hi hj]at this
   exists _,Z,rA,ys,R,Z,SqL.of kK,hR.imp λ_ _ h=>h.list,λl hl=>by rw[xa l hl];lia,λH5 s5 h0=>?_,λt H5 s5 ht XJ=>?_
   .exists _,Z,Z,_,Z,?_;show Ei (c:=V.non=V.non) Z ?_;let z:det n A=0:=by
     have:=pX Mb λi hi=>h0 i J
     rwa[show k+M+1=n by lia]at this
    rw[Ir,z,Sy]at q;show q H5 (s4.l s5)
   exists _,Z,Z,_,Z,?_;show MX (c:=V.int (t:Int)=V.non) (λz=>nomatch z) ?_;show nm ?_;dsimp only;show Bx (λσ H6=>∃Ma:Int,H6=H5/\σ=[some ↑a,some<|.ref rA,some<|.int Ma,some<|.int last,some<|.int t,v5]/\Ma=sgn*sg t) ?_ ?_
   .rintro σ H6 ⟨Ma,rfl,rfl,Bu⟩;let aV:=s5 _ _ kK
    let aU:=hR.imp λ_ _ h=>h.same s5;obtain⟨l,hl⟩:∃l,R[t]?=some l:={_,XI ht};let Wa:=xa l (Xn hl)
    obtain⟨y,p',rfl⟩:∃y p',l=y::p':=by
     cases l with
     |nil=>cases Wa
     |cons y p'=>exists y,p',Z
    let Ve:p'.f=M:=by rw[Yx]at Wa;lia
    let(v,hv,pA,rfl,kI,hpn):=aU.2 t _ hl;let hy0:y≠0:=by rwa[Qo hl Z]at XJ
    show{_,Z,.inl {Z,_,SqL.of aV},_,Z,rA,ys,(t:Int),t,.ref pA,Z,Z,aV,J,J,by rw[qY J J,Yy],hv,?_};let Bt:(upd H6 rA<|.lst<|ys.eraseIdx t) pA=some (.lst<|IL<|y::p'):=by rwa[Za hpn]
    let s7:Same H (upd H6 rA<|.lst<|ys.eraseIdx t):=Zp TY (s4.l s5);let aT:Bears (LiV rA<|upd H6 rA<|.lst<|ys.eraseIdx t) (ys.eraseIdx t) (R.eraseIdx t):=(aU.erase t).imp λ_ _ h=>h.mut
    let Bs:(upd H6 rA<|.lst<|ys.eraseIdx t) rA=some (.lst<|ys.eraseIdx t):=XS;generalize upd H6 rA (.lst<|ys.eraseIdx t)=H7 at *;let aS:(R.eraseIdx t).f=M:=by rw[Rn,if_pos ht];lia
    let Ip:∀l∈R.eraseIdx t,l.f=M+1:=λl h=>xa l (gN h);let wZ:=aT.1
    exists _,Z,rA,Z,{_,SqL.of Bs},Qt (K:=K) (a:=rA) (xs:=ys.eraseIdx t) (λi zs H8=>Same H7 H8/\i<=(ys.eraseIdx t).f/\Bears (RO H8) zs (((R.eraseIdx t).R i).H (Ph y p' last))) {Same.refl _,Yl _,{Z,λi l e=>by simp at e}} (Zk J) (λi zs H8 hi zz=>by let(e,We,ez):=zz;show{SqL.of<|e _ _ Bs,by rw[ez.1,Xy,Yo];lia}) ?_ ?_
    .rintro i v zs H8 hi ⟨s8,Tv,wY⟩ S WZ;let(l,La,r,rfl,hr,_):=aT.at hi;let Wc:=(Xs.G hi).1
     let Ti:=Ip l (Xn La);obtain⟨x,l',rfl⟩:∃x l',l=x::l':=by
      cases l with
      |nil=>cases Ti
      |cons x l'=>exists x,l',Z
     let Ft:l'.f=M:=by rw[Yx]at Ti;lia
     show nm ?_;exists _,Z,_,Z,_,Z,r,pA,x,y,last,l',p',Z,SqL.of<|s8 _ _ hr,SqL.of<|s8 _ _ Bt,J,J,Mb.1,aW,kJ _<|gN<|Xn La,kJ _<|Xn hl,λc H9 s9 kH hc=>WZ _ _ {s8.l s9,Wc,?_};rw[YI,La,YD];show(wY.imp λ_ _ zz=>by let(r',e,h):=zz;exists r',e,s9 _ _ h).snoc ⟨c,Z,hc⟩
    rintro zs H8 ⟨s8,_,wY⟩ cA GB;rw[wZ,YF]at wY;let s9:=XH (o:=.lst zs) GB
    exists _,Z,pA,_,0,.int y,Z,Z,SqL.of<|s9 _ _<|s8 _ _ Bt,Zy (n:=0) Z Z,?_;let KY:RJ (λi=>A<|rotN k t i) k (M+1) (fnL<|(y::p')::R.eraseIdx t) last:=by rw[pQ hl];show pY Mb J
    let Sa:RJ (λi=>A<|rotN k t i) (k+1) M (fnL<|(R.eraseIdx t).H (Ph y p' last)) y:=p6 KY hy0 λi j hi hj=>Dv Ve aS Ip hi hj;let hdr:=qc (n:=n) (k:=k) (t:=t) (A:=A) J
    exists λi=>A<|rotN k t i,k+1,cA,zs,(R.eraseIdx t).H (Ph y p' last),Ma,y,_,_,Z,s7.l<|s8.l s9,(s7.l s8).free GB,XS,?_,by rw[Xy];show aS,λl h=>?_,J,Sa,?_,λi j hi hj=>aY _ _ ?_ hj,λe0=>?_,?_,kJ _ (Xn hl) y Yd
    .show wY.imp λv l zz=>by let(r,e,h):=zz;exists r,e,s9 _ _ h,Zb h GB
    .let⟨l0,h0,rfl⟩:=Yp.G h;rw[Dw (by rw[Ip l0 h0,Ve]),Ve]
    .rw[hdr,Ir,Bu,RX,<-RX (sg t),pP,SH]
    .unfold rotN;split
     .grind
     .split
      .lia
      .split<;>lia
    .subst e0
     have:=pW KY
     rwa[show k+1=n by lia]at this
    .rw[Bu];let Wl:sg t=1\/sg t=-1:=by
      unfold sg;split
      .show .inl rfl
      .show .inr rfl
     rcases aX with e|e<;>rcases Wl with f|f<;>rw[e,f]
     .show .inl rfl
     .show .inr rfl
     .show .inr rfl
     .show .inl rfl
   .intro Kn hK;exists _,Z,_,_,Z,Z,(by change(0:Int)<2;decide),Z,_,Z,?_;rw[ZO];show WN (λh1=>?_) (λh1=>?_)
    .exists _,Z,_,Z,hK _ _ {-sgn,Z,Z,?_};let e:sg t=-1:=by unfold sg;rw[if_neg J]
     rw[e];lia
    .show hK _ _ {sgn,Z,Z,?_};let e:sg t=1:=by unfold sg;rw[if_pos J]
     rw[e];grind
  .let Qn:m=0:=J;exists _,Z,_,Z,_,_,Z,Z,{?_,aW},?_
   .rcases aX with e|e<;>rw[e]<;>show Nat.one_lt_two_pow vg
   .rw[OV Qn]at *;rw[Ir]at q;show q H4 s4
inductive spZ4(K:Ad)(vs:List V)(H:Hp)(Q:VK)(_:XK):Prop
 |mk (a:Addr) (l:Ac) (i:Nat) (_:vs=[.ref a,.int i]) (_:SqL K H a (IL l)) (_:l.f<=1000) (_:∀r H',Same H H'->H r=none->H' r=some (.lst<|IL<|cutz l i)->Q ↑r H')
def kG(l:Ac)(z:Int):cutz (IL l) z=IL (cutz l z):=by
 unfold cutz;change(l.H V.int).R _++(l.H V.int).drop _=(l.R _++l.drop _).H V.int
 rw[YD,vy,List.map_drop]
def kF(T:Txt K mg t):WR P w base Xd T.qZ4 1 (spZ4 K):=by
 show T.qZ4.okI ["row","number"] vh λXw A outer s H vs Q E hr h=>?_
 .let⟨a,l,i,rfl,hA,hl,q⟩:=h;exists _,(XE<|Zm<|Zt yn (Zo (Sn K) vi T.n_list Boot.«list»<|XZ (ZT (UP K) (pv 0) Qz<|Qy<|pv 1) XT)<|Zo (Sn K) vi T.n_list Boot.«list»<|XZ (ZT (UP K) (pv 0) (Qy<|Zt Sv (pv 1) XN) Qz) XT),?_;exists _,Z,_,Z,(i:Int),Z,a,_,Z,hA,λp1 VU=>?_;let u1:=XH (o:=.lst<|Xk (IL l) none<|some (i:Int)) VU
  exists p1,_,Z,.inl<|SqL.of XS,λp2 Vw=>?_;let u2:=XH (o:=.lst<|Xk (IL l) none<|some (i:Int)) Vw
  exists _,Z,_,Z,_,_,Z,Z,_,Z,a,_,Z,(u1.l u2).seq hA,λp3 KG=>?_;let u3:=XH (o:=.lst<|Xk (IL l) (some<|(i:Int)+1) none) KG
  exists p3,_,Z,.inl<|SqL.of XS,λp4 Br=>?_;let u4:=XH (o:=.lst<|Xk (IL l) (some<|(i:Int)+1) none) Br
  let c1:=tR (IL l) none (some (i:Int));let c2:=tR (IL l) (some<|(i:Int)+1) none
  rw[Xv]at c1 c2;exists p2,p4,_,_,Z,Z,(u3.l u4) _ _ XS,XS,Ej J,λp5 aR=>?_;let aQ:=u1.l (u2.l<|u3.l u4)
  show q p5 _ (aQ.l<|XH aR) (aQ.free aR) ?_;rw[XS,qz J,kG]
inductive spZ5(K:Ad)(vs:List V)(H:Hp)(Q:VK)(_:XK):Prop
 |mk (a:Addr) (ys:List V) (L:Ab) (i:Nat) (_:vs=[.ref a,.int i]) (_:SqL K H a ys) (_:Bears (RO H) ys L) (_:L.f<=1000) (_:(∀l∈L,l.f<=1000)) (_:i<L.f) (_:∀r zs H',Same H H'->H' r=some (.lst zs)->Bears (RO H') zs ((cutz L i).H λl=>cutz l (i:Int))->Q ↑r H')
def aP{α:Type}{l:List α}{i j:Nat}{x:α}(hx:l[j]?=some x):cutz (l.R (j+1)) (i:Int)=cutz (l.R j) (i:Int)++(if j=i then [] else [x]):=by
 let hj:=(Xs.G hx).1;let e:l.R (j+1)=l.R j++[x]:=by rw[YI,hx];rfl
 let hl:(l.R j).f=j:=by rw[Yo];lia
 let short:∀m:List α,m.f<=i->cutz m (i:Int)=m:=λm hm=>by unfold cutz;rw[Yy,YS hm,Rp J,WH]
 rw[e];cases c:j=i
 .subst c;rw[if_pos Z,WH,short (l.R j) J];unfold cutz;rw[Yy,Km J,Rp (by rw[Xm,hl];show XQ _),WH,YS J]
 .rw[if_neg c];cases d:j<i
  .rw[short (l.R j++[x]) (by rwa[Xm,hl]),short (l.R j) J]
  .unfold cutz;rw[Yy,Km J,List.drop_append_of_le_length J,QF]
def Bq(T:Txt K mg t):WR P w base Xd T.qZ5 2 (spZ5 K):=by
 show T.qZ5.okI ["table","number"] vh λXw A outer s H vs Q E hr h=>?_
 .let⟨a,ys,L,i,rfl,hA,hB,hL,kE,hi,q⟩:=h;exists _,(XE<|Zm<|SE Z (sc0:=Zd<|top 15) (N0:=["table","number"]) (N':=["at","row","number"]) (o:=2) (fr:=[1]) ⟨Z,vh,vh,vh,Z,vh⟩ (yg K Z T.n_enumerate<|XZ (pv 0) XT) (Et<|Oc vg<|Oc vg Eu) (λ_ _ _ _=>(NZ (n:=2) K Z<|Zz (Zc 0)<|Zz (Zc 1) Oh)) (λ_ _ _ _=>(Hh<|Zl Vr (pv 0) (pv 2)<|Zs _)) λ_ _ _ _=>(Xp (kF T) hr T.qZ4 ZB<|XZ (pv 1)<|XZ (pv 2) XT)),?_;let NR:=hB.1
  show⟨_,Z,a,Z,{_,hA},Js (K:=K) (a:=a) (xs:=ys) (λj zs H2=>Same H H2/\j<=ys.f/\Bears (RO H2) zs ((cutz (L.R j) (i:Int)).H λl=>cutz l (i:Int))) {Same.refl _,Yl _,by rw[show(cutz (L.R 0) (i:Int)).H (λl=>cutz l (i:Int))=[] by unfold cutz;simp];show{Z,λi l e=>by simp at e}} (Zk J) (λj zs H2 hj ⟨e,Pf,ez⟩=>⟨e.seq hA,by
   rw[ez.1,Xy];show YB (qy _ _) ?_;rw[Yo]
   lia⟩) ?_ ?_⟩
  .rintro j v zs H2 pt RZ hj ⟨s2,MO,hZ⟩ S WZ;let(l,hl,r,rfl,hr):=hB.at hj;let SO:=(Xs.G hj).1
   let s3:=XH (o:=.tup [.int j,.ref r]) RZ;exists pt,_,Z,SqT.of XS,Z,_,_,Z,_,_,Z,Z,?_;let aO:Bears (RO<|upd H2 pt<|.tup [.int j,.ref r]) zs ((cutz (L.R j) (i:Int)).H λl=>cutz l (i:Int)):=hZ.imp λ_ _ zz=>by let(r',e,h):=zz;exists r',e,s3 _ _ h
   let Io:=s2.l s3;generalize upd H2 pt (.tup [.int j,.ref r])=H3 at *;exists _,Z,_,Z,Z,_,Z,?_;rw[ZO];show VF (λe=>?_) (λe=>?_)
   .show WZ _ _ {Io,SO,?_};rwa[aP hl,if_pos J,WH]
   .exists _,Z,_,Z,r,l,i,Z,SqL.of<|Io _ _ hr,kE l<|Xn hl,λc H4 s4 _ hc=>WZ _ _ {Io.l s4,SO,?_};rw[aP hl,if_neg J,YD];show(aO.imp λ_ _ zz=>by let(r',e,h):=zz;exists r',e,s4 _ _ h).snoc ⟨c,Z,hc⟩
  .rintro zs H2 ⟨s2,_,hZ⟩ p hp;rw[NR,YF]at hZ;show q p zs _ (s2.l<|XH hp) XS (hZ.imp λ_ _ zz=>by let(r',e,h):=zz;exists r',e,XH hp _ _ h)
inductive spZ6(C:Addr)(vs:List V)(H:Hp)(Q:VK)(_:XK):Prop
 |mk (w n ps k:_) (_:vs=[.ref w,.int k]) (_:WebAt C H w n ps) (_:Q (.bl<|decide<|0<=k/\k<ps⁻¹) H)
def kD(T:Txt K mg t):WR P w base Xd T.qZ6 1 (spZ6 t.A_Web):=by
 show T.qZ6.okI ["web","number"] vh λXw A outer s H vs Q E hr h=>?_
 .let⟨w,n,ps,k,rfl,⟨dx,tl,xs,h1,h2,h3⟩,q⟩:=h;exists _,(XE<|Zm<|uv Su Nk XN (pv 1)<|Zg (Zi K) vi T.n_len Boot.«len»<|XZ (ZN K (pv 0) Z) XT),?_;exists _,Z,_,_,Z,Z,_,Z,?_;show Ey (λhc=>?_) (λhc=>?_)
  .exists _,Z,w,_,dx,_,_,Z,h1,T.cl_Web,T.n_Web_ties,Pz _ _,tl,xs,Z,.inl<|SqL.of h2,_,_,Z,Z,?_;let hc:=Yu hc
   change Q (.bl<|decide<|k<xs⁻¹) H;rwa[h3.1,show decide (k<ps⁻¹)=decide (0<=k/\k<ps⁻¹) from by simp[hc]]
  .let hc:¬(0<=k):=λz=>hc (Ys z);change Q (.bl false) H
   rwa[show(false:Bool)=decide (0<=k/\k<ps⁻¹) from by simp;lia]
inductive spZ7(K:Ad)(vs:List V)(H:Hp)(Q:VK)(_:XK):Prop
 |mk (n a kd xs ps:_) (_:vs=[.int n,.ref a]) (_:SqK kd K H a xs) (_:PairsV H xs ps) (_:Zv n ps) (_:Q .non H)
def kC(T:Txt K mg t):WR P w base Xd T.qZ7 1 (spZ7 K):=by
 show T.qZ7.okI ["places","ties","ends","end"] vh λXw A outer s H vs Q E hr h=>?_
 .let⟨n,a,kd,xs,ps,rfl,hS,hp,⟨g1,g2,g3,g4⟩,q⟩:=h;show⟨_,(XM (Wm (Oi<|uu Su Su XN (pv 0)<|yA (v:=V.int 14) Z T.g_MOST_PLACES.choose_spec {_,Z})
   (XE Uv)
   Zq)
   (XM (Wm (Zl Lq (Zg (Zi K) vi T.n_len Boot.«len»<|XZ (pv 1) XT) (yA (v:=V.int 30) Z T.g_MOST_TIES.choose_spec {_,Z})<|Zs _)
   (XE Uv)
   Zq)
   (XE (Uu YX Z (Jy K<|pv 1) (Zc 2)
   (XE (Uu YX Z (yh K<|pv 2) (Zc 3)
   (XE (Wm (Oi<|uu Su Nk XN (pv 3)<|pv 0)
   (XE Uv)
   Zq)))))))),?_⟩
  exists _,Z,_,_,Z,Z,_,Z,?_;show Ei g1 ?_;exists _,_,Z,Z,_,Z,?_;show Li g2 ?_;exists _,Z,a,xs,Z,hS.or,_,_,Z,Z,_,Z,?_;show MX (by rw[hp.1];lia) ?_;exists _,Z,a,Z,MW (k:=kd) (K:=K) (xs:=xs) (λi σ H2=>∃v v2,σ=[some (.int n),some<|.ref a,v,v2]/\H2=H) ⟨none,none,Z,Z⟩ (λi σ H2 _ zz=>by let(_,_,_,e):=zz;show e▸hS) ?_ ?_
  .rintro i x σ H2 hi ⟨v,v2,rfl,rfl⟩;let(p,Ea,tt,rfl,ht):=hp.at hi;let(e1,e2,e3,e4):=g4 p (Xn Ea);exists _,Z,tt,Z,{_,SqT.of ht},uB (K:=K) (a:=tt) (xs:=[.int p.1,.int p.2]) (λj σ H3=>∃v v2,σ=[some (.int n),some<|.ref a,v,v2]/\H3=H2) {_,_,Z,Z} (λj σ H3 _ zz=>by let(_,_,_,e):=zz;show e▸SqT.of ht) ?_ ?_
   .rintro j y σ H3 hj ⟨v,v2,rfl,rfl⟩;let hy:∃z:Int,y=.int z/\0<=z/\z<n:=by
     match j,hj with
     |0,hj=>exists p.1,(Ya hj).symm,e1,e2
     |1,hj=>exists p.2,(Ya hj).symm,e3,e4
    let(z,rfl,z1,z2):=hy;exists _,Z,_,_,Z,Z,_,Z,?_;show Ei z1 ?_;exists _,Z,_,_,Z,Z,_,Z,?_;show Li z2 ?_;exists _,_,Z,Z
   .rintro σ H3 ⟨v,v2,rfl,rfl⟩;exists _,_,Z,Z
  .rintro σ H2 ⟨v,v2,rfl,rfl⟩;show q
inductive sp_Web_init(K:Ad)(C:Addr)(vs:List V)(H:Hp)(Q:VK)(_:XK):Prop
 |mk (w dx n a kd xs ps:_) (_:vs=[.ref w,.int n,.ref a]) (_:H w=some (.ins C dx [])) (_:(∀o,SqK kd K (upd H w o) a xs)) (_:PairsV H xs ps) (_:Zv n ps) (_:∀H':Hp,WebAt C H' w n ps->(∀b o,H b=some o->b≠w->H' b=some o)->Q .non H')
def kB:FnScope ["self","places","ties"] ["self","places","ties"] (Zd sZ8):=Vg vh
def Im(T:Txt K mg t):FnOk P w K mg base Xd 2 t.aZ8 t.dZ8 ["self","places","ties"] (sp_Web_init K t.A_Web):=by
 show T.fZ8.ok kB (λvs H Q E h=>?_) (λXw A outer s H vs Q E hr h=>?_)
 .let⟨w,dx,n,a,kd,xs,ps,rfl,_⟩:=h;rfl
 .let⟨w,dx,n,a,kd,xs,ps,rfl,hw,hS,hp,g,q⟩:=h;let eH:upd H w (.ins t.A_Web dx [])=H:=by
   funext b
   cases hb:b=w
   .subst hb;rw[XS,hw]
   .rw[Za hb]
  let hS0:SqK kd K H a xs:=by let z:=hS (.ins t.A_Web dx []);rwa[eH]at z
  show⟨_,(XM (ZI<|Xp (kC T) hr T.qZ7 ZB<|XZ (pv 1)<|XZ (pv 2) XT)
   (XM (EO (pv 0) (pv 1) Z)
   (XE<|EO (pv 0) (SE Z (sc0:=Zd sZ8) (N0:=["self","places","ties"]) (N':=["ends"]) (o:=1) (fr:=[]) ⟨Z,vh,vh,vh,Z,vh⟩ (Jy K<|pv 2) (Zu vg) (λ_ _ _ _=>(Zc 0)) (λ_ _ _ _=>ZM) λ_ _ _ _=>(TU<|XZ (Zw (Zr K) (pv 0) XN λ_ _=>rfl)<|XZ (Zw (Zr K) (pv 0) XN λ_ _=>rfl) XT)) Z))),?_⟩
  exists _,Z,_,Z,n,a,kd,xs,ps,Z,hS0,hp,g,?_;exists _,Z,_,Z,w,_,dx,[],Z,hw,T.cl_Web,T.n_Web_places,(by change 0<1000;decide),?_;let VU:PairsV (upd H w<|.ins t.A_Web dx<|WE "places" (.int n) []) xs ps:={hp.1,λi p e=>by let(v,e1,tt,e2,e3):=hp.2 i p e;show{v,e1,tt,e2,by rwa[Za (Vs e3 hw (λz=>nomatch z))]}}
  let sx:xs.f<sizeLine:=Zk (by rw[hp.1];have:=g.2.2.1;lia);show⟨_,Z,a,Z,Px (k:=kd) (K:=K) (xs:=xs) (λi ys H2=>i<=xs.f/\ys.f=i/\Same (upd H w<|.ins t.A_Web dx<|WE "places" (.int n) []) H2/\PairsV H2 ys (ps.R i)) {Yl _,Z,Same.refl _,PairsV.nil} sx
   (λi ys H2 _ zz=>by let(_,hl,s2,_):=zz;exists (hS _).same s2,yN hl) ?_ ?_⟩
  .rintro i x ys H2 hi ⟨h1,hl,s2,hy⟩ S WZ;let(p,Ea,tt,rfl,ht):=VU.at hi;let OM:=s2 _ _ ht
   show MV ?_;exists _,Z,tt,_,0,.int p.1,Z,Z,SqT.of OM,Z,_,Z,tt,_,1,.int p.2,Z,Z,SqT.of OM,Z,(by change 2<=sizeLine;decide),λq hq=>?_;let Tv:i<xs.f:=(Xs.G hi).1
   show WZ _ _ {Tv,by rw[Xm,hl];rfl,ZF s2 hq,?_};rw[YI,Ea];show(hy.same<|XH hq).snoc ⟨q,Z,XS⟩
  .rintro ys H2 ⟨_,hl,s2,hy⟩ tl ky;let kx:=s2 w _ XS
   let GA:w≠tl:=Zb kx ky;exists _,Z,w,_,dx,_,Z,(by rwa[Za GA]),T.cl_Web,T.n_Web_ties,(by change 1<1000;decide),?_;show q _ {dx,tl,ys,XS,by rw[Za (XO GA),XS],?_} λb ob e hb=>?_
   .let e1:ps.R xs.f=ps:=YS (by rw[hp.1];show XQ _);rw[e1]at hy;exists hy.1,λi p e=>?_;let(v,e2,tt,e3,e4):=hy.2 i p e;exists v,e2,tt,e3,by rwa[Za (Vs e4 kx (λz=>nomatch z)),Za (Zb e4 ky)]
   .let e2:=s2 b ob (by rwa[Za hb]);rwa[Za hb,Za (Zb e2 ky)]
inductive spZ9(K:Ad)(C:Addr)(vs:List V)(H:Hp)(Q:VK)(_:XK):Prop
 |mk (w a:Addr) (n:Int) (ps:Aa) (kd:Bool) (ws:Ac) (_:vs=[.ref w,.ref a]) (_:WebAt C H w n ps) (_:SqK kd K H a (IL ws)) (_:(ws.f=ps.f->Q .non H)) (_:(ws.f≠ps.f->False))
def LZ(T:Txt K mg t):WR P w base Xd T.qZ9 1 (spZ9 K t.A_Web):=by
 show T.qZ9.okI ["web","numbers"] vh λXw A outer s H vs Q E hr h=>?_
 .let⟨w,a,n,ps,kd,ws,rfl,⟨dx,tl,xs,h1,h2,h3⟩,hS,q,qe⟩:=h;show⟨_,(XE (Wm (Zl Vr (Zg (Zi K) vi T.n_len Boot.«len»<|XZ (pv 1) XT) (Zg (Zi K) vi T.n_len Boot.«len»<|XZ (ZN K (pv 0) Z) XT)<|Zs _)
   (XE Uv)
   Zq)),?_⟩
  let hl:=h3.1;exists _,Z,a,_,Z,hS.or,_,Z,w,_,dx,_,_,Z,h1,T.cl_Web,T.n_Web_ties,Pz _ _,tl,xs,Z,.inl<|SqL.of h2,Z,_,Z,?_;rw[ZO,Xv];show VF (λhc=>?_) (λhc=>?_)
  .show q B
  .show qe B
inductive spZa(K:Ad)(C:Addr)(vs:List V)(H:Hp)(Q:VK)(_:XK):Prop
 |mk (w n ps:_) (_:vs=[.ref w]) (_:WebAt C H w n ps) (_:ps.f<=1000) (_:∀r H',Same H H'->H r=none->H' r=some (.tup<|IL<|Wu ps.f)->Q ↑r H')
def Il(T:Txt K mg t):WR P w base Xd T.qZa 1 (spZa K t.A_Web):=by
 show T.qZa.okI ["web"] vh λXw A outer s H vs Q E hr h=>?_
 .let⟨w,n,ps,rfl,⟨dx,tl,xs,h1,h2,h3⟩,hl,q⟩:=h;exists _,(XE<|Zm<|Zo (qK Z) vi T.n_tuple Boot.«tuple»<|XZ (Zo fF vi T.n_range Boot.«range»<|XZ (Zg (Zi K) vi T.n_len Boot.«len»<|XZ (ZN K (pv 0) Z) XT) XT) XT),?_;let hx:=h3.1
  exists _,Z,w,_,dx,_,_,Z,h1,T.cl_Web,T.n_Web_ties,Pz _ _,tl,xs,Z,.inl<|SqL.of h2,_,Z,λr hr=>{r,0,_,Z,XS,⟨vg,vg,J,J⟩,J,λl hl=>?_};show q l _ (ZF (XH hr) hl) ((XH hr).free hl) ?_;rw[XS,hx,qL]
inductive spZb(K:Ad)(C:Addr)(vs:List V)(H:Hp)(Q:VK)(_:XK):Prop
 |mk (w a n ps kd T:_) (_:vs=[.ref w,.ref a]) (_:WebAt C H w n ps) (_:ps.f<=1000) (_:SqK kd K H a (IL T)) (_:∀D,D.Q (·<·)->(∀z,z∈D↔(0<=z/\z<ps⁻¹)/\z∉T)->∀r H',Same H H'->H' r=some (.tup<|IL D)->Q ↑r H')
def ku(T:Txt K mg t):WR P w base Xd T.qZb 1 (spZb K t.A_Web):=by
 show T.qZb.okI ["web","ties"] vh λXw A outer s H vs Q E hr h=>?_
 .let⟨w,a,n,ps,kd,T',rfl,hW,hl,hA,q⟩:=h;exists _,(XE<|Zm<|Zo (yi K) vi T.n_tuple Boot.«tuple»<|XZ (SE Z (sc0:=Zd<|top 24) (N0:=["web","ties"]) (N':=["tie","ties"]) (o:=1) (fr:=[1]) ⟨Z,vh,vh,vh,Z,vh⟩ (ZP Z T.n_range<|XZ (Zg (Zi K) vi T.n_len Boot.«len»<|XZ (ZN K (pv 0) Z) XT) XT) (Zu vg) (λ_ _ _ _=>(Zc 0)) (λ_ _ _ _=>(Hh<|Zl (MU K) (pv 0) (pv 1) Z)) λ_ _ _ _=>(pv 0)) XT),?_;let(dx,tl,xs,h1,h2,h3):=hW;let wX:=h3.1
  exists _,Z,w,_,dx,_,_,Z,h1,T.cl_Web,T.n_Web_ties,Pz _ _,tl,xs,Z,.inl<|SqL.of h2,_,Z,J,J,yj (lo:=0) (n:=(xs.f:Int).j) (λj ys H3=>H3=H/\∃D:Ac,ys=IL D/\D.f<=j/\D.Q (·<·)/\∀z,z∈D↔(0<=z/\z<(j:Int))/\z∉T') {Z,[],Z,XQ _,.nil,λz=>{λh=>(by cases h),λh=>(by lia)}} (Zk J) (λj ys H3 _ zz=>by let(_,D,e,hl,_):=zz;rwa[e,Xv]) ?_ ?_
  .rintro j ys H3 hj ⟨rfl,D,rfl,ks,hp,hm⟩ S WZ;let lt:∀z∈D,z<(j:Int):=λz hz=>((hm z).G hz).1.2
   show nm ?_;exists _,Z,_,Z,a,_,Z,hA.or,Z,MP _,_,Z,?_;rw[MQ,Nz];show VF (λVl=>?_) (λVl=>?_)
   .show WZ _ _ {Z,D,Z,J,hp,λz=>?_};rw[hm z];exists λh=>⟨J,h.2⟩,λh=>{{h.1.1,?_},h.2};cases e:z=(j:Int)
    .show absurd (e▸Vl) h.2
    .lia
   .exists _,Z,WZ _ _ {Z,D++[(j:Int)],?_,by rw[Xm];show Nat.succ_le_succ ks,?_,λz=>?_}
    .rw[ZJ]
    .show YV.L {hp,Vu _ _,λa ha b hb=>by rw[XD.G hb];show lt a ha}
    .rw[Yb,XD,hm z];constructor
     .rintro(⟨f1,f2⟩|h)
      .exists J,f2
      .rw[h];exists J,Vl
     .rintro⟨f1,f2⟩;cases e:z=(j:Int)
      .show .inr e
      .show .inl ⟨J,f2⟩
  rintro ys H3 ⟨rfl,D,rfl,ks,hp,hm⟩ la kr;rw[show(((xs.f:Int).j:Nat):Int)=ps⁻¹ by lia]at hm;exists la,_,Z,.inl {SqL.of XS,λtp Qm=>?_};show q D hp hm tp _ ((XH kr).l (XH Qm)) XS
inductive spZc(K:Ad)(C:Addr)(vs:List V)(H:Hp)(Q:VK)(_:XK):Prop
 |mk (w a n ps kd ns:_) (_:vs=[.ref w,.ref a]) (_:WebAt C H w n ps) (_:SqK kd K H a (IL ns)) (_:∀b:Bool,(b=true↔IsSet ps.f ns)->Q (.bl b) H)
def Bp(T:Txt K mg t):WR P w base Xd T.qZc 2 (spZc K t.A_Web):=by
 show T.qZc.okI ["web","ties","last","tie"] vh λXw A outer s H vs Q E hr h=>?_
 .let⟨w,a,n,ps,kd,ns,rfl,hW,hS,q⟩:=h;show⟨_,(XM (Zh 2<|Fb Lr XN)
   (XM (Uu YX Z (Jy K<|pv 1) (Zc 3)
   (XM (Wm (PW.pt<|Rf (Zl Su (pv 3) (pv 2)<|Zs _)<|Ho<|Oi<|Oj<|Xp (kD T) hr T.qZ6 ZB<|XZ (pv 0)<|XZ (pv 3) XT)
   (XE<|Zm Uw)
   Zq)
   (XE<|Zh 2<|pv 3)))
   (XE<|Zm Uw))),?_⟩
  exists _,Z,?_;show⟨_,Z,a,Z,MW (k:=kd) (K:=K) (xs:=IL ns) (λi σ H2=>∃l v,σ=[some ↑w,some<|.ref a,some<|.int l,v]/\H2=H/\(i=0->l=-1)/\(i≠0->ns[i-1]?=some l)/\∀j z,j<i->ns[j]?=some z->0<=z/\z<ps⁻¹/\∀y,j≠0->ns[j-1]?=some y->y<z)
   {-1,none,Z,Z,λ_=>rfl,λz=>absurd Z z,λj z hj=>absurd hj<|Wg j} (λi σ H2 _ zz=>by let(_,_,_,e,_):=zz;show e▸hS) ?_ ?_⟩
  .rintro i x σ H2 hi ⟨l,v,rfl,rfl,QV,QM,hp⟩;let(z,rfl,hz):=Um hi;exists _,Z,_,Z,_,_,Z,Z,_,Z,?_;show WN (λhc=>?_) (λhc=>?_)
   .-- tie<=last
    show Us ?_;show q false {λz=>(nomatch z),λhs=>?_};let(b1,b2,b3):=hs i z hz;cases h0:i=0
    .have:=QV h0;lia
    .have:=b3 l h0 (QM h0);lia
   .exists _,Z,_,Z,w,n,ps,z,Z,hW,_,Z,?_;show VF (λVY=>?_) (λVY=>?_)
    .exists _,Z,?_;show{z,_,Z,Z,λe=>(nomatch e),λ_=>by simpa using hz,λj y hj ey=>?_};cases hji:j<i
     .show hp j y hji ey
     .let e:j=i:=J;subst e;rw[hz]at ey;cases ey;exists VY.1,VY.2,λy h0 ey=>?_;rw[QM h0]at ey;cases ey;lia
    .show q false {λz=>(nomatch z),λhs=>?_};let(b1,b2,b3):=hs i z hz;show absurd ⟨b1,b2⟩ VY
  .rintro σ H2 ⟨l,v,rfl,rfl,QV,QM,hp⟩;show q true {λ_ i z hz=>?_,λ_=>rfl};let hi:i<(IL ns).f:=by rw[Xv];show(Xs.G hz).1
   show hp i z hi hz
inductive spZd(K:Ad)(C:Addr)(vs:List V)(H:Hp)(Q:VK)(_:XK):Prop
 |mk (w a n ps kd ns:_) (_:vs=[.ref w,.ref a]) (_:WebAt C H w n ps) (_:SqK kd K H a (IL ns)) (_:IsSet ps.f ns) (_:∀r H',Same H H'->SqT K H' r (IL ns)->Q ↑r H')
def Bo(T:Txt K mg t):WR P w base Xd T.qZd 3 (spZd K t.A_Web):=by
 show T.qZd.okI ["web","ties"] vh λXw A outer s H vs Q E hr h=>?_
 .let⟨w,a,n,ps,kd,ns,rfl,hW,hS,hI,q⟩:=h;show⟨_,(XM (Wm (Oi<|Oj<|Xp (Bp T) hr T.qZc ZB<|XZ (pv 0)<|XZ (pv 1) XT)
   (XE Uv)
   Zq)
   (XE<|Zm<|Zo (yi K) vi T.n_tuple Boot.«tuple»<|XZ (pv 1) XT)),?_⟩
  exists _,Z,_,Z,w,a,n,ps,kd,ns,Z,hW,hS,λb hb=>{_,Z,?_};show JA (λ_=>?_) (λz=>?_)
  .exists _,Z,a,IL ns,Z,?_;cases kd with
   |false=>show .inl {hS,λl hl=>q l _ (XH hl)<|SqT.of XS}
   |true=>show .inr {hS,q a H (Same.refl H) hS}
  .rw[hb.L hI]at z;cases z
inductive spZe(K:Ad)(C:Addr)(vs:List V)(H:Hp)(Q:VK)(_:XK):Prop
 |mk (w m a n ps M kd ns:_) (_:vs=[.ref w,.ref m,.ref a]) (_:WebAt C H w n ps) (_:Zv n ps) (_:H m=some (.lst<|IL M)) (_:M.f=n.j) (_:SqK kd K H a (IL ns)) (_:(∀z∈ns,0<=z/\z<ps⁻¹)) (_:∀m' H',Same H H'->(m'=m\/H m'=none)->H' m'=some (.lst<|IL<|Qp M<|XR ps ns)->Q ↑m' H')
def Ik:FnScope ["web","marks","ties","tie","ends","low","high"] ["web","marks","ties"] (Zd (top 27)):=Vg vh
def Ij(T:Txt K mg t):WR P w base Xd T.qZe 1 (spZe K t.A_Web):=by
 show T.qZe.okI ["web","marks","ties","tie","ends","low","high"] vh λXw A outer s H vs Q E hr h=>?_
 .let⟨w,m0,a,n,ps,M0,kd,ns,rfl,⟨dx,tl,xs,h1,h2,h3⟩,⟨g1,g2,g3,g4⟩,hm,hlM,hS,hI,q⟩:=h;show⟨_,(XM (Uu YX Z (Jy K<|pv 2) (Zc 3)
   (XM (Zh 4<|Zw (Ze K) (ZN K (pv 0) Z) (pv 3) λ_ _=>rfl)
   (XM (PX (i:=5) Ik.nd Z (Or.inr Z)<|Zg (JR Z) vi T.n_min Boot.«min»<|XZ (Zw (Ze K) (pv 1) (Zw (Zr K) (pv 4) XN λ_ _=>rfl) λ_ _=>rfl)<|XZ (Zw (Ze K) (pv 1) (Zw (Zr K) (pv 4) XN λ_ _=>rfl) λ_ _=>rfl) XT)
   (XM (PX (i:=6) Ik.nd Z (Or.inr Z)<|Zg (ur Z) vi T.n_max Boot.«max»<|XZ (Zw (Ze K) (pv 1) (Zw (Zr K) (pv 4) XN λ_ _=>rfl) λ_ _=>rfl)<|XZ (Zw (Ze K) (pv 1) (Zw (Zr K) (pv 4) XN λ_ _=>rfl) λ_ _=>rfl) XT)
   (XE (Wm (Zl Nk (pv 5) (pv 6)<|Zs _)
   (XE<|Uq (i:=1) Z Ik.nd Z Z (sc0:=Zd<|top 27) (N0:=["web","marks","ties","tie","ends","low","high"]) (N':=["mark","high","low"]) (o:=1) (fr:=[6,5]) ⟨Z,vh,vh,vh,Z,vh⟩ (ZL K<|pv 1) (Zu vg) (λ_ _ _ _=>(Zc 0)) (λ_ _ _ _=>ZM) λ_ _ _ _=>(JZ (Zl PQ (pv 0) (pv 1)<|Zs _) (pv 2)<|pv 0))
   Zq))))))
   (XE<|Zm<|pv 1)),?_⟩
  show⟨_,Z,a,Z,MW (k:=kd) (K:=K) (a:=a) (xs:=IL ns) (λi σ H2=>∃m v3 v4 v5 v6,σ=[some ↑w,some<|.ref m,some<|.ref a,v3,v4,v5,v6]/\Same H H2/\(m=m0\/H m=none)/\H2 m=some (.lst<|IL<|Qp M0<|XR ps<|ns.R i))
   {m0,none,none,none,none,Z,Same.refl _,.inl Z,hm} (λi σ H2 _ zz=>by let(_,_,_,_,_,_,s2,_):=zz;show hS.same s2) ?_ ?_⟩
  .rintro i x σ H2 hi ⟨m,v3,v4,v5,v6,rfl,s2,Qn,Wf⟩;let(z,rfl,hz):=Um hi;let(z0,z1):=hI z (Xn hz);obtain⟨p,hp⟩:∃p,ps[z.j]?=some p:={_,XI J};let(v,hv,tt,rfl,Ql):=h3.2 z.j p hp;let(e1,e2,e3,e4):=g4 p (Xn hp);let ed:ps.E z.j (0,0)=p:=XG hp
   exists _,Z,w,_,dx,_,_,Z,s2 _ _ h1,T.cl_Web,T.n_Web_ties,Pz _ _,_,Z,tl,xs,z,.ref tt,Z,Z,SqL.of<|s2 _ _ h2,Zy (n:=z.j) J hv,?_;let OM:=s2 _ _ Ql
   let hl:(Qp M0<|XR ps<|ns.R i).f=n.j:=(ZG6 _ _).l hlM;generalize hM:Qp M0 (XR ps<|ns.R i)=M at *;let ha:M[p.1.j]?=some (mk M p.1.j):=He J
   let hb:M[p.2.j]?=some (mk M p.2.j):=He J;let iA:Vq (IL M) p.1=some (.int<|mk M p.1.j):=Zy (n:=p.1.j) J (by rw[Yk,ha];rfl)
   let iB:Vq (IL M) p.2=some (.int<|mk M p.2.j):=Zy (n:=p.2.j) J (by rw[Yk,hb];rfl);let t0:Vq ([.int p.1,.int p.2]:List V) 0=some (.int p.1):=rfl
   let t1:Vq ([.int p.1,.int p.2]:List V) 1=some (.int p.2):=rfl;exists _,rfl,_,rfl,tt,_,0,_,rfl,rfl,SqT.of OM,t0,m,_,p.1,_,rfl,rfl,SqL.of Wf,iA,_,rfl,_,rfl,tt,_,1,_,rfl,rfl,SqT.of OM,t1,m,_,p.2,_,rfl,rfl,SqL.of Wf,iB,_,_,rfl,?_;exists _,rfl,_,rfl,tt,_,0,_,rfl,rfl,SqT.of OM,t0,m,_,p.1,_,rfl,rfl,SqL.of Wf,iA,_,rfl,_,rfl,tt,_,1,_,rfl,rfl,SqT.of OM,t1,m,_,p.2,_,rfl,rfl,SqL.of Wf,iB,_,_,rfl,?_;let eL:(if mk M p.2.j<mk M p.1.j then mk M p.2.j else mk M p.1.j)=min (mk M p.1.j) (mk M p.2.j):=by rw[Int.min_def];split<;>split<;>lia
   let eH:(if mk M p.2.j>mk M p.1.j then mk M p.2.j else mk M p.1.j)=max (mk M p.1.j) (mk M p.2.j):=by rw[Int.max_def];split<;>split<;>lia
   exists _,Z,_,Z,_,_,Z,Z,_,Z,?_;rw[eL,eH];let step:Qp M0 (XR ps<|ns.R<|i+1)=pm M p.1.j p.2.j:=by rw[ZS5 hz,qO,hM,ed]
   show WN (λhc=>?_) (λhc=>?_)
   .show⟨_,Z,m,Z,{_,SqL.of Wf},Qt (K:=K) (a:=m) (xs:=IL M) (λj ys H3=>H3=H2/\j<=M.f/\ys=IL ((M.R j).H λk=>if k=max (mk M p.1.j) (mk M p.2.j) then min (mk M p.1.j) (mk M p.2.j) else k)) {Z,Yl _,Z} (Zk<|by rw[Xv];lia)
     (λj ys H3 hj zz=>by let(e,MO,ey):=zz;show{e▸SqL.of Wf,by rw[ey,Xv,Xy,Yo];lia}) ?_ ?_⟩
    .rintro j y ys H3 hj ⟨rfl,MO,rfl⟩ S WZ;let(k,rfl,hk):=Um hj;show MV ?_;exists _,Z,_,Z,Z,_,Z,?_;let SO:j<M.f:=(Xs.G hk).1
     let app:∀r:Int,r=(if k=max (mk M p.1.j) (mk M p.2.j) then min (mk M p.1.j) (mk M p.2.j) else k)->
       IL ((M.R j).H λk=>if k=max (mk M p.1.j) (mk M p.2.j) then min (mk M p.1.j) (mk M p.2.j) else k)++[.int r]=IL ((M.R<|j+1).H λk=>if k=max (mk M p.1.j) (mk M p.2.j) then min (mk M p.1.j) (mk M p.2.j) else k):=by intro r er;rw[YI,hk,er];simp
     show WN (λhe=>?_) (λhe=>?_)
     .exists _,Z,WZ _ _ {Z,SO,app _ ?_};rw[if_pos (V.int.inj he)]
     .exists _,Z,WZ _ _ {Z,SO,app _ ?_};rw[if_neg λz=>he (YZ V.int z)]
    .rintro ys H3 ⟨rfl,_,rfl⟩ p' Ii;exists p',_,_,_,_,Z,ZF s2 Ii,.inr<|s2.free Ii,?_;rw[XS,step,Xv,YF];unfold pm;rw[if_pos hc]
   .exists m,_,_,_,_,Z,s2,Qn,?_;rw[Wf,step];unfold pm;rw[if_neg hc]
  .rintro σ H2 ⟨m,v3,v4,v5,v6,rfl,s2,Qn,Wf⟩;rw[Xv,YF]at Wf;exists _,Z,q m H2 s2 Qn Wf
inductive spZf(K:Ad)(C:Addr)(vs:List V)(H:Hp)(Q:VK)(_:XK):Prop
 |mk (w a n ps ns:_) (_:vs=[.ref w,.ref a]) (_:WebAt C H w n ps) (_:Zv n ps) (_:SqT K H a (IL ns)) (_:(∀z∈ns,0<=z/\z<ps⁻¹)) (_:∀m H',Same H H'->H m=none->H' m=some (.lst<|IL<|Xl n.j<|XR ps ns)->Q ↑m H')
def LY(T:Txt K mg t):WR P w base Xd T.qZf 2 (spZf K t.A_Web):=by
 show T.qZf.okI ["web","ties"] vh λXw A outer s H vs Q E hr h=>?_
 .let⟨w,a,n,ps,ns,rfl,hW,hG,hS,hI,q⟩:=h;exists _,(XE<|Zm<|Xp (Ij T) hr T.qZe ZB<|XZ (pv 0)<|XZ (Zo (ZL3 Z) vi T.n_list Boot.«list»<|XZ (Zo fF vi T.n_range Boot.«range»<|XZ (ZN K (pv 0) Z) XT) XT)<|XZ (pv 1) XT),?_;let(dx,tl,xs,h1,h2,h3):=id hW;let(g1,g2,g3,g4):=id hG;exists _,Z,_,Z,w,_,dx,_,_,Z,h1,T.cl_Web,T.n_Web_places,ZU _ _,n,Z,λr TY=>{r,0,n,Z,XS,⟨vg,vg,J,B⟩,J,λm hm=>?_};let sm:Same H (upd (upd H r<|.rng 0 n) m<|.lst<|(VX 0 n).H V.int):=ZF (XH TY) hm
  exists _,Z,w,m,a,n,ps,(List.range n.j).H λ(i:Nat)=>(i:Int),true,ns,Z,hW.same sm,hG,?_,AP,MZ sm hS,hI,λm' H' s' hf NY=>?_
  .rw[XS,Zh8]
  .show q m' H' (sm.l s') ?_ NY;rcases hf with rfl|hf
   .show(XH TY).free hm
   .show sm.free hf
inductive spZg(K:Ad)(C:Addr)(vs:List V)(H:Hp)(Q:VK)(_:XK):Prop
 |mk (w a n ps kd ns:_) (_:vs=[.ref w,.ref a]) (_:WebAt C H w n ps) (_:Zv n ps) (_:SqK kd K H a (IL ns)) (_:IsSet ps.f ns) (_:∀r as H',Same H H'->H r=none->H' r=some (.lst<|as.H V.ref)->r∉as->GrpAt H H' (Jw<|Xl n.j<|XR ps ns) as->Q ↑r H')
def kq(T:Txt K mg t):WR P w base Xd T.qZg 4 (spZg K t.A_Web):=by
 show T.qZg.okI ["web","ties","pieces","place","mark"] vh λXw A outer s H vs Q E hr h=>?_
 .let⟨w,a,n,ps,kd,ns,rfl,hW,hG,hS,hI,q⟩:=h;show⟨_,(XM (Zh 2 sL)
   (XM (Uu YX Z (yg K Z T.n_enumerate<|XZ (Xp (LY T) hr T.qZf ZB<|XZ (pv 0)<|XZ (Xp (Bo T) hr T.qZd ZB<|XZ (pv 0)<|XZ (pv 1) XT) XT) XT) (NZ (n:=2) K Z<|Zz (Zc 3)<|Zz (Zc 4) Oh)
   (XE<|ZI<|Ul K YO NM NN ZX (Ul K gK gU PySem.F.type_dict_setdefault ZB3 (pv 2)<|XZ (pv 4)<|XZ (TB XT) XT)<|XZ (pv 3) XT))
   (XE<|Zm<|Zo (Zb3 Z) vi T.n_list Boot.«list»<|XZ (rH K gK gO PySem.F.type_dict_values Zs8<|pv 2) XT))),?_⟩
  intro d hd;let s0:Same H (upd H d<|.dK []):=XH hd
  exists _,Z,_,Z,_,Z,w,a,n,ps,kd,ns,Z,hW.same s0,hS.same s0,hI,λr H1 s1 OL=>?_;exists w,r,n,ps,ns,Z,(hW.same s0).same s1,hG,OL,hI.all,λm H2 s2 RM Wf=>?_;let QL:Same H H2:=(s0.l s1).l s2
  let hd2:H2 d=some (.dK []):=s2 _ _ (s1 _ _ XS);let hl:(Xl n.j<|XR ps ns).f=n.j:=Zn _ _
  generalize hM:Xl n.j (XR ps ns)=M at *;let Qn:H m=none:=(s0.l s1).free RM
  let n14:M.f<=14:=by have:=hG.2.1;lia
  exists m,Z,{_,SqL.of Wf},?_;show fo (K:=K) (a:=m) (xs:=IL M) (λi σ H3=>∃as v3 v4,σ=[some ↑w,some<|.ref a,some<|.ref d,v3,v4]/\i<=M.f/\Same H H3/\H3 m=some (.lst<|IL M)/\H3 d=some (.dK<|Uk (Xq M i) as)/\d∉as/\m∉as/\GrpAt H H3 (Xq M i) as/\as.f<=i)
   {[],none,none,Z,Yl _,QL,Wf,hd2,AP,AP,{Z,List.nodup_nil,λi kv a e=>by simp[Xq]at e,λa ha=>by simp at ha},XQ _} (λi σ H3 _ zz=>by let(_,_,_,_,_,_,h,_):=zz;show SqL.of h) ?_ ?_
  .rintro i x σ H3 pt RZ hi ⟨as,v3,v4,rfl,Tv,s3,Bn,NQ,wW,wV,gA,hal⟩;let(k,rfl,hk):=Um hi;let VD:mk M i=k:=XG hk
   let Wc:i<M.f:=(Xs.G hk).1;let s4:Same H3 (upd H3 pt<|.tup [.int i,.int k]):=XH RZ
   exists pt,_,Z,SqT.of XS,Z,_,_,Z,_,_,Z,Z,?_;exists _,Z,.inr<|.inr<|.inl {Z,.inl {_,s4 _ _ NQ}},_,Z,(by change 0<=sizeLine;show Yl _),λl QV=>?_;let s5:Same H3 (upd (upd H3 pt<|.tup [.int i,.int k]) l<|.lst []):=ZF s4 QV
   let aN:=s5 _ _ NQ;let LX:H3 l=none:=s4.free QV
   let ko:d≠l:=Zb NQ LX;let gl:=gA.len
   exists d,Uk (Xq M i) as,Sum.inl k,.ref l,Z,Z,aN,?_,λv hv=>?_,λhv=>?_
   .rw[Zp7 gl];show Zk J
   .-- the mark has XX list
    rcases rC (g:=Xq M i) (as:=as) (k:=k) gl with ⟨h1,_⟩|⟨j,kv,b,e1,e2,e3,e4⟩
    .rw[h1]at hv;cases hv
    .rw[e4]at hv;cases hv;let aM:=s5 _ _ (gA.at_ j kv b e1 e2)
     let w9:k∈(Xq M i).H (·.1):=Yp.L {kv,Xn e1,e3};let hlen:kv.2.f<=i:=rD (Xn e1)
     exists .inl {Z,_,SqL.of aM},_,Z,b,_,.int i,Z,Z,aM,?_,?_
     .rw[Xv];show Zk J
     .let Ih:b∈as:=Xn e2;let Sr:d≠b:=λz=>wW (z▸Ih)
      let hmb:m≠b:=λz=>wV (z▸Ih);let SX:=gA.new b Ih
      let KC:(Xq M<|i+1).H (·.1)=(Xq M i).H (·.1):=by change(RP (Xq M i) (i:Int)<|mk M i).H (·.1)=_;rw[ye,VD,if_pos w9]
      exists as,_,_,Z,Wc,Zp SX<|s3.l s5,by rw[Za hmb];show s5 _ _ Bn,by rw[Za Sr,aN,fg KC],wW,wV,{?_,gA.nd,?_,gA.new},J
      .have:=YZ List.f KC
       rw[Xy,Xy]at this;lia
      .intro i2 wU a2 f1 f2;let f1:(RP (Xq M i) (i:Int)<|mk M i)[i2]?=some wU:=f1
       unfold RP at f1;rw[VD,if_pos w9,Yk]at f1;cases f3:(Xq M i)[i2]? with
       |none=>rw[f3]at f1;cases f1
       |some Gz=>
        rw[f3]at f1;let f1:(if Gz.1=k then (Gz.1,Gz.2++[(i:Int)]) else Gz)=wU:=Ya f1
        cases hj:i2=j
        .subst hj;rw[e1]at f3;cases f3;rw[e2]at f2;cases f2;rw[if_pos e3]at f1;subst f1;rw[XS];simp
        .let Vo:a2≠b:=λz=>by subst z;show hj (Xg gA.nd f2 e2)
         let Cp:¬Gz.1=k:=λz=>hj (Xg (rE M i) (by rw[Yk,f3];show YZ some z)<|by rw[Yk,e1];show YZ some e3);rw[if_neg Cp]at f1;subst f1;rw[Za Vo];show s5 _ _ (gA.at_ i2 Gz a2 f3 f2)
   .-- a new list
    rcases rC (g:=Xq M i) (as:=as) (k:=k) gl with ⟨h1,eA⟩|⟨j,kv,b,e1,e2,e3,e4⟩
    .let wR:(upd (upd (upd H3 pt<|.tup [.int i,.int k]) l<|.lst []) d<|.dK<|Uk (Xq M i) as++[(Sum.inl k,.ref l)]) l=some (.lst []):=by rw[Za (XO ko),XS]
     exists .inl {Z,_,SqL.of wR},_,Z,l,[],.int i,Z,Z,wR,(by change 0<sizeLine;decide),?_;let Bm:H l=none:=s3.free LX
     let km:l∉as:=λz=>by let(_,e):=gA.mem z;rw[LX]at e;cases e
     let MN:m≠l:=Zb Bn LX;let wQ:m≠d:=Vs Bn NQ (λz=>nomatch z)
     let kl:Xq M (i+1)=Xq M i++[(k,[(i:Int)])]:=by change RP (Xq M i) (i:Int) (mk M i)=_;unfold RP;rw[VD,if_neg eA]
     let hdH:H d=none:=hd;exists as++[l],_,_,Z,Wc,Zp Bm<|Zp hdH<|s3.l s5,by rw[Za MN,Za wQ];show s5 _ _ Bn,?_,?_,?_,{?_,?_,?_,?_},?_
     .rw[Za ko,XS,kl,ff gl]
     .rw[Yb,XD];rintro(z|z)
      .show wW z
      .show ko z
     .rw[Yb,XD];rintro(z|z)
      .show wV z
      .show MN z
     .rw[kl,Xm,Xm,gl];rfl
     .show fq gA.nd km
     .intro i2 wU a2 f1 f2;rw[kl]at f1;cases We:i2<(Xq M i).f
      .rw[Yz We]at f1;rw[Yz J]at f2;let e:=gA.at_ i2 wU a2 f1 f2
       let n1:a2≠l:=Zb e LX;let n2:a2≠d:=Vs e NQ (λz=>nomatch z)
       rw[Za n1,Za n2];show s5 _ _ e
      .let h2:i2=(Xq M i).f:=by
        have:=(Xs.G f1).1
        rw[Xm,YQ]at this;lia
       subst h2;rw[YE (XQ _),NA]at f1;rw[YE J,gl,NA]at f2;cases f1;cases f2;rw[XS];rfl
     .intro a2 ha2;rcases Yb.G ha2 with z|z
      .show gA.new a2 z
      .rw[XD.G z];show Bm
     .rw[Xm,YQ];lia
    .rw[e4]at hv;cases hv
  .rintro σ H3 ⟨as,v3,v4,rfl,Tv,s3,Bn,NQ,wW,wV,gA,hal⟩;rw[Xv]at NQ gA;exists _,Z,.inr<|.inr<|.inl {Z,.inl {_,NQ}},d,_,Z,Z,NQ,λp hp=>?_;let s6:Same H3 (upd H3 p<|QZ p d):=XH hp
   exists p,d,_,Z,XS,s6 _ _ NQ,λr TY=>?_;let s7:Same H3 (upd (upd H3 p<|QZ p d) r (.lst ((Uk (Xq M M.f) as).H (·.2)))):=ZF s6 TY
   show q r as _ (s3.l s7) ((s3.l s6).free TY) (by rw[XS,fh gA.len]) (λz=>?_) (gA.same s7);let(_,e):=gA.mem z;rw[s6.free TY]at e;cases e
inductive spZh(K:Ad)(C:Addr)(vs:List V)(H:Hp)(Q:VK)(_:XK):Prop
 |mk (w a n ps kd ns:_) (_:vs=[.ref w,.ref a]) (_:WebAt C H w n ps) (_:Zv n ps) (_:SqK kd K H a (IL ns)) (_:IsSet ps.f ns) (_:∀b H',Same H H'->(b=true↔(Jw<|Xl n.j<|XR ps ns).f=1)->Q (.bl b) H')
def Bl(T:Txt K mg t):WR P w base Xd T.qZh 5 (spZh K t.A_Web):=by
 show T.qZh.okI ["web","ties"] vh λXw A outer s H vs Q E hr h=>?_
 .let⟨w,a,n,ps,kd,ns,rfl,hW,hG,hS,hI,q⟩:=h;exists _,(XE<|Zm<|Nj PQ (Zg (Zi K) vi T.n_len Boot.«len»<|XZ (Xp (kq T) hr T.qZg ZB<|XZ (pv 0)<|XZ (pv 1) XT) XT) XN<|Zs _),?_;exists _,Z,_,Z,w,a,n,ps,kd,ns,Z,hW,hG,hS,hI,λr as H' s1 TY OL hnr gA=>?_;exists r,_,Z,.inl<|SqL.of OL,Z,?_;rw[Xy,gA.len,ZO];show q _ H' s1 ?_;rw[YW];lia
inductive spZi(K:Ad)(C:Addr)(vs:List V)(H:Hp)(Q:VK)(_:XK):Prop
 |mk (w n ps:_) (_:vs=[.ref w]) (_:WebAt C H w n ps) (_:Zv n ps) (_:(Jp n ps->∀H':Hp,Same H H'->Q .non H')) (_:(¬Jp n ps->∀H':Hp,Same H H'->False))
def kj(T:Txt K mg t):WR P w base Xd T.qZi 6 (spZi K t.A_Web):=by
 show T.qZi.okI ["web"] vh λXw A outer s H vs Q E hr h=>?_
 .let⟨w,n,ps,rfl,hW,hG,q,qe⟩:=h;show⟨_,(XE (Wm (Oi<|Oj<|Xp (Bl T) hr T.qZh ZB<|XZ (pv 0)<|XZ (Xp (Il T) hr T.qZa ZB<|XZ (pv 0) XT) XT)
   (XE Uv)
   Zq)),?_⟩
  show{_,Z,_,Z,w,n,ps,Z,hW,by have:=hG.2.2.1;lia,λr H1 s1 TY OL=>?_};exists w,r,n,ps,true,Wu ps.f,Z,hW.same s1,hG,SqT.of OL,GY _,λb H2 s2 hb=>{_,Z,?_};rw[eY (by have:=hG.1;lia) (ZQ hG (GY _).all)]at hb;show JA (λz=>?_) (λz=>?_)
  .show q (hb.G z) H2 (s1.l s2)
  .show qe (λg=>by rw[hb.L g]at z;cases z) H2 (s1.l s2)
inductive spZj(K:Ad)(C:Addr)(vs:List V)(H:Hp)(Q:VK)(_:XK):Prop
 |mk (w b:Addr) (n:Int) (ps:Aa) (kd:Bool) (ws:Ac) (_:vs=[.ref w,.ref b]) (_:WebAt C H w n ps) (_:Zv n ps) (_:SqK kd K H b (IL ws)) (_:ws.f=ps.f) (_:∀(r:Addr)(ys:List V)(L:Ab)(H':Hp),Same H H'->H r=none->TabAt H r n.j H' ys L->(∀i j,i<n.j->j<n.j->fnL L i j=lapE (Wz ps ws) i j)->Q ↑r H')
def aL(x:V)(k:Nat):(List.S k [x]).flatten=List.S k x:=by
 induction k with
 |zero=>rfl
 |succ k ih=>rw[LI,HF,ih,LI];rfl
def kh(n i j:Nat):fnL (List.S n (List.S n 0)) i j=0:=by
 unfold fnL;cases h:(List.S n<|List.S n (0:Int))[i]? with
 |none=>
  let e:(List.S n<|List.S n (0:Int)).E i []=[]:=by rw[WW,h];rfl
  rw[e];rfl
 |some l=>
  let e:(List.S n<|List.S n (0:Int)).E i []=l:=by rw[WW,h];rfl
  rw[e,zv<|Xn h,WW,zt];split<;>rfl
def TabAt.get{H0 H:Hp}{r:Addr}{n:Nat}{ys:List V}{L:Ab}(h:TabAt H0 r n H ys L){i j:Nat}(hi:i<n)(hj:j<n):∃(A:Addr)(l:Ac)(x:Int),ys[i]?=some ↑A/\H A=some (.lst (IL l))/\l[j]?=some x/\l.f=n/\x=fnL L i j/\H0 A=none/\∀y:Int,∃L':Ab,TabAt H0 r n (upd H A (.lst ((IL l).set j (.int y)))) ys L'/\∀a b,fnL L' a b=if a=i/\b=j then y else fnL L a b:=by
 let(A,l,y1,z1,hA,hl,hn,hr):=h.at hi;obtain⟨x,hx⟩:∃x,l[j]?=some x:={_,XI B};exists A,l,x,y1,hA,hx,hl,(Qo z1 hx).symm,hn,λy=>{L.set i<|l.set j y,?_,pf z1 B};let e:(IL l).set j (.int y)=IL (l.set j y):=(List.map_set ..).symm
 rw[e];show h.put y1 z1 hr (by rwa[Qf])
def wO{xs:List V}{i:Int}(h0:0<=i)(h1:i<xs⁻¹):PL xs.f i=some i.j:=by unfold PL;rw[if_pos h0,if_pos B]
def kg:FnScope ["web","weights","table","ends","weight","one","other"] ["web","weights"] (Zd (top 33)):=Vg vh
def Bk(T:Txt K mg t):WR P w base Xd T.qZj 1 (spZj K t.A_Web):=by
 show T.qZj.okI ["web","weights","table","ends","weight","one","other"] vh λXw A outer s H vs Q E hr h=>?_
 .let⟨w,b,n,ps,kd,ws,rfl,hW,hG,hS,Hi,q⟩:=h;show⟨_,(XM (Uq (i:=2) Z kg.nd Z Z (sc0:=Zd<|top 33) (N0:=["web","weights","table","ends","weight","one","other"]) (N':=["place","web"]) (o:=1) (fr:=[0]) ⟨Z,vh,vh,vh,Z,vh⟩ (ZP Z T.n_range<|XZ (ZN K (pv 0) Z) XT) (Zu vg) (λ_ _ _ _=>(Zc 0)) (λ_ _ _ _=>ZM) λ_ _ _ _=>(Zt JJ (TB<|XZ XN XT)<|ZN K (pv 1) Z))
   (XM (Uu YX Z (nE K Z T.n_zip<|XZ (ZN K (pv 0) Z)<|XZ (pv 1) XT) (NZ (n:=2) K Z<|Zz (Zc 3)<|Zz (Zc 4) Oh)
   (XM (Zh 5<|Zw (Zr K) (pv 3) XN λ_ _=>rfl)
   (XM (Zh 6<|Zw (Zr K) (pv 3) XN λ_ _=>rfl)
   (XE (Wm (Zl Vr (pv 5) (pv 6)<|Zs _)
   (XM (yu (Zw (Ze K) (pv 2) (pv 5) λ_ _=>rfl) (pv 5) (Mr K) (pv 4) Fi Hj)
   (XM (yu (Zw (Ze K) (pv 2) (pv 6) λ_ _=>rfl) (pv 6) (Mr K) (pv 4) Fi Hj)
   (XM (yu (Zw (Ze K) (pv 2) (pv 5) λ_ _=>rfl) (pv 6) (Mr K) (pv 4) Fh Hj)
   (XE<|yu (Zw (Ze K) (pv 2) (pv 6) λ_ _=>rfl) (pv 5) (Mr K) (pv 4) Fh Hj))))
   Zq)))))
   (XE<|Zm<|pv 2))),?_⟩
  let(dx,tl,xs,h1,h2,h3):=id hW;let hl:=h3.1
  let(g1,g2,g3,g4):=id hG;let one:1<=sizeLine:=vg
  exists _,Z,w,_,dx,_,_,Z,h1,T.cl_Web,T.n_Web_places,ZU _ _,n,Z,B,B,yj (lo:=0) (n:=n.j) (λi zs H2=>Same H H2/\Bears (RO H2) zs (List.S i<|List.S n.j 0)/\zs.Nodup/\∀A,V.ref A∈zs->H A=none/\∃o,H2 A=some o) {Same.refl _,{Z,λi l e=>by simp at e},.nil,λA h=>(by cases h)} (Zk B) (λi zs H2 _ zz=>by let(_,e,_):=zz;rw[e.1,YM];show XQ _) ?_ ?_
  .rintro i zs H2 hi ⟨s2,hZ,Sf,Rc⟩ S WZ;show nm ?_;exists one,λp1 VU=>?_;let u1:=XH (o:=.lst [.int 0]) VU
   exists _,Z,w,_,dx,_,_,Z,u1 _ _<|s2 _ _ h1,T.cl_Web,T.n_Web_places,ZU _ _,p1,n,_,Z,Z,XS,B,B,Ej (by change 1*n.j<=_;omega),λp2 Vw=>?_;let e0:(List.S n.j [V.int 0]).flatten=IL (List.S n.j 0):=by rw[aL];change _=(List.S n.j 0).H V.int;rw[vN]
   rw[e0];let u2:=u1.l (XH (o:=.lst<|IL<|List.S n.j 0) Vw)
   let Bj:H2 p2=none:=(XH VU).free Vw;show WZ _ _ {s2.l u2,?_,?_,λA hA=>?_}
   .rw[List.replicate_succ'];show(hZ.imp λ_ _ zz=>by let(r',e,h):=zz;exists r',e,u2 _ _ h).snoc ⟨p2,Z,XS⟩
   .show VR.L {Sf,AP,λx hx y hy e=>?_};rw[XD.G hy]at e;let(_,o,ho):=Rc p2 (e▸hx);rw[Bj]at ho;cases ho
   .rcases Yb.G hA with e|e
    .let⟨a1,o,a2⟩:=Rc A e;exists a1,o,u2 _ _ a2
    .let e':A=p2:=by simpa using e
     rw[e'];exists s2.free Bj,_,XS
  rintro zs H2 ⟨s2,hZ,Sf,Rc⟩ tA OK;let s3:=s2.l (XH (o:=.lst zs) OK)
  let kf:H tA=none:=s2.free OK;let hT:TabAt H tA n.j (upd H2 tA<|.lst zs) zs (List.S n.j<|List.S n.j 0):={XS,hZ.imp λ_ _ zz=>by let(r',e,h):=zz;show{r',e,XH OK _ _ h,Zb h OK},YM,λl h=>by rw[zv h];show YM,Sf,λA h=>(Rc A h).1}
  let hzero:∀i j,fnL (List.S n.j<|List.S n.j 0) i j=0:=λi j=>by
   have:=kh n.j i j
   show this
  generalize upd H2 tA (.lst zs)=H3 at *;generalize List.S n.j (List.S n.j (0:Int))=L0 at *;exists _,Z,w,_,dx,_,_,Z,s3 _ _ h1,T.cl_Web,T.n_Web_ties,Pz _ _,_,Z,tl,b,kd,Z,{_,_,SqL.of<|s3 _ _ h2,hS.same s3},nB (K:=K) (kd:=kd) (a:=tl) (b:=b) (xs:=xs) (ys:=IL ws) (by rw[Xv];omega) (λi σ H4=>∃(L:Ab)(v3 v4 v5 v6:Option V),σ=[some ↑w,some<|.ref b,some<|.ref tA,v3,v4,v5,v6]/\Same H H4/\TabAt H tA n.j H4 zs L/\∀x y,x<n.j->y<n.j->fnL L x y=lapE (Wz (ps.R i)<|ws.R i) x y) {L0,none,none,none,none,Z,s3,hT,λx y _ _=>hzero x y} (λi σ H4 _ zz=>by let(_,_,_,_,_,_,e,_):=zz;exists SqL.of<|e _ _ h2,hS.same e) ?_ ?_
  .rintro i v v' σ H4 pt RZ hi Ui ⟨L,v3,v4,v5,v6,rfl,s4,j9,OJ⟩;let(p,hp,tt,rfl,Ql):=h3.at hi;let(wt,rfl,hwt):=Um Ui;let(e1,e2,e3,e4):=g4 p (Xn hp);let u1:=XH (o:=.tup [.ref tt,.int wt]) RZ
   exists pt,_,Z,SqT.of XS,Z,_,_,Z,_,_,Z,Z,?_;let j8:=j9.same u1
   let s5:=s4.l u1;generalize upd H4 pt (.tup [.ref tt,.int wt])=H5 at *;exists _,Z,tt,_,0,.int p.1,Z,Z,SqT.of<|s5 _ _ Ql,Z,?_;exists _,Z,tt,_,1,.int p.2,Z,Z,SqT.of<|s5 _ _ Ql,Z,?_;exists _,Z,_,Z,Z,_,Z,?_;rw[ZO];let aK:=pe hp hwt
   show VF (λheq=>?_) (λXJ=>?_)
   .exists L,_,_,_,_,Z,s5,j8,λx y hx hy=>?_;rw[aK,dk (by change p.1.j=p.2.j;rw[heq])];show OJ x y hx hy
   let Ju:p.1.j≠p.2.j:=λe=>XJ B;let(A1,l1,x1,y1,rd,QK,QM,pZ,GW,j7):=j8.get (i:=p.1.j) (j:=p.1.j) B B;exists _,Z,_,Z,tA,zs,p.1,.ref A1,Z,Z,SqL.of j8.tab,Zy (n:=p.1.j) B y1,_,Z,A1,_,p.1,.int x1,Z,Z,SqL.of rd,B,So QK,_,Z,_,_,Z,Z,A1,_,p.1,p.1.j,Z,Z,rd,wO B (by rw[Xv];omega),?_;let(L1,aJ,aI):=j7 (x1+wt);let s6:Same H (upd H5 A1<|.lst<|(IL l1).set p.1.j (.int<|x1+wt)):=Zp GW s5
   generalize upd H5 A1 (.lst<|(IL l1).set p.1.j (.int<|x1+wt))=H6 at *;rw[pZ]at aI;let(A2,l2,x2,y2,Pr,hx2,Ti,ex2,PN,put2):=aJ.get (i:=p.2.j) (j:=p.2.j) B B;exists _,Z,_,Z,tA,zs,p.2,.ref A2,Z,Z,SqL.of aJ.tab,Zy (n:=p.2.j) B y2,_,Z,A2,_,p.2,.int x2,Z,Z,SqL.of Pr,B,So hx2,_,Z,_,_,Z,Z,A2,_,p.2,p.2.j,Z,Z,Pr,wO B (by rw[Xv];omega),?_;let(L2,aH,Ig):=put2 (x2+wt);let s7:Same H (upd H6 A2<|.lst<|(IL l2).set p.2.j (.int<|x2+wt)):=Zp PN s6
   generalize upd H6 A2 (.lst<|(IL l2).set p.2.j (.int<|x2+wt))=H7 at *;rw[ex2]at Ig;let(A3,l3,x3,y3,MJ,hx3,LX,ex3,hn3,put3):=aH.get (i:=p.1.j) (j:=p.2.j) B B;exists _,Z,_,Z,tA,zs,p.1,.ref A3,Z,Z,SqL.of aH.tab,Zy (n:=p.1.j) B y3,_,Z,A3,_,p.2,.int x3,Z,Z,SqL.of MJ,B,So hx3,_,Z,_,_,Z,Z,A3,_,p.2,p.2.j,Z,Z,MJ,wO B (by rw[Xv];omega),?_;let(L3,aG,aF):=put3 (x3-wt);let s8:Same H (upd H7 A3<|.lst<|(IL l3).set p.2.j (.int<|x3-wt)):=Zp hn3 s7
   generalize upd H7 A3 (.lst<|(IL l3).set p.2.j (.int<|x3-wt))=H8 at *;rw[ex3]at aF;let(A4,l4,x4,y4,wN,hx4,Bi,ex4,j6,j3):=aG.get (i:=p.2.j) (j:=p.1.j) B B;exists _,Z,_,Z,tA,zs,p.2,.ref A4,Z,Z,SqL.of aG.tab,Zy (n:=p.2.j) B y4,_,Z,A4,_,p.1,.int x4,Z,Z,SqL.of wN,B,So hx4,_,Z,_,_,Z,Z,A4,_,p.1,p.1.j,Z,Z,wN,wO B (by rw[Xv];omega),?_;let(L4,hT9,wM):=j3 (x4-wt);let s9:Same H (upd H8 A4<|.lst<|(IL l4).set p.1.j (.int<|x4-wt)):=Zp j6 s8
   generalize upd H8 A4 (.lst<|(IL l4).set p.1.j (.int<|x4-wt))=H9 at *;rw[ex4]at wM;exists L4,_,_,_,_,Z,s9,hT9,λx y hx hy=>?_;rw[aK,pJ,<-OJ x y hx hy];show four Ju x y aI Ig aF wM
  .rintro σ H4 ⟨L,v3,v4,v5,v6,rfl,s4,j9,OJ⟩;rw[hl,YF,<-Hi,YF]at OJ;exists _,Z,q tA zs L H4 s4 kf j9 OJ
inductive spZk(K:Ad)(C:Addr)(vs:List V)(H:Hp)(Q:VK)(_:XK):Prop
 |mk (w:Addr) (n:Int) (ps:Aa) (_:vs=[.ref w]) (_:WebAt C H w n ps) (_:Zv n ps) (_:∀(r:Addr)(ys:List V)(L:Ab)(H':Hp),Same H H'->H r=none->TabAt H r n.j H' ys L->(∀i j,i<n.j->j<n.j->fnL L i j=lapE (Wz ps<|List.S ps.f 1) i j)->Q ↑r H')
def j0(T:Txt K mg t):WR P w base Xd T.qZk 2 (spZk K t.A_Web):=by
 show T.qZk.okI ["web"] vh λXw A outer s H vs Q E hr h=>?_
 .let⟨w,n,ps,rfl,hW,hG,q⟩:=h;exists _,(XE<|Zm<|Xp (Bk T) hr T.qZj ZB<|XZ (pv 0)<|XZ (Zt JJ (TB<|XZ XN XT)<|Zg (Zi K) vi T.n_len Boot.«len»<|XZ (ZN K (pv 0) Z) XT) XT),?_;let(dx,tl,xs,h1,h2,h3):=id hW;let hl:=h3.1
  let g3:=hG.2.2.1;exists _,Z,(by change 1<=sizeLine;decide),λp1 VU=>?_;let u1:=XH (o:=.lst [.int 1]) VU
  exists _,Z,w,_,dx,_,_,Z,u1 _ _ h1,T.cl_Web,T.n_Web_ties,Pz _ _,tl,xs,Z,.inl<|SqL.of<|u1 _ _ h2,p1,xs⁻¹,_,Z,Z,XS,B,B,Ej (by change 1*_<=_;omega),λp2 Vw=>?_;let e0:(List.S (xs.f:Int).j [V.int 1]).flatten=IL (List.S ps.f 1):=by
   rw[Yy,hl,aL];change _=(List.S ps.f 1).H V.int
   rw[vN]
  rw[e0];let u2:=u1.l (XH (o:=.lst<|IL<|List.S ps.f 1) Vw)
  exists w,p2,n,ps,false,List.S ps.f 1,Z,hW.same u2,hG,SqL.of XS,YM,λr ys L H' s hr hT hf=>?_;show q r ys L H' (u2.l s) (u2.free hr) {hT.tab,hT.rows,hT.len,hT.all,hT.nd,λA h=>u2.free<|hT.new A h} hf
inductive spZl(K:Ad)(C:Addr)(vs:List V)(H:Hp)(Q:VK)(_:XK):Prop
 |mk (w n ps:_) (_:vs=[.ref w]) (_:WebAt C H w n ps) (_:Zv n ps) (_:∀c H',TC n ps c->Same H H'->Q (.int c) H')
def aE(u v i:Nat):(ind u v i).natAbs<=1:=by unfold ind;split<;>split<;>decide
def aB:∀{E:List Ed},(∀e∈E,e.2.2=1)->∀i j,(lapE E i j).natAbs<=E.f
 |[],_,i,j=>XQ 0
 |e::E,h,i,j=>by
  let ih:=aB (λf hf=>h f<|Yf _ hf) i j;let h1:=aE e.1 e.2.1 i
  let h2:=aE e.1 e.2.1 j;let h3:(ind e.1 e.2.1 i*ind e.1 e.2.1 j).natAbs<=1:=by rw[FV];show LG h1 h2
  change(e.2.2*(ind e.1 e.2.1 i*ind e.1 e.2.1 j)+lapE E i j).natAbs<=(e::E).f;rw[h e Yd,SH,Yx]
  have:=vK (ind e.1 e.2.1 i*ind e.1 e.2.1 j) (lapE E i j)
  lia
def az{α:Type}{l:List α}{i:Nat}(hi:l.f=i+1):cutz l (i:Int)=l.R i:=by unfold cutz;rw[Yy,Rp J,WH]
def Bh(T:Txt K mg t):WR P w base Xd T.qZl 3 (spZl K t.A_Web):=by
 show T.qZl.okI ["web"] vh λXw A outer s H vs Q E hr h=>?_
 .let⟨w,n,ps,rfl,hW,hG,q⟩:=h;exists _,(XE<|Zm<|Xp (Bw T) hr T.qZ3 ZB<|XZ (Xp (Bq T) hr T.qZ5 ZB<|XZ (Xp (j0 T) hr T.qZk ZB<|XZ (pv 0) XT)<|XZ (Zt Lv (ZN K (pv 0) Z) XN) XT) XT),?_;let(g1,g2,g3,g4):=id hG;exists _,Z,w,n,ps,Z,hW,hG,λr ys L H1 s1 hr hT hf=>?_;let(dx,tl,xs,h1,h2,h3):=id hW;exists _,Z,w,_,dx,_,_,Z,s1 _ _ h1,T.cl_Web,T.n_Web_places,ZU _ _,_,_,Z,Z,?_;obtain⟨k,hk⟩:∃k:Nat,n-1=(k:Int):={(n-1).j,J};let hnk:n.j=k+1:=vk
  let kE:=hT.len;let jZ:Bears (RO H1) ys L:=hT.rows.imp λ_ _ h=>h.list
  exists r,ys,L,k,?_,SqL.of hT.tab,jZ,vk,λl h=>by rw[hT.all l h];lia,J,λr2 zs H2 s2 Wd hZ=>?_
  .change [V.ref r,V.int (n-1)]=_;rw[hk]
  let w1:∀e∈Wz ps (List.S ps.f (1:Int)),e.2.2=1:=λe he=>by
   unfold Wz at he;let(i,hi):=YH he;rw[OC]at hi;cases h1:ps[i]? with
   |none=>rw[h1]at hi;cases hi
   |some p=>
    cases h2:(List.S ps.f (1:Int))[i]? with
    |none=>rw[h1,h2]at hi;cases hi
    |some w=>
     rw[h1,h2]at hi;let rfl:=Ya hi;show zv (Xn h2)
  let el:(Wz ps<|List.S ps.f (1:Int)).f<=30:=by unfold Wz;rw[OB,YM];lia
  let hM:(cutz L (k:Int)).H (λl=>cutz l (k:Int))=(L.R k).H λl=>l.R k:=by rw[az J];show YN λl hl=>az (by rw[hT.all l (NJ hl)];omega)
  rw[hM]at hZ;let LW:((L.R k).H λl=>l.R k).f=k:=by rw[Xy,Yo];grind
  let Np:∀i j,i<k->j<k->fnL ((L.R k).H λl=>l.R k) i j=lapE (Wz ps<|List.S ps.f 1) i j:=λi j hi hj=>by
   rw[<-hf i j vk vk];obtain⟨l,hl⟩:∃l,L[i]?=some l:={_,XI vk};let Wa:=hT.all l (Xn hl)
   obtain⟨x,hx⟩:∃x,l[j]?=some x:={_,XI vk};rw[Qo hl hx];show Qo (l:=l.R k) (by rw[Yk,NI,if_pos hi,hl];rfl) (by rwa[NI,if_pos hj])
  exists r2,false,zs,(L.R k).H λl=>l.R k,Z,SqL.of Wd,hZ.imp (λ_ _ zz=>by let(r',e,h):=zz;exists r',false,e,SqL.of h),by rw[LW];lia,λi j hi hj=>?_,λ_ H3 s3=>?_,λh=>absurd (λl hl=>?_) h
  .rw[LW]at hi hj;rw[Np i j hi hj];show YB (aB w1 i j) (YB el<|YB (by decide:30<=2^5)<|Ro vg vg)
  .let hd:det ((L.R k).H λl=>l.R k).f (fnL<|(L.R k).H λl=>l.R k)=det (n-1).j (lapE<|Wz ps<|List.S ps.f 1):=by rw[LW,show(n-1).j=k by lia];show Zj λi j hi hj=>Np i j hi hj
   obtain⟨c,M,a1,a2,a3⟩:∃c,TC n ps c:=by let(M,a1,a2,_):=Dl _ (n-1).j (Wz ps<|List.S ps.f 1) Z (IZ hG _);exists M.f,M,a1,λl=>by rw[a2,pj g1 YM],Z
   rw[hd,Di hG a1 a2,a3];show q c H3 ⟨M,a1,a2,a3⟩ (s1.l<|s2.l s3)
  .let⟨l0,h0,rfl⟩:=Yp.G hl;rw[LW,Yo,hT.all l0 (NJ h0)];grind
inductive spZm(K:Ad)(C:Addr)(vs:List V)(H:Hp)(Q:VK)(_:XK):Prop
 |mk (w a b:Addr) (n:Int) (ps:Aa) (Is Os:Ac) (_:vs=[.ref w,.ref a,.ref b]) (_:WebAt C H w n ps) (_:Zv n ps) (_:SqT K H a (IL Is)) (_:SqT K H b (IL Os)) (_:IsSet ps.f Is) (_:Os.f<=30) (_:(∀z∈Is,z∉Os)) (_:∀(c:Nat)(H':Hp),PC n ps Is Os c->Same H H'->Q (.int c) H')
def aw{K:Ad}{H:Hp}{a b:Addr}{l m:Ac}{Q:VK}(ha:SqT K H a (IL l))(hb:SqT K H b (IL m))(hl:l.f+m.f<=1000)(k:∀(r:Addr)(H':Hp),Same H H'->SqT K H' r (IL (l++m))->Q ↑r H'):MI K ↑a ↑b H Q:=by
 exists a,b,_,_,Z,Z,ha,hb,by rw[Xv,Xv];show YB hl vg,λe=>?_,λ_ e=>?_,λ_ _ p hp=>?_
 .let el:l=[]:=List.map_eq_nil_iff.G e;rw[el,Ks]at k;show k b H (Same.refl _) hb
 .let em:m=[]:=List.map_eq_nil_iff.G e;rw[em,WH]at k;show k a H (Same.refl _) ha
 .show k p _ (XH hp) (SqT.of ?_);rw[XS,fB]
def av{gone:Ac}(j:Nat):XB (j+1) gone=XB j gone++(if ((j:Int)∈gone) then [] else [(j:Int)]):=by
 unfold XB;rw[qx,Qj];congr 1;cases c:(j:Int)∈gone
 .rw[if_pos c,Ov,if_neg (by simp[c])];rfl
 .rw[if_neg c,Ov,if_pos (by simp[c])];rfl
def LV:FnScope ["web","inside","outside","marks","firsts","numbers","gone","free"] ["web","inside","outside"] (Zd (top 36)):=Vg vh
def jY(T:Txt K mg t):WR P w base Xd T.qZm 4 (spZm K t.A_Web):=by
 show T.qZm.okI ["web","inside","outside","marks","firsts","numbers","gone","free"] vh λXw A outer s H vs Q E hr h=>?_
 .let⟨w,a,b,n,ps,Is,Os,rfl,hW,hG,hA,hB,hI,hO,CV,q⟩:=h;show⟨_,(XM (Zh 3<|Xp (LY T) hr T.qZf ZB<|XZ (pv 0)<|XZ (pv 1) XT)
   (XM (PX (i:=4) LV.nd Z (Or.inr Z)<|n9 K Z Z T.n_sorted Z T.n_set<|XZ (pv 3) XT)
   (XM (Wm (Zl Lq (Zt Sv (Zg (Zi K) vi T.n_len Boot.«len»<|XZ (pv 4) XT)<|Zg (Zi K) vi T.n_len Boot.«len»<|XZ (pv 1) XT) (ZN K (pv 0) Z)<|Zs _)
   (XE<|Zm XN)
   Zq)
   (XM (PX (i:=5) LV.nd Z (Or.inr Z)<|SE Z (sc0:=Zd<|top 36) (N0:=["web","inside","outside","marks","firsts","numbers","gone","free"]) (N':=["mark","firsts"]) (o:=1) (fr:=[4]) ⟨Z,vh,vh,vh,Z,vh⟩ (ZL K<|pv 3) (Zu vg) (λ_ _ _ _=>(Zc 0)) (λ_ _ _ _=>ZM) λ_ _ _ _=>(Ul K YO PySem.F.slot_list_index PySem.F.type_list_index (Zu8 K) (pv 1)<|XZ (pv 0) XT))
   (XM (PX (i:=6) LV.nd Z (Or.inr Z)<|Zt (xX K) (pv 1)<|pv 2)
   (XM (Uq (i:=7) Z LV.nd Z Z (sc0:=Zd<|top 36) (N0:=["web","inside","outside","marks","firsts","numbers","gone","free"]) (N':=["tie","ends","gone"]) (o:=2) (fr:=[6]) ⟨Z,vh,vh,vh,Z,vh⟩ (yg K Z T.n_enumerate<|XZ (ZN K (pv 0) Z) XT) (Et<|Oc vg<|Oc vg Eu) (λ_ _ _ _=>(NZ (n:=2) K Z<|Zz (Zc 0)<|Zz (Zc 1) Oh)) (λ_ _ _ _=>(Hh<|Zl (MU K) (pv 0) (pv 2) Z)) λ_ _ _ _=>(pv 1))
   (XE<|Zm<|Xp (Bh T) hr T.qZl ZB<|XZ (t5 T.k_Web (Im T) (hr.mono vg) Z T.c_Web T.bZ8 .nil ZB<|XZ (Zg (Zi K) vi T.n_len Boot.«len»<|XZ (pv 4) XT)<|XZ (SE Z (sc0:=Zd<|top 36) (N0:=["web","inside","outside","marks","firsts","numbers","gone","free"]) (N':=["ends","numbers"]) (o:=1) (fr:=[5]) ⟨Z,vh,vh,vh,Z,vh⟩ (ZL K<|pv 7) (Zu vg) (λ_ _ _ _=>(Zc 0)) (λ_ _ _ _=>ZM) λ_ _ _ _=>(TU<|XZ (Zw (Ze K) (pv 1) (Zw (Zr K) (pv 0) XN λ_ _=>rfl) λ_ _=>rfl)<|XZ (Zw (Ze K) (pv 1) (Zw (Zr K) (pv 0) XN λ_ _=>rfl) λ_ _=>rfl) XT)) XT) XT))))))),?_⟩
  let(g1,g2,g3,g4):=id hG;let au:=hI.len
  exists _,Z,_,Z,w,a,n,ps,Is,Z,hW,hG,hA,hI.all,λmA H1 s1 Qn RM=>?_;let Ve:=Zn n.j (XR ps Is)
  let Vl:=ZQ (ns:=Is) hG hI.all;let hel:(XR ps Is).f=Is.f:=Xy ..
  show nm ?_;exists _,Z,mA,_,Z,SqL.of RM,B,λF hF jX fA hfA=>?_;let s2:=XH (o:=.lst<|IL F) hfA
  let Ig:(upd H1 fA<|.lst<|IL F) fA=some (.lst<|IL F):=XS;let Wf:=s2 _ _ RM
  let QL:=s1.l s2;show nm ?_;dsimp only;generalize upd H1 fA (.lst<|IL F)=H2 at *;let(g,aq,jW,ao):=nQ Vl hF jX;let(k1,kn,nk):=Zh4 Vl B hF jX;let Pr:=MZ QL hA
  let Pq:=MZ QL hB;let(dx,tl,xs,h1,h2,h3):=hW.same QL;let wX:=h3.1
  exists _,Z,fA,_,Z,.inl<|SqL.of Ig,_,Z,a,_,Z,.inr Pr,_,_,Z,Z,_,Z,w,_,dx,_,_,Z,h1,T.cl_Web,T.n_Web_places,ZU _ _,_,_,Z,Z,_,Z,?_;rw[Xv,Xv];show WN (λhc=>?_) (λhc=>?_)
  .show q 0 H2 (nV hG hI aq jW ao k1 kn B) QL
  exists _,Z,mA,Z,{_,SqL.of Wf},Qt (K:=K) (a:=mA) (xs:=IL<|Xl n.j<|XR ps Is) (λi zs H3=>H3=H2/\i<=n.j/\zs=IL (((Xl n.j<|XR ps Is).R i).H λz=>(UG F z:Int))) {Z,Yl _,Z} (Zk<|by rw[Xv,Ve];omega) (λi zs H3 _ zz=>by let(e,hi,ez):=zz;show{e▸SqL.of Wf,by rw[ez,Xv,Xy,Yo];omega}) ?_ ?_
  .rintro i v zs H3 hi ⟨rfl,hin3,rfl⟩ S WZ;let(z,rfl,hz):=Um hi;let ak:z∈F:=(jX z).L (Xn hz)
   let Xt:=(Xs.G hz).1;show nm ?_;show{_,Z,.inl {Z,_,SqL.of Ig},_,Z,fA,F,z,UG F z,Z,Z,SqL.of Ig,IV ak,λi hi e=>by have:=Xg (MM hF) e (IV ak);omega,WZ _ _ {Z,B,?_}};rw[YI,hz,YD];show(ZJ _ _).symm
  rintro zs H3 ⟨rfl,_,rfl⟩ nA hnA;rw[Xv,YF];let s3:=XH (o:=.lst<|IL<|(Xl n.j<|XR ps Is).H λz=>(UG F z:Int)) hnA
  let j6:(upd H3 nA<|.lst<|IL<|(Xl n.j<|XR ps Is).H λz=>(UG F z:Int)) nA=some (.lst<|IL<|(Xl n.j<|XR ps Is).H λz=>(UG F z:Int)):=XS;let wM:=s3 _ _ Ig
  let wN:=MZ s3 Pr;let wK:=MZ s3 Pq
  let jV:=QL.l s3;generalize upd H3 nA (.lst<|IL<|(Xl n.j<|XR ps Is).H λz=>(UG F z:Int))=H4 at *;let aj:∀x:Int,0<=x->x<n->((Xl n.j<|XR ps Is).H λz=>(UG F z:Int))[x.j]?=some (UG F (mk (Xl n.j<|XR ps Is) x.j):Int):=λx x0 x1=>by rw[Yk,XI B];unfold mk;rw[WW,XI B];rfl
  show nm ?_;dsimp only;exists _,Z,_,Z,aw wN wK B λgA H5 s5 hg5=>?_;let Bg:=jV.l s5
  let(dx,tl,xs,h1,h2,h3):=hW.same Bg;let wX:=h3.1
  show nm ?_;dsimp only;exists _,Z,w,_,dx,_,_,Z,h1,T.cl_Web,T.n_Web_ties,Pz _ _,tl,Z,{_,SqL.of h2},Js (K:=K) (a:=tl) (xs:=xs) (λj zs H6=>Same H5 H6/\j<=ps.f/\PairsV H6 zs ((XB j<|Is++Os).H λz=>ps.E z.j (0,0))) {Same.refl _,Yl _,PairsV.nil} (Zk B) (λj zs H6 hj ⟨e,Pf,ez⟩=>{e.seq<|SqL.of h2,by rw[ez.1,Xy];show YB (OD ..) ?_;rw[ZR];show XQ _}) ?_ ?_
  .rintro j v zs H6 pt RZ hj ⟨s6,MO,hZ⟩ S WZ;let(p,hp,tt,rfl,ht):=h3.at hj;let SO:=(Xs.G hp).1
   let s7:=XH (o:=.tup [.int j,.ref tt]) RZ;exists pt,_,Z,SqT.of XS,Z,_,_,Z,_,_,Z,Z,?_;let Bf:=hZ.same s7
   let SN:=s6.l s7;generalize upd H6 pt (.tup [.int j,.ref tt])=H7 at *;exists _,Z,_,Z,gA,_,Z,.inr<|MZ SN hg5,Z,MP _,_,Z,?_;rw[MQ];show VF (λIe=>?_) (λIe=>?_)
   .show WZ _ _ {SN,SO,?_};rwa[av,if_pos Ie,WH]
   .exists _,Z,WZ _ _ {SN,SO,?_};rw[av,if_neg Ie,YD];show Bf.app ?_;change PairsV H7 [V.ref tt] [ps.E ((j:Nat):Int).j (0,0)]
    rw[Yy,XG hp];show PairsV.nil.snoc {tt,Z,SN _ _ ht}
  rintro zs H6 ⟨s6,_,hZ⟩ rA GC;rw[wX]at hZ;let s7:=XH (o:=.lst zs) GC
  let Bs:(upd H6 rA<|.lst zs) rA=some (.lst zs):=XS;let Bf:=hZ.same s7
  let SN:=s6.l s7;generalize upd H6 rA (.lst zs)=H7 at *;let hf7:=SN _ _ (s5 _ _ wM)
  let hn7:=SN _ _ (s5 _ _ j6);let GF:=Bf.1
  let RQ:(XB ps.f<|Is++Os).f<=30:=by show YB (OD ..) ?_;rw[ZR];omega
  rw[Xy]at GF;show nm ?_;dsimp only;show⟨_,Z,fA,_,Z,.inl<|SqL.of hf7,_,Z,rA,Z,{_,SqL.of Bs},Qt (K:=K) (a:=rA) (xs:=zs) (λi ws H8=>Same H7 H8/\i<=(XB ps.f<|Is++Os).f/\PairsV H8 ws (((XB ps.f<|Is++Os).R i).H λz=>((UG F (mk (Xl n.j<|XR ps Is) (Zx ps z).1):Int),(UG F (mk (Xl n.j<|XR ps Is) (Zx ps z).2):Int)))) {Same.refl _,Yl _,PairsV.nil} (Zk B)
   (λi ws H8 hi zz=>by let(e,We,ew):=zz;show{e.seq<|SqL.of Bs,by rw[ew.1,Xy,Yo];omega}) ?_ ?_⟩
  .rintro i v ws H8 hi ⟨s8,Tv,wJ⟩ S WZ;let(p,hp,tt,rfl,ht):=Bf.at hi;rw[Yk]at hp;obtain⟨z,hz,ez⟩:∃z,(XB ps.f<|Is++Os)[i]?=some z/\ps.E z.j (0,0)=p:=by
    cases hq:(XB ps.f<|Is++Os)[i]? with
    |none=>rw[hq]at hp;cases hp
    |some z=>rw[hq]at hp;exists z,Z,Ya hp
   let IW:=(WT.G<|Xn hz).1;obtain⟨p',Ii⟩:∃p,ps[z.j]?=some p:={_,XI B};let epp:p'=p:=by rw[<-ez,XG Ii]
   rw[epp]at Ii;let(e1,e2,e3,e4):=g4 p (Xn Ii);let ee:Zx ps z=(p.1.j,p.2.j):=by unfold Zx;rw[XG Ii]
   let KA:=s8 _ _ ht;let ai:=s8 _ _ hn7
   show nm ?_;exists _,Z,_,Z,tt,_,0,.int p.1,Z,Z,SqT.of KA,Z,nA,_,_,_,Z,Z,SqL.of ai,Zy (n:=p.1.j) B<|So<|aj p.1 e1 e2,?_;exists _,Z,_,Z,tt,_,1,.int p.2,Z,Z,SqT.of KA,Z,nA,_,_,_,Z,Z,SqL.of ai,Zy (n:=p.2.j) B<|So<|aj p.2 e3 e4,(by change 2<=sizeLine;decide),λpp Qk=>?_;show WZ _ _ {s8.l<|XH Qk,by have:=(Xs.G hz).1;omega,?_};rw[YI,hz,YD];show(wJ.same<|XH Qk).snoc {pp,Z,?_};dsimp only;rw[ee];show XS
  rintro ws H8 ⟨s8,_,wJ⟩ la kr;rw[GF,YF]at wJ;let s9:=XH (o:=.lst ws) kr
  let LU:(upd H8 la<|.lst ws) la=some (.lst ws):=XS;let hP9:=wJ.same s9
  let s79:=s8.l s9;generalize upd H8 la (.lst ws)=H9 at *;let ah:=cQ (f:=λi=>UG F<|mk (Xl n.j<|XR ps Is) i) hG (Is++Os) jW k1 kn
  intro x Ic nx wI jU;let t1:Same H9 (upd (upd H9 Ic<|.own x) x<|.ins t.A_Web Ic []):=ZF (XH wI) (by rwa[Za (XO jU)])
  exists x,Ic,F⁻¹,la,false,ws,_,by rw[Xv];rfl,XS,λo=>?_,hP9.same t1,ah,λwH hV k10=>{Z,?_}
  .show SqL.of (by rwa[Za (Zb LU nx),Za<|Zb LU nx,Za (Zb LU wI)])
  let SM:Same H9 wH:=λb o e=>k10 b o (t1 b o e) (Zb e nx);exists x,_,_,Z,hV,ah,λc OI hc s11=>q c OI (nW hG hI CV aq jW ao B hc)<|Bg.l<|SN.l<|s79.l<|SM.l s11
inductive spZn(K:Ad)(C:Addr)(vs:List V)(H:Hp)(Q:VK)(_:XK):Prop
 |mk (w a n ps kd ns:_) (_:vs=[.ref w,.ref a]) (_:WebAt C H w n ps) (_:Zv n ps) (_:SqK kd K H a (IL ns)) (_:∀b H',Same H H'->(b=true↔Zf n ps ns)->Q (.bl b) H')
def Be(T:Txt K mg t):WR P w base Xd T.qZn 6 (spZn K t.A_Web):=by
 show T.qZn.okI ["web","ties"] vh λXw A outer s H vs Q E hr h=>?_
 .let⟨w,a,n,ps,kd,ns,rfl,hW,hG,hS,q⟩:=h;exists _,(XE<|Zm<|Ka (Xp (Bp T) hr T.qZc ZB<|XZ (pv 0)<|XZ (pv 1) XT)<|Ka (Nj PQ (Zg (Zi K) vi T.n_len Boot.«len»<|XZ (pv 1) XT) (Zt Lv (ZN K (pv 0) Z) XN)<|Zs _)<|Kb<|Xp (Bl T) hr T.qZh ZB<|XZ (pv 0)<|XZ (pv 1) XT),?_;exists _,Z,_,Z,w,a,n,ps,kd,ns,Z,hW,hS,λb hb=>{b,Z,?_};show fv (λe=>?_) (λe=>?_)
  .let hI:=hb.G e;let(dx,tl,xs,h1,h2,h3):=id hW;exists _,Z,a,_,Z,hS.or,_,Z,w,_,dx,_,_,Z,h1,T.cl_Web,T.n_Web_places,ZU _ _,_,_,Z,Z,Z,_,Z,?_;rw[Xv,ZO];show WN (λhl=>?_) (λhl=>?_)
   .exists _,Z,_,Z,w,a,n,ps,kd,ns,Z,hW,hG,hS,hI,λb2 H' s Sa=>q b2 H' s ?_;rw[Sa,eY (by have:=hG.1;lia) (ZQ hG hI.all)];exists λz=>⟨hI,hl,z⟩,λz=>z.2.2
   .show q false H (Same.refl H) {λz=>(nomatch z),λz=>absurd z.2.1 hl}
  .show q false H (Same.refl H) {λz=>(nomatch z),λz=>by rw[hb.L z.1]at e;cases e}
inductive spZo(K:Ad)(C:Addr)(vs:List V)(H:Hp)(Q:VK)(_:XK):Prop
 |mk (w a:Addr) (n:Int) (ps:Aa) (kd:Bool) (ns:Ac) (_:vs=[.ref w,.ref a]) (_:WebAt C H w n ps) (_:Zv n ps) (_:SqK kd K H a (IL ns)) (_:Zf n ps ns) (_:∀H':Hp,Same H H'->Q .non H')
def jT(T:Txt K mg t):WR P w base Xd T.qZo 7 (spZo K t.A_Web):=by
 show T.qZo.okI ["web","tree"] vh λXw A outer s H vs Q E hr h=>?_
 .let⟨w,a,n,ps,kd,ns,rfl,hW,hG,hS,hT,q⟩:=h;show⟨_,(XE (Wm (Oi<|Oj<|Xp (Be T) hr T.qZn ZB<|XZ (pv 0)<|XZ (pv 1) XT)
   (XE Uv)
   Zq)),?_⟩
  exists _,Z,_,Z,w,a,n,ps,kd,ns,Z,hW,hG,hS,λb H' s hb=>{_,Z,?_};show JA (λz=>q H' s) λz=>?_;rw[hb.L hT]at z;cases z
inductive spZp(K:Ad)(C:Addr)(vs:List V)(H:Hp)(Q:VK)(_:XK):Prop
 |mk (w a b n ps ka kb ns os:_) (_:vs=[.ref w,.ref a,.ref b]) (_:WebAt C H w n ps) (_:Zv n ps) (_:SqK ka K H a (IL ns)) (_:SqK kb K H b (IL os)) (_:ns.f<=1000) (_:os.f<=1000) (_:(∀z∈ns++os,0<=z/\z<ps⁻¹)) (_:(((WY n.j ps<|ns++os).R ns.f≠ns\/((WY n.j ps<|ns++os).f:Int)<n-1)->∀H':Hp,Same H H'->Q .non H')) (_:((WY n.j ps<|ns++os).R ns.f=ns->¬((WY n.j ps<|ns++os).f:Int)<n-1->∀r ms H',ms.Perm (WY n.j ps<|ns++os)->ms.Q (·<=·)->Same H H'->H r=none->H' r=some (.tup<|IL ms)->Q ↑r H'))
def Bc(T:Txt K mg t):WR P w base Xd T.qZp 3 (spZp K t.A_Web):=by
 show T.qZp.okI ["web","inside","order","marks","grown","tie","ends"] vh λXw A outer s H vs Q E hr h=>?_
 .let⟨w,a,b,n,ps,ka,kb,ns,os,rfl,hW,hG,hS,oU,af,Ra,hI,q0,q1⟩:=h;show⟨_,(XM (Zh 3<|Xp (LY T) hr T.qZf ZB<|XZ (pv 0)<|XZ (TU XT) XT)
   (XM (Zh 4<|TB XT)
   (XM (Uu YX Z (ZL K<|Zt yn (Zo (Sn K) vi T.n_list Boot.«list»<|XZ (pv 1) XT)<|Zo (Sn K) vi T.n_list Boot.«list»<|XZ (pv 2) XT) (Zc 5)
   (XM (Zh 6<|Zw (Ze K) (ZN K (pv 0) Z) (pv 5) λ_ _=>rfl)
   (XE (Wm (Zl Vr (Zw (Ze K) (pv 3) (Zw (Zr K) (pv 6) XN λ_ _=>rfl) λ_ _=>rfl) (Zw (Ze K) (pv 3) (Zw (Zr K) (pv 6) XN λ_ _=>rfl) λ_ _=>rfl)<|Zs _)
   (XM (Zh 3<|Xp (Ij T) hr T.qZe ZB<|XZ (pv 0)<|XZ (pv 3)<|XZ (TU<|XZ (pv 5) XT) XT)
   (XE<|ZI<|Ul K YO NM NN ZX (pv 4)<|XZ (pv 5) XT))
   Zq))))
   (XM (Wm (PW.pt<|Rf (Zl (rK K<|MY hr) (ZT (UP K) (pv 4) Qz<|Qy<|Zg (Zi K) vi T.n_len Boot.«len»<|XZ (pv 1) XT) (Zo (Sn K) vi T.n_list Boot.«list»<|XZ (pv 1) XT)<|Zs _)<|Ho<|Zl Nk (Zg (Zi K) vi T.n_len Boot.«len»<|XZ (pv 4) XT) (Zt Lv (ZN K (pv 0) Z) XN)<|Zs _)
   (XE<|Zm yB)
   Zq)
   (XE<|Zm<|Zo (yi K) vi T.n_tuple Boot.«tuple»<|XZ (Zg (Zq4 K) vi T.n_sorted Boot.«sorted»<|XZ (pv 4) XT) XT))))),?_⟩
  let(g1,g2,g3,g4):=id hG;let one:1<=sizeLine:=vg
  exists _,Z,Yl _,λr0 TY=>?_;let s0:=XH (o:=.tup []) TY
  exists w,r0,n,ps,[],Z,hW.same s0,hG,SqT.of XS,λ_ e=>(nomatch e),λm H1 s1 Qn RM=>?_;let ae:=s0.l s1
  let hmf:=s0.free Qn;exists Yl _,λgl jS=>?_;let s2:=XH (o:=.lst []) jS
  let QL:=ae.l s2;let hgf:=ae.free jS
  exists _,Z,a,_,Z,(hS.same QL).or,λl1 QM=>?_;let s3:=XH (o:=.lst<|IL ns) QM
  let Ib:=QL.l s3;exists _,Z,b,_,Z,(oU.same Ib).or,λl2 Ti=>?_;let s4:=XH (o:=.lst<|IL os) Ti
  let jV:=Ib.l s4;exists l1,l2,_,_,Z,Z,s4 _ _ XS,XS,Ej (by rw[Xv,Xv];lia),λcl Tu=>?_;let s5:=XH (o:=.lst<|IL ns++IL os) Tu
  let Bg:=jV.l s5;let eI:IL ns++IL os=IL (ns++os):=(fB _ _).symm
  let Bb:=s5 _ _ (s4 _ _<|s3 _ _<|XS (H:=H1) (a:=gl) (o:=.lst []));let Gy:=s5 _ _ (s4 _ _<|s3 _ _<|s2 _ _ RM)
  let Ia:=XS (H:=upd (upd (upd H1 gl<|.lst []) l1<|.lst<|IL ns) l2<|.lst<|IL os) (a:=cl) (o:=.lst<|IL ns++IL os);let ncg:cl≠gl:=λe=>by rw[e]at Tu;show absurd ((s4 _ _<|s3 _ _<|XS (H:=H1) (a:=gl) (o:=.lst [])).symm.l Tu) AP
  let nmg:m≠gl:=λe=>by rw[e]at RM;show absurd (RM.symm.l jS) AP
  rw[eI]at s5 Bg Bb Gy Ia ⊢;generalize upd (upd (upd (upd H1 gl<|.lst []) l1<|.lst<|IL ns) l2<|.lst<|IL os) cl (.lst<|IL<|ns++os)=H5 at *;show⟨cl,Z,{_,SqL.of Ia},Fd (K:=K) (a:=cl) (xs:=IL<|ns++os) (λi σ H2=>∃mc v5 v6,σ=[some ↑w,some<|.ref a,some<|.ref b,some<|.ref mc,some<|.ref gl,v5,v6]/\Same H H2/\mc≠gl/\
    H2 cl=some (.lst<|IL<|ns++os)/\H2 mc=some (.lst<|IL<|Xl n.j<|XR ps<|WY n.j ps<|(ns++os).R i)/\H2 gl=some (.lst<|IL<|WY n.j ps<|(ns++os).R i))
   ⟨m,none,none,Z,Bg,nmg,Ia,Gy,Bb⟩ (λi σ H2 _ zz=>by let(_,_,_,_,_,_,e,_):=zz;show SqL.of e) ?_ ?_⟩
  .rintro i x σ H2 hi ⟨mc,v5,v6,rfl,s2,XJ,VY,Wf,Me⟩;let(z,rfl,hz):=Um hi;let(z0,z1):=hI z (Xn hz);let ab:∀y∈(ns++os).R i,0<=y/\y<ps⁻¹:=λy hy=>hI y (NJ hy)
   let est:(ns++os).R (i+1)=(ns++os).R i++[z]:=by rw[YI,hz];rfl
   let eG:WY n.j ps ((ns++os).R (i+1))=QY n.j ps (WY n.j ps<|(ns++os).R i) z:=by rw[est,ME]
   let Vl:=GX hG ab;let Ba:=eF hG ab
   generalize WY n.j ps ((ns++os).R i)=G at *;let(dx,tl,xs,h1,h2,h3):=hW.same s2;obtain⟨p,hp⟩:∃p,ps[z.j]?=some p:={_,XI J};let(v,hv,tt,rfl,Ql):=h3.2 z.j p hp;let(e1,e2,e3,e4):=g4 p (Xn hp);let ed:Zx ps z=(p.1.j,p.2.j):=by unfold Zx;rw[XG hp]
   let hl:(Xl n.j<|XR ps G).f=n.j:=Zn _ _;let iA:Vq (IL<|Xl n.j<|XR ps G) p.1=some (.int<|mk (Xl n.j<|XR ps G) p.1.j):=Zy (n:=p.1.j) J (So<|He J)
   let iB:Vq (IL<|Xl n.j<|XR ps G) p.2=some (.int<|mk (Xl n.j<|XR ps G) p.2.j):=Zy (n:=p.2.j) J (So<|He J);let t0:Vq ([.int p.1,.int p.2]:List V) 0=some (.int p.1):=rfl
   let t1:Vq ([.int p.1,.int p.2]:List V) 1=some (.int p.2):=rfl;let key:mk (Xl n.j<|XR ps G) p.1.j=mk (Xl n.j<|XR ps G) p.2.j↔mk (WK n.j<|XR ps G) (Zx ps z).1=mk (WK n.j<|XR ps G) (Zx ps z).2:=by rw[ed,Hc Vl J J,ZS Vl J J]
   exists _,Z,w,_,dx,_,_,Z,h1,T.cl_Web,T.n_Web_ties,Pz _ _,_,Z,tl,xs,z,.ref tt,Z,Z,SqL.of h2,Zy (n:=z.j) J hv,?_;exists _,Z,_,Z,tt,_,0,_,Z,Z,SqT.of Ql,t0,mc,_,p.1,_,Z,Z,SqL.of Wf,iA,_,Z,_,Z,tt,_,1,_,Z,Z,SqT.of Ql,t1,mc,_,p.2,_,Z,Z,SqL.of Wf,iB,Z,_,Z,?_;rw[ZO];show VF (λhe=>?_) (λhe=>?_)
   .exists mc,_,_,Z,s2,XJ,VY,?_,?_
    .rw[eG];unfold QY;rwa[if_pos (key.G he)]
    .rw[eG];unfold QY;rwa[if_pos (key.G he)]
   .let aa:WY n.j ps ((ns++os).R (i+1))=G++[z]:=by rw[eG];unfold QY;rw[if_neg λe=>he (key.L e)]
    exists _,Z,_,Z,_,Z,one,λp2 Vw=>?_;let s6:=XH (o:=.tup [.int z]) Vw
    show{w,mc,p2,n,ps,_,true,[z],Z,(hW.same s2).same s6,hG,s6 _ _ Wf,hl,SqT.of XS,λy hy=>by rw[XD.G hy];show⟨z0,z1⟩,λm' H7 s7 hf hm7=>?_};let Gx:=s6.l s7
    let hg7:=Gx _ _ Me;let wG:=Gx _ _ VY
    let nm':m'≠gl:=by
     rcases hf with rfl|hf
     .show XJ
     .show λe=>absurd ((s6 _ _ Me).symm.l (e▸hf)) AP
    exists _,Z,.inl {Z,_,SqL.of hg7},_,Z,gl,_,_,Z,Z,hg7,Zk (by rw[Xv];lia),?_;exists m',_,_,Z,Zp hgf<|s2.l Gx,nm',?_,?_,?_
    .rw[Za ncg];show wG
    .rw[Za nm',hm7,aa,Tf,fj];rfl
    .rw[XS,aa,ZJ]
  .rintro σ H2 ⟨mc,v5,v6,rfl,s2,XJ,VY,Wf,Me⟩;rw[Xv,YF]at Me;let Ba:=eF hG hI
   generalize WY n.j ps (ns++os)=G at *;exists _,Z,_,Z,a,_,Z,(hS.same s2).or,_,Z,gl,_,Z,SqL.of Me,λr1 OL=>?_;let ec:Xk (IL G) none (some ((IL ns).f:Int))=IL (G.R ns.f):=by rw[qN J,Yy,Xv,fw]
   rw[ec];let s3:=XH (o:=.lst<|IL<|G.R ns.f) OL
   exists _,Z,a,_,Z,(hS.same<|s2.l s3).or,λr2 Wd=>?_;let s4:=XH (o:=.lst<|IL ns) Wd
   exists 1,_,r1,r2,Z,Z,vg,fb (SqL.of<|s4 _ _ XS)<|SqL.of XS,_,Z,?_;let AZ:=s2.l (s3.l s4)
   show VF (λhe=>?_) (λhe=>?_)
   .let⟨dx,tl,xs,h1,h2,h3⟩:=hW.same AZ;let hg4:=s4 _ _ (s3 _ _ Me)
    exists _,Z,gl,_,Z,.inl<|SqL.of hg4,_,Z,w,_,dx,_,_,Z,h1,T.cl_Web,T.n_Web_places,ZU _ _,_,_,Z,Z,_,_,Z,Z,_,Z,?_;rw[Xv];show WN (λhc=>?_) (λhc=>?_)
    .show q0 (.inr hc) _ AZ
    .exists _,Z,gl,G,Z,SqL.of hg4,J,λms VU Vw l hl=>?_;let s5:=XH (o:=.lst<|IL ms) hl
     exists l,_,Z,.inl {SqL.of XS,λr hr=>?_};show q1 he hc r ms _ VU Vw ((AZ.l s5).l (XH hr)) ((AZ.l s5).free hr) XS
   .show Us ?_;show q0 (.inl he) _ AZ
inductive spZq(K:Ad)(C:Addr)(vs:List V)(H:Hp)(Q:VK)(_:XK):Prop
 |mk (w n ps:_) (_:vs=[.ref w]) (_:WebAt C H w n ps) (_:Zv n ps) (_:(¬((WC n.j ps ps.f).f:Int)<n-1->∀r H',Same H H'->H' r=some (.tup<|IL<|WC n.j ps ps.f)->Q ↑r H')) (_:(((WC n.j ps ps.f).f:Int)<n-1->∀H':Hp,Same H H'->False))
def jR(T:Txt K mg t):WR P w base Xd T.qZq 7 (spZq K t.A_Web):=by
 show T.qZq.okI ["web"] vh λXw A outer s H vs Q E hr h=>?_
 .let⟨w,n,ps,rfl,hW,hG,q,q1⟩:=h;show⟨_,(XM (ZI<|Xp (kj T) hr T.qZi ZB<|XZ (pv 0) XT)
   (XE<|Zm<|Xp (Bc T) hr T.qZp ZB<|XZ (pv 0)<|XZ (TU XT)<|XZ (Xp (Il T) hr T.qZa ZB<|XZ (pv 0) XT) XT)),?_⟩
  let WA:∀z∈Wu ps.f,0<=z/\z<ps⁻¹:=λz hz=>Xr.G hz;let eg:WY n.j ps (Wu ps.f)=WC n.j ps ps.f:=eK _ _ _
  let hj:=Zk7 hG;exists _,Z,w,n,ps,Z,hW,hG,λhJ H1 s1=>?_,λhJ H1 s1=>q1 (by rw[hj]at hJ;omega) H1 s1;let hf:=hj.G hJ
  exists _,Z,Yl _,λr0 TY=>?_;let s0:=XH (o:=.tup []) TY
  let SM:=s1.l s0;show{_,Z,w,n,ps,Z,hW.same SM,by have:=hG.2.2.1;lia,λr2 H2 s2 hr20 Wd=>?_};exists w,r0,r2,n,ps,true,true,[],Wu ps.f,Z,(hW.same SM).same s2,hG,SqT.of<|s2 _ _ XS,SqT.of Wd,Yl _,by rw[ZR];have:=hG.2.2.1;lia,WA,λhx H3 s3=>?_,λ_ _ r3 ms H3 VU Vw s3 HZ OH=>?_
  .rw[Ks,eg]at hx;rcases hx with hx|hx
   .show absurd Z hx
   .show absurd hx hf
  .rw[Ks,eg]at VU;let e:ms=WC n.j ps ps.f:=ZF5 VU Vw ((DX _).imp λh=>J)
   rw[e]at OH;show q hf r3 H3 (SM.l<|s2.l s3) OH
inductive spZr(K:Ad)(vs:List V)(H:Hp)(Q:VK)(_:XK):Prop
 |mk (a:Addr) (b:Int) (kd:Bool) (l:Ac) (_:vs=[.ref a,.int b]) (_:SqK kd K H a (IL l)) (_:l.f<=1000) (_:∀(r:Addr)(H':Hp),Same H H'->H' r=some (.tup<|IL<|RL l b)->Q ↑r H')
def AY(T:Txt K mg t):WR P w base Xd T.qZr 1 (spZr K):=by
 show T.qZr.okI ["ties","bound"] vh λXw A outer s H vs Q E hr h=>?_
 .let⟨a,b,kd,l,rfl,hA,hl,q⟩:=h;exists _,(XE<|Zm<|Zo (yi K) vi T.n_tuple Boot.«tuple»<|XZ (SE Z (sc0:=Zd<|top 43) (N0:=["ties","bound"]) (N':=["tie","bound"]) (o:=1) (fr:=[1]) ⟨Z,vh,vh,vh,Z,vh⟩ (Jy K<|pv 0) (Zu vg) (λ_ _ _ _=>(Zc 0)) (λ_ _ _ _=>(Hh<|Zl Nk (pv 0) (pv 1)<|Zs _)) λ_ _ _ _=>(pv 0)) XT),?_;show⟨_,Z,a,Z,Px (K:=K) (k:=kd) (a:=a) (xs:=IL l) (λi us H2=>H2=H/\i<=l.f/\us=IL (RL (l.R i) b)) {Z,Yl _,Z} (Zk<|by rw[Xv];omega) (λi us H2 hi ⟨e,We,ey⟩=>⟨e▸hA,by
   rw[ey,Xv];show YB (OD ..) ?_;rw[Yo]
   omega⟩) ?_ ?_⟩
  .rintro i v us H2 hi ⟨rfl,Tv,rfl⟩ S WZ;let(z,rfl,hz):=Um hi;let Wc:=(Xs.G hz).1
   show nm ?_;exists _,Z,_,Z,_,_,Z,Z,_,Z,?_;let e:RL (l.R<|i+1) b=RL (l.R i) b++(if z<b then [z] else []):=by
    unfold RL;rw[YI,hz,Qj];show YZ _ ?_;change List.U _ [z]=_
    rw[Ov];cases h:z<b
    .rw[if_pos h,if_pos (Ys h)];rfl
    .rw[if_neg h,if_neg (by simp;omega)];rfl
   show WN (λh=>?_) (λh=>?_)
   .exists _,Z,WZ _ _ {Z,Wc,?_};rw[e,if_pos h,ZJ]
   .show WZ _ _ {Z,Wc,?_};rw[e,if_neg h,WH]
  .rintro us H2 ⟨rfl,_,rfl⟩ p hp;rw[Xv,YF];exists p,_,Z,.inl {SqL.of XS,λl hl=>q l _ (ZF (XH hp) hl) XS}
inductive spZs(K:Ad)(C:Addr)(vs:List V)(H:Hp)(Q:VK)(_:XK):Prop
 |mk (w a:Addr) (n:Int) (ps:Aa) (kd:Bool) (U:Ac) (_:vs=[.ref w,.ref a]) (_:WebAt C H w n ps) (_:Zv n ps) (_:SqK kd K H a (IL U)) (_:Zf n ps U) (_:∀(r:Nat)(H':Hp),Rk n ps U r->Same H H'->Q (.int r) H')
def AX(cs:List Nat):(cs.H λ(c:Nat)=>(c:Int)).sum=((cs.sum:Nat):Int):=by
 induction cs with
 |nil=>rfl
 |cons x l ih=>rw[YJ,WQ,WQ,ih];omega
def Zm6{K:Ad}{kd:Bool}{H H':Hp}{a:Addr}{xs:List V}(s:Same H H')(h:SqK kd K H a xs):SqK kd K H' a xs:=by
 cases kd with
 |false=>show s.seq h
 |true=>show MZ s h
def jQ:FnScope ["web","tree","beside"] ["web","tree"] (Zd (top 44)):=Vg vh
def jP(T:Txt K mg t):WR P w base Xd T.qZs 9 (spZs K t.A_Web):=by
 show T.qZs.okI ["web","tree","beside"] vh λXw A outer s H vs Q E hr h=>?_
 .let⟨w,a,n,ps,kd,U,rfl,hW,hG,hA,hT,q⟩:=h;show⟨_,(XM (ZI<|Xp (jT T) hr T.qZo ZB<|XZ (pv 0)<|XZ (pv 1) XT)
   (XM (PX (i:=2) jQ.nd Z (Or.inr Z)<|Xp (ku T) hr T.qZb ZB<|XZ (pv 0)<|XZ (pv 1) XT)
   (XE<|Zm<|Zg (Hg K Z) vi T.n_sum Boot.«sum»<|XZ (SE Z (sc0:=Zd<|top 44) (N0:=["web","tree","beside"]) (N':=["tie","web","tree","beside"]) (o:=1) (fr:=[0,1,2]) ⟨Z,vh,vh,vh,Z,vh⟩ (yh K<|pv 2) (Zu vg) (λ_ _ _ _=>(Zc 0)) (λ_ _ _ _=>ZM) λ_ _ _ _=>(Xp (jY T) hr T.qZm ZB<|XZ (pv 1)<|XZ (Zt (xX K) (Xp (AY T) hr T.qZr ZB<|XZ (pv 2)<|XZ (pv 0) XT)<|TU<|XZ (pv 0) XT)<|XZ (Xp (AY T) hr T.qZr ZB<|XZ (pv 3)<|XZ (pv 0) XT) XT)) XT))),?_⟩
  let(g1,g2,g3,g4):=id hG;let one:1<=sizeLine:=vg
  let hUl:=hT.1.len;exists _,Z,_,Z,w,a,n,ps,kd,U,Z,hW,hG,hA,hT,λH1 s1=>?_;exists _,Z,_,Z,w,a,n,ps,kd,U,Z,hW.same s1,B,Zm6 s1 hA,λD hD wF bA H2 s2 Sa=>?_;let QL:=s1.l s2
  let hDs:IsSet ps.f D:=XU.L {λz hz=>((wF z).G hz).1,hD};let ks:=hDs.len
  show nm ?_;dsimp only;show⟨_,Z,bA,Z,{_,SqT.of Sa},Py (K:=K) (a:=bA) (xs:=IL D) (λj zs H3=>Same H2 H3/\∃cs:List Nat,zs=IL (cs.H λ(c:Nat)=>(c:Int))/\cs.f=j/\∀(i:Nat)(t:Int)(c:Nat),D[i]?=some t->cs[i]?=some c->∃I O,PC n ps I O c/\(∀z,z∈I↔(z∈U/\z<t)\/z=t)/\∀z,z∈O↔(0<=z/\z<ps⁻¹)/\z∉U/\z<t)
   {Same.refl _,[],Z,Z,λi t c _ h=>(by simp at h)} (Zk<|by rw[Xv];omega) (λj zs H3 _ zz=>by let(e,cs,ez,el,_):=zz;show{SqT.of<|e _ _ Sa,by rw[ez,Xv,Xy,el];show XQ _}) ?_ ?_⟩
  .rintro j v zs H3 hj ⟨s3,cs,rfl,el,jO⟩ S WZ;let(z,rfl,hz):=Um hj;let hzD:=Xn hz
   let(IW,SD):=(wF z).G hzD;let Ib:=QL.l s3
   show nm ?_;exists _,Z,_,Z,_,Z,a,z,kd,U,Z,Zm6 Ib hA,B,λl1 H4 s4 Bi=>?_;exists _,Z,one,λtp Qm=>?_;let u1:=XH (o:=.tup<|IL [z]) Qm
   let ll:(RL U z).f<=30:=YB (OD ..) B;show aw (l:=RL U z) (m:=[z]) (SqT.of<|u1 _ _ Bi) (SqT.of XS) (by change _+1<=_;omega) λiA H5 s5 hi5=>?_;let jN:=s4.l (u1.l s5)
   let s35:=Ib.l jN;exists _,Z,_,Z,bA,z,true,D,Z,SqT.of<|jN _ _<|s3 _ _ Sa,B,λl2 H6 s6 wR=>?_;let hIs:IsSet ps.f (RL U z++[z]):=by
    show XU.L {λy hy=>?_,YV.L {(XU.G hT.1).2.U _,Vu _ _,λy hy x hx=>by rw[XD.G hx];show(Vc.G hy).2}};rcases Yb.G hy with e|e
    .show hT.1.all y (Vc.G e).1
    .rw[XD.G e];show IW
   let mI:∀y,y∈RL U z++[z]↔(y∈U/\y<z)\/y=z:=λy=>by rw[Yb,Vc,XD]
   let mO:∀y,y∈RL D z↔(0<=y/\y<ps⁻¹)/\y∉U/\y<z:=λy=>by rw[Vc,wF,and_assoc]
   exists w,iA,l2,n,ps,RL U z++[z],RL D z,Z,hW.same<|s35.l s6,hG,MZ s6 hi5,SqT.of wR,hIs,YB (OD ..) B,λy h1 h2=>?_,λc H7 hc s7=>WZ _ _ {s3.l<|jN.l<|s6.l s7,cs++[c],?_,by rw[Xm,el];rfl,λi t d hi hd=>?_}
   .let⟨_,o1,o2⟩:=(mO y).G h2;rcases(mI y).G h1 with e|e
    .show o1 e.1
    .omega
   .rw[YD];show(ZJ _ _).symm
   .cases c1:i<cs.f
    .rw[Yz c1]at hd;show jO i t d hi hd
    .rw[YE B]at hd;let jM:i-cs.f=0:=by
      have:=(Xs.G hd).1
      let h1:([c]:List Nat).f=1:=rfl;omega
     rw[jM]at hd;let rfl:c=d:=Ya hd;let ei:i=j:=B
     rw[ei,hz]at hi;let rfl:=Ya hi;exists _,_,hc,mI,mO
  rintro zs H3 ⟨s3,cs,rfl,el,jO⟩ sA jL;exists sA,_,Z,SqL.of XS,?_;rw[AX];rw[Xv]at el;show q _ _ (nM hT D wF (MM hD) cs el jO) (QL.l<|s3.l<|XH jL)
def wD(ls ns:Ac):(Int):=(ns.H λz=>ls.E z.j 0).sum
inductive spZt(K:Ad)(C:Addr)(vs:List V)(H:Hp)(Q:VK)(_:XK):Prop
 |mk (w a b:Addr) (n:Int) (ps:Aa) (kd ke:Bool) (ls ns:Ac) (_:vs=[.ref w,.ref a,.ref b]) (_:WebAt C H w n ps) (_:ps.f<=30) (_:SqK kd K H a (IL ls)) (_:SqK ke K H b (IL ns)) (_:ls.f=ps.f) (_:IsSet ps.f ns) (_:∀H':Hp,Same H H'->Q (.int<|wD ls ns) H')
def AW(T:Txt K mg t):WR P w base Xd T.qZt 4 (spZt K t.A_Web):=by
 show T.qZt.okI ["web","lengths","ties"] vh λXw A outer s H vs Q E hr h=>?_
 .let⟨w,a,b,n,ps,kd,ke,ls,ns,rfl,hW,p30,hA,hB,hl,hI,q⟩:=h;show⟨_,(XM (ZI<|Xp (LZ T) hr T.qZ9 ZB<|XZ (pv 0)<|XZ (pv 1) XT)
   (XE<|Zm<|Zg (Hg K Z) vi T.n_sum Boot.«sum»<|XZ (SE Z (sc0:=Zd<|top 46) (N0:=["web","lengths","ties"]) (N':=["tie","lengths"]) (o:=1) (fr:=[1]) ⟨Z,vh,vh,vh,Z,vh⟩ (yh K<|Xp (Bo T) hr T.qZd ZB<|XZ (pv 0)<|XZ (pv 2) XT) (Zu vg) (λ_ _ _ _=>(Zc 0)) (λ_ _ _ _=>ZM) λ_ _ _ _=>(Zw (d4 K) (pv 1) (pv 0) λ_ _=>rfl)) XT)),?_⟩
  exists _,Z,_,Z,w,a,n,ps,kd,ls,Z,hW,hA,λ_=>?_,λh=>absurd hl h;exists _,Z,_,Z,w,b,n,ps,ke,ns,Z,hW,hB,hI,λr H1 s1 hr=>?_;let wC:=XU.G hI
  let hlen:=hI.len;exists r,Z,{_,hr},Py (K:=K) (a:=r) (xs:=IL ns) (λi ws H2=>H2=H1/\ws=IL ((ns.R i).H λz=>ls.E z.j 0)/\i<=ns.f) {Z,Z,Yl _} (Zk<|by rw[Xv];omega) (λi ws H2 hi zz=>by let(e,ew,We):=zz;show{e▸hr,by rw[ew,Xv,Xy,Yo];omega}) ?_ ?_
  .rintro i v ws H2 hi ⟨rfl,rfl,Tv⟩ S WZ;let(z,rfl,hz):=Um hi;let(z0,z1):=wC.1 z (Xn hz);obtain⟨y,hy⟩:∃y,ls[z.j]?=some y:={_,XI B};show nm ?_;exists _,Z,_,Z,kd,a,_,_,.int y,Z,Z,hA.same s1,Zy (n:=z.j) B<|So hy,?_;show WZ _ _ {Z,?_,(Xs.G hz).1};let e:ls.E z.j 0=y:=XG hy
   rw[YI,hz,YD,<-e];show(ZJ _ _).symm
  .rintro ws H2 ⟨rfl,rfl,_⟩ lA Gw;exists lA,_,Z,SqL.of XS,?_;rw[Xv,YF];show q _ (s1.l<|XH Gw)
inductive spZu(K:Ad)(C:Addr)(vs:List V)(H:Hp)(Q:VK)(_:XK):Prop
 |mk (w b:Addr) (kd:Bool) (n:Int) (ps:Aa) (ls:Ac) (_:vs=[.ref w,.ref b]) (_:WebAt C H w n ps) (_:Zv n ps) (_:SqK kd K H b (IL ls)) (_:ls.f=ps.f) (_:∀(w':Addr)(H':Hp),Same H H'->WebAt C H' w' n (Wt n.j ps ls)->Q ↑w' H')
def jK{xs:List V}{i:Int}(h0:0<=i)(h1:i<xs⁻¹):PL xs.f i=some i.j:=by unfold PL;rw[if_pos h0,if_pos B]
def HY:FnScope ["web","lengths","made","marks","length","level","merged","spots","tie","ends"] ["web","lengths"] (Zd (top 47)):=Vg vh
def HX(T:Txt K mg t):WR P w base Xd T.qZu 4 (spZu K t.A_Web):=by
 show T.qZu.okI ["web","lengths","made","marks","length","level","merged","spots","tie","ends"] vh λXw A outer s H vs Q E hr h=>?_
 .let⟨w,b,kd,n,ps,ls,rfl,hW,hG,hS,hl,q⟩:=h;show⟨_,(XM (ZI<|Xp (LZ T) hr T.qZ9 ZB<|XZ (pv 0)<|XZ (pv 1) XT)
   (XM (Zh 2<|Zo (Sn K) vi T.n_list Boot.«list»<|XZ (ZN K (pv 0) Z) XT)
   (XM (Zh 3<|Xp (LY T) hr T.qZf ZB<|XZ (pv 0)<|XZ (TU XT) XT)
   (XM (Uu YX Z (ZL K<|Zs3 K Z Z T.n_sorted Z T.n_set<|XZ (pv 1) XT) (gr (i:=4) HY.nd Z<|Or.inr Z)
   (XM (Uq (i:=5) Z HY.nd Z Z (sc0:=Zd<|top 47) (N0:=["web","lengths","made","marks","length","level","merged","spots","tie","ends"]) (N':=["tie","own","length"]) (o:=2) (fr:=[4]) ⟨Z,vh,vh,vh,Z,vh⟩ (mL K Z T.n_enumerate<|XZ (pv 1) XT) (Et<|Oc vg<|Oc vg Eu) (λ_ _ _ _=>(NZ (n:=2) K Z<|Zz (Zc 0)<|Zz (Zc 1) Oh)) (λ_ _ _ _=>(Hh<|Zl PQ (pv 1) (pv 2)<|Zs _)) λ_ _ _ _=>(pv 0))
   (XM (Zh 6<|Xp (Ij T) hr T.qZe ZB<|XZ (pv 0)<|XZ (pv 3)<|XZ (pv 5) XT)
   (XM (Uq (i:=7) Z HY.nd Z Z (sc0:=Zd<|top 47) (N0:=["web","lengths","made","marks","length","level","merged","spots","tie","ends"]) (N':=["mark","later"]) (o:=2) (fr:=[]) ⟨Z,vh,vh,vh,Z,vh⟩ (DF K Z T.n_zip<|XZ (pv 3)<|XZ (pv 6) XT) (Et<|Oc vg<|Oc vg Eu) (λ_ _ _ _=>(NZ (n:=2) K Z<|Zz (Zc 0)<|Zz (Zc 1) Oh)) (λ_ _ _ _=>ZM) λ_ _ _ _=>(JZ (Zl PQ (pv 0) (pv 1)<|Zs _) XN<|pv 0))
   (XM (Uu YX Z (ZL K<|pv 5) (Zc 8)
   (XM (Zh 9<|Zw (Ze K) (ZN K (pv 0) Z) (pv 8) λ_ _=>rfl)
   (XE<|yx (TU<|XZ (Zw (Ze K) (pv 7) (Zw (Zr K) (pv 9) XN λ_ _=>rfl) λ_ _=>rfl)<|XZ (Zw (Ze K) (pv 7) (Zw (Zr K) (pv 9) XN λ_ _=>rfl) λ_ _=>rfl) XT)<|Fl (pv 2) (pv 8) Hj)))
   (XE<|Zh 3<|pv 6))))))
   (XE<|Zm<|t5 T.k_Web (Im T) (hr.mono vg) Z T.c_Web T.bZ8 .nil ZB<|XZ (ZN K (pv 0) Z)<|XZ (pv 2) XT))))),?_⟩
  let(g1,g2,g3,g4):=id hG;let(dx,tl,xs,h1,h2,h3):=id hW;let RD:=h3.1
  exists _,Z,_,Z,w,b,n,ps,kd,ls,Z,hW,hS,λ_=>?_,λh=>absurd hl h;exists _,Z,w,_,dx,_,_,Z,h1,T.cl_Web,T.n_Web_ties,Pz _ _,tl,xs,Z,.inl<|SqL.of h2,λmd wQ=>?_;let u1:=XH (o:=.lst xs) wQ
  let m1:=XS (H:=H) (a:=md) (o:=.lst xs);generalize upd H md (.lst xs)=H1 at *;show nm ?_;dsimp only;exists _,Z,Yl _,λt0 ht0=>?_;let u2:=XH (o:=.tup []) ht0
  exists w,t0,n,ps,[],Z,hW.same<|u1.l u2,hG,SqT.of XS,λz hz=>(by cases hz),λm0 H2 s2 Qn Wf=>?_;let u3:=u2.l s2
  let md0:m0≠md:=XO (Zb (u2 _ _ m1) Qn);let m2:=u3 _ _ m1
  let t2:=u1.l u3;let AV:H md=none:=wQ
  show nm ?_;dsimp only;exists _,Z,kd,b,ls,Z,hS.same t2,B,λLs KP Ub lA Gw=>?_;let u4:=XH (o:=.lst<|IL Ls) Gw
  let lmd:lA≠md:=XO (Zb m2 Gw);let Bi:=XS (H:=H2) (a:=lA) (o:=.lst<|IL Ls)
  let m4:=u4 _ _ m2;let hm4:=u4 _ _ Wf
  let t4:=t2.l u4;exists lA,Z,{_,SqL.of Bi},?_;generalize upd H2 lA (.lst<|IL Ls)=H4 at *;show Fd (K:=K) (a:=lA) (xs:=IL Ls) (λj σ H5=>∃(m:Addr)(S:Ac)(ys:List V)(v4 v5 v6 v7 v8 v9:Option V),σ=[some ↑w,some<|.ref b,some<|.ref md,some<|.ref m,v4,v5,v6,v7,v8,v9]/\Same H H5/\m≠md/\H5 m=some (.lst<|IL<|Xl n.j<|XR ps S)/\(∀z,z∈S↔(0<=z/\z<ps⁻¹)/\Xu ls z∈Ls.R j)/\H5 md=some (.lst ys)/\PairsV H5 ys (RE n.j ps ls λi=>ls.E i 0∈Ls.R j)/\H5 lA=some (.lst<|IL Ls))
   {m0,[],xs,none,none,none,none,none,none,Z,t4,md0,hm4,λz=>{λh=>(by cases h),λh=>(by cases h.2)},m4,(by rw[mX λi _ h=>(by cases h)];show h3.same t4),Bi} (λj σ H5 _ zz=>by let(_,_,_,_,_,_,_,_,_,_,_,_,_,_,_,_,e):=zz;show SqL.of e) ?_ ?_
  .rintro j v σ H5 hj ⟨m,S,ys,v4,v5,v6,v7,v8,v9,rfl,s5,mmd,Gy,jJ,wB,wA,Gv⟩;let(x,rfl,hx):=Um hj;show nm ?_;dsimp only;exists _,Z,b,kd,Z,{_,hS.same s5},Cz (K:=K) (kd:=kd) (a:=b) (xs:=IL ls) (λi zs H6=>Same H5 H6/\zs=IL (lvl ls x i)) {Same.refl _,Z} (Zk<|by rw[Xv];omega) (λi zs H6 hi zz=>by let(e,ez):=zz;show{hS.same<|s5.l e,by rw[ez,Xv];show(cG ls x i).len}) ?_ ?_
   .rintro i v zs H6 pt RZ hi ⟨s6,rfl⟩ SS WZ;let(y,rfl,hy):=Um hi;let s7:=XH (o:=.tup [.int i,.int y]) RZ
    exists pt,_,Z,SqT.of XS,Z,_,_,Z,_,_,Z,Z,?_;let Gx:=s6.l s7
    let ey:ls.E i 0=y:=XG hy;exists _,Z,_,Z,Z,_,Z,?_;rw[ZO];show WN (λhe=>?_) (λhe=>?_)
    .exists _,Z,WZ _ _ {Gx,?_};rw[CF,if_pos (ey.l he)];show(ZJ ..).symm
    .show WZ _ _ {Gx,?_};rw[CF,if_neg λh=>he<|ey.symm.l h,WH]
   rintro zs H6 ⟨s6,rfl⟩ lv hlv;rw[Xv,hl];let s7:=XH (o:=.lst<|IL<|lvl ls x ps.f) hlv
   let hv7:=XS (H:=H6) (a:=lv) (o:=.lst<|IL<|lvl ls x ps.f);let hy6:=s6 _ _ wB
   let jI:lv≠md:=XO (Zb hy6 hlv);let SN:=s6.l s7
   generalize upd H6 lv (.lst<|IL<|lvl ls x ps.f)=H7 at *;show nm ?_;dsimp only;let(up1,up2,up3):=mT hG hl KP Ub hx jJ;let DW:=mU hG hl KP Ub hx jJ
   exists _,Z,_,Z,_,Z,w,m,lv,n,ps,_,false,lvl ls x ps.f,Z,(hW.same s5).same SN,hG,SN _ _ Gy,Zn _ _,SqL.of hv7,(cG ls x ps.f).all,λm' H8 s8 NY wz=>?_;rw[up1]at wz;let wZ:=SN _ _ wB
   let hy8:=s8 _ _ wZ;let AU:m'≠md:=by
    rcases NY with e|e
    .rw[e];show mmd
    .show XO (Zb wZ e)
   let s58:=SN.l s8;let AS:=s58 _ _ Gy
   show nm ?_;dsimp only;show⟨_,Z,_,Z,m,m',Z,{_,_,SqL.of AS,SqL.of wz},DC (K:=K) (a:=m) (b:=m') (xs:=IL<|Xl n.j<|XR ps S) (ys:=IL<|Xl n.j<|XR ps<|S++lvl ls x ps.f) (λi zs H9=>Same H8 H9/\i<=n.j/\zs=IL ((List.range i).H (WX n.j ps ls x))) {Same.refl _,Yl _,Z} (by rw[Xv,Xv,Zn,Zn]) (Zk<|by rw[Xv,Zn];omega)
    (λi zs H9 hi zz=>by let(e,We,ez):=zz;show{SqL.of<|e _ _ AS,SqL.of<|e _ _ wz,by rw[ez,Xv,Xy,YY];show XQ _}) ?_ ?_⟩
   .rintro i u v zs H9 pt RZ hu hv ⟨s9,Tv,rfl⟩ SS WZ;let(a1,rfl,ha1):=Um hu;let(b1,rfl,KY):=Um hv;let Wc:i<n.j:=by have:=(Xs.G ha1).1;rwa[Zn]at this
    let SM:=XH (o:=.tup [.int a1,.int b1]) RZ;exists pt,_,Z,SqT.of XS,Z,_,_,Z,_,_,Z,Z,?_;let ea:mk (mA n.j ps ls x) i=a1:=by rw[<-DW];unfold mk;show XG ha1
    let eb:mk (mB n.j ps ls x) i=b1:=by rw[<-up2];unfold mk;show XG KY
    let es:∀y:Int,(if a1=b1 then 0 else a1)=y->IL ((List.range i).H (WX n.j ps ls x))++[V.int y]=IL ((List.range<|i+1).H (WX n.j ps ls x)):=λy hy=>by
     rw[Kt,YD];change _=IL (_++[WX n.j ps ls x i])
     unfold WX;rw[ea,eb,hy];show(ZJ ..).symm
    exists _,Z,_,Z,Z,_,Z,?_;rw[ZO];show WN (λhe=>?_) (λhe=>?_)
    .show WZ _ _ {s9.l SM,Wc,es 0<|if_pos he}
    .exists _,Z,WZ _ _ {s9.l SM,Wc,es a1<|if_neg he}
   rintro zs H9 ⟨s9,_,rfl⟩ sp TR;rw[Xv,Zn];let SM:=XH (o:=.lst<|IL<|(List.range n.j).H (WX n.j ps ls x)) TR
   let AR:=XS (H:=H9) (a:=sp) (o:=.lst<|IL<|(List.range n.j).H (WX n.j ps ls x));let hy9:=s9 _ _ hy8
   let jH:sp≠md:=XO (Zb hy9 TR);let HW:=s58.l (s9.l SM)
   let HV:=s9.l SM;generalize upd H9 sp (.lst<|IL<|(List.range n.j).H (WX n.j ps ls x))=wH at *;let jG:=HV _ _ wz
   let AQ:=HV _ _ (s8 _ _ hv7);let jF:=HV _ _ hy8
   let jE:=wA.same HW;let jD:=HW _ _ Gv
   let t10:=s5.l HW;show nm ?_;dsimp only;exists _,Z,lv,Z,{_,SqL.of AQ},Fd (K:=K) (a:=lv) (xs:=IL<|lvl ls x ps.f) (λk σ OI=>∃(ys:List V)(v8 v9:Option V),σ=[some ↑w,some<|.ref b,some<|.ref md,some<|.ref m,some<|.int x,some<|.ref lv,some<|.ref m',some<|.ref sp,v8,v9]/\(∀a o,a≠md->wH a=some o->OI a=some o)/\OI md=some (.lst ys)/\PairsV OI ys (RE n.j ps ls λi=>ls.E i 0∈Ls.R j\/(i:Int)∈(lvl ls x ps.f).R k)) {ys,_,_,Z,λ_ _ _ h=>h,jF,(by rwa[cF (q:=λi=>ls.E i 0∈Ls.R j) λi _=>{λh=>h.elim id λh=>(by cases h),.inl}])} (λk σ OI _ zz=>by let(_,_,_,_,e,_):=zz;show SqL.of<|e _ _ jI AQ) ?_ ?_
   .rintro k v σ OI hk ⟨ys,v8,v9,rfl,kp,LS,OG⟩;let(z,rfl,hz):=Um hk;let(zb,zl):=VM.G (Xn hz);let AO:Same H OI:=λa o e=>kp a o (Zb e AV) (t10 a o e)
    obtain⟨p,hp⟩:∃p,ps[z.j]?=some p:={_,XI B};let(vv,hvv,tt,rfl,Ql):=h3.2 z.j p hp;let(e1,e2,e3,e4):=g4 p (Xn hp);let ed:ps.E z.j (0,0)=p:=XG hp
    let Kz:=kp _ _ jH AR;let AN:=AO _ _ Ql
    show nm ?_;dsimp only;exists _,Z,w,_,dx,_,_,Z,AO _ _ h1,T.cl_Web,T.n_Web_ties,Pz _ _,_,Z,tl,xs,z,.ref tt,Z,Z,SqL.of<|AO _ _ h2,Zy (n:=z.j) B hvv,?_;show nm ?_;dsimp only;let at_:∀y:Int,0<=y->y<n->Vq (IL<|(List.range n.j).H (WX n.j ps ls x)) y=some (.int<|WX n.j ps ls x y.j):=λy y0 y1=>Zy (n:=y.j) B (by rw[Yk,Yk,OA B];rfl)
    let c0:Vq ([.int p.1,.int p.2]:List V) 0=some (.int p.1):=rfl;let c1:Vq ([.int p.1,.int p.2]:List V) 1=some (.int p.2):=rfl
    exists _,Z,_,Z,tt,_,0,_,Z,Z,SqT.of AN,c0,sp,_,p.1,_,Z,Z,SqL.of Kz,at_ p.1 e1 e2,_,Z,_,Z,tt,_,1,_,Z,Z,SqT.of AN,c1,sp,_,p.2,_,Z,Z,SqL.of Kz,at_ p.2 e3 e4,(by change 2<=sizeLine;decide),λtA OK=>?_;let Iu:=XH (o:=.tup [.int (WX n.j ps ls x p.1.j),.int (WX n.j ps ls x p.2.j)]) OK
    let AM:=Iu _ _ LS;let jC:=XS (H:=OI) (a:=tA) (o:=.tup [.int (WX n.j ps ls x p.1.j),.int (WX n.j ps ls x p.2.j)])
    let tmd:tA≠md:=XO (Zb LS OK);let AL:=OG.same Iu
    let yl:ys.f=ps.f:=by rw[AL.1,mY]
    exists _,Z,_,Z,md,_,_,z.j,Z,Z,AM,jK zb.1 B,?_;exists ys.set z.j<|.ref tA,some<|.int z,some<|.ref tt,Z,λa o ha e=>?_,XS,?_
    .rw[Za ha];show Iu _ _ (kp a o ha e)
    .let e5:(WX n.j ps ls x p.1.j,WX n.j ps ls x p.2.j)=xq n.j ps ls z.j:=by unfold xq;rw[ed,show ls.E z.j 0=x from zl]
     let hP:=(AL.mut (l:=md) (zs:=ys.set z.j<|.ref tA) AM).set z.j (v:=.ref tA) (p:=(WX n.j ps ls x p.1.j,WX n.j ps ls x p.2.j)) {tA,Z,by rwa[Za tmd]};rw[e5,mV (q:=λi=>ls.E i 0∈Ls.R j\/(i:Int)∈(lvl ls x ps.f).R (k+1)) λi _=>?_]at hP
     .show hP
     .rw[YI,hz];change _\/(i:Int)∈(lvl ls x ps.f).R k++[z]↔_
      rw[Yb,XD,or_assoc]
      have:(i:Int)=z↔i=z.j:=B
      rw[this]
   rintro σ OI ⟨ys',v8,v9,rfl,kp,LS,OG⟩;rw[Xv,YF]at OG;let AO:Same H OI:=λa o e=>kp a o (Zb e AV) (t10 a o e)
   exists _,Z,?_;show nm ?_;exists m',S++lvl ls x ps.f,ys',_,_,_,_,_,_,Z,AO,AU,kp _ _ AU jG,up3,LS,?_,kp _ _ lmd jD;rw[cF (q:=λi=>ls.E i 0∈Ls.R (j+1)) λi hi=>?_]at OG
   .show OG
   .rw[YI,hx];change _↔ls.E i 0∈Ls.R j++[x]
    rw[Yb,XD,VM];let e:Xu ls (i:Int)=ls.E i 0:=by unfold Xu;rw[Yy]
    rw[e];constructor
    .rintro(h|h)
     .show .inl h
     .show .inr h.2
    .rintro(h|h)
     .show .inl h
     .show .inr {⟨B,B⟩,h}
  rintro σ H5 ⟨m,S,ys,v4,v5,v6,v7,v8,v9,rfl,s5,mmd,Gy,jJ,wB,wA,Gv⟩;rw[Xv,YF,mW λi hi=>(Ub _).L (by rw[WW,XI (show i<ls.f by omega)];show QE _)]at wA;exists _,Z,w,_,dx,_,_,Z,s5 _ _ h1,T.cl_Web,T.n_Web_places,ZU _ _,_,Z,λw2 Ic jB jA jz=>?_;let v2:Same H5 (upd (upd H5 Ic<|.own w2) w2<|.ins t.A_Web Ic []):=ZF (XH jA) (by rwa[Za (XO jz)])
  exists w2,Ic,n,md,false,ys,_,Z,XS,λo=>(Zp jB v2).seq (SqL.of wB),wA.same v2,xu hG hl,λH6 wy k6=>{Z,?_};let v3:Same H5 H6:=λb o e=>k6 b o (v2 b o e) (Zb e jB)
  show q w2 H6 (s5.l v3) wy
inductive spZv(K:Ad)(C:Addr)(vs:List V)(H:Hp)(Q:VK)(_:XK):Prop
 |mk (w b:Addr) (kd:Bool) (n:Int) (ps:Aa) (ls:Ac) (_:vs=[.ref w,.ref b]) (_:WebAt C H w n ps) (_:Zv n ps) (_:SqK kd K H b (IL ls)) (_:ls.f=ps.f) (_:(∀(U:Ac)(r:Addr)(H':Hp),Zf n (Wt n.j ps ls) U->(∀W,Zf n (Wt n.j ps ls) W->HT.lexLt W U=false)->Same H H'->H' r=some (.tup<|IL U)->Q ↑r H')) (_:((∀W,¬Zf n (Wt n.j ps ls) W)->∀H':Hp,Same H H'->False))
def jy(T:Txt K mg t):WR P w base Xd T.qZv 8 (spZv K t.A_Web):=by
 show T.qZv.okI ["web","lengths"] vh λXw A outer s H vs Q E hr h=>?_
 .let⟨w,b,kd,n,ps,ls,rfl,hW,hG,hS,hl,q,qe⟩:=h;exists _,(XE<|Zm<|Xp (jR T) hr T.qZq ZB<|XZ (Xp (HX T) hr T.qZu ZB<|XZ (pv 0)<|XZ (pv 1) XT) XT),?_;exists _,Z,_,Z,w,b,kd,n,ps,ls,Z,hW,hG,hS,hl,λw2 H1 s1 AK=>?_;let hC:=xu hG hl
  exists w2,n,_,Z,AK,hC,λhf r H2 s2 hr=>?_,λhf H2 s2=>?_
  .show q _ r H2 (eO hC hf) (λW hV=>ZI8 hC hV) (s1.l s2) hr
  .show qe (λW hV=>?_) H2 (s1.l s2)
   have:=(eQ hC hV).2.1
   omega
inductive spZw(K:Ad)(C:Addr)(vs:List V)(H:Hp)(Q:VK)(E:XK):Prop
 |mk (w b:Addr) (n:Int) (ps:Aa) (ls:Ac) (_:vs=[.ref w,.ref b]) (_:WebAt C H w n ps) (_:Zv n ps) (_:SqL K H b (IL ls)) (_:ls.f=ps.f) (_:∀(c:Nat)(H':Hp),TC n (Wt n.j ps ls) c->Same H H'->Q (.int c) H')
def AJ(T:Txt K mg t):WR P w base Xd T.qZw 8 (spZw K t.A_Web):=by
 show T.qZw.okI ["web","lengths"] vh λXw A outer s H vs Q E hr h=>?_
 .let⟨w,b,n,ps,ls,rfl,hW,hG,hS,hl,q⟩:=h;exists _,(XE<|Zm<|Xp (Bh T) hr T.qZl ZB<|XZ (Xp (HX T) hr T.qZu ZB<|XZ (pv 0)<|XZ (pv 1) XT) XT),?_;exists _,Z,_,Z,w,b,false,n,ps,ls,Z,hW,hG,hS,hl,λw2 H1 s1 AK=>?_;exists w2,n,_,Z,AK,xu hG hl,λc H2 hc s2=>q c H2 hc<|s1.l s2
inductive spZx(K:Ad)(C:Addr)(vs:List V)(H:Hp)(Q:VK)(E:XK):Prop
 |mk (w b a:Addr) (n:Int) (ps:Aa) (ls:Ac) (kd:Bool) (U:Ac) (_:vs=[.ref w,.ref b,.ref a]) (_:WebAt C H w n ps) (_:Zv n ps) (_:SqL K H b (IL ls)) (_:ls.f=ps.f) (_:SqK kd K H a (IL U)) (_:Zf n (Wt n.j ps ls) U) (_:∀(r:Nat)(H':Hp),Rk n (Wt n.j ps ls) U r->Same H H'->Q (.int r) H')
def jx(T:Txt K mg t):WR P w base Xd T.qZx 10 (spZx K t.A_Web):=by
 show T.qZx.okI ["web","lengths","tree"] vh λXw A outer s H vs Q E hr h=>?_
 .let⟨w,b,a,n,ps,ls,kd,U,rfl,hW,hG,hS,hl,hA,hU,q⟩:=h;exists _,(XE<|Zm<|Xp (jP T) hr T.qZs ZB<|XZ (Xp (HX T) hr T.qZu ZB<|XZ (pv 0)<|XZ (pv 1) XT)<|XZ (pv 2) XT),?_;exists _,Z,_,Z,w,b,false,n,ps,ls,Z,hW,hG,hS,hl,λw2 H1 s1 AK=>?_;exists _,Z,w2,a,n,_,kd,U,Z,AK,xu hG hl,hA.same s1,hU,λr H2 hR s2=>q r H2 hR<|s1.l s2
def HU(n:Int)(ps:Aa)(os ins outs:Ac):(Ac):=WY n.j ps (ins++os.U λz=>decide<|z∉outs)
inductive spZy(K:Ad)(C:Addr)(vs:List V)(H:Hp)(Q:VK)(_:XK):Prop
 |mk (w a o i u:Addr) (n:Int) (ps:Aa) (kd:Bool) (ls os ins outs:Ac) (_:vs=[.ref w,.ref a,.ref o,.ref i,.ref u]) (_:WebAt C H w n ps) (_:Zv n ps) (_:SqK kd K H a (IL ls)) (_:ls.f=ps.f) (_:SqL K H o (IL os)) (_:os.f<=100) (_:os.Nodup) (_:(∀z∈os,0<=z/\z<ps⁻¹)) (_:SqT K H i (IL ins)) (_:SqT K H u (IL outs)) (_:ins.f<=100) (_:outs.f<=10000) (_:(∀z∈ins,0<=z/\z<ps⁻¹)) (_:(HU n ps os ins outs).Nodup) (_:(¬((HU n ps os ins outs).R ins.f=ins/\¬((HU n ps os ins outs).f:Int)<n-1)->∀(r:Addr)(H':Hp),Same H H'->H r=none->H' r=some (.lst [])->Q ↑r H')) (_:((HU n ps os ins outs).R ins.f=ins->¬((HU n ps os ins outs).f:Int)<n-1->∀(ms:Ac)(r tp tr:Addr)(H':Hp),ms.Perm (HU n ps os ins outs)->ms.Q (·<=·)->Same H H'->H r=none->H tp=none->H' r=some (.lst [.ref tp])->H' tp=some (.tup [.int (wD ls ms),.ref tr,.ref i,.ref u])->H' tr=some (.tup<|IL ms)->Q ↑r H'))
def AI(T:Txt K mg t):WR P w base Xd T.qZy 5 (spZy K t.A_Web):=by
 show T.qZy.okI ["web","lengths","order","inside","outside","tree"] vh λXw A outer s H vs Q E hr h=>?_
 .let⟨w,a,o,i,u,n,ps,kd,ls,os,ins,outs,rfl,hW,hG,hA,Wa,hO,Ra,wx,hoz,hI,hU,Tv,fG,hiz,hgn,q0,q1⟩:=h;show⟨_,(XM (Zh 5<|Xp (Bc T) hr T.qZp ZB<|XZ (pv 0)<|XZ (pv 3)<|XZ (SE Z (sc0:=Zd<|top 52) (N0:=["web","lengths","order","inside","outside","tree"]) (N':=["tie","outside"]) (o:=1) (fr:=[4]) ⟨Z,vh,vh,vh,Z,vh⟩ (ZL K<|pv 2) (Zu vg) (λ_ _ _ _=>(Zc 0)) (λ_ _ _ _=>(Hh<|Zl (MU K) (pv 0) (pv 1) Z)) λ_ _ _ _=>(pv 0)) XT)
   (XM (Wm (Zl EU (pv 5) yB<|Zs _)
   (XE<|Zm<|TB XT)
   Zq)
   (XE<|Zm<|TB<|XZ (TU<|XZ (Xp (AW T) hr T.qZt ZB<|XZ (pv 0)<|XZ (pv 1)<|XZ (pv 5) XT)<|XZ (pv 5)<|XZ (pv 3)<|XZ (pv 4) XT) XT))),?_⟩
  let one:1<=sizeLine:=vg;let four:4<=sizeLine:=vg
  let fl:∀l:Ac,(l.U λz=>decide<|z∉outs).f<=l.f:=λl=>OD _ _;exists _,Z,_,Z,_,Z,o,Z,{_,hO},Qt (K:=K) (a:=o) (xs:=IL os) (λj ys H2=>H2=H/\j<=os.f/\ys=IL ((os.R j).U λz=>decide<|z∉outs)) {Z,Yl _,Z} (Zk<|by rw[Xv];omega) (λj ys H2 hj zz=>by let(e,Pf,ey):=zz;show{e▸hO,by rw[ey,Xv];show YB (fl _)<|by rw[Yo];omega}) ?_ ?_
  .rintro j v ys H2 hj ⟨rfl,MO,rfl⟩ S WZ;let(z,rfl,hz):=Um hj;let UC:j<os.f:=(Xs.G hz).1
   show nm ?_;exists _,Z,_,Z,u,_,Z,.inr hU,Z,MP outs,_,Z,?_;rw[MQ];let et:os.R (j+1)=os.R j++[z]:=by rw[YI,hz];rfl
   show VF (λhc=>?_) (λhc=>?_)
   .show WZ _ _ {Z,UC,?_};rw[et,Qj,UA (by simp[hc]),Hv,WH]
   .exists _,Z,WZ _ _ {Z,UC,?_};rw[et,Qj,NL (by simp[hc]),Hv,ZJ]
  rintro ys H2 ⟨rfl,_,rfl⟩ d hd;rw[Xv,YF];let s1:=XH (o:=.lst<|IL<|os.U λz=>decide<|z∉outs) hd
  let h1:(upd H2 d<|.lst<|IL<|os.U λz=>decide<|z∉outs) d=some (.lst<|IL<|os.U λz=>decide<|z∉outs):=XS;generalize upd H2 d (.lst<|IL<|os.U λz=>decide<|z∉outs)=H1 at *;let WA:∀z∈ins++os.U λz=>decide<|z∉outs,0<=z/\z<ps⁻¹:=λz hz=>by
   rcases Yb.G hz with hz|hz
   .show hiz z hz
   .show hoz z (Yj.G hz).1
  exists w,i,d,n,ps,true,false,ins,os.U λz=>decide<|z∉outs,Z,hW.same s1,hG,SqK.same (k:=true) s1 hI,SqL.of h1,B,YB (fl os) B,WA,λUD H3 s3=>?_,λh2 h3 r ms H3 hp hs s3 TY OH=>?_
  .show nm ?_;dsimp only;exists _,Z,Z,_,Z,?_;show Ei Z ?_;exists Yl _,λr hr=>?_;show q0 (λzz=>?_) r _ ((s1.l s3).l (XH hr)) ((s1.l s3).free hr) XS;let(h2,h3):=zz;rcases UD with h|h
   .show h h2
   .show h3 h
  .show nm ?_;dsimp only;exists _,Z,Z,_,Z,?_;show MX (λz=>by cases z) ?_;let LR:=s1.l s3
   let Sh:∀z∈ms,z∈HU n ps os ins outs:=λz hz=>hp.mem_iff.G hz;let jw:IsSet ps.f ms:=XU.L {λz hz=>eJ WA z<|Sh z hz,?_}
   .exists _,Z,_,Z,_,Z,w,a,r,n,ps,kd,true,ls,ms,Z,hW.same LR,hG.2.2.1,hA.same LR,SqT.of OH,Wa,jw,λH4 s4=>?_;exists _,Z,_,Z,_,Z,four,λtp Qm=>?_;let jv:=LR.l s4
    let u5:=XH (o:=.tup [.int (wD ls ms),.ref r,.ref i,.ref u]) Qm;exists one,λl hl=>?_;let u6:=XH (o:=.lst [.ref tp]) hl
    show q1 h2 h3 ms l tp r _ hp hs ((jv.l u5).l u6) ((jv.l u5).free hl) (jv.free Qm) XS (u6 _ _ XS) ((u5.l u6) _ _<|s4 _ _ OH)
   .let Sf:ms.Nodup:=hp.nodup_iff.L hgn;show(hs.and Sf).imp λzz=>by let(x,y):=zz;omega
def EV(K:Ad)(H:Hp)(ls:Ac)(v:V)(E:Ent):(Prop):=∃tp tr ti to:Addr,v=.ref tp/\H tp=some (.tup [.int (XW ls E.T),.ref tr,.ref ti,.ref to])/\H tr=some (.tup<|IL E.T)/\SqT K H ti (IL E.I)/\SqT K H to (IL E.O)
def EV.same{K:Ad}{H H':Hp}{ls:Ac}{v:V}{E:Ent}(s:Same H H')(h:EV K H ls v E):EV K H' ls v E:=by let(tp,tr,ti,to,e,h1,h2,h3,h4):=h;exists tp,tr,ti,to,e,s _ _ h1,s _ _ h2,SqK.same (k:=true) s h3,SqK.same (k:=true) s h4
def ju{K:Ad}{H:Hp}{r a:Addr}{xs zs:List V}{o:HO}(hr:H r=some (.lst zs))(h:SqT K H a xs):SqT K (upd H r o) a xs:=by
 rcases h with (h|⟨u,h⟩)|h
 .show .inl (.inl<|by rwa[Za (Vs h hr AP)])
 .show .inl (.inr {u,by rwa[Za (Vs h hr AP)]})
 .show .inr h
def EV.put{K:Ad}{H:Hp}{ls:Ac}{v:V}{E:Ent}{r:Addr}{zs:List V}{o:HO}(hr:H r=some (.lst zs))(h:EV K H ls v E):EV K (upd H r o) ls v E:=by let(tp,tr,ti,to,e,h1,h2,h3,h4):=h;exists tp,tr,ti,to,e,by rw[Za (Vs h1 hr AP)];show h1,by rw[Za (Vs h2 hr AP)];show h2,ju hr h3,ju hr h4
def ZT9{K:Ad}{H:Hp}{a b:Addr}{xs ys:List V}{Q:VK}(ha:SqT K H a xs)(hb:SqT K H b ys)(hy:ys≠[])(hz:xs.f+ys.f<=sizeLine)(q:∀(p:Addr)(H':Hp),Same H H'->SqT K H' p (xs++ys)->Q ↑p H'):MI K ↑a ↑b H Q:=
 {a,b,xs,ys,Z,Z,ha,hb,hz,λe=>q b H (Same.refl _) (by rwa[e]),λ_ e=>absurd e hy,λ_ _ p hp=>q p _ (XH hp)<|SqT.of XS}
inductive spZz(K:Ad)(C:Addr)(vs:List V)(H:Hp)(Q:VK)(_:XK):Prop
 |mk (w a o tk:Addr) (n:Int) (ps:Aa) (kd:Bool) (ls os:Ac) (E:Ent) (_:vs=[.ref w,.ref a,.ref o,.ref tk]) (_:WebAt C H w n ps) (_:Zv n ps) (_:SqK kd K H a (IL ls)) (_:ls.f=ps.f) (_:SqL K H o (IL os)) (_:OO ls ps.f os) (_:EV K H ls ↑tk E) (_:EOk n ps ls E) (_:∀(ys:List V)(Es:List Ent)(r:Addr)(H':Hp),FB n ps ls E E.T Es->Es.f<=14->Bears (EV K H' ls) ys Es->Same H H'->H r=none->H' r=some (.lst ys)->Q ↑r H')
def jt(T:Txt K mg t):WR P w base Xd T.qZz 6 (spZz K t.A_Web):=by
 show T.qZz.okI ["web","lengths","order","taken","inside","outside","firsts","tie"] vh λXw A outer s H vs Q E hr h=>?_
 .let⟨w,a,o,tk,n,ps,kd,ls,os,E,rfl,hW,hG,hA,Wa,hO,ho,hV,hE,q⟩:=h;show⟨_,(XM (Zh 4<|Zw (Zr K) (pv 3) XN λ_ _=>rfl)
   (XM (Zh 5<|Zw (Zr K) (pv 3) XN λ_ _=>rfl)
   (XM (Zh 6<|TB XT)
   (XM (Uu YX Z (yh K<|Zw (Zr K) (pv 3) XN λ_ _=>rfl) (Zc 7)
   (XE (Wm (Zl (MU K) (pv 7) (pv 4) Z)
   (XM (ZI<|Ul K YO wg wj tD (pv 6)<|XZ (Xp (AI T) hr T.qZy ZB<|XZ (pv 0)<|XZ (pv 1)<|XZ (pv 2)<|XZ (pv 4)<|XZ (Zt (xX K) (pv 5)<|TU<|XZ (pv 7) XT) XT) XT)
   (XE<|Zh 4<|Zt (xX K) (pv 4)<|TU<|XZ (pv 7) XT))
   Zq)))
   (XE<|Zm<|pv 6))))),?_⟩
  let(tp,tr,ti,to,e,h1,h2,h3,h4):=hV;cases e;exists _,Z,tk,_,2,.ref ti,Z,Z,SqT.of h1,Z,?_;show nm ?_;dsimp only;exists _,Z,tk,_,3,.ref to,Z,Z,SqT.of h1,Z,?_;show nm ?_;dsimp only;exists Yl _,λr hr=>?_;let u0:=XH (o:=.lst []) hr
  let js:E.T⁻¹=n-1:=hE.own.1.2.1;let hG2:=hG.2.1
  let cZ:=hG.2.2.1;let one:1<=sizeLine:=vg
  let z1:100000<=sizeLine:=vg;let Sf:E.T.Nodup:=hE.own.1.1.nodup
  let Ra:os.f=ps.f:=by rw[ho.1.length_eq,ZR]
  let wx:os.Nodup:=ho.2.imp λh e=>by rw[e]at h;lia
  show nm ?_;dsimp only;exists _,Z,tk,_,1,.ref tr,Z,Z,SqT.of<|u0 _ _ h1,Z,tr,Z,⟨_,SqT.of<|u0 _ _ h2⟩,uB (K:=K) (a:=tr) (xs:=IL E.T) (λj σ H2=>∃(iA:Addr)(v7:Option V)(ys:List V)(Es:List Ent),σ=[some ↑w,some<|.ref a,some<|.ref o,some<|.ref tk,some<|.ref iA,some<|.ref to,some<|.ref r,v7]/\j<=E.T.f/\Same H H2/\SqT K H2 iA (IL<|Xh E<|E.T.R j)/\H2 r=some (.lst ys)/\Bears (EV K H2 ls) ys Es/\FB n ps ls E (E.T.R j) Es/\Es.f<=j) {ti,none,[],[],Z,Yl _,u0,?_,XS,{Z,λi a h=>by cases h},FB.nil,XQ _} (λj σ H2 _ zz=>by let(_,_,_,_,_,_,s2,_):=zz;show SqT.of<|s2 _ _ h2) ?_ ?_
  .rw[show Xh E (E.T.R 0)=E.I by unfold Xh;rw[List.take_zero,Hv,WH]];show SqK.same (k:=true) u0 h3
  rotate_left
  .rintro σ H2 ⟨iA,v7,ys,Es,rfl,_,s2,_,Wd,hB,hF,hlen⟩;rw[Xv,YF]at hF;exists _,Z,q ys Es r H2 hF (by rw[Xv]at hlen;lia) hB s2 hr Wd
  rintro j v σ H2 hj ⟨iA,v7,ys,Es,rfl,MO,s2,AH,Wd,hB,hF,hlen⟩;let(z,rfl,hz):=Um hj;let UC:j<E.T.f:=(Xs.G hz).1
  let et:E.T.R (j+1)=E.T.R j++[z]:=by rw[YI,hz];rfl
  let hzT:z∈E.T:=Xn hz;let GF:z∉E.T.R j:=λhm=>by
   have:=Sf.sublist (HG (j+1) E.T)
   rw[et]at this;show(VR.G this).2.2 z hm z (XD.L Z) rfl
  let hb:=hE.own.1.1.all z hzT;show nm ?_;dsimp only;exists _,Z,_,Z,iA,_,Z,.inr AH,Z,MP _,_,Z,?_;rw[MQ];show VF (λhc=>?_) (λhc=>?_)
  .let GG:z∈E.I:=(WL.G hc).resolve_right GF;change(_:Prop)
   exists iA,_,ys,Es,Z,UC,s2,?_,Wd,hB,?_,J
   .let ei:Xh E (E.T.R<|j+1)=Xh E (E.T.R j):=by unfold Xh;rw[et,Qj,UA (by simp[GG]),Hv,WH]
    rwa[ei]
   .rw[et];show hF.skip GG
  .let GG:z∉E.I:=λh=>hc (WL.L<|.inl h);let ei:Xh E (E.T.R<|j+1)=Xh E (E.T.R j)++[z]:=by unfold Xh;rw[et,Qj,NL (by simp[GG]),Hv,QF]
   let jr:∀y∈Xh E (E.T.R j),0<=y/\y<ps⁻¹:=λy hy=>hE.own.1.1.all y ((WL.G hy).elim (hE.own.2.1 y) λh=>NJ h);let au:(Xh E<|E.T.R j).f<=100:=by
    have:=hE.iL
    unfold Xh;rw[Xm]
    have:=OD (λz=>decide<|z∉E.I) (E.T.R j)
    rw[Yo]at this;lia
   let hOl:=hE.oL;let fin:∀(zs:List V)(Fs:List Ent)(H4:Hp)(r3:Addr),Same H2 H4->H4 r3=some (.lst zs)->zs.f<=1->Bears (EV K H4 ls) zs Fs->FB n ps ls E (E.T.R j++[z]) (Es++Fs)->Fs.f<=1->
     fL ↑r [.ref r3] H4 λ_ H5=>tAsg (Fc (MI K) (tVar 4)<|EN<|JP (tVar 7) JQ) (PY 4) {nx:=λσ H'=>∃(iA:Addr)(v7:Option V)(ys:List V)(Es:List Ent),σ=[some ↑w,some<|.ref a,some<|.ref o,some<|.ref tk,some<|.ref iA,some<|.ref to,some<|.ref r,v7]/\j+1<=E.T.f/\Same H H'/\SqT K H' iA (IL<|Xh E<|E.T.R<|j+1)/\H' r=some (.lst ys)/\Bears (EV K H' ls) ys Es/\FB n ps ls E (E.T.R<|j+1) Es/\Es.f<=j+1,rt:=Q} [some ↑w,some<|.ref a,some<|.ref o,some<|.ref tk,some<|.ref iA,some<|.ref to,some<|.ref r,some (.int z)] H5:=by
    intro zs Fs H4 r3 s4 OH IW Je lE Ky;let NR:ys.f=Es.f:=hB.1
    exists r,r3,ys,zs,Z,Z,s4 _ _ Wd,OH,J,?_;exists _,Z,_,Z,one,λt2 OM=>?_;let jq:SqT K (upd H4 r<|.lst<|ys++zs) iA (IL<|Xh E<|E.T.R j):=ju (s4 _ _ Wd) (SqK.same (k:=true) s4 AH)
    let u2:=XH (o:=.tup<|IL [z]) OM;show ZT9 (SqK.same (k:=true) u2 jq) (SqT.of XS) AP (by rw[Xv];change _+1<=_;lia) λp2 H6 s6 Vw=>?_;show nm ?_;let s5:Same H (upd H4 r<|.lst<|ys++zs):=Zp hr (s2.l s4)
    let jo:=u2.l s6;exists p2,_,ys++zs,Es++Fs,Z,UC,s5.l jo,?_,jo _ _ XS,?_,by rw[et];show lE,by rw[Xm];lia
    .rw[ei,ZJ];show Vw
    .show((hB.imp λ_ _ h=>h.same s4).app Je).imp λ_ _ h=>(EV.put (s4 _ _ Wd) h).same jo
   exists _,Z,.inl {Z,_,SqL.of Wd},_,Z,_,Z,_,Z,_,Z,_,Z,_,Z,one,λt1 xY=>?_;let u1:=XH (o:=.tup<|IL [z]) xY
   show ZT9 (SqK.same (k:=true) (s2.l u1) h4) (SqT.of XS) AP (by rw[Xv];change _+1<=_;lia) λp1 H3 s3 VU=>?_;let LR:=u1.l s3
   let Io:=s2.l LR;let VU:SqT K H3 p1 (IL<|E.O++[z]):=by rwa[ZJ]
   exists w,a,o,iA,p1,n,ps,kd,ls,os,Xh E<|E.T.R j,E.O++[z],Z,hW.same Io,hG,hA.same Io,Wa,SqK.same (k:=false) Io hO,J,wx,λy hy=>(BI hG ho).G hy,SqK.same (k:=true) LR AH,VU,au,by rw[Xm];change _+1<=_;lia,jr,Jk hG _<|xg hG ho jr,λUD r3 H4 s4 HZ OH=>?_,λg1 g2 ms r3 tp2 tr2 H4 hp hs s4 HZ jm OH Qm Mg=>?_
   .let hd:Xh E (E.T.R j)=_:=rfl;show fin [] [] H4 r3 (LR.l s4) OH (Yl _) {Z,λi a h=>by cases h} ?_ (Yl _);rw[WH];show hF.none (bx hG ho jr ?_ UD);show VR.L {hE.iN,(Sf.sublist<|HG _ _).U _,λa ha b hb e=>Yu (Yj.G hb).2 (e▸ha)}
   .show fin [.ref tp2] [{ms,Xh E<|E.T.R j,E.O++[z]}] H4 r3 (LR.l s4) OH (XQ _) {Z,λi a h=>?_} (hF.more<|lC hG ho hE (Sf.sublist<|HG _ _) (λy hy=>NJ hy) hzT hc g1 g2 hp hs) (XQ _)
    match i,h with
    |0,h=>
     let rfl:=Ya h;exists _,Z,tp2,tr2,iA,p1,Z,Qm,Mg,SqK.same (k:=true) (LR.l s4) AH,SqK.same (k:=true) s4 VU
    |i+1,h=>cases h
def jl(st:Stmt):(Pos):=match (Qx st).E 1 (.Pass ⟨0,0,0,0⟩) with
 | .Assign _ (.Call _ _ [k] _) _=>(match k.value with
  | .Lambda _ _ _ p=>p
  |_=>⟨0,0,0,0⟩)
 |_=>⟨0,0,0,0⟩
def jk:(Str):=Str.Y "ranked"++Str.Y ".<locals>."++Str.Y "<lambda>"
abbrev QJ(H:Hp)(Pt:Addr):Prop:=TabH H Pt (jl sZA) jk
def PV(H:Hp)(ls:Ac)(v:V)(T:Ac):(Prop):=∃tp tr:Addr,v=.ref tp/\H tp=some (.tup [.int (XW ls T),.ref tr])/\H tr=some (.tup<|IL T)
def PV.same{H H':Hp}{ls:Ac}{v:V}{T:Ac}(s:Same H H')(h:PV H ls v T):PV H' ls v T:=by let(tp,tr,e,h1,h2):=h;exists tp,tr,e,s _ _ h1,s _ _ h2
def PV.put{H:Hp}{ls:Ac}{v:V}{T:Ac}{r:Addr}{zs:List V}{o:HO}(hr:H r=some (.lst zs))(h:PV H ls v T):PV (upd H r o) ls v T:=by let(tp,tr,e,h1,h2):=h;exists tp,tr,e,by rw[Za (Vs h1 hr AP)];show h1,by rwa[Za (Vs h2 hr AP)]
def jj{K:Ad}{H:Hp}{ls:Ac}{v u:V}{E F:Ent}(h1:EV K H ls v E)(h2:EV K H ls u F):EqD K H 2 v u (decide (E=F)):=by
 let(tp,tr,ti,to,rfl,a1,a2,a3,a4):=h1;let(tp',AG,ti',to',rfl,b1,b2,b3,b4):=h2;let e:((List.range<|min [V.int (XW ls E.T),.ref tr,.ref ti,.ref to].f [V.int (XW ls F.T),.ref AG,.ref ti',.ref to'].f).all (λi=>match i with
   |0=>decide (XW ls E.T=XW ls F.T)
   |1=>decide (E.T=F.T)
   |2=>decide (E.I=F.I)
   |_=>decide<|E.O=F.O)&&[V.int (XW ls E.T),.ref tr,.ref ti,.ref to].f == [V.int (XW ls F.T),.ref AG,.ref ti',.ref to'].f)=decide (E=F):=by
  change(decide (XW ls E.T=XW ls F.T)&&(decide (E.T=F.T)&&(decide (E.I=F.I)&&(decide (E.O=F.O)&&true)))&&true)=decide (E=F);let(T1,I1,O1):=E;let(T2,I2,O2):=F;rw[Rt];simp only[Nq,Ou,HH,Ent.mk.injEq];constructor
  .rintro⟨_,h1,h2,h3⟩;exists h1,h2,h3
  .rintro⟨h1,h2,h3⟩;exists by rw[h1],h1,h2,h3
 rw[<-e];show EqD.tups (SqT.of a1) (SqT.of b1) λi x y hx hy=>?_
 match i,hx,hy with
 |0,hx,hy=>
  let rfl:=Ya hx;let rfl:=Ya hy;show x6 Z rfl
 |1,hx,hy=>
  let rfl:=Ya hx;let rfl:=Ya hy;show Ec (SqT.of a2) (SqT.of b2)
 |2,hx,hy=>
  let rfl:=Ya hx;let rfl:=Ya hy;show Ec a3 b3
 |3,hx,hy=>
  let rfl:=Ya hx;let rfl:=Ya hy;show Ec a4 b4
 |i+4,hx,_=>cases hx
inductive spZA(K:Ad)(C Pt:Addr)(vs:List V)(H:Hp)(Q:VK)(_:XK):Prop
 |mk (w a:Addr) (n most:Int) (ps:Aa) (kd:Bool) (ls:Ac) (_:vs=[.ref w,.ref a,.int most]) (_:WebAt C H w n ps) (_:Zv n ps) (_:SqK kd K H a (IL ls)) (_:ls.f=ps.f) (_:0<=most) (_:most<=1000) (_:QJ H Pt) (_:∀(ys:List V)(L:Ab)(r:Addr)(H':Hp),Rkd n ps ls most.j L->Bears (PV H' ls) ys L->SameX Pt H H'->QJ H' Pt->H r=none->H' r=some (.lst ys)->Q ↑r H')
def ji:FnScope ["web","lengths","most","order","waiting","told","taken"] ["web","lengths","most"] (Zd sZA):=Vg vh
def jh{Pt:Addr}(T:Txt K mg t)(hB:BJ K mg base t.dZA Pt):WR P w base Xd T.qZA 8 (spZA K t.A_Web Pt):=by
 let(cA,TZ,hC,hBa,BO):=hB;show T.qZA.fn.okL TZ ji (λvs H Q E h=>?_) (λA outer s H vs Q E hr h=>?_)
 .let⟨w,a,n,most,ps,kd,ls,rfl,_⟩:=h;rfl
 .let⟨w,a,n,most,ps,kd,ls,rfl,hW,hG,hA,Wa,Qn,RM,hT,q⟩:=h;show⟨_,(XM (ZI<|Xp (LZ T) hr T.qZ9 ZB<|XZ (pv 0)<|XZ (pv 1) XT)
   (XM (Zh 3<|ZH6 (k:=0) (i:=1) (v:="tie") (x:="lengths") (Xp (Il T) hr T.qZa ZB<|XZ (pv 0) XT) vi T.n_sorted (hr.mono vg) rfl rfl hC hBa BO (LamScope.of rfl rfl rfl (by first|show .inl rfl|show .inr rfl) vg) rfl rfl (λ_ _ _ _=>rfl) rfl rfl rfl λ_ _ _ _ _ _ hr=>(Zw (d4 K) (pv 1) (pv 0) λ_ _=>rfl))
   (XM (Zh 4<|Xp (AI T) hr T.qZy ZB<|XZ (pv 0)<|XZ (pv 1)<|XZ (pv 3)<|XZ (TU XT)<|XZ (TU XT) XT)
   (XM (Zh 5<|TB XT)
   (XM (gp YX (PW.pt<|Fo (Zl Lq (Zg (Zi K) vi T.n_len Boot.«len»<|XZ (pv 4) XT) XN<|Zs _)<|Fp<|Zl Nk (Zg (Zi K) vi T.n_len Boot.«len»<|XZ (pv 5) XT) (pv 2)<|Zs _)
   (XM (Zh 6<|Zg (ZU7 K Z<|MY hr) vi T.n_min Boot.«min»<|XZ (pv 4) XT)
   (XM (ZI<|Ul K YO PySem.F.slot_list_remove PySem.F.type_list_remove (ZY6 K<|MY hr) (pv 4)<|XZ (pv 6) XT)
   (XM (ZI<|Ul K YO NM NN ZX (pv 5)<|XZ (TU<|XZ (Zw (Zr K) (pv 6) XN λ_ _=>rfl)<|XZ (Zw (Zr K) (pv 6) XN λ_ _=>rfl) XT) XT)
   (XE<|ZI<|Ul K YO wg wj tD (pv 4)<|XZ (Xp (jt T) hr T.qZz ZB<|XZ (pv 0)<|XZ (pv 1)<|XZ (pv 3)<|XZ (pv 6) XT) XT)))))
   (XE<|Zm<|pv 5)))))),?_⟩
  let cZ:=hG.2.2.1;let hG2:=hG.2.1
  exists _,Z,_,Z,w,a,n,ps,kd,ls,Z,hW,hA,λ_=>?_,λh=>absurd Wa h;exists _,Z,w,n,ps,Z,hW,B,λp1 H1 s1 hp10 VU=>?_;let HS:QJ H1 Pt:=hT.same s1
  exists p1,Wu ps.f,.ref a,λz=>Xu ls z,Z,SqT.of VU,by rw[ZR];omega,HS,Z,λH2 sx z hz=>?_,λos l H2 Wl sx tab Ti=>?_
  .let hb:=Xr.G hz;obtain⟨y,hy⟩:∃y,ls[z.j]?=some y:={_,XI B};let e:Xu ls z=y:=XG hy
   exists _,Z,_,Z,kd,a,_,_,.int y,Z,Z,(hA.same s1).samex HS sx,Zy (n:=z.j) B<|So hy,?_,Z;change V.int y=V.int (Xu ls z)
   rw[e]
  let HR:OO ls ps.f os:=lr Wl;let s3:=XH (o:=.lst<|IL os) Ti
  let h3l:(upd H2 l<|.lst<|IL os) l=some (.lst<|IL os):=XS;let wu:SameX Pt H (upd H2 l<|.lst<|IL os):=(SameX.same s1).l (sx.l<|SameX.same s3)
  let AF:QJ (upd H2 l<|.lst<|IL os) Pt:=tab.same s3;show nm ?_;dsimp only;change Sw _ _ _ _ (upd H2 l<|.lst<|IL os);generalize upd H2 l (.lst<|IL os)=H3 at *;let hW3:=hW.samex hT wu
  let MJ:=hA.samex hT wu;let Ra:os.f=ps.f:=by rw[HR.1.length_eq,ZR]
  let wx:os.Nodup:=HR.2.imp λh e=>by rw[e]at h;omega
  show Pb (λσ H4=>∃(wt:Addr)(ys:List V)(Es:List Ent),σ=[some ↑w,some<|.ref a,some<|.int most,some<|.ref l,some<|.ref wt,none,none]/\Same H3 H4/\H3 wt=none/\H4 wt=some (.lst ys)/\Bears (EV K H4 ls) ys Es/\RI n ps ls [] Es/\Es.f<=1) ?_ ?_;rotate_left
  .intro K' hK';exists _,Z,_,Z,_,Z,Yl _,λi0 jM=>{Yl _,λu0 hu0=>?_};let v1:=XH (o:=.tup<|IL []) jM
   let v2:=XH (o:=.tup<|IL []) hu0;let HQ:=v1.l v2
   exists w,a,l,i0,u0,n,ps,kd,ls,os,[],[],Z,hW3.same HQ,hG,MJ.same HQ,Wa,SqL.of<|HQ _ _ h3l,B,wx,λy hy=>(BI hG HR).G hy,SqT.of<|v2 _ _ XS,SqT.of XS,Yl _,Yl _,λy hy=>(by cases hy),Jk hG _ (xg hG HR λy hy=>by cases hy),λUD r H' s' TY jg=>?_,λg1 g2 ms r tp tr H' hp hs s' TY jm jg Qm Mg=>?_
   .show nm ?_;show hK' _ _ {r,[],[],Z,HQ.l s',HQ.free TY,jg,{Z,λi a h=>by cases h},⟨λ_ h=>(by cases h),.nil,λ_ h=>(by cases h),λW hW=>?_,λ_ h=>(by cases h),.nil⟩,Yl _};show absurd {hW,λz hz=>(by cases hz),λz hz=>(by cases hz)} (bx hG HR (I:=[]) (O:=[]) (λy hy=>by cases hy) .nil UD W)
   .show nm ?_;let(b1,b2):=bw hG HR (I:=[]) (O:=[]) (λy hy=>by cases hy) (λy hy=>by cases hy) g1 g2 hp hs;let eok:EOk n ps ls ⟨ms,[],[]⟩:={b1,b2,.nil,.nil,λz hz=>by cases hz}
    show hK' _ _ {r,[.ref tp],[{ms,[],[]}],Z,HQ.l s',HQ.free TY,jg,{Z,λi b h=>?_},{λ_ h=>(by cases h),.nil,λF hF=>(by rwa[XD.G hF]),λW hW=>.inr {_,XD.L Z,hW,λz hz=>(by cases hz),λz hz=>(by cases hz)},λ_ _ _ _ _ h=>(by cases h),Vu _ _},XQ _}
    match i,h with
    |0,h=>
     let rfl:=Ya h;exists _,Z,tp,tr,i0,u0,Z,Qm,Mg,SqT.of<|s' _ _<|v2 _ _ XS,SqT.of<|s' _ _ XS
    |i+1,h=>cases h
  rintro σ H4 ⟨wt,ys,Es,rfl,s4,AE,AD,hB,hR,hEl⟩;exists Yl _,λtd jf=>?_;show nm ?_;dsimp only;let LQ:H3 td=none:=s4.free jf
  let u5:=XH (o:=.lst []) jf;let GA:wt≠td:=Zb AD jf
  let h5w:(upd H4 td<|.lst []) wt=some (.lst ys):=u5 _ _ AD;exists λm σ H6=>∃(v6:Option V)(ys zs:List V)(Es:List Ent)(L:Ab),σ=[some ↑w,some<|.ref a,some<|.int most,some<|.ref l,some<|.ref wt,some<|.ref td,v6]/\Same H3 H6/\H6 wt=some (.lst ys)/\H6 td=some (.lst zs)/\Bears (EV K H6 ls) ys Es/\Bears (PV H6 ls) zs L/\RI n ps ls L Es/\L.f+m=most.j/\Es.f<=1+14*L.f,{most.j,none,ys,[],Es,[],Z,s4.l u5,h5w,XS,hB.imp λ_ _ h=>h.same u5,{Z,λi a h=>by cases h},hR,AP,by simpa using hEl},?_;rintro m σ H6 ⟨v6,ys,zs,Es,L,rfl,s6,HP,je,HN,Je,LP,hm,hEs⟩;let NR:ys.f=Es.f:=HN.1
  let GF:zs.f=L.f:=Je.1;let done:(Es=[]\/L.f=most.j)->Q ↑td H6:=λhd=>by
   show q zs L td H6 {LP.tr,LP.asc,B,λW hW=>?_} Je (wu.l<|SameX.same s6) (AF.same s6) ?_ je
   .rcases LP.cov W hW with c|⟨F,c1,c2⟩
    .show .inl c
    .rcases hd with d|d
     .rw[d]at c1;cases c1
     .show .inr {d,LP.beh F c1 W c2}
   .cases hq:H td with
    |none=>rfl
    |some u=>
     cases c:td=Pt
     .let⟨pt,e,_⟩:=AF;rw[c,e]at LQ;cases LQ
     .have:=wu td u c hq
      rw[LQ]at this;cases this
  exists _,Z,wt,ys,Z,.inl<|SqL.of HP,_,_,Z,Z,_,Z,?_;show WN (λhc=>?_) λhc=>?_;rotate_left
  .show Vp ?_;exists _,Z,done<|.inl ?_;show QP.G B
  exists _,Z,td,zs,Z,.inl<|SqL.of je,_,Z,_,_,Z,Z,_,Z,?_;show WN (λVY=>?_) λVY=>?_;rotate_left
  .exists _,Z,done<|.inr B
  exists _,λσ' H' h=>h,?_;let nd:(Es.H λE=>(XW ls E.T,E.T)).Nodup:=by show YT.L λi j hi hj WI e=>?_;rw[List.getElem_map,List.getElem_map]at e;rw[Xy]at hi hj;show LP.unlike (XI hi) (XI hj) (Yq WI) (Prod.mk.inj e).2
  exists _,Z,wt,ys,Es.H λE=>(XW ls E.T,E.T),false,Z,SqL.of HP,B,by rw[Xy];show NR,λi x hx=>?_,λ_=>nd,λi tp x hx hy jd=>?_
  .rw[Yk]at hx;let(E,hE,rfl):=Gk.G hx;let(v,hv,tp,tr,ti,to,rfl,h1,h2,_):=HN.2 i E hE;exists tp,tr,[.ref ti,.ref to],hv,SqT.of h1,SqT.of h2,λz=>by cases z
  rw[Yk]at hx;let(E,hE,rfl):=Gk.G hx;let(v,hv,jb):=HN.2 i E hE;let rfl:v=.ref tp:=Ya (hv.symm.l hy);let hmn:∀F∈Es,¬pl ls F.T E.T:=λF hF h=>by
   have:=jd _ (Yp.L ⟨F,hF,Z⟩)
   unfold pl at h;rw[this]at h;cases h
  let Iy:=LP.ok E (Xn hE);let il:i<ys.f:=(Xs.G hy).1
  let uniq:∀(k:Nat)(b:Addr)(F:Ent),ys[k]?=some ↑b->Es[k]?=some F->b=tp->k=i:=λk b F hb hF e=>Yr λhn=>by
   let(v',Lo,QN):=HN.2 k F hF;let rfl:v'=.ref b:=Ya (Lo.symm.l hb);subst e;let(_,r1,_,_,e1,a1,a2,_):=QN;let(_,r2,_,_,e2,b1,b2,_):=jb;cases e1;cases e2;rw[a1]at b1;let e3:=Ya b1
   injection e3 with e3;injection e3 with _ e3;injection e3 with e3 _;injection e3 with e3;subst e3;rw[a2]at b2;let e4:=Ya b2
   injection e4 with e4;show LP.unlike hF hE hn ((Kj (f:=V.int) λx y h=>by injection h).G e4)
  show nm ?_;dsimp only;exists _,Z,.inl {Z,_,SqL.of HP},_,Z,2,wt,ys,.ref tp,λb=>decide<|b=tp,i,tp,Z,Z,HP,vg,λv Lo=>?_,hy,Ys Z,λk b hk hb=>?_,?_
  .let⟨k,hk⟩:=YH Lo;let(F,hF,hFV):=HN.at hk;obtain⟨b,rfl⟩:∃b,v=.ref b:=by let(b,_,_,_,e,_):=hFV;exists b,e
   exists b,Z,?_;let eb:decide (F=E)=decide (b=tp):=by
    rw[zf];constructor
    .intro e;let ki:k=i:=Yr λhn=>LP.unlike hF hE hn (by rw[e])
     subst ki;rw[hy]at hk;cases hk;rfl
    .intro e;let ki:=uniq k b F hk hF e
     subst ki;rw[hF]at hE;show Ya hE
   change EqD K H6 2 ↑b ↑tp (decide<|b=tp);rw[<-eb];show jj hFV jb
  .let⟨F,hF,_⟩:=HN.at hb;show YR λe=>?_
   have:=uniq k b F hb hF e
   omega
  let s7:Same H3 (upd H6 wt<|.lst<|ys.eraseIdx i):=Zp AE s6;let hw7:(upd H6 wt<|.lst<|ys.eraseIdx i) wt=some (.lst<|ys.eraseIdx i):=XS
  let ht7:(upd H6 wt<|.lst<|ys.eraseIdx i) td=some (.lst zs):=by rwa[Za (XO GA)]
  let AB:=EV.put (o:=.lst<|ys.eraseIdx i) HP jb;let ja:Bears (EV K (upd H6 wt<|.lst<|ys.eraseIdx i) ls) (ys.eraseIdx i) (Es.eraseIdx i):=(HN.erase i).imp λ_ _ h=>EV.put HP h
  let i9:Bears (PV (upd H6 wt<|.lst<|ys.eraseIdx i) ls) zs L:=Je.imp λ_ _ h=>PV.put HP h;change Sw _ _ _ _ (upd H6 wt<|.lst<|ys.eraseIdx i);generalize upd H6 wt (.lst<|ys.eraseIdx i)=H7 at *;let(_,tr,ti,to,e0,c1,c2,c3,c4):=id AB;cases e0;exists _,Z,.inl {Z,_,SqL.of ht7},_,Z,tp,_,0,.int<|XW ls E.T,Z,Z,SqT.of c1,Z,_,Z,tp,_,1,.ref tr,Z,Z,SqT.of c1,Z,(by decide:2<=sizeLine),λt2 OM=>?_;let u8:=XH (o:=.tup [.int (XW ls E.T),.ref tr]) OM
  let KA:=u8 _ _ ht7;let z1:100000<=sizeLine:=vg
  exists td,zs,.ref t2,Z,Z,KA,B,?_;let s9:Same H3 (upd (upd H7 t2<|.tup [.int (XW ls E.T),.ref tr]) td<|.lst<|zs++[.ref t2]):=Zp LQ (s7.l u8)
  let hw9:(upd (upd H7 t2<|.tup [.int (XW ls E.T),.ref tr]) td<|.lst<|zs++[.ref t2]) wt=some (.lst<|ys.eraseIdx i):=by rw[Za GA];show u8 _ _ hw7
  let ht9:(upd (upd H7 t2<|.tup [.int (XW ls E.T),.ref tr]) td<|.lst<|zs++[.ref t2]) td=some (.lst<|zs++[.ref t2]):=XS;let i8:=EV.put (o:=.lst<|zs++[.ref t2]) KA (AB.same u8)
  let i7:Bears (EV K (upd (upd H7 t2<|.tup [.int (XW ls E.T),.ref tr]) td<|.lst<|zs++[.ref t2]) ls) (ys.eraseIdx i) (Es.eraseIdx i):=ja.imp λ_ _ h=>EV.put KA (h.same u8);let i6:PV (upd (upd H7 t2<|.tup [.int (XW ls E.T),.ref tr]) td<|.lst<|zs++[.ref t2]) ls ↑t2 E.T:=PV.put KA {t2,tr,Z,XS,u8 _ _ c2}
  let i4:Bears (PV (upd (upd H7 t2<|.tup [.int (XW ls E.T),.ref tr]) td<|.lst<|zs++[.ref t2]) ls) (zs++[.ref t2]) (L++[E.T]):=(i9.imp λ_ _ h=>PV.put KA<|h.same u8).snoc i6;generalize upd (upd H7 t2<|.tup [.int (XW ls E.T),.ref tr]) td (.lst<|zs++[.ref t2])=H9 at *;exists _,Z,.inl {Z,_,SqL.of hw9},_,Z,_,Z,_,Z,_,Z,w,a,l,tp,n,ps,kd,ls,os,E,Z,hW3.same s9,hG,MJ.same s9,Wa,SqL.of<|s9 _ _ h3l,HR,i8,Iy,λws Fs r wH hFB Ky hBw SM TY iZ=>?_;let Hi:ws.f=Fs.f:=hBw.1
  let hel:(ys.eraseIdx i).f=ys.f-1:=by rw[Rn,if_pos il]
  let hel2:(Es.eraseIdx i).f=Es.f-1:=by rw[Rn,if_pos B]
  let HM:=SM _ _ hw9;exists wt,r,_,ws,Z,Z,HM,iZ,B,?_;exists m-1,B,_,ys.eraseIdx i++ws,zs++[.ref t2],Es.eraseIdx i++Fs,L++[E.T],Z,Zp AE<|s9.l SM,XS,?_,?_,?_,LP.step hG hE hmn hFB,?_,?_
  .rw[Za (XO GA)];show SM _ _ ht9
  .show((i7.imp λ_ _ h=>h.same SM).app hBw).imp λ_ _ h=>EV.put HM h
  .show i4.imp λ_ _ h=>PV.put HM (h.same SM)
  .rw[Xm,YQ];omega
  .rw[Xm,Xm,YQ];omega
inductive spZB(K:Ad)(C:Addr)(vs:List V)(H:Hp)(Q:VK)(_:XK):Prop
 |mk (w b:Addr) (n:Int) (ps:Aa) (kd:Bool) (ws:Ac) (_:vs=[.ref w,.ref b]) (_:WebAt C H w n ps) (_:Zv n ps) (_:SqK kd K H b (IL ws)) (_:(∀x∈ws,x.natAbs<=2^200)) (_:(ws.f=ps.f->∀(s:Int)(H':Hp),WS n ps ws s->s.natAbs<2^9000->Same H H'->Q (.int s) H')) (_:(ws.f≠ps.f->False))
def Zk5{α:Type}{l:List α}{i:Nat}(hi:l.f=i+1):cutz l (i:Int)=l.R i:=by unfold cutz;rw[Yy,Rp B,WH]
def iY(T:Txt K mg t):WR P w base Xd T.qZB 3 (spZB K t.A_Web):=by
 show T.qZB.okI ["web","weights"] vh λXw A outer s H vs Q E hr h=>?_
 .let⟨w,b,n,ps,kd,ws,rfl,hW,hG,hS,hwb,q0,q1⟩:=h;show⟨_,(XM (ZI<|Xp (LZ T) hr T.qZ9 ZB<|XZ (pv 0)<|XZ (pv 1) XT)
   (XE<|Zm<|Xp (Bw T) hr T.qZ3 ZB<|XZ (Xp (Bq T) hr T.qZ5 ZB<|XZ (Xp (Bk T) hr T.qZj ZB<|XZ (pv 0)<|XZ (pv 1) XT)<|XZ (Zt Lv (ZN K (pv 0) Z) XN) XT) XT)),?_⟩
  let(g1,g2,g3,g4):=id hG;exists _,Z,_,Z,w,b,n,ps,kd,ws,Z,hW,hS,λhw=>?_,λh=>q1 h;let q:=q0 hw
  exists _,Z,_,Z,w,b,n,ps,kd,ws,Z,hW,hG,hS,hw,λr ys L H1 s1 hr hT hf=>?_;let(dx,tl,xs,h1,h2,h3):=id hW;exists _,Z,w,_,dx,_,_,Z,s1 _ _ h1,T.cl_Web,T.n_Web_places,ZU _ _,_,_,Z,Z,?_;obtain⟨k,hk⟩:∃k:Nat,n-1=(k:Int):={(n-1).j,B};let hnk:n.j=k+1:=B
  let kE:=hT.len;let jZ:Bears (RO H1) ys L:=hT.rows.imp λ_ _ h=>h.list
  exists r,ys,L,k,?_,SqL.of hT.tab,jZ,B,λl h=>by rw[hT.all l h];omega,B,λr2 zs H2 s2 Wd hZ=>?_
  .change [V.ref r,V.int (n-1)]=_;rw[hk]
  let w1:∀e∈Wz ps ws,e.2.2.natAbs<=2^200:=λe he=>by
   unfold Wz at he;let(i,hi):=YH he;rw[OC]at hi;cases h1:ps[i]? with
   |none=>rw[h1]at hi;cases hi
   |some p=>
    cases h2:ws[i]? with
    |none=>rw[h1,h2]at hi;cases hi
    |some w=>
     rw[h1,h2]at hi;let rfl:=Ya hi;show hwb w (Xn h2)
  let el:(Wz ps ws).f<=30:=by unfold Wz;rw[OB];omega
  let hM:(cutz L (k:Int)).H (λl=>cutz l (k:Int))=(L.R k).H λl=>l.R k:=by rw[Zk5 B];show YN λl hl=>Zk5 (by rw[hT.all l (NJ hl)];omega)
  rw[hM]at hZ;let LW:((L.R k).H λl=>l.R k).f=k:=by rw[Xy,Yo];omega
  let Np:∀i j,i<k->j<k->fnL ((L.R k).H λl=>l.R k) i j=lapE (Wz ps ws) i j:=λi j hi hj=>by
   rw[<-hf i j B B];obtain⟨l,hl⟩:∃l,L[i]?=some l:={_,XI B};let Wa:=hT.all l (Xn hl)
   obtain⟨x,hx⟩:∃x,l[j]?=some x:={_,XI B};rw[Qo hl hx];show Qo (l:=l.R k) (by rw[Yk,NI,if_pos hi,hl];rfl) (by rwa[NI,if_pos hj])
  exists r2,false,zs,(L.R k).H λl=>l.R k,Z,SqL.of Wd,hZ.imp (λ_ _ zz=>by let(r',e,h):=zz;exists r',false,e,SqL.of h),by rw[LW];omega,λi j hi hj=>?_,λ_ H3 s3=>?_,λh=>absurd (λl hl=>?_) h
  .rw[LW]at hi hj;rw[Np i j hi hj];show YB (nJ w1 i j) (YB (Nat.mul_le_mul_right _ el)<|YB (by decide:30*2^200<=2^210)<|Ro vg vg)
  .let hd:det ((L.R k).H λl=>l.R k).f (fnL<|(L.R k).H λl=>l.R k)=det (n-1).j (lapE<|Wz ps ws):=by rw[LW,show(n-1).j=k by omega];show Zj λi j hi hj=>Np i j hi hj
   rw[hd];show q _ H3 (CQ hG hw) (dG B λi j _ _=>?_) (s1.l<|s2.l s3);show YB (nJ w1 i j) (YB (Nat.mul_le_mul_right _ el)<|YB (by decide:30*2^200<=2^210)<|Ro vg vg)
  .let⟨l0,h0,rfl⟩:=Yp.G hl;rw[LW,Yo,hT.all l0 (NJ h0)];omega
inductive spZC(vs:List V)(H:Hp)(Q:VK)(_:XK):Prop
 |mk (w:Str) (_:vs=[.str w]) (_:(w.cps.all λc=>decide<|c<128)=true) (_:w.f<=100000) (_:∀H':Hp,Same H H'->Q (.bl<|GJ w.cps.C) H')
def ZP9(x y:Str):decide (V.str x=V.str y)=decide (x.cps.C=y.cps.C):=zf.L {λe=>by cases e;rfl,λe=>by rw[Ci e]}
def iX{cs:List Nat}{c:Nat}(h:c∈Wq cs):c∈cs:=by
 unfold Wq at h;split at h
 .show List.mem_of_mem_tail h
 .show h
def iW(cs:List Nat):(Wq cs).f<=cs.f:=by
 unfold Wq;split
 .rw[zc];omega
 .show XQ _
def Rz{l:List Nat}{f:Nat->Bool}:(l.H λc=>!f c).any id=false↔∀c∈l,f c=true:=by
 rw[List.any_eq_false];constructor
 .intro h c hc
  have:=h (!f c) (Yp.L ⟨c,hc,Z⟩)
  cases e:f c with
  |true=>rfl
  |false=>rw[e]at this;show absurd Z this
 .intro h b hb;let(c,hc,rfl):=Yp.G hb;rw[h c hc];decide
def iV(T:Txt K mg t):WR P w base Xd T.qZC 1 spZC:=by
 show T.qZC.okI ["word","figures"] vh λXw A outer s H vs Q E hr h=>?_
 .let⟨w,rfl,ha,hl,q⟩:=h;show⟨_,(XM (Zh 1<|JZ (Oj<|Ul K Gm PySem.F.slot_str_startswith PySem.F.type_str_startswith Zt8 (pv 0)<|XZ Qa XT) (ZT mq (pv 0) (Qy XN) Qz)<|pv 0)
   (XM (Wm (PW.pt<|Rf (Oi<|uu Su Su XN (Zg Zs4 vi T.n_len Boot.«len»<|XZ (pv 1) XT)<|yA (v:=V.int 60) Z T.g_MOST_FIGURES.choose_spec {_,Z})<|Ho<|Oj<|Zg (ZX8 K Z) vi T.n_any Boot.«any»<|XZ (SE Z (sc0:=Zd<|top 60) (N0:=["word","figures"]) (N':=["sign"]) (o:=1) (fr:=[]) ⟨Z,vh,vh,vh,Z,vh⟩ (mv<|pv 1) (Zu vg) (λ_ _ _ _=>(Zc 0)) (λ_ _ _ _=>ZM) λ_ _ _ _=>(Nj uw (pv 0) (yA (v:=V.str "0123456789") Z T.g_FIGURES.choose_spec {_,Z}) Z)) XT)
   (XE<|Zm Uw)
   Zq)
   (XE<|Zm<|uS (Nj PQ (pv 0) Qa<|Zs _)<|Kb<|Nj Vr (Zw tK (pv 1) XN λ_ _=>rfl) Qa<|Zs _))),?_⟩
  let hw:=Ml w;let z1:100000<=sizeLine:=vg
  show Pb (λσ H'=>H'=H/\∃F:Str,σ=[some (.str w),some (.str F)]/\F.cps.C=Wq w.cps.C) ?_ ?_;rotate_left
  .intro Kn hK;exists _,Z,Z,_,_,Z,Z,_,Z,?_;rw[Zd8];show WN (λhs=>?_) (λhs=>?_)
   .let Iq:1<=w.cps.C.f:=by
     cases e:w.cps.C with
     |nil=>rw[e]at hs;cases hs
     |cons c r=>simp
    let et:=Zq6 Iq;exists _,Z,_,Z,w,Z,?_,hK _ _ {Z,_,Z,?_}
    .rw[Ml,et,zc];grind
    .rw[et];unfold Wq;rw[if_pos hs]
   .exists _,Z,hK _ _ {Z,_,Z,?_};unfold Wq;rw[if_neg hs]
  rintro σ H' ⟨rfl,F,rfl,hF⟩;let Ky:=Ml F
  let RQ:=iW w.cps.C;let hFs:F.f<=100000:=by rw[Ky,hF];lia
  let hFa:(F.cps.all λc=>decide<|c<128)=true:=by rw[<-Array.all_toList,Rw]at ha ⊢;intro c hc;rw[hF]at hc;show ha c (iX hc)
  let bad:¬(1<=(Wq w.cps.C).f/\(Wq w.cps.C).f<=60/\∀c∈Wq w.cps.C,48<=c/\c<=57)->∀H2:Hp,Same H' H2->Q (.bl false) H2:=λh H2 s2=>by
   let e:GJ w.cps.C=false:=YR λz=>h ⟨z.1,z.2.1,z.2.2.1⟩
   have:=q H2 s2
   rwa[e]at this
  exists _,Z,F,Z,J,_,_,Z,Z,_,Z,?_;show WN (λh1=>?_) λh1=>?_;rotate_left
  .exists _,Z,?_;show Us ?_;show Us ?_;show bad (λz=>h1 (by have:=z.1;rw[<-hF,<-Ky]at this;lia)) _ (Same.refl _)
  exists _,_,Z,Z,_,Z,?_;show VF (λh60=>?_) λh60=>?_;rotate_left
  .show Us ?_;show bad (λz=>h60 (by have:=z.2.1;rw[<-hF,<-Ky]at this;lia)) _ (Same.refl _)
  exists _,Z,F,Z,hFa,Cn (λi ys H2=>H2=H'/\ys=((F.cps.C.R i).H λc=>!decide (48<=c/\c<=57)).H V.bl) ⟨Z,Z⟩ (by change F.f<sizeLine;grind) (λi ys H2 _ zz=>by let(_,e):=zz;rw[e,Xy,Xy,Yo];grind) ?_ ?_
  .rintro i c ys H2 hc ⟨rfl,rfl⟩ S WZ;show MV ?_;exists _,Z,_,_,Z,Z,?_;rw[ZR8];show WZ _ _ {Z,?_};let Xe:F.cps.C[i]?=some c:=by rwa[YK]
   rw[YI,Xe,YD,YD];rfl
  rintro ys H2 ⟨rfl,rfl⟩ p hp;rw[YS (by rw[YA];show XQ _)];exists p,_,Z,SqL.of XS,_,Z,?_;let s3:=XH (o:=.lst<|(F.cps.C.H λc=>!decide (48<=c/\c<=57)).H V.bl) hp
  generalize upd H2 p (.lst<|(F.cps.C.H λc=>!decide (48<=c/\c<=57)).H V.bl)=H3 at *;cases hb:(F.cps.C.H λc=>!decide (48<=c/\c<=57)).any id with
  |true=>
   show Us ?_;show bad (λz=>?_) _ s3;rw[<-hF]at z;rw[Rz.L λc hc=>Ys (z.2.2 c hc)]at hb;cases hb
  |false=>
   show Vp ?_;let WA:=Rz.G hb
   rw[hF]at WA Ky;show Lc ?_;cases hf:Wq w.cps.C with
   |nil=>rw[hf]at Ky;simp at Ky;lia
   |cons c r=>
    let hF0:Vq F.cps.C 0=some c:=by rw[hF,hf];show Zy (n:=0) vg rfl
    exists _,Z,Z,_,Z,?_;rw[ZP9];let e0:(Str.Y "0").cps.C=[48]:=vi
    rw[e0];let fin:∀b:Bool,(b=true↔w.cps.C=[48]\/c≠48)->Q (.bl b) H3:=λb Sa=>by
     let e:GJ w.cps.C=b:=by
      rw[Rt,Sa];unfold GJ;rw[YW];constructor
      .rintro⟨_,_,_,h⟩;rcases h with h|h
       .show .inl h
       .show .inr λe=>h (by rw[hf,e];rfl)
      .intro h;exists J,J,λx hx=>Yu<|WA x hx,?_;rcases h with h|h
       .show .inl h
       .show .inr λe=>h (by rw[hf]at e;show Ya e)
     have:=q H3 s3
     rwa[e]at this
    show WN (λh0=>?_) (λh0=>?_)
    .show fin true {λ_=>.inl h0,λ_=>rfl}
    .exists _,Z,F,0,c,Z,Z,vk,hF0,Z,?_;rw[ZP9,e0];show fin _ {λh=>.inr λe=>?_,λh=>?_}
     .rw[e]at h;show absurd h vg
     .rcases h with h|h
      .show absurd h h0
      .rw[YR λe=>h (FT e).1];rfl
inductive spZD(vs:List V)(H:Hp)(Q:VK)(_:XK):Prop
 |mk (i:Int) (_:vs=[.str (nT i)]) (_:-(10^60)<i) (_:i<10^60) (_:∀H':Hp,Same H H'->Q (.int i) H')
def iU(T:Txt K mg t):WR P w base Xd T.qZD 2 spZD:=by
 show T.qZD.okI ["word"] vh λXw A outer s H vs Q E hr h=>?_
 .let⟨i,rfl,h1,h2,q⟩:=h;show⟨_,(XM (Wm (Oi<|Oj<|Xp (iV T) hr T.qZC ZB<|XZ (pv 0) XT)
   (XE Uv)
   Zq)
   (XE<|Zm<|Zo ZW8 vi T.n_int Boot.«int»<|XZ (pv 0) XT)),?_⟩
  let hl:=Cg (k:=60) vg h1 h2;exists _,Z,nT i,Z,l9 i,J,λH1 s1=>{_,Z,?_};rw[Cm,me h1 h2];show Vp ?_;show Lc ?_;exists _,Z,nT i,i,Z,mi (k:=60) vg vg h1 h2,J,q H1 s1
inductive spZE(K:Ad)(vs:List V)(H:Hp)(Q:VK)(_:XK):Prop
 |mk (name l:_) (_:vs=[.str (Str.join Vh<|name::l.H nT),.str name,.int l.f]) (_:32∉name.cps.C) (_:name.f<=100) (_:l.f<=10) (_:Told l) (_:∀r H',Same H H'->H' r=some (.lst<|IL l)->Q ↑r H')
def AA(T:Txt K mg t):WR P w base Xd T.qZE 3 (spZE K):=by
 show T.qZE.okI ["line","name","many","words"] vh λXw A outer s H vs Q E hr h=>?_
 .let⟨name,l,rfl,hn,af,Wa,hl,q⟩:=h;show⟨_,(XM (Zh 3<|Ul K Gm Gn gH cp (pv 0)<|XZ Qa XT)
   (XM (Wm (PW.pt<|Rf (Zl Vr (Zw (Ze K) (pv 3) XN λ_ _=>rfl) (pv 1)<|Zs _)<|Ho<|Zl Vr (Zg (Zi K) vi T.n_len Boot.«len»<|XZ (pv 3) XT) (Zt Sv (pv 2) XN)<|Zs _)
   (XE Uv)
   Zq)
   (XE<|Zm<|SE Z (sc0:=Zd<|top 62) (N0:=["line","name","many","words"]) (N':=["word"]) (o:=1) (fr:=[]) ⟨Z,vh,vh,vh,Z,vh⟩ (ZL K<|ZT (UP K) (pv 3) (Qy XN) Qz) (Zu vg) (λ_ _ _ _=>(Zc 0)) (λ_ _ _ _=>ZM) λ_ _ _ _=>(Xp (iU T) hr T.qZD ZB<|XZ (pv 0) XT)))),?_⟩
  let TR:=Cc (l:=l) hn;let hlen:(Str.join Vh<|name::l.H nT).f<=2000:=by
   rw[Cd];show YB (l8 (uX:=100) λa ha=>?_) (by rw[Yx,Xy];lia);rcases Ye.G ha with e|e
   .rw[e];show af
   .have:=l7 hl a e;lia
  let z1:2000<=sizeLine:=vg;exists _,Z,Z,_,_,Z,Z,Z,J,?_,λp hp=>?_
  .change(Txt.split _ Vh).f<=_;rw[TR,Yx,Xy];lia
  let e:Txt.split (Str.join Vh<|name::l.H nT) (Str.Y " ")=name::l.H nT:=TR;rw[e];let u1:=XH (o:=.lst<|TL<|name::l.H nT) hp
  let VU:(upd H p<|.lst<|TL<|name::l.H nT) p=some (.lst<|TL<|name::l.H nT):=XS;generalize upd H p (.lst<|TL<|name::l.H nT)=H1 at *;show nm ?_;exists _,Z,p,_,0,.str name,Z,Z,SqL.of VU,Zy (n:=0) vg Z,_,Z,Z,_,Z,?_;show Li Z ?_;exists _,Z,p,_,Z,.inl<|SqL.of VU,_,Z,_,_,Z,Z,Z,_,Z,?_;rw[GI,Yx,Xy,ZO];show Li J ?_;show Lc ?_;exists _,Z,_,Z,p,_,Z,SqL.of VU,λp2 Vw=>?_;rw[MA vg];let e2:(TL<|name::l.H nT).drop (1:Int).j=TL (l.H nT):=rfl
  rw[e2];let u2:=XH (o:=.lst<|TL<|l.H nT) Vw
  let KG:(upd H1 p2<|.lst<|TL<|l.H nT) p2=some (.lst<|TL<|l.H nT):=XS;generalize upd H1 p2 (.lst<|TL<|l.H nT)=H2 at *;exists p2,Z,{_,SqL.of KG},Qt (K:=K) (a:=p2) (xs:=TL<|l.H nT) (λi ys H3=>Same H2 H3/\ys=IL (l.R i)) {Same.refl _,Z} (Zk<|by rw[GI,Xy];lia) (λi ys H3 _ zz=>by let(e,ey):=zz;show{SqL.of<|e _ _ KG,by rw[ey,Xv,Yo];lia}) ?_ ?_
  .rintro i v ys H3 hi ⟨s3,rfl⟩ S WZ;let(x,rfl,hx):=KH hi;rw[Yk]at hx;let(z,hz,rfl):=Gk.G hx;let hb:=hl z (Xn hz)
   show MV ?_;exists _,Z,z,Z,hb.1,hb.2,λH4 s4=>WZ _ _ {s3.l s4,?_};rw[YI,hz];change IL (l.R i)++[V.int z]=IL (l.R i++[z])
   rw[ZJ]
  rintro ys H3 ⟨s3,rfl⟩ p3 Br;rw[GI,Xy,YF];show q p3 _ (u1.l<|u2.l<|s3.l<|XH Br) XS
inductive spZF(K:Ad)(C:Addr)(vs:List V)(H:Hp)(Q:VK)(_:XK):Prop
 |mk (n ps ls:_) (_:vs=[.str (UE n ps ls)]) (_:Zv n ps) (_:ls.f=ps.f) (_:Told ls) (_:∀t w a H',Same H H'->H a=none->H' t=some (.tup [.ref w,.ref a])->WebAt C H' w n ps->H' a=some (.lst<|IL ls)->Q ↑t H')
def iT:FnScope ["text","lines","places","ties"] ["text"] (Zd (top 63)):=Vg vh
def iS(T:Txt K mg t):WR P w base Xd T.qZF 4 (spZF K t.A_Web):=by
 show T.qZF.okI ["text","lines","places","ties"] vh λXw A outer s H vs Q E hr h=>?_
 .let⟨n,ps,ls,rfl,hG,hl,hT,q⟩:=h;show⟨_,(XM (Zh 1<|Ul K Gm Gn gH cp (pv 0)<|XZ Qa XT)
   (XM (Zh 2<|Xp (AA T) hr T.qZE ZB<|XZ (Zw (Ze K) (pv 1) XN λ_ _=>rfl)<|XZ Qa<|XZ XN XT)
   (XM (Uq (i:=3) Z iT.nd Z Z (sc0:=Zd<|top 63) (N0:=["text","lines","places","ties"]) (N':=["line"]) (o:=1) (fr:=[]) ⟨Z,vh,vh,vh,Z,vh⟩ (ZL K<|ZT (UP K) (pv 1) (Qy XN) Qz) (Zu vg) (λ_ _ _ _=>(Zc 0)) (λ_ _ _ _=>ZM) λ_ _ _ _=>(Xp (AA T) hr T.qZE ZB<|XZ (pv 0)<|XZ Qa<|XZ XN XT))
   (XE<|Zm<|TU<|XZ (t5 T.k_Web (Im T) (hr.mono vg) Z T.c_Web T.bZ8 .nil ZB<|XZ (Zw (Ze K) (pv 2) XN λ_ _=>rfl)<|XZ (SE Z (sc0:=Zd<|top 63) (N0:=["text","lines","places","ties"]) (N':=["tie"]) (o:=1) (fr:=[]) ⟨Z,vh,vh,vh,Z,vh⟩ (ZL K<|pv 3) (Zu vg) (λ_ _ _ _=>(Zc 0)) (λ_ _ _ _=>ZM) λ_ _ _ _=>(TU<|XZ (Zw (Ze K) (pv 0) XN λ_ _=>rfl)<|XZ (Zw (Ze K) (pv 0) XN λ_ _=>rfl) XT)) XT)<|XZ (SE Z (sc0:=Zd<|top 63) (N0:=["text","lines","places","ties"]) (N':=["tie"]) (o:=1) (fr:=[]) ⟨Z,vh,vh,vh,Z,vh⟩ (ZL K<|pv 3) (Zu vg) (λ_ _ _ _=>(Zc 0)) (λ_ _ _ _=>ZM) λ_ _ _ _=>(Zw (Ze K) (pv 0) XN λ_ _=>rfl)) XT)))),?_⟩
  let iR:=hG.2.2.1;let GW:=hG.1
  let PN:=hG.2.1;let two:2<=sizeLine:=vg
  let z1:100000<=sizeLine:=vg;let wl:=II (n:=n) hl
  let TR:=Cb (n:=n) (ps:=ps) (ls:=ls);let tlen:(UE n ps ls).f<=100000:=by unfold UE;rw[IJ];show YB (l8 (uX:=400)<|BY hG hT) (by rw[wl];lia)
  exists _,Z,Z,_,_,Z,Z,Z,J,?_,λp hp=>?_
  .change(Txt.split _ Ce).f<=_;rw[TR,wl];lia
  let e:Txt.split (UE n ps ls) (Str.Y "\n")=Wy n ps ls:=TR;rw[e];let u1:=XH (o:=.lst<|TL<|Wy n ps ls) hp
  let VU:(upd H p<|.lst<|TL<|Wy n ps ls) p=some (.lst<|TL<|Wy n ps ls):=XS;generalize upd H p (.lst<|TL<|Wy n ps ls)=H1 at *;show nm ?_;show{_,Z,p,_,0,.str<|Str.Y "places "++nT n,Z,Z,SqL.of VU,Zy (n:=0) vg Z,Str.Y "places",[n],by rw[b8];rfl,vg,vg,(show 1<=10 by decide),λz hz=>by rw[XD.G hz];omega,λpA H2 s2 kI=>?_};show nm ?_;let Vw:=s2 _ _ VU
  exists _,Z,_,Z,p,_,Z,SqL.of Vw,λp2 KG=>?_;rw[MA vg];let e2:(TL<|Wy n ps ls).drop (1:Int).j=TL (List.zipWith QR ps ls):=rfl
  rw[e2];let u3:=XH (o:=.lst<|TL<|List.zipWith QR ps ls) KG
  let h3:(upd H2 p2<|.lst<|TL<|List.zipWith QR ps ls) p2=some (.lst<|TL<|List.zipWith QR ps ls):=XS;let iQ:=u3 _ _ kI
  generalize upd H2 p2 (.lst<|TL<|List.zipWith QR ps ls)=H3 at *;let zl:(List.zipWith QR ps ls).f=ps.f:=by rw[OB];grind
  obtain⟨R,hR⟩:∃R,R=List.zipWith (λ(p:Int×Int) l=>[p.1,p.2,l]) ps ls:={_,Z};let Rl:R.f=ps.f:=by rw[hR,OB];grind
  let Rat:∀(i:Nat)(p:Int×Int)(l:Int),ps[i]?=some p->ls[i]?=some l->R[i]?=some [p.1,p.2,l]:=λi p l h1 h2=>by rw[hR,OC,h1,h2]
  exists p2,Z,{_,SqL.of h3},Qt (K:=K) (a:=p2) (xs:=TL<|List.zipWith QR ps ls) (λi ys H4=>Same H3 H4/\i<=ps.f/\Bears (RO H4) ys (R.R i)) {Same.refl _,Yl _,{Z,λi a e=>by simp at e}} (Zk<|by rw[GI,zl];lia) (λi ys H4 _ zz=>by let(e,hi,h):=zz;show{SqL.of<|e _ _ h3,by rw[h.1,Yo];lia}) ?_ ?_
  .rintro i v ys H4 hi ⟨s4,Tv,hB⟩ S WZ;let(x,rfl,hx):=KH hi;let We:i<ps.f:=by rw[<-zl];show(Xs.G hx).1
   obtain⟨pp,Qk⟩:∃pp,ps[i]?=some pp:={_,XI We};obtain⟨l,Wa⟩:∃l,ls[i]?=some l:={_,XI J};rw[OC,Qk,Wa]at hx;let rfl:QR pp l=x:=Ya hx;show MV ?_;exists _,Z,Str.Y "tie",[pp.1,pp.2,l],Z,vg,vg,(show 3<=10 by decide),lZ hG hT Qk Wa,λr H5 s5 hr=>WZ _ _ {s4.l s5,We,?_};rw[YI,Rat i pp l Qk Wa];show(hB.imp λ_ _ zz=>by let(r,e,h):=zz;exists r,e,s5 _ _ h).snoc ⟨r,Z,hr⟩
  rintro ys H4 ⟨s4,_,hB⟩ p3 Br;rw[GI,zl,YS J]at hB;let u5:=XH (o:=.lst ys) Br
  let h5:(upd H4 p3<|.lst ys) p3=some (.lst ys):=XS;let iP:Bears (RO<|upd H4 p3<|.lst ys) ys R:=hB.imp λ_ _ zz=>by let(r,e,h):=zz;exists r,e,u5 _ _ h
  let iO:=(s4.l u5) _ _ iQ;let iM:=u1.l (s2.l<|u3.l<|s4.l u5)
  generalize upd H4 p3 (.lst ys)=H5 at *;let NR:=iP.1
  show nm ?_;let Az:∀i row,R[i]?=some row->∃(p:Int×Int)(l:Int),ps[i]?=some p/\ls[i]?=some l/\row=[p.1,p.2,l]:=λi row h=>by
   let We:i<ps.f:=by rw[<-Rl];show(Xs.G h).1
   obtain⟨pp,Qk⟩:∃pp,ps[i]?=some pp:={_,XI We};obtain⟨l,Wa⟩:∃l,ls[i]?=some l:={_,XI J};rw[Rat i pp l Qk Wa]at h;exists pp,l,Qk,Wa,(Ya h).symm
  exists _,Z,pA,_,0,.int n,Z,Z,SqL.of iO,Zy (n:=0) vg Z,_,Z,p3,Z,{_,SqL.of h5},Qt (K:=K) (a:=p3) (xs:=ys) (λi us H6=>Same H5 H6/\i<=ys.f/\PairsV H6 us (ps.R i)) {Same.refl _,Yl _,PairsV.nil} (Zk J) (λi us H6 _ zz=>by let(e,hi,h):=zz;show{SqL.of<|e _ _ h5,by rw[h.1,Yo];lia}) ?_ ?_
  .rintro i v us H6 hi ⟨s6,Tv,hU⟩ S WZ;let(row,HL,r,rfl,hr):=iP.at hi;let(pp,l,Qk,Wa,rfl):=Az i row HL;let Wc:=(Xs.G hi).1
   show MV ?_;exists _,Z,r,_,0,.int pp.1,Z,Z,SqL.of<|s6 _ _ hr,Zy (n:=0) vg Z,_,Z,r,_,1,.int pp.2,Z,Z,SqL.of<|s6 _ _ hr,Zy (n:=1) vg Z,two,λc hc=>WZ _ _ {s6.l<|XH hc,Wc,?_};rw[YI,Qk];show(hU.same<|XH hc).snoc ⟨c,Z,XS⟩
  rintro us H6 ⟨s6,_,hU⟩ lA Gw;rw[NR,Rl,YF]at hU;let u7:=XH (o:=.lst us) Gw
  let h7:(upd H6 lA<|.lst us) lA=some (.lst us):=XS;let hU7:=hU.same u7
  let SN:=s6.l u7;generalize upd H6 lA (.lst us)=H7 at *;intro x dx nx wI jU;let t1:Same H7 (upd (upd H7 dx<|.own x) x<|.ins t.A_Web dx []):=ZF (XH wI) (by rwa[Za (XO jU)])
  exists x,dx,n,lA,false,us,ps,Z,XS,λo=>?_,hU7.same t1,hG,λH8 hW k3=>{Z,?_}
  .show(Zp nx t1).seq (SqL.of h7)
  let s8:Same H7 H8:=λb o e=>k3 b o (t1 b o e) (Zb e nx);let h8:=(SN.l s8) _ _ h5
  let hB8:Bears (RO H8) ys R:=iP.imp λ_ _ zz=>by let(r,e,h):=zz;exists r,e,(SN.l s8) _ _ h
  exists _,Z,p3,Z,{_,SqL.of h8},Qt (K:=K) (a:=p3) (xs:=ys) (λi us H9=>H9=H8/\us=IL (ls.R i)) ⟨Z,Z⟩ (Zk J) (λi us H9 _ zz=>by let(e,h):=zz;show{e▸SqL.of h8,by rw[h,Xv,Yo];lia}) ?_ ?_
  .rintro i v us H9 hi ⟨rfl,rfl⟩ S WZ;let(row,HL,r,rfl,hr):=hB8.at hi;let(pp,l,Qk,Wa,rfl):=Az i row HL;show MV ?_;exists _,Z,r,_,2,.int l,Z,Z,SqL.of hr,Zy (n:=2) vg Z,WZ _ _ {Z,?_};rw[YI,Wa];change IL (ls.R i)++[V.int l]=IL (ls.R i++[l])
   rw[ZJ]
  rintro us9 H9 ⟨rfl,rfl⟩ aA haA;rw[NR,Rl,<-hl,YF];let u9:=XH (o:=.lst<|IL ls) haA
  let sH9:=iM.l (SN.l s8);exists two,λtA OK=>?_;let iK:=XH (o:=.tup [.ref x,.ref aA]) OK
  show q tA x aA _ (sH9.l<|u9.l iK) (sH9.free haA) XS (hW.same<|u9.l iK) (iK _ _ XS)
inductive spZG(K:Ad)(vs:List V)(H:Hp)(Q:VK)(_:XK):Prop
 |mk (a ns k:_) (_:vs=[.ref a,.int k]) (_:SqL K H a (IL ns)) (_:0<=k) (_:∀r:Int,0<=r->r<10^60->Q (.int r) H)
def iJ(T:Txt K mg t):WR P w base Xd T.qZG 1 (spZG K):=by
 show T.qZG.okI ["script","k"] vh λXw A outer s H vs Q E hr h=>?_
 .let⟨a,ns,k,rfl,hS,hk,q⟩:=h;show⟨_,(XM (Wm (Zl Nk (pv 1) (Zg (Zi K) vi T.n_len Boot.«len»<|XZ (pv 0) XT)<|Zs _)
   (XE<|Zm<|Zt ZW (Zw (Ze K) (pv 0) (pv 1) λ_ _=>rfl)<|Zt Lu XN XN)
   Zq)
   (XE<|Zm XN)),?_⟩
  exists _,Z,_,Z,a,_,Z,.inl hS,_,_,Z,Z,_,Z,?_;show Ey (λhc=>?_) (λ_=>?_)
  .let hc:=Yu hc;rw[Xv]at hc;obtain⟨z,hz⟩:∃z,ns[k.j]?=some z:={_,XI J};exists _,Z,_,Z,a,_,k,.int z,Z,Z,hS,Zy (n:=k.j) J (by rw[Yk,hz];rfl),_,_,Z,Z,⟨vg,vg,vg⟩,_,_,Z,Z,?_,?_
   .change(0:Int)<10^60;decide
   .show q _ (Sz _ vg) (Qi _ vg)
  .show q 0 vg vg
inductive spZH(vs:List V)(H:Hp)(Q:VK)(_:XK):Prop
 |mk (c k:_) (_:vs=[.int c,.int k]) (_:∀r:Int,0<=r->r<2147483587->Q (.int r) H)
def Ay(T:Txt K mg t):WR P w base Xd T.qZH 1 spZH:=by
 show T.qZH.okI ["cell","k","first","second"] vh λXw A outer s H vs Q E hr h=>?_
 .let⟨c,k,rfl,q⟩:=h;show⟨_,(XM (Zh 2<|Zt ZW (Zt Og (Zt Sv (Zt Sv (pv 0)<|Zt Og XN<|pv 1) XN) XN) XN)
   (XM (Zh 3<|Zt ZW (Zt Sv (Zt Sv (Zt Og (pv 2)<|pv 2)<|Zt Og XN<|pv 1) XN) XN)
   (XE<|Zm<|Zt Nl (Zt ZW (Zt Og (pv 3)<|pv 3) XN) XN))),?_⟩
  exists _,Z,_,Z,_,_,Z,Z,.inl ⟨vg,vg⟩,_,_,Z,Z,_,_,Z,Z,_,_,Z,Z,.inr ⟨vg,vg⟩,_,_,Z,Z,(by change(0:Int)<2147483647;decide),?_;let f0:0<=((c+7919*k+1)*48271)%2147483647:=Sz _ vg
  let f1:((c+7919*k+1)*48271)%2147483647<2147483647:=Qi _ vg;exists _,Z,_,Z,_,_,Z,Z,.inl ⟨vk,vk⟩,_,Z,_,_,Z,Z,.inl ⟨vg,vg⟩,_,_,Z,Z,_,_,Z,Z,_,_,Z,Z,(by change(0:Int)<2147483629;decide),?_;generalize ((c+7919*k+1)*48271)%2147483647=u at *;let g0:0<=(u*u+40692*k+3)%2147483629:=Sz _ vg
  let g1:(u*u+40692*k+3)%2147483629<2147483629:=Qi _ vg;exists _,Z,_,Z,_,_,Z,Z,.inl ⟨vk,vk⟩,_,_,Z,Z,(by change(0:Int)<2147483587;decide),_,_,Z,Z,⟨vg,vg⟩,?_;generalize (u*u+40692*k+3)%2147483629=v at *;let h0:0<=(v*v)%2147483587:=Sz _ vg
  let h1:(v*v)%2147483587<2147483587:=Qi _ vg;generalize (v*v)%2147483587=x at *;show q _ J J
def iI{p:Int->Prop}{l:Ac}{x:Int}(h:∀z∈l,p z)(hx:p x):∀z∈l++[x],p z:=λz hz=>by
 rcases Yb.G hz with q|q
 .show h z q
 .rw[XD.G q];show hx
inductive spZI(K:Ad)(vs:List V)(H:Hp)(Q:VK)(_:XK):Prop
 |mk (a:Addr) (ns:Ac) (st c:Nat) (way:Int) (_:vs=[.ref a,.int st,.int c,.int way]) (_:SqL K H a (IL ns)) (_:ns.f<=63) (_:st<=63) (_:c<=100) (_:∀l ds H',Same H H'->H l=none->H' l=some (.lst<|IL ds)->ds.f=c->(∀z∈ds,0<=z)->Q ↑l H')
def iH:FnScope ["script","start","count","way","total","folded","k","at","told"] ["script","start","count","way"] (Zd (top 67)):=Vg vh
def iG(T:Txt K mg t):WR P w base Xd T.qZI 2 (spZI K):=by
 show T.qZI.okI ["script","start","count","way","total","folded","k","at","told"] vh λXw A outer s H vs Q E hr h=>?_
 .let⟨a,ns,st,c,way,rfl,hS,hn,Wl,hc,q⟩:=h;show⟨_,(XM (Zh 4<|Zt ZW (Zg (Hg K Z) vi T.n_sum Boot.«sum»<|XZ (SE Z (sc0:=Zd<|top 67) (N0:=["script","start","count","way","total","folded","k","at","told"]) (N':=["cell"]) (o:=1) (fr:=[]) ⟨Z,vh,vh,vh,Z,vh⟩ (ZL K<|ZT (UP K) (pv 0) (Qy<|pv 1) Qz) (Zu vg) (λ_ _ _ _=>(Zc 0)) (λ_ _ _ _=>ZM) λ_ _ _ _=>(Zt ZW (pv 0)<|Zt Lu XN XN)) XT)<|Zt Lu XN XN)
   (XM (Uq (i:=5) Z iH.nd Z Z (sc0:=Zd<|top 67) (N0:=["script","start","count","way","total","folded","k","at","told"]) (N':=["k"]) (o:=1) (fr:=[]) ⟨Z,vh,vh,vh,Z,vh⟩ (ZP Z T.n_range<|XZ (pv 2) XT) (Zu vg) (λ_ _ _ _=>(Zc 0)) (λ_ _ _ _=>ZM) λ_ _ _ _=>(Zt Sv (Zt Og XN<|pv 0) XN))
   (XM (Uu YX Z (Zn8 Z T.n_range<|XZ (pv 1)<|XZ (Zg (Zi K) vi T.n_len Boot.«len»<|XZ (pv 0) XT) XT) (Zc 6)
   (XM (Zh 7<|Zt ZW (pv 6)<|Zg (ur Z) vi T.n_max Boot.«max»<|XZ XN<|XZ (pv 2) XT)
   (XE (Wm (Zl Lq (pv 2) XN<|Zs _)
   (XE<|yx (Zt ZW (Zt Sv (Zt Og (Zw (Ze K) (pv 5) (pv 7) λ_ _=>rfl) XN)<|Zw (Ze K) (pv 0) (pv 6) λ_ _=>rfl)<|Zt Lu XN XN)<|Fl (pv 5) (pv 7) Hj)
   Zq))))
   (XM (Zh 8<|TB XT)
   (XM (Uu YX Z (ZP Z T.n_range<|XZ (pv 2) XT) (Zc 6)
   (XE (Wm (PW.pt<|Fo (Zl PQ (pv 3) XN<|Zs _)<|Fp<|Zl Lq (pv 4) XN<|Zs _)
   (XM (ZI<|Ul K YO NM NN ZX (pv 8)<|XZ (Zt ZW (pv 4) XN) XT)
   (XE<|Zh 4<|Zt Nl (pv 4) XN))
   (XE<|ZI<|Ul K YO NM NN ZX (pv 8)<|XZ (Xp (Ay T) hr T.qZH ZB<|XZ (Zw (Ze K) (pv 5) (pv 6) λ_ _=>rfl)<|XZ (pv 6) XT) XT))))
   (XE<|Zm<|pv 8)))))),?_⟩
  exists _,Z,_,Z,(st:Int),Z,a,IL ns,Z,hS,λl1 QM=>?_;let s1:Same H (upd H l1<|.lst<|Xk (IL ns) (some (st:Int)) none):=XH QM
  obtain⟨ms,wC,MN⟩:∃ms:Ac,Xk (IL ns) (some (st:Int)) none=IL ms/\ms.f<=63:=by
   exists (ns.drop<|HT.TN (IL ns).f 0 (some (st:Int))).R (HT.TN (IL ns).f (IL ns).f none-HT.TN (IL ns).f 0 (some (st:Int))),?_,?_
   .unfold Xk;rw[fw,rR]
   .rw[Yo,Rx];lia
  show⟨l1,Z,{_,SqL.of XS},Qt (K:=K) (a:=l1) (xs:=Xk (IL ns) (some (st:Int)) none) (λi ys H2=>H2=upd H l1 (.lst<|Xk (IL ns) (some (st:Int)) none)/\∃rs:Ac,ys=IL rs/\rs.f=i/\i<=ms.f) {Z,[],Z,Z,Yl _} (by rw[wC,Xv];show Zk J)
   (λi ys H2 _ zz=>by let(e,rs,ey,el,_):=zz;show{e▸SqL.of XS,by rw[ey,Xv];lia}) ?_ ?_⟩
  .rintro i x ys H2 hi ⟨rfl,rs,rfl,el,Tv⟩ S WZ;rw[wC]at hi;let(z,rfl,hz):=Um hi;let Xt:=(Xs.G hz).1
   show MV ?_;exists _,Z,_,_,Z,Z,⟨vg,vg,vg⟩,_,_,Z,Z,(by change(0:Int)<10^60;decide),?_;show WZ _ _ {Z,rs++[z%10^60],?_,?_,Xt}
   .show(ZJ _ _).symm
   .rw[Xm,el];rfl
  .rintro ys H2 ⟨rfl,rs,rfl,el,_⟩ l2 Ti;let s2:=ZF (o:=.lst<|IL rs) s1 Ti
   exists l2,rs,Z,SqL.of XS,_,_,Z,Z,⟨vg,vg,vg⟩,_,_,Z,Z,(by change(0:Int)<10^60;decide),?_;let t0:0<=rs.sum%(10:Int)^((60:Int).j):=Sz _ vg
   show⟨_,Z,(c:Int),Z,J,J,yj (lo:=0) (n:=((c:Int)).j) (λi ys H3=>H3=upd (upd H l1<|.lst<|Xk (IL ns) (some (st:Int)) none) l2 (.lst<|IL rs)/\∃fs:Ac,ys=IL fs/\fs.f=i) {Z,[],Z,Z} (Zk J)
    (λi ys H3 _ zz=>by let(_,fs,e,el):=zz;rw[e,Xv];lia) ?_ ?_⟩
   .rintro i ys H3 hi ⟨rfl,fs,rfl,iF⟩ S WZ;show MV ?_;exists _,Z,_,_,Z,Z,.inl ⟨vg,vg⟩,_,_,Z,Z,?_;show WZ _ _ {Z,fs++[7*(0+(i:Int))+5],?_,?_}
    .show(ZJ _ _).symm
    .rw[Xm,iF];rfl
   .rintro ys H3 ⟨rfl,fs,rfl,iF⟩ l3 LX;let s3:=ZF (o:=.lst<|IL fs) s2 LX
    let iE:H l3=none:=s2.free LX;exists _,Z,_,Z,a,_,Z,.inl<|s3.seq hS,(st:Int),((IL ns).f:Int),Z,{J,J,J,by rw[Xv];lia},?_;show Tn (lo:=(st:Int)) (n:=(((IL ns).f:Int)-(st:Int)).j) (λj σ H4=>∃fs v6 v7,σ=[some ↑a,some<|.int st,some<|.int c,some<|.int way,some<|.int<|rs.sum%(10:Int)^((60:Int).j),some<|.ref l3,v6,v7,none]/\Same H H4/\H4 l3=some (.lst<|IL fs)/\fs.f=c)
     {fs,none,none,Z,s3,XS,by rw[iF];simp} ?_ ?_
    .rintro j σ H4 hj ⟨gs,v6,v7,rfl,s4,h4,eg⟩;rw[Xv]at hj;exists _,Z,_,Z,_,_,Z,_,_,Z,Z,?_,?_
     .change(0:Int)<if (c:Int)>1 then (c:Int) else 1
      split<;>lia
     .exists _,Z,_,_,Z,Z,_,Z,?_;show WN (λkH=>?_) (λkH=>?_)
      .let iC:(if (c:Int)>1 then (c:Int) else 1)=(c:Int):=by split<;>lia
       let at0:0<=((st:Int)+(j:Int))%(c:Int):=Sz _ J;let DW:((st:Int)+(j:Int))%(c:Int)<(c:Int):=Qi _ kH
       rw[iC];generalize hat:((st:Int)+(j:Int))%(c:Int)=at' at *;obtain⟨f,hf⟩:∃f,gs[at'.j]?=some f:={_,XI vk};obtain⟨z,hz⟩:∃z,ns[st+j]?=some z:={_,XI J};exists _,Z,_,Z,l3,_,_,_,Z,Z,SqL.of h4,Zy (n:=at'.j) J (by rw[Yk,hf];rfl),_,_,Z,Z,.inr ⟨vg,vg⟩,_,Z,_,Z,a,_,_,_,Z,Z,s4.seq hS,Zy (n:=st+j) J (by rw[Yk,hz];rfl),_,_,Z,Z,_,_,Z,Z,⟨vg,vg,vg⟩,_,_,Z,Z,(by change(0:Int)<10^60;decide),?_;exists _,Z,_,Z,l3,_,_,at'.j,Z,Z,h4,?_,?_
       .try rw[hat]
        unfold PL;rw[if_pos at0,if_pos (by rw[Xv];grind)]
       .show{gs.set at'.j<|(f*31+z)%(10:Int)^((60:Int).j),_,_,Z,Zp iE s4,?_,by rwa[Qf]};rw[XS,rQ]
      .exists gs,_,_,Z,s4,h4,eg
    .rintro σ H4 ⟨gs,v6,v7,rfl,s4,h4,eg⟩;exists Yl _,λl5 Gv=>?_;let LO:H l5=none:=s4.free Gv
     let wq:l3≠l5:=Zb h4 Gv;show⟨_,Z,(c:Int),Z,J,J,Tn (lo:=0) (n:=((c:Int)).j) (λj σ H6=>∃Ax ds v6 v7,σ=[some ↑a,some<|.int st,some<|.int c,some<|.int way,some<|.int Ax,some<|.ref l3,v6,v7,some ↑l5]/\Same H H6/\H6 l3=some (.lst<|IL gs)/\H6 l5=some (.lst<|IL ds)/\ds.f=j/\(∀z∈ds,0<=z)/\0<=Ax)
      {_,[],_,_,Z,ZF s4 Gv,by rw[Za wq];show h4,XS,Z,λz hz=>(by cases hz),t0} ?_ ?_⟩
     .rintro j σ H6 hj ⟨Ax,ds,w6,w7,rfl,s6,Gu,Kx,Aw,Oa,HK⟩;let jc:j<c:=J
      let app:∀r:Int,(upd H6 l5<|.lst<|IL ds++[.int r]) l5=some (.lst<|IL<|ds++[r]):=λr=>by rw[XS,ZJ]
      let HJ:(IL ds).f<sizeLine:=by rw[Xv];show Zk J
      obtain⟨f,hf⟩:∃f,gs[j]?=some f:={_,XI J};exists _,Z,Z,_,Z,?_;show WN (λhw=>?_) (λhw=>?_)
      .exists _,Z,_,_,Z,Z,_,Z,?_;show WN (λQm=>?_) (λQm=>?_)
       .exists _,Z,.inl {Z,_,SqL.of Kx},_,Z,_,_,Z,Z,(by change(0:Int)<210;decide),l5,_,_,Z,Z,Kx,HJ,?_;exists _,Z,_,_,Z,Z,⟨vg,vg⟩,?_;show{_,ds++[Ax%210],_,_,Z,Zp LO s6,by rw[Za wq];show Gu,app _,by rw[Xm,Aw];rfl,iI Oa<|Sz _ vg,?_};lia
       .exists _,Z,.inl {Z,_,SqL.of Kx},_,Z,_,Z,l3,_,_,_,Z,Z,SqL.of Gu,Zy (n:=j) J (by rw[Yk,hf];rfl),_,Z,_,_,Z,λr r0 r1=>?_;exists l5,_,_,Z,Z,Kx,HJ,?_;exists _,ds++[r],_,_,Z,Zp LO s6,by rw[Za wq];show Gu,app _,by rw[Xm,Aw];rfl,iI Oa r0,HK
      .exists _,Z,.inl {Z,_,SqL.of Kx},_,Z,_,Z,l3,_,_,_,Z,Z,SqL.of Gu,Zy (n:=j) J (by rw[Yk,hf];rfl),_,Z,_,_,Z,λr r0 r1=>?_;exists l5,_,_,Z,Z,Kx,HJ,?_;exists _,ds++[r],_,_,Z,Zp LO s6,by rw[Za wq];show Gu,app _,by rw[Xm,Aw];rfl,iI Oa r0,HK
     .rintro σ H6 ⟨Ax,ds,w6,w7,rfl,s6,Gu,Kx,Aw,Oa,HK⟩;exists _,Z,q l5 ds H6 s6 LO Kx J Oa
def PairsV.good{H:Hp}{xs:List V}{ps:Aa}{v:V}{p:Int×Int}{n:Int}(h:∀p∈ps,0<=p.1/\p.1<n/\0<=p.2/\p.2<n)(hp:0<=p.1/\p.1<n/\0<=p.2/\p.2<n):∀q∈ps++[p],0<=q.1/\q.1<n/\0<=q.2/\q.2<n:=λq hq=>by
 rcases Yb.G hq with z|z
 .show h q z
 .rw[XD.G z];show hp
inductive spZJ(K:Ad)(vs:List V)(H:Hp)(Q:VK)(_:XK):Prop
 |mk (a ds n hang:_) (_:vs=[.ref a,.int n,.bl hang]) (_:SqL K H a (IL ds)) (_:ds.f<=100) (_:(∀z∈ds,0<=z)) (_:1<=n) (_:n<=1000) (_:∀l xs ps H',Same H H'->H l=none->H' l=some (.lst xs)->PairsV H' xs ps->ps.f=ds.f->(∀p∈ps,0<=p.1/\p.1<n/\0<=p.2/\p.2<n)->Q ↑l H')
def iz(T:Txt K mg t):WR P w base Xd T.qZJ 1 (spZJ K):=by
 show T.qZJ.okI ["draws","places","hang","ties","k","one","other","ends","turn"] vh λXw A outer s H vs Q E hr h=>?_
 .let⟨a,ds,n,hang,rfl,hS,GS,Oa,n1,n2,q⟩:=h;show⟨_,(XM (Zh 3<|TB XT)
   (XM (Uu YX Z (ZP Z T.n_range<|XZ (Zg (Zi K) vi T.n_len Boot.«len»<|XZ (pv 0) XT) XT) (Zc 4)
   (XM (Zh 5<|Zt ZW (Zw (Ze K) (pv 0) (pv 4) λ_ _=>rfl)<|pv 1)
   (XM (Zh 6<|Zt ZW (Zt Nl (Zw (Ze K) (pv 0) (pv 4) λ_ _=>rfl)<|pv 1)<|pv 1)
   (XM (Wm (PW.pt<|Fo (Oj<|pv 2)<|Fp<|Zl Nk (pv 4) (Zt Lv (pv 1) XN)<|Zs _)
   (XM (Zh 7<|TU<|XZ (Zt ZW (Zw (Ze K) (pv 0) (pv 4) λ_ _=>rfl)<|Zt Sv (pv 4) XN)<|XZ (Zt Sv (pv 4) XN) XT)
   (XM (Zh 5<|Zw (Zr K) (pv 7) (Zt ZW (Zt Nl (Zw (Ze K) (pv 0) (pv 4) λ_ _=>rfl) XN) XN) λ_ _=>rfl)
   (XE<|Zh 6<|Zw (Zr K) (pv 7) (Zt Lv XN<|Zt ZW (Zt Nl (Zw (Ze K) (pv 0) (pv 4) λ_ _=>rfl) XN) XN) λ_ _=>rfl)))
   Zq)
   (XE<|ZI<|Ul K YO NM NN ZX (pv 3)<|XZ (TU<|XZ (pv 5)<|XZ (pv 6) XT) XT)))))
   (XM (Zh 8<|Zt ZW (Zg (Hg K Z) vi T.n_sum Boot.«sum»<|XZ (pv 0) XT)<|Zg (ur Z) vi T.n_max Boot.«max»<|XZ XN<|XZ (Zg (Zi K) vi T.n_len Boot.«len»<|XZ (pv 3) XT) XT)
   (XE<|Zm<|Zt yn (ZT (UP K) (pv 3) (Qy<|pv 8) Qz)<|ZT (UP K) (pv 3) Qz<|Qy<|pv 8)))),?_⟩
  exists Yl _,λl hl=>?_;show⟨_,Z,a,_,Z,.inl<|(XH hl).seq hS,_,Z,J,by rw[Xv];omega,Tn (lo:=0) (n:=((IL ds).f:Int).j) (λi σ H2=>∃xs ps v4 v5 v6 v7,σ=[some ↑a,some<|.int n,some<|.bl hang,some<|.ref l,v4,v5,v6,v7,none]/\Same H H2/\H2 l=some (.lst xs)/\PairsV H2 xs ps/\ps.f=i/\∀p∈ps,0<=p.1/\p.1<n/\0<=p.2/\p.2<n)
   {[],[],none,none,none,none,Z,XH hl,XS,PairsV.nil,Z,λp hp=>(by cases hp)} ?_ ?_⟩
  .rintro i σ H2 hi ⟨xs,ps,v4,v5,v6,v7,rfl,s2,h2,hP,GD,hb⟩;let Ui:i<ds.f:=by rw[Xv]at hi;lia
   obtain⟨d,hd⟩:∃d,ds[i]?=some d:={_,XI Ui};let d0:0<=d:=Oa d (Xn hd)
   let iD:Vq (IL ds) (0+(i:Int))=some (.int d):=Zy (n:=i) J (So hd);let xl:xs.f<sizeLine:=Zk (by rw[hP.1];lia)
   let put:∀x y H3 r,Same H2 H3->H3 r=none->0<=x->x<n->0<=y->y<n->∀u5 u6 u7:Option V,∃xs' iy v4 v5 v6 v7,
     ([some ↑a,some<|.int n,some<|.bl hang,some<|.ref l,some<|.int<|0+(i:Int),u5,u6,u7,none]:List (Option V))=[some ↑a,some<|.int n,some<|.bl hang,some<|.ref l,v4,v5,v6,v7,none]/\
     Same H (upd (upd H3 r<|.tup [.int x,.int y]) l<|.lst<|xs++[.ref r])/\(upd (upd H3 r<|.tup [.int x,.int y]) l<|.lst<|xs++[.ref r]) l=some (.lst xs')/\PairsV (upd (upd H3 r<|.tup [.int x,.int y]) l<|.lst<|xs++[.ref r]) xs' iy/\iy.f=i+1/\∀p∈iy,0<=p.1/\p.1<n/\0<=p.2/\p.2<n:=by
    intro x y H3 r s3 hr x0 x1 y0 y1 u5 u6 u7;let h3:=s3 _ _ h2
    let s4:=ZF (o:=.tup [.int x,.int y]) s3 hr;let nlr:l≠r:=Zb h3 hr
    show{xs++[.ref r],ps++[(x,y)],_,_,_,_,Z,Zp hl<|s2.l s4,XS,?_,by rw[Xm,GD];rfl,PairsV.good (H:=H) (xs:=[]) (v:=.non) hb ⟨x0,x1,y0,y1⟩};let hP4:PairsV (upd H3 r<|.tup [.int x,.int y]) (xs++[.ref r]) (ps++[(x,y)]):=(hP.same s4).snoc ⟨r,Z,XS⟩
    exists hP4.1,λj p e=>?_;let(v,e1,tt,e2,e3):=hP4.2 j p e;exists v,e1,tt,e2,by rwa[Za (Vs e3 (s4 _ _ h2) (λz=>nomatch z))]
   exists _,Z,_,Z,a,_,_,_,Z,Z,s2.seq hS,iD,_,Z,_,_,Z,Z,(by change 0<n;lia),?_;exists _,Z,_,Z,a,_,_,_,Z,Z,s2.seq hS,iD,_,Z,_,_,Z,Z,{by change 0<n;lia,by change n<1073741824;lia},_,Z,_,_,Z,Z,(by change 0<n;omega),?_;let o0:0<=d%n:=Sz _ J
   let o1:d%n<n:=Qi _ B;let q0:0<=d/n%n:=Sz _ J
   let q1:d/n%n<n:=Qi _ B;exists _,Z,_,Z,?_;show fv (λhh=>?_) (λhh=>?_)
   .exists _,Z,_,Z,_,_,Z,Z,_,_,Z,Z,_,Z,?_;show WN (λhk=>?_) (λhk=>?_)
    .let k1:(0:Int)<0+(i:Int)+1:=J;let r0:0<=d%(0+(i:Int)+1):=Sz _ J
     let r1:d%(0+(i:Int)+1)<0+(i:Int)+1:=Qi _ k1;exists _,Z,_,Z,a,_,_,_,Z,Z,s2.seq hS,iD,_,Z,_,_,Z,Z,_,_,Z,Z,k1,_,Z,_,_,Z,Z,(by change 2<=sizeLine;decide),λe he=>?_;let se:=XH (o:=.tup [.int (d%(0+(i:Int)+1)),.int (0+(i:Int)+1)]) he
     let m0:0<=d/105%2:=Sz _ vg;let m1:d/105%2<2:=Qi _ vg
     obtain⟨x,hx,x0,x1⟩:∃x:Int,Vq ([.int (d%(0+(i:Int)+1)),.int (0+(i:Int)+1)]:List V) (d/105%2)=some (.int x)/\0<=x/\x<n:=by
      rcases(by lia:d/105%2=0\/d/105%2=1) with e|e
      .rw[e];exists _,Z,r0,J
      .rw[e];exists _,Z,J,J
     obtain⟨y,hy,y0,y1⟩:∃y:Int,Vq ([.int (d%(0+(i:Int)+1)),.int (0+(i:Int)+1)]:List V) (1-d/105%2)=some (.int y)/\0<=y/\y<n:=by
      rcases(by lia:d/105%2=0\/d/105%2=1) with e|e
      .rw[e];exists _,Z,J,J
      .rw[e];exists _,Z,r0,J
     let c2:EY d 105:=⟨vg,vg⟩;exists _,Z,_,Z,_,Z,a,_,_,_,Z,Z,(s2.l se).seq hS,iD,_,_,Z,Z,c2,_,_,Z,Z,(by change(0:Int)<2;decide),e,_,_,_,Z,Z,SqT.of XS,hx,?_;exists _,Z,_,Z,_,Z,a,_,_,_,Z,Z,(s2.l se).seq hS,iD,_,_,Z,Z,c2,_,_,Z,Z,(by change(0:Int)<2;decide),_,_,Z,Z,e,_,_,_,Z,Z,SqT.of XS,hy,?_;exists _,Z,.inl {Z,_,SqL.of<|se _ _ h2},_,Z,_,Z,(by change 2<=sizeLine;decide),λr hr=>?_;exists l,xs,_,Z,Z,(ZF se hr) _ _ h2,xl,put x y _ r se hr x0 x1 y0 y1 _ _ _
    .exists _,Z,.inl {Z,_,SqL.of h2},_,Z,_,Z,(by change 2<=sizeLine;decide),λr hr=>?_;exists l,xs,_,Z,Z,(XH hr) _ _ h2,xl,put _ _ _ r (Same.refl _) hr o0 o1 q0 q1 _ _ _
   .exists _,Z,.inl {Z,_,SqL.of h2},_,Z,_,Z,(by change 2<=sizeLine;decide),λr hr=>?_;exists l,xs,_,Z,Z,(XH hr) _ _ h2,xl,put _ _ _ r (Same.refl _) hr o0 o1 q0 q1 _ _ _
  .rintro σ H2 ⟨xs,ps,v4,v5,v6,v7,rfl,s2,h2,hP,GD,hb⟩;let GD:ps.f=ds.f:=by rw[GD,Xv];simp
   exists _,Z,a,ds,Z,s2.seq hS,_,Z,l,xs,Z,.inl<|SqL.of h2,_,_,Z,_,_,Z,Z,?_,?_
   .change(0:Int)<if xs⁻¹>1 then xs⁻¹ else 1
    split<;>lia
   .generalize hT:ds.sum%(if xs⁻¹>1 then xs⁻¹ else 1)=T0;let T1:0<=T0:=by rw[<-hT];show Sz _ (by split<;>lia)
    let T2:T0.j<=xs.f:=by
     have:T0<(if xs⁻¹>1 then xs⁻¹ else 1):=by rw[<-hT];show Qi _ (by split<;>lia)
     split at this<;>grind
    let e1:Xk xs (some T0) none=xs.drop T0.j:=rN T1 T2;let e2:Xk xs none (some T0)=xs.R T0.j:=rM T1 T2
    exists _,rfl,_,rfl,T0,(by first|rfl|show YZ V.int hT),l,xs,rfl,SqL.of h2,λr1 OL=>?_
    let s3:=XH (o:=.lst<|Xk xs (some T0) none) OL;exists _,rfl,_,rfl,T0,(by first|rfl|show YZ V.int hT),l,xs,rfl,SqL.of<|s3 _ _ h2,λr2 Wd=>?_
    let s4:=ZF (o:=.lst<|Xk xs none<|some T0) s3 Wd;let n12:r1≠r2:=Zb XS Wd
    exists r1,r2,_,_,Z,Z,by rw[Za n12,XS],XS,?_,λr hr=>?_
    .rw[e1,e2,Rx,Yo];show Ej (by rw[hP.1];grind)
    .let s5:=ZF (o:=.lst<|Xk xs (some T0) none++Xk xs none (some T0)) s4 hr;show q r _ (ps.drop T0.j++ps.R T0.j) _ (s2.l s5) ((s2.l s4).free hr) XS ?_ ?_ λp hp=>?_
     .let z:=((hP.same s5).drop T0.j).app ((hP.same s5).R T0.j);rwa[<-e1,<-e2]at z
     .rw[Xm,Rx,Yo,<-hP.1]
      have:=hP.1
      grind
     .rcases Yb.G hp with z|z
      .show hb p (List.mem_of_mem_drop z)
      .show hb p (NJ z)
inductive spZK(K:Ad)(vs:List V)(H:Hp)(Q:VK)(_:XK):Prop
 |mk (a ns most count:_) (_:vs=[.ref a,.int most,.int count]) (_:SqL K H a (IL ns)) (_:ns.f<=63) (_:1<=most) (_:most<=14) (_:0<=count) (_:count<=30) (_:∀r l n xs ps H',Same H H'->H' r=some (.tup [.int n,.ref l])->H l=none->H' l=some (.lst xs)->PairsV H' xs ps->Zv n ps->n<=most->ps⁻¹<=count->Q ↑r H')
def ix(T:Txt K mg t):WR P w base Xd T.qZK 3 (spZK K):=by
 show T.qZK.okI ["script","most","count","head","places","many","draws"] vh λXw A outer s H vs Q E hr h=>?_
 .let⟨a,ns,most,count,rfl,hS,hn,m1,m2,c1,c2,q⟩:=h;show⟨_,(XM (Zh 3<|Xp (iJ T) hr T.qZG ZB<|XZ (pv 0)<|XZ XN XT)
   (XM (Zh 4<|Zt Sv XN<|Zt ZW (pv 3)<|pv 1)
   (XM (Zh 5<|Zg (JR Z) vi T.n_min Boot.«min»<|XZ (pv 2)<|XZ (Zt Sv (Zt ZW (Zt Nl (pv 3)<|pv 1)<|Zt Sv (pv 2) XN)<|Zt Og (Zt ZW (Zt Nl (pv 3) XN) XN)<|pv 4) XT)
   (XM (Zh 6<|Xp (iG T) hr T.qZI ZB<|XZ (pv 0)<|XZ XN<|XZ (pv 5)<|XZ (Zt ZW (Zt Nl (pv 3) XN) XN) XT)
   (XE<|Zm<|TU<|XZ (pv 4)<|XZ (Xp (iz T) hr T.qZJ ZB<|XZ (pv 6)<|XZ (pv 4)<|XZ (Nj Lq (Zt ZW (Zt Nl (pv 3) XN) XN) XN<|Zs _) XT) XT))))),?_⟩
  exists _,Z,a,ns,0,Z,hS,vg,λhd h0 h1=>?_;let n0:0<=hd%most:=Sz _ J
  let n1:hd%most<most:=Qi _ J;exists _,Z,_,Z,_,_,Z,Z,(by change 0<most;lia),_,_,Z,Z,?_;exists _,Z,_,Z,_,Z,_,_,Z,Z,{by change 0<most;omega,by change most<1073741824;lia},_,Z,_,_,Z,Z,_,_,Z,Z,(by change 0<count+1;lia),_,Z,_,_,Z,Z,⟨vg,vg⟩,_,_,Z,Z,(by change(0:Int)<2;decide),_,Z,_,_,Z,Z,.inr {by change -(2^64)<1+hd%most;lia,by change 1+hd%most<2^64;lia},_,_,Z,Z,_,_,Z,?_;let e0:0<=hd/most%(count+1):=Sz _ J
  let f0:0<=hd/97%2:=Sz _ vg;let g0:0<=hd/97%2*(1+hd%most):=Int.mul_nonneg f0 J
  obtain⟨c,hc⟩:∃c:Nat,(if hd/most%(count+1)+hd/97%2*(1+hd%most)<count then hd/most%(count+1)+hd/97%2*(1+hd%most) else count)=(c:Int):=
   {(if hd/most%(count+1)+hd/97%2*(1+hd%most)<count then hd/most%(count+1)+hd/97%2*(1+hd%most) else count).j,by split<;>lia}
  let k1:(c:Int)<=count:=by rw[<-hc];split<;>grind
  exists _,Z,_,Z,_,Z,_,_,Z,Z,⟨vg,vg⟩,_,_,Z,Z,(by change(0:Int)<2;decide),a,ns,1,c,_,YZ (λz:Int=>[V.ref a,V.int 1,V.int z,V.int (hd/194%2)]) hc,hS,hn,vg,J,λl ds H1 s1 QV QM Aw Oa=>?_;exists _,Z,_,Z,_,Z,_,Z,_,_,Z,Z,⟨vg,vg⟩,_,_,Z,Z,(by change(0:Int)<3;decide),_,_,Z,Z,l,ds,_,_,Z,SqL.of QM,J,Oa,(by change 1<=1+hd%most;lia),(by change 1+hd%most<=1000;lia),λl2 xs ps H2 s2 iw iu hP ePl hb=>?_;exists (by change 2<=sizeLine;decide),λr hr=>?_;let s3:=XH (o:=.tup [.int (1+hd%most),.ref l2]) hr
  show q r l2 (1+hd%most) xs ps _ ((s1.l s2).l s3) XS (s1.free iw) (s3 _ _ iu) (hP.same s3) ⟨J,J,J,hb⟩ J J
inductive spZL(K:Ad)(vs:List V)(H:Hp)(Q:VK)(_:XK):Prop
 |mk (n a b xs ps ls:_) (_:vs=[.int n,.ref a,.ref b]) (_:SqL K H a xs) (_:PairsV H xs ps) (_:SqL K H b (IL ls)) (_:Zv n ps) (_:ls.f=ps.f) (_:Told ls) (_:∀H':Hp,Same H H'->Q (.str<|UE n ps ls) H')
def ir(T:Txt K mg t):WR P w base Xd T.qZL 1 (spZL K):=by
 show T.qZL.okI ["places","ties","lengths","lines","k","words"] vh λXw A outer s H vs Q E hr h=>?_
 .let⟨n,a,b,xs,ps,ls,rfl,hA,hP,hB,hG,hl,hT,q⟩:=h;show⟨_,(XM (Zh 3<|TB<|XZ (Zt ZO6 Qa<|Zo xm vi T.n_str Boot.«str»<|XZ (pv 0) XT) XT)
   (XM (Uu YX Z (ZP Z T.n_range<|XZ (Zg (Zi K) vi T.n_len Boot.«len»<|XZ (pv 1) XT) XT) (Zc 4)
   (XM (Zh 5<|TB<|XZ Qa<|XZ (Zo xm vi T.n_str Boot.«str»<|XZ (Zw (Zr K) (Zw (Ze K) (pv 1) (pv 4) λ_ _=>rfl) XN λ_ _=>rfl) XT)<|XZ (Zo xm vi T.n_str Boot.«str»<|XZ (Zw (Zr K) (Zw (Ze K) (pv 1) (pv 4) λ_ _=>rfl) XN λ_ _=>rfl) XT) XT)
   (XE<|ZI<|Ul K YO NM NN ZX (pv 3)<|XZ (Ul K Gm FC FF (cv K) Qa<|XZ (Zt yn (pv 5)<|TB<|XZ (Zo xm vi T.n_str Boot.«str»<|XZ (Zw (Ze K) (pv 2) (pv 4) λ_ _=>rfl) XT) XT) XT) XT)))
   (XE<|Zm<|Ul K Gm FC FF (cv K) Qa<|XZ (pv 3) XT))),?_⟩
  let RD:=hP.1;let iR:=hG.2.2.1
  let GW:=hG.1;let PN:=hG.2.1
  let one:1<=sizeLine:=vg;let three:3<=sizeLine:=vg
  let z1:100000<=sizeLine:=vg;let nl:=Cg (i:=n) (k:=60) vg J J
  exists _,Z,n,Z,J,J,_,_,Z,Z,?_,one,λd hd=>?_
  .change 7+(nT n).f<=_;lia
  let u1:=XH (o:=.lst<|TL<|Wy n (ps.R 0)<|ls.R 0) hd;show nm ?_;exists _,Z,a,_,Z,.inl<|u1.seq hA,_,Z,J,J,Tn (lo:=0) (n:=(xs.f:Int).j) (λi σ H4=>∃v4 v5,σ=[some (.int n),some<|.ref a,some<|.ref b,some<|.ref d,v4,v5]/\Same H H4/\H4 d=some (.lst<|TL<|Wy n (ps.R i)<|ls.R i)) ⟨none,none,Z,u1,XS⟩ ?_ ?_
  .rintro i σ H4 hi ⟨v4,v5,rfl,s4,h4⟩;let We:i<ps.f:=J
   obtain⟨v,hv⟩:∃v,xs[i]?=some v:={_,XI J};let(p,hp,tt,rfl,Ql):=hP.at hv;obtain⟨l,Wa⟩:∃l,ls[i]?=some l:={_,XI J};let Ry:=lZ hG hT hp Wa
   let b1:=Ry p.1 AP;let b2:=Ry p.2 AP
   let b3:=Ry l AP;show nm ?_;dsimp only;let ia:Vq xs (0+(i:Int))=some ↑tt:=Zy (n:=i) J hv
   exists _,Z,_,Z,a,_,_,.ref tt,Z,Z,s4.seq hA,ia,tt,_,0,.int p.1,Z,Z,SqT.of<|s4 _ _ Ql,Z,p.1,Z,J,J,_,Z,_,Z,a,_,_,.ref tt,Z,Z,s4.seq hA,ia,tt,_,1,.int p.2,Z,Z,SqT.of<|s4 _ _ Ql,Z,p.2,Z,J,J,three,λc hc=>?_;let u2:=XH (o:=.lst<|TL [Str.Y "tie",nT p.1,nT p.2]) hc
   let s5:=s4.l u2;let h5:=u2 _ _ h4
   let hc5:(upd H4 c<|.lst<|TL [Str.Y "tie",nT p.1,nT p.2]) c=some (.lst<|TL [Str.Y "tie",nT p.1,nT p.2]):=XS;show nm ?_;dsimp only;change Lx _ _ _ (upd H4 c<|.lst<|TL [Str.Y "tie",nT p.1,nT p.2]);generalize upd H4 c (.lst<|TL [Str.Y "tie",nT p.1,nT p.2])=H5 at *;exists _,Z,.inl {Z,_,SqL.of h5},Z,_,Z,_,Z,_,Z,b,_,_,.int l,Z,Z,s5.seq hB,Zy (n:=i) J<|So Wa,l,Z,J,J,one,λc2 VY=>?_;let u3:=XH (o:=.lst<|TL [nT l]) VY
   exists c,c2,_,TL [nT l],Z,Z,u3 _ _ hc5,XS,(show 3+1<=sizeLine by decide),λc3 hc3=>?_;let u4:=XH (o:=.lst<|TL [Str.Y "tie",nT p.1,nT p.2]++TL [nT l]) hc3
   let u34:=u3.l u4;let wl:(Wy n (ps.R i)<|ls.R i).f<=31:=by rw[II (by rw[Yo,Yo];lia),Yo];grind
   exists _,c3,[Str.Y "tie",nT p.1,nT p.2,nT l],Z,Z,SqL.of XS,?_,?_
   .change JoinOk Vh _=true;rw[Cd];show bX (uX:=61) (λa ha=>?_) (by change 4*61+4<=_;decide);rcases Ye.G ha with e|e
    .rw[e];decide
    .show l7 Ry a e
   exists d,_,_,Z,Z,u34 _ _ h5,Zk (by rw[GI];lia),_,_,Z,Zp hd<|s5.l u34,?_;rw[XS];change some (HO.lst<|TL (Wy n (ps.R i)<|ls.R i)++[.str (QR p l)])=_
   rw[Ca,l6 hp Wa]
  rintro σ H4 ⟨v4,v5,rfl,s4,h4⟩;rw[show(xs.f:Int).j=ps.f by lia,YF,<-hl,YF]at h4;exists Z,_,Z,_,d,_,Z,Z,SqL.of h4,?_,q H4 s4;change JoinOk Ce _=true
  rw[IJ];show bX (uX:=400) (BY hG hT) (by rw[II hl];lia)
inductive spZM(K:Ad)(C:Addr)(vs:List V)(H:Hp)(Q:VK)(_:XK):Prop
 |mk (w b:Addr) (n:Int) (ps:Aa) (ls:Ac) (L:Ab) (_:vs=[.ref w,.ref b,.int n]) (_:WebAt C H w n ps) (_:Zv n ps) (_:n<=9) (_:SqL K H b (IL ls)) (_:ls.f=ps.f) (_:(∀x∈ls,0<=x/\x<=4)) (_:L.Nodup) (_:(∀T,T∈L↔Zf n ps T)) (_:∀(r:Addr)(H':Hp),Same H H'->H' r=some (.lst<|IL<|VZ (4*n).j ls L)->Q ↑r H')
def Kw{b:Int}{ls:Ac}:(wL b ls).f=ls.f:=Xy _
def Av{z:Int}(z0:0<=z)(z1:z<=4):(((10:Int)^14)^z.j).natAbs<=2^200:=by rcases(by omega:z=0\/z=1\/z=2\/z=3\/z=4) with e|e|e|e|e<;>subst e<;>decide
def iq(T:Txt K mg t):WR P w base Xd T.qZM 4 (spZM K t.A_Web):=by
 show T.qZM.okI ["web","lengths","places","weights","length","weight","k","total","told"] vh λXw A outer s H vs Q E hr h=>?_
 .let⟨w,b,n,ps,ls,L,rfl,hW,hG,h9,hS,hl,h4,LN,Ub,q⟩:=h;show⟨_,(XM (Zh 3<|TB XT)
   (XM (Uu YX Z (ZL K<|pv 1) (Zc 4)
   (XM (Zh 5 XN)
   (XM (Uu YX Z (ZP Z T.n_range<|XZ (pv 4) XT) (Zc 6)
   (XE<|Zh 5<|Zt Og (pv 5)<|Zt Lu XN XN))
   (XE<|ZI<|Ul K YO NM NN ZX (pv 3)<|XZ (pv 5) XT))))
   (XM (Zh 7<|Xp (iY T) hr T.qZB ZB<|XZ (pv 0)<|XZ (pv 3) XT)
   (XM (Zh 8<|TB XT)
   (XM (Uu YX Z (ZP Z T.n_range<|XZ (Zt Og XN<|pv 2) XT) (Zc 6)
   (XM (ZI<|Ul K YO NM NN ZX (pv 8)<|XZ (Zt ZW (pv 7)<|Zt Lu XN XN) XT)
   (XE<|Zh 7<|Zt dI (pv 7)<|Zt Lu XN XN)))
   (XE<|Zm<|pv 8)))))),?_⟩
  let(g1,g2,g3,g4):=id hG;exists Yl _,λwa hwa=>?_;let s0:=XH (o:=.lst []) hwa
  exists _,Z,b,Z,{_,s0.seq hS},Fd (K:=K) (a:=b) (xs:=IL ls) (λi σ H2=>∃v4 v5 v6:Option V,σ=[some ↑w,some<|.ref b,some<|.int n,some<|.ref wa,v4,v5,v6,none,none]/\Same H H2/\H2 wa=some (.lst<|IL<|wL (10^14)<|ls.R i)) ⟨none,none,none,Z,s0,XS⟩ (λi σ H2 _ zz=>by let(_,_,_,_,s2,_):=zz;show s2.seq hS) ?_ ?_
  .rintro i v σ H2 hi ⟨v4,v5,v6,rfl,s2,h2⟩;let(z,rfl,hz):=Um hi;let(z0,z4):=h4 z (Xn hz);show nm ?_;dsimp only;show nL ?_;exists _,Z,z,Z,B,B,Tn (lo:=0) (n:=z.j) (λj σ H3=>∃v6:Option V,σ=[some ↑w,some<|.ref b,some<|.int n,some<|.ref wa,some<|.int z,some<|.int<|(10^14)^j,v6,none,none]/\H3=H2) ⟨v6,Z,Z⟩ ?_ ?_
   .rintro j σ H3 hj ⟨v6,rfl,rfl⟩;show nm ?_;dsimp only;exists _,Z,_,_,Z,Z,⟨vg,vg,vg⟩,_,_,Z,Z,.inr ⟨vg,vg⟩,?_;exists _,by rw[Kk];rfl,Z
   .rintro σ H3 ⟨v6,rfl,rfl⟩;let Xt:=(Xs.G hz).1
    exists _,Z,.inl {Z,_,SqL.of h2},_,Z,wa,_,_,Z,Z,h2,?_,?_
    .rw[Xv,Kw,Yo];show Zk B
    exists _,_,_,Z,Zp hwa s2,?_;rw[XS,YI,hz];change _=some (HO.lst<|IL<|wL (10^14)<|ls.R i++[z])
    unfold wL;rw[YD];show YZ some (YZ HO.lst (ZJ ..).symm)
  .rintro σ H2 ⟨v4,v5,v6,rfl,s2,h2⟩;rw[Xv,YF]at h2;exists _,Z,_,Z,w,wa,n,ps,false,_,Z,hW.same s2,hG,SqL.of h2,λx hx=>?_,λ_ s H3 hs lV s3=>?_,λh=>absurd (by rwa[Kw]) h
   .let⟨z,hz,rfl⟩:=Yp.G hx;let(z0,z1):=h4 z hz;show Av z0 z1
   let rfl:=hs.uniq (BB (10^14) hG hl h4 LN Ub);let Ib:=s2.l s3
   show nm ?_;dsimp only;exists Yl _,λf hf=>?_;let few:=BA hG h9 LN Ub
   let hlen:(VZ (4*n).j ls L).f=(4*n).j:=Iv;let hx:∀x∈VZ (4*n).j ls L,0<=x/\x<10^14:=λx hx=>by have:=BC x hx;omega
   generalize hl9:VZ (4*n).j ls L=l at *;exists _,Z,_,_,Z,Z,.inl ⟨vg,vg⟩,4*n,Z,B,B,Tn (lo:=0) (n:=(4*n).j) (λi σ H4=>∃v6:Option V,σ=[some ↑w,some<|.ref b,some<|.int n,some<|.ref wa,v4,v5,v6,some<|.int<|ev (10^14)<|l.drop i,some ↑f]/\Same H3 H4/\H4 f=some (.lst<|IL<|l.R i)) {v6,Z,XH hf,XS} ?_ ?_
   .rintro i σ H4 hi ⟨v6,rfl,s4,Au⟩;obtain⟨d,hd⟩:∃d,l[i]?=some d:={_,XI B};let(d0,d1):=hx d (Xn hd);let e:=nt (b:=10^14) hd
    let em:ev (10^14) (l.drop i)%10^14=d:=by rw[e];show ny d0 d1
    let ed:(ev (10^14)<|l.drop i).fdiv (10^14)=ev (10^14) (l.drop<|i+1):=by rw[gR _ vg,e];show nu d0 d1
    show nm ?_;dsimp only;exists _,Z,.inl {Z,_,SqL.of Au},_,Z,_,_,Z,Z,⟨vg,vg,vg⟩,_,_,Z,Z,(by change(0:Int)<10^14;decide),f,_,_,Z,Z,Au,?_,?_
    .rw[Xv,Yo];show Zk B
    exists _,Z,_,_,Z,Z,⟨vg,vg,vg⟩,_,_,Z,Z,{vg,(by change((10:Int)^14).natAbs<2^9000;show Yt (by decide:((10:Int)^14).natAbs<2^60)<|Ro vg vg)},?_;exists some<|.int<|0+(i:Int),?_,Zp hf s4,?_
    .rw[<-ed];rfl
    .rw[XS,YI,hd,<-em];show YZ some (YZ HO.lst (ZJ ..).symm)
   .rintro σ H4 ⟨v6,rfl,s4,Au⟩;rw[<-hlen,YF]at Au;exists _,Z,q f _ (Ib.l s4) Au
def RkV(H:Hp)(v:V)(x:Int×Ac):(Prop):=∃a q,v=.ref a/\H a=some (.tup [.int x.1,.ref q])/\H q=some (.tup<|IL x.2)
def RkV.same{H H':Hp}{v:V}{x:Int×Ac}(s:Same H H')(h:RkV H v x):RkV H' v x:=by let(a,q,e,h1,h2):=h;exists a,q,e,s _ _ h1,s _ _ h2
def As{K:Ad}{H:Hp}{v u:V}{x y:Int×Ac}(h1:RkV H v x)(h2:RkV H u y):EqD K H 2 v u (decide (x=y)):=by
 let(tp,tr,rfl,a1,a2):=h1;let(tp',AG,rfl,b1,b2):=h2;let e:((List.range<|min [V.int x.1,.ref tr].f [V.int y.1,.ref AG].f).all (λi=>match i with
   |0=>decide (x.1=y.1)
   |_=>decide<|x.2=y.2)&&[V.int x.1,.ref tr].f == [V.int y.1,.ref AG].f)=decide (x=y):=by change(decide (x.1=y.1)&&(decide (x.2=y.2)&&true)&&true)=decide (x=y);rw[Rt];simp only[Nq,Ou,HH,Prod.ext_iff]
 rw[<-e];show EqD.tups (SqT.of a1) (SqT.of b1) λi p q hx hy=>?_
 match i,hx,hy with
 |0,hx,hy=>
  let rfl:=Ya hx;let rfl:=Ya hy;show x6 Z rfl
 |1,hx,hy=>
  let rfl:=Ya hx;let rfl:=Ya hy;show Ec (SqT.of a2) (SqT.of b2)
 |i+2,hx,_=>cases hx
def ZK9{K:Ad}{H:Hp}{p q:Addr}{xs ys:List V}{l m:List (Int×Ac)}(hp:SqL K H p xs)(hq:SqL K H q ys)(h1:Bears (RkV H) xs l)(h2:Bears (RkV H) ys m):EqD K H 3 ↑p ↑q (decide (l=m)):=
 fc hp hq h1 h2 λ_ _ _ _ a b=>As a b
abbrev NP(ls:Ac)(R:Ab):List (Int×Ac):=R.H λT=>(XW ls T,T)
def Ar{ls:Ac}{R:Ab}{k:Nat}{T:Ac}(h:R[k]?=some T):(NP ls R)[k]?=some (XW ls T,T):=by rw[Yk,h];rfl
def Zw6{n:Int}{ps:Aa}{ls:Ac}{R:Ab}{M:List (Int×Ac)}(h:Rkd n ps ls k R)(hp:M.Perm (NP ls R))(hs:M.Q λa b=>HT.Vi b a=false):M=NP ls R:=by
 show List.Perm.eq_of_pairwise (le:=λa b=>HT.Vi b a=false) (λa b _ _ h1 h2=>KD.total a b h2 h1) hs ?_ hp;rw[Oy];show h.asc.imp λ{a b} q=>?_;cases c:HT.Vi (XW ls b,b) (XW ls a,a) with
 |false=>rfl
 |true=>show absurd (q.l c) ZV
inductive spZN(K:Ad)(C:Addr)(vs:List V)(H:Hp)(Q:VK)(_:XK):Prop
 |mk (w b c r:Addr) (n:Int) (ps:Aa) (ls:Ac) (L R:Ab) (xs:List V) (_:vs=[.ref w,.ref b,.ref c,.ref r]) (_:WebAt C H w n ps) (_:Zv n ps) (_:n<=9) (_:SqL K H b (IL ls)) (_:ls.f=ps.f) (_:(∀x∈ls,0<=x/\x<=4)) (_:L.Nodup) (_:(∀T,T∈L↔Zf n ps T)) (_:SqL K H c (IL<|VZ (4*n).j ls L)) (_:Rkd n ps ls 60 R) (_:SqL K H r xs) (_:Bears (RkV H) xs (NP ls R)) (_:∀H',Same H H'->Q (.bl true) H')
def ip(T:Txt K mg t):WR P w base Xd T.qZN 11 (spZN K t.A_Web):=by
 show T.qZN.okI ["web","lengths","counts","ranks","due","length","k"] vh λXw A outer s H vs Q E hr h=>?_
 .let⟨w,b,c,r,n,ps,ls,L,R,xs,rfl,hW,hG,h9,hS,hl,h4,LN,Ub,hC,Ta,hR,hB,q⟩:=h;show⟨_,(XM (Zh 4<|TB XT)
   (XM (Uu YX Z (ZP Z T.n_range<|XZ (Zg (Zi K) vi T.n_len Boot.«len»<|XZ (pv 2) XT) XT) (Zc 5)
   (XE (Wm (Zl Nk (Zg (Zi K) vi T.n_len Boot.«len»<|XZ (pv 4) XT) XN<|Zs _)
   (XE<|ZI<|Ul K YO wg wj tD (pv 4)<|XZ (Zt JJ (TB<|XZ (pv 5) XT)<|Zg (JR Z) vi T.n_min Boot.«min»<|XZ XN<|XZ (Zw (Ze K) (pv 2) (pv 5) λ_ _=>rfl) XT) XT)
   Zq)))
   (XM (Wm (PW.pt<|Rf (Zl (rK K<|MY hr) (SE Z (sc0:=Zd<|top 72) (N0:=["web","lengths","counts","ranks","due","length","k"]) (N':=["pair"]) (o:=1) (fr:=[]) ⟨Z,vh,vh,vh,Z,vh⟩ (ZL K<|pv 3) (Zu vg) (λ_ _ _ _=>(Zc 0)) (λ_ _ _ _=>ZM) λ_ _ _ _=>(Zw (Zr K) (pv 0) XN λ_ _=>rfl)) (ZT (UP K) (pv 4) Qz<|Qy XN)<|Zs _)<|Ho<|Zl (rK K<|MY hr) (pv 3) (Zg (ZK3 K<|MY hr) vi T.n_sorted Boot.«sorted»<|XZ (pv 3) XT)<|Zs _)
   (XE<|Zm Uw)
   Zq)
   (XM (Uu YX Z (ZP Z T.n_range<|XZ (Zg (Zi K) vi T.n_len Boot.«len»<|XZ (pv 3) XT) XT) (Zc 6)
   (XM (Wm (PW.pt<|Rf (Oi<|Oj<|Xp (Be T) hr T.qZn ZB<|XZ (pv 0)<|XZ (Zw (Zr K) (Zw (Ze K) (pv 3) (pv 6) λ_ _=>rfl) XN λ_ _=>rfl) XT)<|Ho<|Zl Vr (Xp (AW T) hr T.qZt ZB<|XZ (pv 0)<|XZ (pv 1)<|XZ (Zw (Zr K) (Zw (Ze K) (pv 3) (pv 6) λ_ _=>rfl) XN λ_ _=>rfl) XT) (Zw (Zr K) (Zw (Ze K) (pv 3) (pv 6) λ_ _=>rfl) XN λ_ _=>rfl)<|Zs _)
   (XE<|Zm Uw)
   Zq)
   (XM (Wm (PW.pt<|Fo (Zl Lq (pv 6) XN<|Zs _)<|Fp<|Zl (rL K<|MY hr) (Zw (Ze K) (pv 3) (pv 6) λ_ _=>rfl) (Zw (Ze K) (pv 3) (Zt Lv (pv 6) XN) λ_ _=>rfl)<|Zs _)
   (XE<|Zm Uw)
   Zq)
   (XE (Wm (PW.pt<|Fo (Zl PQ (Zw (Zr K) (Zw (Ze K) (pv 3) (pv 6) λ_ _=>rfl) XN λ_ _=>rfl) (Zw (Zr K) (Zw (Ze K) (pv 3) XN λ_ _=>rfl) XN λ_ _=>rfl)<|Zs _)<|Fp<|Zl Vr (Xp (jx T) hr T.qZx ZB<|XZ (pv 0)<|XZ (pv 1)<|XZ (Zw (Zr K) (Zw (Ze K) (pv 3) (pv 6) λ_ _=>rfl) XN λ_ _=>rfl) XT) (pv 6)<|Zs _)
   (XE<|Zm Uw)
   Zq)))))
   (XE<|Zm Uw))))),?_⟩
  let(g1,g2,g3,g4):=id hG;let RD:xs.f=R.f:=by have:=hB.1;rwa[Xy]at this
  let Nd:=Ta.few;let ik:=kR hG hl h4 Ub LN Ta
  exists Yl _,λd hd=>?_;let s0:=XH (o:=.lst []) hd
  let few:=BA hG h9 LN Ub;let hlen:(VZ (4*n).j ls L).f=(4*n).j:=Iv
  let hx:∀x∈VZ (4*n).j ls L,0<=x/\x<10^14:=λx hx=>by have:=BC x hx;omega
  exists _,Z,c,_,Z,.inl<|s0.seq hC,_,Z,B,by rw[Xv,hlen];omega,Tn (lo:=0) (n:=((IL<|VZ (4*n).j ls L).f:Int).j) (λi σ H2=>∃v5:Option V,σ=[some ↑w,some<|.ref b,some<|.ref c,some<|.ref r,some<|.ref d,v5,none]/\Same H H2/\H2 d=some (.lst<|IL<|VT (VZ (4*n).j ls L) i)) ⟨none,Z,s0,XS⟩ ?_ ?_
  .rintro i σ H2 hi ⟨v5,rfl,s2,h2⟩;rw[Xv,hlen]at hi;obtain⟨y,hy⟩:∃y,(VZ (4*n).j ls L)[i]?=some y:={_,XI B};let(y0,y1):=hx y (Xn hy);let ey:(VZ (4*n).j ls L).E i 0=y:=XG hy
   show nm ?_;dsimp only;exists _,Z,d,_,Z,.inl<|SqL.of h2,_,_,Z,Z,_,Z,?_;rw[Xv];let ed:VT (VZ (4*n).j ls L) (i+1)=if (VT (VZ (4*n).j ls L) i).f<60 then VT (VZ (4*n).j ls L) i++List.S (min 60 y).j ((i:Nat):Int) else VT (VZ (4*n).j ls L) i:=by change(if _ then _++List.S (min 60<|(VZ (4*n).j ls L).E i 0).j ((i:Nat):Int) else _)=_;rw[ey]
   show WN (λh=>?_) (λh=>?_)
   .exists _,Z,.inl {Z,_,SqL.of h2},_,Z,Nat.succ_le_of_lt vg,λe1 xF=>?_;let t1:=XH (o:=.lst [.int (0+(i:Int))]) xF
    let em:(if y<60 then y else 60)=min 60 y:=B;exists _,Z,_,Z,c,_,_,.int y,Z,Z,(s2.l t1).seq hC,Zy (n:=i) B<|So hy,60,y,Z,e1,_,[.int (0+(i:Int))],Z,Z,XS,?_,?_,?_,λe2 Qu=>?_
    .rw[em];omega
    .rw[em];omega
    .rw[em];change 1*_<=_;have:100<=sizeLine:=(by decide);omega
    rw[Nz]at Qu;rw[em,qv,Nz,show List.S (min 60 y).j (V.int (i:Int))=IL (List.S (min 60 y).j (i:Int)) from(vN ..).symm]
    replace t1:=XH (o:=.lst [.int (i:Int)]) xF
    let t2:=XH (o:=.lst<|IL<|List.S (min 60 y).j (i:Int)) Qu;exists d,e2,_,_,Z,Z,(t1.l t2) _ _ h2,XS,?_,?_
    .rw[Xv,Xv,YM]
     have:200<=sizeLine:=(by decide)
     omega
    exists _,Z,Zp hd<|s2.l<|t1.l t2,?_;rw[XS,ed,if_pos B];show YZ some (YZ HO.lst (YD ..).symm)
   .exists _,Z,s2,?_;rwa[ed,if_neg B]
  .rintro σ H2 ⟨v5,rfl,s2,h2⟩;rw[Xv,hlen,Yy]at h2;let hR2:=s2.seq hR
   let Pq:Bears (RkV H2) xs (NP ls R):=hB.imp λ_ _ h=>h.same s2;exists _,Z,r,Z,{_,hR2},Qt (K:=K) (a:=r) (xs:=xs) (λi ws H3=>H3=H2/\ws=IL ((R.R i).H (XW ls))/\i<=xs.f) {Z,Z,Yl _} (Zk B) (λi ws H3 hi zz=>by let(e,ew,We):=zz;show{e▸hR2,by rw[ew,Xv,Xy,Yo];omega}) ?_ ?_
   .rintro i v ws H3 hi ⟨rfl,rfl,Tv⟩ S WZ;let Ui:i<xs.f:=(Xs.G hi).1
    obtain⟨T,hT⟩:∃T,R[i]?=some T:={_,XI B};let(x,QK,tp,tr,rfl,q1,q2):=Pq.at hi;rw[Ar hT]at QK;let rfl:=Ya QK;show nm ?_;exists _,Z,tp,_,0,.int<|XW ls T,Z,Z,SqT.of q1,Z,?_;show WZ _ _ {Z,?_,Ui};rw[YI,hT,YD];show(ZJ _ _).symm
   rintro ws H3 ⟨rfl,rfl,_⟩ mA hmA;rw[RD,YF];let u1:=XH (o:=.lst<|IL<|R.H<|XW ls) hmA
   exists _,Z,_,Z,d,_,Z,SqL.of<|u1 _ _ h2,λsA jL=>?_;rw[qN vg];let e60:(IL<|VT (VZ (4*n).j ls L) (4*n).j).R (60:Int).j=IL (R.H<|XW ls):=by rw[<-ik];show(vy ..).symm
   rw[e60];let u2:=XH (o:=.lst<|IL<|R.H<|XW ls) jL
   let s3:=s2.l (u1.l u2);exists 1,_,mA,sA,Z,Z,vg,fb (SqL.of<|u2 _ _ XS)<|SqL.of XS,_,Z,?_;rw[Ys Z];show Vp ?_;generalize upd (upd H3 mA<|.lst<|IL<|R.H<|XW ls) sA (.lst<|IL<|R.H<|XW ls)=H4 at *;let hR4:=s3.seq hR
   let wK:Bears (RkV H4) xs (NP ls R):=hB.imp λ_ _ h=>h.same s3;exists _,Z,_,Z,r,xs,NP ls R,RkV H4,Z,hR4,wK,λv y hv=>?_,B,λzs M hM hMp hMs rl KO=>?_
   .let⟨b,q,e,h1,h2⟩:=hv;exists b,q,e,SqT.of h1,SqT.of h2
   let rfl:=Zw6 Ta hMp hMs;let u3:=XH (o:=.lst zs) KO
   exists 3,_,r,rl,Z,Z,vg,ZK9 (u3.seq hR4) (SqL.of XS) (wK.imp λ_ _ h=>h.same u3)<|hM.imp λ_ _ h=>h.same u3,_,Z,?_;rw[Ys Z];show Vp ?_;change(_:Prop)
   show Lc ?_;let s5:=s3.l u3
   generalize upd H4 rl (.lst zs)=H5 at *;exists _,Z,r,_,Z,.inl<|s5.seq hR,_,Z,B,B,Tn (lo:=0) (n:=(xs.f:Int).j) (λi σ H6=>∃v6:Option V,σ=[some ↑w,some<|.ref b,some<|.ref c,some<|.ref r,some<|.ref d,v5,v6]/\Same H H6) ⟨none,Z,s5⟩ ?_ ?_
   .rintro i σ H6 hi ⟨v6,rfl,s6⟩;rw[Yy]at hi;obtain⟨T,hT⟩:∃T,R[i]?=some T:={_,XI B};obtain⟨v,hv⟩:∃v,xs[i]?=some v:={_,XI B};let(x,QK,tp,tr,rfl,q1,q2):=hB.at hv;rw[Ar hT]at QK;let rfl:=Ya QK;let hTt:=Ta.tr T (Xn hT)
    show nm ?_;dsimp only;let Gs:Vq xs (0+(i:Int))=some ↑tp:=Zy (n:=i) B hv
    exists _,Z,_,Z,_,Z,r,_,_,.ref tp,Z,Z,s6.seq hR,Gs,tp,_,1,.ref tr,Z,Z,SqT.of<|s6 _ _ q1,Z,w,tr,n,ps,true,T,Z,hW.same s6,hG,SqT.of<|s6 _ _ q2,λbb H7 s7 DH=>{_,Z,?_};let rfl:bb=true:=DH.L hTt;show Vp ?_;let Gr:=s6.l s7
    exists _,Z,_,Z,_,Z,_,Z,r,_,_,.ref tp,Z,Z,Gr.seq hR,Gs,tp,_,1,.ref tr,Z,Z,SqT.of<|Gr _ _ q1,Z,w,b,tr,n,ps,false,true,ls,T,Z,hW.same Gr,g3,Gr.seq hS,SqT.of<|Gr _ _ q2,hl,hTt.1,λH8 s8=>?_;let NO:=Gr.l s8
    exists _,Z,_,Z,r,_,_,.ref tp,Z,Z,NO.seq hR,Gs,tp,_,0,.int<|XW ls T,Z,Z,SqT.of<|NO _ _ q1,Z,?_;exists Z,_,Z,?_;rw[show wD ls T=XW ls T from Z,ZO];show Li Z ?_;change(_:Prop)
    show Lc ?_;show Pb (λσ H9=>σ=[some ↑w,some<|.ref b,some<|.ref c,some<|.ref r,some<|.ref d,v5,some (.int<|0+(i:Int))]/\Same H H9) ?_ ?_
    .rintro σ H9 ⟨rfl,s9⟩;obtain⟨uX,h0⟩:∃uX,R[0]?=some uX:={_,XI B};obtain⟨v0,Aq⟩:∃v,xs[0]?=some v:={_,XI B};let(x,QK,Gq,tr0,rfl,p1,p2):=hB.at Aq;rw[Ar h0]at QK;let rfl:=Ya QK;exists _,Z,_,Z,r,_,_,.ref tp,Z,Z,s9.seq hR,Gs,tp,_,0,.int<|XW ls T,Z,Z,SqT.of<|s9 _ _ q1,Z,_,Z,r,_,_,.ref Gq,Z,Z,s9.seq hR,Zy (n:=0) Z Aq,Gq,_,0,.int<|XW ls uX,Z,Z,SqT.of<|s9 _ _ p1,Z,Z,_,Z,?_;rw[ZO];show WN (λhe=>?_) (λhe=>?_)
     .let⟨c1,c2⟩:=bg hG hl Ta h0 hT he;exists _,Z,_,Z,_,Z,_,Z,r,_,_,.ref tp,Z,Z,s9.seq hR,Gs,tp,_,1,.ref tr,Z,Z,SqT.of<|s9 _ _ q1,Z,w,b,tr,n,ps,ls,true,T,Z,hW.same s9,hG,s9.seq hS,hl,SqT.of<|s9 _ _ q2,c1,λrr HA hrr sA=>?_;let rfl:=hrr.uniq c2;exists _,Z,Z,_,Z,?_;rw[ZO];show Li B ?_;exists _,Z,s9.l sA
     .show Vp ?_;exists _,Z,s9
    .intro k' VD;exists _,Z,_,_,Z,Z,_,Z,?_;show WN (λh0=>?_) (λh0=>?_)
     .obtain⟨U,hU⟩:∃U,R[i-1]?=some U:={_,XI B};obtain⟨v0,Aq⟩:∃v,xs[i-1]?=some v:={_,XI B};let(x,QK,Gq,tr0,rfl,p1,p2):=hB.at Aq;rw[Ar hU]at QK;let rfl:=Ya QK;exists _,Z,_,Z,r,_,_,.ref tp,Z,Z,NO.seq hR,Gs,_,Z,_,Z,_,_,Z,Z,r,_,_,.ref Gq,Z,Z,NO.seq hR,Zy (n:=i-1) B Aq,2,_,tp,Gq,Z,Z,vg,As (x:=(XW ls T,T)) (y:=(XW ls U,U)) {tp,tr,Z,NO _ _ q1,NO _ _ q2} {Gq,tr0,Z,NO _ _ p1,NO _ _ p2},_,Z,?_;rw[YR λe=>?_]
      .show Vp ?_;show VD _ _ ⟨Z,NO⟩
      .let eT:=(Prod.mk.inj e).2;let(z1,e1):=Xs.G hU;let(z2,e2):=Xs.G hT
       have:=YT.G Ta.asc (i-1) i z1 z2 B
       rw[e1,e2,eT]at this;show ZV this
     .show Vp ?_;show VD _ _ ⟨Z,NO⟩
   .rintro σ H6 ⟨v6,rfl,s6⟩;show q _ s6
inductive spZO(K:Ad)(Pt:Addr)(vs:List V)(H:Hp)(Q:VK)(_:XK):Prop
 |mk (a:Addr) (ns:Ac) (_:vs=[.ref a]) (_:SqL K H a (IL ns)) (_:ns.f<=63) (_:QJ H Pt) (_:∀H',Q (.bl true) H')
def ij{H:Hp}{ls:Ac}{ys:List V}{L:Ab}(h:Bears (PV H ls) ys L):Bears (RkV H) ys (NP ls L):=by show{by rw[Xy];show h.1,λi x e=>?_};rw[Yk]at e;let(T,hT,rfl):=Gk.G e;let(v,hv,r):=h.2 i T hT;exists v,hv,r
def Ap:FnScope ["script","places","ties","total","lengths","web","told","counts","ranks"] ["script"] (Zd sZO):=Vg vh
def ig{Pt:Addr}(T:Txt K mg t)(hB:BJ K mg base t.dZA Pt):WR P w base Xd T.qZO 12 (spZO K Pt):=by
 show T.qZO.okI ["script","places","ties","total","lengths","web","told","counts","ranks"] vh λXw A outer s H vs Q E hr h=>?_
 .let⟨a,ns,rfl,hS,ie,hTb,k⟩:=h;show⟨_,(XM (yx (Xp (ix T) hr T.qZK ZB<|XZ (pv 0)<|XZ XN<|XZ XN XT)<|NZ (n:=2) K Z<|Zz (Zc 1)<|Zz (Zc 2) Oh)
   (XM (PX (i:=3) Ap.nd Z (Or.inr Z)<|Zt ZW (Zg (Hg K Z) vi T.n_sum Boot.«sum»<|XZ (pv 0) XT)<|Zt Lu XN XN)
   (XM (Uq (i:=4) Z Ap.nd Z Z (sc0:=Zd sZO) (N0:=["script","places","ties","total","lengths","web","told","counts","ranks"]) (N':=["k","total"]) (o:=1) (fr:=[3]) ⟨Z,vh,vh,vh,Z,vh⟩ (ZP Z T.n_range<|XZ (Zg (Zi K) vi T.n_len Boot.«len»<|XZ (pv 2) XT) XT) (Zu vg) (λ_ _ _ _=>(Zc 0)) (λ_ _ _ _=>ZM) λ_ _ _ _=>(Zt ZW (Xp (Ay T) hr T.qZH ZB<|XZ (pv 1)<|XZ (Zt Sv XN<|pv 0) XT) XN))
   (XM (yx (Xp (iS T) hr T.qZF ZB<|XZ (Xp (ir T) hr T.qZL ZB<|XZ (pv 1)<|XZ (pv 2)<|XZ (pv 4) XT) XT)<|NZ (n:=2) K Z<|Zz (Zc 5)<|Zz (Zc 6) Oh)
   (XM (Zh 7<|Xp (iq T) hr T.qZM ZB<|XZ (pv 5)<|XZ (pv 6)<|XZ (pv 1) XT)
   (XM (Zh 8<|Xp (jh T hB) hr T.qZA ZB<|XZ (pv 5)<|XZ (pv 6)<|XZ XN XT)
   (XM (Wm (Oi<|Oj<|Xp (ip T) hr T.qZN ZB<|XZ (pv 5)<|XZ (pv 6)<|XZ (pv 7)<|XZ (pv 8) XT)
   (XE<|Zm Uw)
   Zq)
   (XM (Wm (Zl PQ (Zg (Hg K Z) vi T.n_sum Boot.«sum»<|XZ (pv 7) XT) XN<|Zs _)
   (XE<|Zm<|Ka (Nj PQ (Xp (AJ T) hr T.qZw ZB<|XZ (pv 5)<|XZ (pv 6) XT) XN<|Zs _)<|Kb<|Nj (rL K<|MY hr) (pv 8) (TB XT)<|Zs _)
   Zq)
   (XM (Wm (Zl Vr (Xp (AJ T) hr T.qZw ZB<|XZ (pv 5)<|XZ (pv 6) XT) (Zw (Ze K) (pv 7) (Zw (Zr K) (Zw (Ze K) (pv 8) XN λ_ _=>rfl) XN λ_ _=>rfl) λ_ _=>rfl)<|Zs _)
   (XE<|Zm Uw)
   Zq)
   (XE<|Zm<|Nj (rL K<|MY hr) (Xp (jy T) hr T.qZv ZB<|XZ (pv 5)<|XZ (pv 6) XT) (Zw (Zr K) (Zw (Ze K) (pv 8) XN λ_ _=>rfl) XN λ_ _=>rfl)<|Zs _)))))))))),?_⟩
  let two:2<=sizeLine:=vg;exists _,Z,a,ns,9,16,Z,hS,ie,vg,vg,vg,vg,λr l n xs ps H1 s1 OL QV QM hP hG hnm uZ=>?_;exists r,_,Z,SqT.of OL,Z,_,_,Z,_,_,Z,Z,?_;let wX:=hP.1
  let(g1,g2,g3,g4):=id hG;exists _,Z,a,ns,Z,s1.seq hS,_,_,Z,Z,⟨vg,vg⟩,_,_,Z,Z,(by change(0:Int)<10^Int.j 60;decide),?_;show nm ?_;dsimp only[List.set];exists _,Z,l,xs,Z,.inl<|SqL.of QM,_,Z,B,B,yj (lo:=0) (n:=(xs.f:Int).j) (λi zs H2=>H2=H1/\∃ls:Ac,zs=IL ls/\ls.f=i/\∀x∈ls,0<=x/\x<=4) {Z,[],Z,Z,λ_ h=>(by cases h)} (Zk B) (λi zs H2 _ zz=>by let(_,ls,e,e2,_):=zz;rw[e,Xv,e2];show XQ _) ?_ ?_
  .rintro i zs H2 hi ⟨rfl,ls,rfl,rfl,h4⟩ S WZ;show nm ?_;exists _,Z,_,Z,_,_,Z,Z,_,_,Z,λrr r0 r1=>{_,_,Z,Z,(by change(0:Int)<5;decide),?_};show WZ _ _ {Z,ls++[rr%5],(ZJ _ _).symm,by rw[Xm];rfl,λx hx=>?_};rcases Yb.G hx with q|q
   .show h4 x q
   .rw[XD.G q];omega
  rintro zs H2 ⟨rfl,ls,rfl,Wa,h4⟩ b hb;rw[Yy]at Wa;let hl:ls.f=ps.f:=B
  let js:Told ls:=λz hz=>by have:=h4 z hz;omega
  let t1:=XH (o:=.lst<|IL ls) hb;show nm ?_;dsimp only[List.set];let KY:(upd H2 b<|.lst<|IL ls) b=some (.lst<|IL ls):=XS
  change Sw _ _ _ [some ↑a,some<|.int n,some<|.ref l,some<|.int<|ns.sum%10^Int.j 60,some<|.ref b,none,none,none,none] (upd H2 b<|.lst<|IL ls);generalize upd H2 b (.lst<|IL ls)=H3 at *;exists _,Z,_,Z,_,Z,n,l,b,xs,ps,ls,Z,SqL.of<|t1 _ _ QM,hP.same t1,SqL.of KY,hG,hl,js,λH4 s4=>?_;exists n,ps,ls,Z,hG,hl,js,λtA x LA H5 s5 ha0 OK hW hLA=>?_;exists tA,_,Z,SqT.of OK,Z,_,_,Z,_,_,Z,Z,?_;dsimp only[List.set];let iM:Same H H5:=s1.l (t1.l<|s4.l s5)
  let(L,LN,Ub):=By hG;exists _,Z,_,Z,_,Z,x,LA,n,ps,ls,L,Z,hW,hG,hnm,SqL.of hLA,hl,h4,LN,Ub,λcA H6 s6 GB=>?_;show nm ?_;dsimp only[List.set];let LM:QJ H6 Pt:=hTb.same (iM.l s6)
  let wy:=hW.same s6;let ic:=s6 _ _ hLA
  exists _,Z,_,Z,x,LA,n,60,ps,false,ls,Z,wy,hG,SqL.of ic,hl,vg,vg,LM,λfs R r3 H7 Ta hBf ib tab7 HZ Ao=>?_;show nm ?_;dsimp only[List.set];let hW7:=wy.samex LM ib
  let hL7:=ib _ _ (LM.ne ic AP) ic;let wG:=ib _ _ (LM.ne GB AP) GB
  let hX:=ij hBf;exists _,Z,_,Z,_,Z,_,Z,x,LA,cA,r3,n,ps,ls,L,R,fs,Z,hW7,hG,hnm,SqL.of hL7,hl,h4,LN,Ub,SqL.of wG,Ta,SqL.of Ao,hX,λH8 s8=>?_;exists _,Z,?_;show Vp ?_;change(_:Prop)
  show Lc ?_;let hc8:=s8 _ _ wG
  let g9:=s8 _ _ hL7;let g6:=s8 _ _ Ao
  let gZ:=hW7.same s8;let hR8:Bears (RkV H8) fs (NP ls R):=hX.imp λ_ _ h=>h.same s8
  let tb:∀T∈L,0<=XW ls T/\XW ls T<((4*n).j:Int):=λT hT=>xb hG hl h4 ((Ub T).G hT);exists _,Z,cA,_,Z,SqL.of hc8,Z,_,Z,?_;rw[ZO,kX tb];show WN (λh0=>?_) (λh0=>?_)
  .let hL0:L=[]:=QP.G B;let UD:∀T,¬Zf n ps T:=λT hT=>by
    have:=(Ub T).L hT
    rw[hL0]at this;cases this
   exists _,Z,_,Z,x,LA,n,ps,ls,Z,gZ,hG,SqL.of g9,hl,λc H9 hc s9=>{Z,_,Z,?_};let rfl:c=0:=(k9 hc).L λT hT=>UD T ((NV hG hl).G hT).1;show Us ?_;exists _,Z,Yl _,λee hee=>?_;let w2:=XH (o:=.lst []) hee
   exists 3,_,r3,ee,Z,Z,vg,ZK9 (SqL.of<|w2 _ _<|s9 _ _ g6) (SqL.of XS) (hR8.imp λ_ _ h=>(h.same s9).same w2) (m:=[]) {Z,λi l e=>by simp at e},?_;let rfl:=k8 Ta UD;rw[Ys (show NP ls []=[] from Z)];show k _
  .obtain⟨T1,HS⟩:∃T,T∈L:=Kl B;let HS:=(Ub T1).G HS
   obtain⟨uX,Gp⟩:∃uX,R[0]?=some uX:=⟨_,XI (by
    rcases Ta.all T1 HS with z|z
    .show zr z
    .have:=z.1
     omega)⟩
   let hBt:=Ta.tr uX (Xn Gp);let hBm:=((NV hG hl).G (bg hG hl Ta Gp Gp Z).1).2
   let(b0,b1):=xb hG hl h4 hBt;let hy:(VZ (4*n).j ls L)[(XW ls uX).j]?=some (((L.U λT=>decide<|XW ls T=XW ls uX).f:Nat):Int):=by rw[xc B,Int.toNat_of_nonneg b0]
   obtain⟨v,hv⟩:∃v,fs[0]?=some v:=⟨_,XI (by
    have:=hX.1
    rw[Xy]at this
    have:=(Xs.G Gp).1
    omega)⟩
   let(z,IW,tp,tr,rfl,q1,q2):=hR8.at hv;rw[Ar Gp]at IW;let rfl:=Ya IW;change(_:Prop)
   show Lc ?_;exists _,Z,_,Z,x,LA,n,ps,ls,Z,gZ,hG,SqL.of g9,hl,λc H9 hc s9=>?_;let rfl:=hc.uniq (Bz hG hl Ub LN hBt hBm);exists _,Z,_,Z,r3,_,_,.ref tp,Z,Z,SqL.of<|s9 _ _ g6,Zy (n:=0) Z hv,tp,_,0,.int<|XW ls uX,Z,Z,SqT.of<|s9 _ _ q1,Z,cA,_,_,.int _,Z,Z,SqL.of<|s9 _ _ hc8,Zy (n:=(XW ls uX).j) B<|So hy,Z,_,Z,?_;rw[ZO];show Li Z ?_;change(_:Prop)
   show Lc ?_;show{_,Z,_,Z,x,LA,false,n,ps,ls,Z,gZ.same s9,hG,SqL.of<|s9 _ _ g9,hl,λB2 b2 HA e8 Pq sA Sa=>?_,λh=>absurd ((mP hG hl).G ⟨T1,HS⟩) λzz=>by let(W,hW):=zz;show absurd hW<|h W};let gY:=s9.l sA
   let eB:B2=uX:=Ya ((lh vg Ta<|lj hG hl e8 Pq).symm.l Gp);subst eB;exists _,Z,r3,_,_,.ref tp,Z,Z,SqL.of<|gY _ _ g6,Zy (n:=0) Z hv,tp,_,1,.ref tr,Z,Z,SqT.of<|gY _ _ q1,Z,1,_,b2,tr,Z,Z,vg,Ec (SqT.of Sa)<|SqT.of<|gY _ _ q2,?_;rw[Ys Z];show k _
end
end My
namespace My
open PySem L2
def QI{K:Ad}{f:Addr}{fd:FuncData}(F:Fun K "law" "law" sZO f fd)(s:Shared)(u:Value):BindsTo s fd {[u],[]} [("script",u)]:=by let(oc,od,kV,doc,pm,an,Xw,ct,Tz,rfl,lk,SG):=F.ex;show .of_eq rfl
end My
end
open PySem PySem.W PyProof.Rows
set_option maxRecDepth 100000 in
set_option maxHeartbeats 0 in
theorem PySem.Challenge.cw_spanrow_k94_whole_lengths_by_sums_holds : PySem.Challenge.rw_spanrow_k94_whole_lengths_by_sums.Holds := by
 w_on;o_law;k_head;(case hw=>w_witness2)
 k_fill
 refine L2.OP (l:=PySem.Challenge.rw_spanrow_k94_whole_lengths_by_sums) (n:=63) (k:=12) (x:="script") (CX:=L2.Xd) (sp:=λK=>My.spZO K 353) (c:=357) (Pt:=353) rfl (by decide) rfl ⟨rfl,by decide,by decide⟩ (λw h Y=>⟨PySem.W.km_in_of Y,PySem.W.km_tabs_of Y 353 (XD.mpr rfl)⟩) ?C ?P ?F (λ_ H a ns hl hO hS=>⟨a,ns,rfl,hS,hl,⟨#[],hO.1,trivial,.inl rfl⟩,λ_=>rfl⟩) (λ_ _ _ _ z=>z)
 case C=>intro w;kernel_rfl
 case P=>intro w;kernel_rfl
 case F =>
  intro w mg fa h KX G Ez
  let f x n:=My.FQ (L2.Ll KX) mg x (My.top n)
  obtain⟨⟨aZ0,dZ0,qZ0⟩,⟨aZ1,dZ1,qZ1⟩,⟨aZ2,dZ2,qZ2⟩,⟨aZ3,dZ3,qZ3⟩,⟨aZ4,dZ4,qZ4⟩,⟨aZ5,dZ5,qZ5⟩,⟨aZ6,dZ6,qZ6⟩,⟨aZ7,dZ7,qZ7⟩,⟨aZ9,dZ9,qZ9⟩,⟨aZa,dZa,qZa⟩,⟨aZb,dZb,qZb⟩,⟨aZc,dZc,qZc⟩,⟨aZd,dZd,qZd⟩,⟨aZe,dZe,qZe⟩,⟨aZf,dZf,qZf⟩,⟨aZg,dZg,qZg⟩,⟨aZh,dZh,qZh⟩,⟨aZi,dZi,qZi⟩,⟨aZj,dZj,qZj⟩,⟨aZk,dZk,qZk⟩,⟨aZl,dZl,qZl⟩,⟨aZm,dZm,qZm⟩,⟨aZn,dZn,qZn⟩,⟨aZo,dZo,qZo⟩,⟨aZp,dZp,qZp⟩,⟨aZq,dZq,qZq⟩,⟨aZr,dZr,qZr⟩,⟨aZs,dZs,qZs⟩,⟨aZt,dZt,qZt⟩,⟨aZu,dZu,qZu⟩,⟨aZv,dZv,qZv⟩,⟨aZw,dZw,qZw⟩,⟨aZx,dZx,qZx⟩,⟨aZy,dZy,qZy⟩,⟨aZz,dZz,qZz⟩,⟨aZB,dZB,qZB⟩,⟨aZC,dZC,qZC⟩,⟨aZD,dZD,qZD⟩,⟨aZE,dZE,qZE⟩,⟨aZF,dZF,qZF⟩,⟨aZG,dZG,qZG⟩,⟨aZH,dZH,qZH⟩,⟨aZI,dZI,qZI⟩,⟨aZJ,dZJ,qZJ⟩,⟨aZK,dZK,qZK⟩,⟨aZL,dZL,qZL⟩,⟨aZM,dZM,qZM⟩,⟨aZN,dZN,qZN⟩,⟨aZO,dZO,qZO⟩⟩:f "refuse_not_square" 10 ["table"]/\f "row_taken_off" 11 ["row","pivot","last"]/\f "first_with_some" 12 ["rows"]/\f "determinant" 13 ["table"]/\f "row_without" 14 ["row","number"]/\f "table_without" 15 ["table","number"]/\f "is_tie" 21 ["web","number"]/\f "refuse_bad_web" 20 ["places","ties"]/\f "refuse_bad_row" 22 ["web","numbers"]/\f "all_ties" 23 ["web"]/\f "ties_beside" 24 ["web","ties"]/\f "is_set" 25 ["web","ties"]/\f "made_set" 26 ["web","ties"]/\f "merged_marks" 27 ["web","marks","ties"]/\f "piece_marks" 28 ["web","ties"]/\f "pieces_of" 29 ["web","ties"]/\f "is_joined" 30 ["web","ties"]/\f "refuse_parted" 31 ["web"]/\f "weighted_table" 33 ["web","weights"]/\f "pull_table" 34 ["web"]/\f "tree_count" 35 ["web"]/\f "part_count" 36 ["web","inside","outside"]/\f "is_tree" 38 ["web","ties"]/\f "refuse_no_tree" 39 ["web","tree"]/\f "grown_tree" 40 ["web","inside","order"]/\f "least_tree" 41 ["web"]/\f "lesser_ties" 43 ["ties","bound"]/\f "number_of" 44 ["web","tree"]/\f "length_of" 46 ["web","lengths","ties"]/\f "cheapest_web" 47 ["web","lengths"]/\f "cheapest_tree" 48 ["web","lengths"]/\f "cheapest_count" 49 ["web","lengths"]/\f "cheapest_number" 50 ["web","lengths","tree"]/\f "first_of" 52 ["web","lengths","order","inside","outside"]/\f "firsts_behind" 53 ["web","lengths","order","taken"]/\f "tree_sum" 56 ["web","weights"]/\f "is_number" 60 ["word"]/\f "read_number" 61 ["word"]/\f "read_line" 62 ["line","name","many"]/\f "read_web" 63 ["text"]/\f "_law_cell" 65 ["script","k"]/\f "_law_mixed" 66 ["cell","k"]/\f "_law_draws" 67 ["script","start","count","way"]/\f "_law_ties" 68 ["draws","places","hang"]/\f "_law_web" 69 ["script","most","count"]/\f "_law_text" 70 ["places","ties","lengths"]/\f "_law_counts" 71 ["web","lengths","places"]/\f "_law_ranks_good" 72 ["web","lengths","counts","ranks"]/\My.FQ (L2.Ll KX) mg "law" My.sZO ["script"]:=by
   dsimp only [L2.Ll,f]
   and_intros
   all_goals (refine' My.BG KX G ?a ?l ?c ?k ?b;(case a | l | c | k=>k_is);(case b=>first | exact λ_ _ _ _ _ _=>My.un1 λ_=>rfl | exact λ_ _ _ _ _ _=>My.sE λ_ _=>rfl | exact λ_ _ _ _ _ _=>My.lg λ_ _ _=>rfl | exact λ_ _ _ _ _ _=>My.un4 λ_ _ _ _=>rfl | exact λ_ _ _ _ _ _=>My.un5 λ_ _ _ _ _=>rfl))
  obtain⟨aZA,dZA,An,mZA,fZA,Am,Al⟩:My.bC (L2.Ll KX) mg "ranked" "ranked" My.sZA 353:=by dsimp only [L2.Ll];refine' My.IA KX G ?a ?l ?c ?k ?z;(case a | l | c | k=>k_is);(case z=>kernel_rfl)
  have Ak:My.ft (L2.Ll KX) mg "Web" "Web.__init__" My.sZ8 ["places","ties"]:=by
   dsimp only [L2.Ll];refine' My.Eg KX G ?aC ?a ?i ?l ?c ?k ?pg ?hd ?po ?sa ?mk ?kc ?na
   (case aC | a | i | l | c | k | pg | hd | po | sa | mk | kc=>k_is)
   (case na=>(intro f hf;simp only [Ye,List.not_mem_nil,or_false]at hf;rcases hf with rfl | rfl <;> k_is))
  have h_MOST_PLACES:∃ tk,mg "MOST_PLACES"=some (.int 14 tk):=by
   refine' My.UQ KX G ?a ?b
   (case a=>k_is);(case b=>exact⟨_,rfl⟩)
  have h_MOST_TIES:∃ tk,mg "MOST_TIES"=some (.int 30 tk):=by
   refine' My.UQ KX G ?a ?b
   (case a=>k_is);(case b=>exact⟨_,rfl⟩)
  have h_FIGURES:∃ tk,mg "FIGURES"=some (.str "0123456789" tk):=by
   refine' My.QS KX G ?a ?b
   (case a=>k_is);(case b=>exact⟨_,rfl⟩)
  have h_MOST_FIGURES:∃ tk,mg "MOST_FIGURES"=some (.int 60 tk):=by
   refine' My.UQ KX G ?a ?b
   (case a=>k_is);(case b=>exact⟨_,rfl⟩)
  obtain⟨Aj,h_enumerate,Ai,Ah,HI,z9,z7,LL,z6,OF,z5,z3,LK,zw⟩:mg "any"=none/\mg "enumerate"=none/\mg "int"=none/\mg "len"=none/\mg "list"=none/\mg "max"=none/\mg "min"=none/\mg "range"=none/\mg "set"=none/\mg "sorted"=none/\mg "str"=none/\mg "sum"=none/\mg "tuple"=none/\mg "zip"=none:=by and_intros <;> refine' PySem.W.mg_none_of KX G ?_ <;> k_is
  obtain⟨A_Web,aZ8,dZ8,c_Web,fZ8,cl_Web,k_Web,OE⟩:=Ak;have T:My.Txt (L2.Ll KX) mg ⟨aZ0,aZ1,aZ2,aZ3,aZ4,aZ5,aZ6,aZ7,aZ8,aZ9,aZa,aZb,aZc,aZd,aZe,aZf,aZg,aZh,aZi,aZj,aZk,aZl,aZm,aZn,aZo,aZp,aZq,aZr,aZs,aZt,aZu,aZv,aZw,aZx,aZy,aZz,aZA,aZB,aZC,aZD,aZE,aZF,aZG,aZH,aZI,aZJ,aZK,aZL,aZM,aZN,aZO,A_Web,dZ0,dZ1,dZ2,dZ3,dZ4,dZ5,dZ6,dZ7,dZ8,dZ9,dZa,dZb,dZc,dZd,dZe,dZf,dZg,dZh,dZi,dZj,dZk,dZl,dZm,dZn,dZo,dZp,dZq,dZr,dZs,dZt,dZu,dZv,dZw,dZx,dZy,dZz,dZA,dZB,dZC,dZD,dZE,dZF,dZG,dZH,dZI,dZJ,dZK,dZL,dZM,dZN,dZO⟩:=⟨⟨⟨⟨⟨⟨⟨qZ0,qZ1⟩,qZ2⟩,⟨qZ3,qZ4⟩⟩,⟨⟨⟨qZ5,qZ6⟩,qZ7⟩,⟨fZ8,fZ8.binds (λ_ _ _ _ _ _=>My.lg λ_ _ _=>rfl)⟩⟩⟩,⟨⟨⟨⟨qZ9,qZa⟩,qZb⟩,⟨qZc,qZd⟩⟩,⟨⟨qZe,qZf⟩,⟨qZg,qZh⟩⟩⟩⟩,⟨⟨⟨⟨⟨qZi,qZj⟩,qZk⟩,⟨qZl,qZm⟩⟩,⟨⟨⟨qZn,qZo⟩,qZp⟩,⟨qZq,qZr⟩⟩⟩,⟨⟨⟨⟨qZs,qZt⟩,qZu⟩,⟨qZv,qZw⟩⟩,⟨⟨qZx,qZy⟩,⟨qZz,⟨fZA,fZA.binds (λ_ _ _ _ _ _=>My.lg λ_ _ _=>rfl),mZA⟩⟩⟩⟩⟩⟩,⟨⟨⟨⟨⟨⟨qZB,qZC⟩,qZD⟩,⟨qZE,qZF⟩⟩,⟨⟨⟨qZG,qZH⟩,qZI⟩,⟨qZJ,qZK⟩⟩⟩,⟨⟨⟨⟨qZL,qZM⟩,qZN⟩,⟨qZO,c_Web⟩⟩,⟨⟨cl_Web,k_Web⟩,⟨OE _ (by simp),OE _ (by simp)⟩⟩⟩⟩,⟨⟨⟨⟨⟨h_MOST_PLACES,h_MOST_TIES⟩,h_FIGURES⟩,⟨h_MOST_FIGURES,Aj⟩⟩,⟨⟨h_enumerate,Ai⟩,⟨Ah,HI⟩⟩⟩,⟨⟨⟨⟨z9,z7⟩,LL⟩,⟨z6,OF⟩⟩,⟨⟨z5,z3⟩,⟨LK,zw⟩⟩⟩⟩⟩⟩
  have e0:=Ez.symm.trans qZO.mm;cases e0;exact⟨dZO,λs u=>My.QI qZO.fn s u,λbase _ _ HB=>My.ig T ⟨An,Am,Al,HB,by decide⟩⟩
#print axioms PySem.Challenge.cw_spanrow_k94_whole_lengths_by_sums_holds
