import PyProof.Rows.All
import Wide.All
import OpenK.AllK
import Wide.FinOn
import Lean
import PyProof.EqAt
import PyProof.EqKinds
import PyProof.TupleCall
import PySem.Challenge.RW_spanrow_k90_whole_text_to_trees
set_option Elab.async false
set_option linter.all false
set_option bootstrap.genMatcherCode false
set_option genSizeOf false
set_option compiler.extract_closed false
set_option compiler.reuse false
set_option maxRecDepth 100000
section
def zN(t:Bool)(k:Lean.Name)(a:Array Lean.Syntax):(Lean.Syntax):=.node .none ((if t then `Lean.Parser.Tactic else `Lean.Parser.Term)++k) a
def zU(a:Array Lean.Syntax):(Lean.Syntax):=.node .none `null a
def zC:(Nat→Lean.Syntax→Lean.Syntax)
|0,s=>s
|n+1,s=>zN true `rcasesPatMed #[zU #[if s.isIdent then zN true `rcasesPat.one #[s] else if s[1].isMissing then zN true `rcasesPat.ignore #[s[0]] else zN true `rcasesPat.tuple #[s[0],zU ((if s.isOfKind `Lean.Parser.Term.tuple then #[s[1][0],s[1][1]]++s[1][2].getArgs else s[1].getArgs).map λx=>if x.isAtom then x else zN true `rcasesPatLo #[zC n x,zU #[]]),s[2]]]]
def zL(s:Lean.Syntax):(Lean.MacroM Lean.Syntax):=
 let d:=s[2][0]
 let p:=if d[0].isOfKind `Lean.Parser.Term.letId then d[0][0] else d[0]
 if d[1].getNumArgs != 0 then Lean.Macro.throwUnsupported else if p.isIdent&&p.getId != `rfl then pure (zN true `tacticHave__ #[s[0],s[1],s[2]]) else pure (zN true `obtain #[s[0],zU #[zC 9 p],zU d[2][0].getArgs,zU #[d[3],zU #[d[4]]]])
local macro_rules(kind:=Lean.Parser.Tactic.tacticLet__)|s=>zL s
local macro_rules(kind:=Lean.Parser.Tactic.show)|s=>pure (zN true `refine #[s[0],s[1]])
local macro_rules(kind:=Lean.Parser.Tactic.«tacticExists_,,»)|s=>pure (zN true `refine #[s[0],zN false `anonymousCtor #[s[0],s[1],s[0]]])
local macro_rules(kind:=Lean.Parser.Tactic.cases)|s=>if s[3].getNumArgs==0&&s[1][0][0].getNumArgs==2 then pure (.node .none `«tacticBy_cases_:_» #[s[0],zU #[s[1][0][0][0][0],s[1][0][0][1]],s[1][0][1]]) else Lean.Macro.throwUnsupported
local macro_rules(kind:=«term~~~_»)|s=>pure (zN false `proj #[s[1],s[0],Lean.mkIdent `heap.objs.size])
local macro_rules(kind:=coeNotation)|s=>pure (zN false `app #[zN false `dotIdent #[s[0],Lean.mkIdent `ref],zU #[s[1]]])
local macro_rules
|`($x⁻¹)=>`((($x).length:Int))
def zG:List (String×String):=[("f","length"),("j","toNat"),("l","trans"),("m","toList"),("o","size"),("r","heap"),("C","toArray"),("E","get?"),("G","Pairwise"),("H","map"),("M","take"),("Q","getD"),("R","mp"),("S","lookup"),("U","replicate"),("X","env"),("Y","extract")]
def zF(s:String):(Option String):=zG.lookup s
def zJ:Lean.Name→Lean.Name
|.str p s=>.str (zJ p) ((zF s).getD s)
|n=>n
def zI:Lean.Name→Lean.Name
|.str p s=>if p.isAnonymous then .str p s else .str (zI p) ((zF s).getD s)
|n=>n
def zR:Nat→Lean.Syntax→Option Lean.Syntax
|_,.ident i r n p=>if n.hasMacroScopes then none else let m:=zI n;if m==n then none else some (.ident i r m p)
|e+1,.node i k a=>if k== `Lean.Parser.Term.app then (zR e a[0]!).map λx=>.node i k (a.set! 0 x) else if k== `Lean.Parser.Term.proj then let f:Option Lean.Syntax:=if a[2]!.isIdent then let n:=a[2]!.getId;let m:=zJ n;if m==n then none else some (Lean.mkIdent m) else none
 match zR e a[0]!,f with
 |none,none=>none
 |x,f=>some (.node i k #[x.getD a[0]!,a[1]!,f.getD a[2]!])
 else none
|_,_=>none
def zS(s:Lean.Syntax):Lean.MacroM Lean.Syntax:=(zR 20 s).elim Lean.Macro.throwUnsupported pure
local macro_rules(kind:=ident)|s=>zS s
local macro_rules(kind:=Lean.Parser.Term.proj)|s=>zS s
local macro_rules(kind:=Lean.Parser.Term.app)|s=>zS s
local macro_rules(kind:=«term{_}»)|s=>pure (zN false `anonymousCtor #[s[0],s[1],s[2]])
def zE(s:Lean.Syntax)(x:List Char):Lean.Syntax:=s.setArg 1 (s[1].setArg 1 (s[1][1].setArg 0 (Lean.mkIdent (.mkSimple ("tw"++(x.foldl (λn c=>n*57+c.toNat-if c<'a' then 48 else 54) 0).repr)))))
def zK(s:Lean.Syntax):Nat→List Char→Array Lean.Syntax→Array Lean.Syntax
|0,_,a=>a
|n+1,l,a=>zK s n (l.drop 11) (if l.isEmpty then a else a.push (zE s (l.take 11)))
def zH(s:Lean.Syntax)(k:Lean.Name):Bool:=s.isOfKind (`Lean.Parser.Command++k)
def zB(s:Lean.Syntax):Option Lean.Syntax:=
 let d:=s[1]
 if s.getPos?.isNone||zH d `theorem then none else
 let t:=d[2][1][0][1]
 let q:=zH d `definition
 let s:=if q&&!(t.isMissing||t.isOfKind `Lean.Parser.Term.paren) then s.setArg 1 (.node .none `Lean.Parser.Command.theorem #[d[0],d[1],.node .none `Lean.Parser.Command.declSig #[d[2][0],d[2][1][0]],d[3]]) else if q||zH d `abbrev||zH d `instance then s.setArg 0 (s[0].setArg 4 (zU #[.node .none `Lean.Parser.Command.noncomputable #[s[0]]])) else s
 let s:=s.rewriteBottomUp (·.setInfo .none)
 some (if d[1][0].getId==`twz then zU (zK s 999 (d[3][1].isStrLit?.getD "").toList #[]) else s)
def zD(s:Lean.Syntax):Lean.MacroM Lean.Syntax:=(zB s).elim Lean.Macro.throwUnsupported pure
local macro_rules(kind:=Lean.Parser.Command.declaration)|s=>zD s
namespace PySem.W.Fast
def twz:="KEhVIlSm:PNHk;M9N79WWUNZb?47J;c4eE;W<=IfNmXI8KK;anMW0JHX5WW=l0N3NN:@UO1M:29V29d8Sgc<gS5ID>b@VkecjTS09HFBmH@b8PbK5bNW3KNSj7fFSG;UiNA5cR8RNeQ6Da95l?XkHeH3QS4;kFi?eHQM45;fAdA5gfa@OegffcU:0fKcg<Acc?G=fm>?XjJUVA@mbIAXnP<GYl44CKli?5i98:lIjUn=hXk<3PX=mZUSN4HQ:QnD4<lDhAeHdenP>ENA;feEfdd=OK16<YP0N;6C@H28j6gN68UnFBbkB:CD6YnhWOd3XkSPXJeZ@0hZEUgMH6gfiG@bD=nGECKEAZB1Yn<4WAj69WLY5h9be<beF5OI48N82gf5?JaUnUX4VQ4cR5IlF2eLT5:9UWOPXMaZ=?HPeAZ0OcO2anegVnE7cjAXNWPCeKg=Ca>c7GEjm7MO=gjTCiQ0lJ6fbY<=TYbYb4PZ9ULMei2?Rg54bJQPRVTaDcA82N@<@YO1f7?F7ZeDHD1M>ZU:2P7EA;WQ;4bAHQ0OAf?5A@mdV0L@HUlMPFQNWd2m>7bL7Gd1N;W7aeTlNdF0PM0W@<T9aEmE7V3E<<gIg1gEagTTYfH77AL?4kkANIP:YIODKNJ38ZS7bh4AB61M3:GUD4fMAOJM:OGFfLGhcQRKdOe9S4cKFf63;cHe5g8m:f3;06H9:;A6WLL0FW1BgO5Q=68?hcc<f2;@cMWMIVn=U5EYGE3m9n>JLEX<kRDGe<VRgTJQ>W7<:c88:dkDP65dIEWFjSmgnM5:JQb2FVjnkU8RDihKZ8mCGFkU5bcBFhE;IWmc6cIN5OH64L7B0SikC64NYV0nM?=aO7j2GXkGRYZOK19Y6C2J==@A2kVS7OkE1J2jALDPFRTF9edmFYK1Y0c578O3lMa9IL5OVj6OXeUm78Y3P;Z3XDdSXAhmLjF=IXdEQmT;Zc1dNESD6BSmD7G7NCR@BI<94>MQ0660jNj<<MgZ5XOL2GAEgRDKQY92F6kM9hJeCQ0MeVKVKHYSZL0YeEj20jaE8P<g>EiXb5H9fXH2hcLAdJiPK@6e3g2e5<8:4QN65SSWMiHENSELm5n7fXRKfLg5ITIeSNJi1YciI1Ib1MKSTd0Tnk3:hXTeNKj9LOIU4hekn8XUTaQk1>W?Nll20mRa;6lTUAlNMbhc>1UbEe27@ZOdF<J3VASA?YI1S4gbAhUm1mUkS;3BHd5TT6NQnX5eI:ZVAJl2kP;bAd9TMV2JF15DY7B3QcPjWPlOiSOja?h:R9G>O5lWC7e;WeXgk>8YVFlE6W9bLeXYmM14H3B@=:CM9SH079AEMO25i:mh?CWV0G52BIUhFHJddg2<VXP:XljV?X6ELXWDNPif:hjMILUNT42@P5?VYgeQ;5S:57MiiT@7L<69XK;UEREhafIk92QZm31ngHI:02Ndi5EXIkJT6QnWWDVF@;8YeR;0OIG;84f0:?M163IZKYWiW:;8ZDF72ek<ik4Gm;BXhKhOOIEFVTbX:4>lEZU:MZM85Z:@1dR?I1=SfdJbHInLTN>hjXNZllh3e;WV0IUQ:ZhV1K;;ane@ghY;XF@39TPKdl8Y9h=RAAF9El2kSI1iZEUmKQ5CVQhWU9=?;g?5PekmYZnXGNUN69@hNgB:Vmmj:QU1<IVBliDeV:40AgM2IdXR:jgbNd<WY07fGU>VI@D6ShTmOZdO<A@R73Z4PdKjOlFKYK:CeRNhVcU7O<FK31Cj;4=SKBk7D=Ekd3C4IPZZX3inVKUF8K:P?c<KR<;JNAiFUiJ;HKEV<@?K:b3?D0Onfcb9@24Nm@=7ACeh;LUKEj<TfOX=aAiCbY69OPgU;DGZ1?3Re5cRaQ>ICm6llG7lRh2XjB8AU:KXZI02cRPCWWCPD7fEG9OhKLDcQP8M8TUHfD0Z5JKn:P4Q60=8g8dgWH1XHOT<XJBYS09HgUlZSGJlW;J=0e=eU=B?;1:@QZ7UQ26lKNbQ8VGfe3c57bc;L2gI:jD5I@NRT@JMN7=OfB?<K38;<=N<:>mNI3Zl5;B3MEXS7mYKZJ:PadHLGF4NU3LLX<fChiWAUc4JSXcEnAjn?;c93aYT8QK1ZZF?X;chb9JV0BOKlha2E9>HE5lE;TifInM3K0AMBjkZVZCDg=::FH1CnmCc6efA>FZXddeVgm@gR=8bBSSYOJjC>8RZBf67CfSPD0Q0c4mUdMZcGARUjNlS5EeeeDI1QWXdZ:QUIAd9?CgFCBbbU?NJc8O2TGamYTR2h<UO2ChBeMF5:iH8eN5=F?LYB88<Z;m7T>C7TafMePTPKbhf3T;VZQ4IS7IhOafGliIK:iM<Z:QjnTcDKBU3h15denUK:i52SelB@m7V?4Y0EA4Uk<OFmj>16RbAL4F79e=7;M6AdG<@ElbMmZ3TF@TOlLeAmT7F6afYgg850>Naln<iFcm@2OHT?2Q26kE;m0cl7D802bfU11?=HKcTST=cPeKVTICELK28<PeBkZEI@SP@DQOjiCMTR2hGe>Am<BnNUTT>Vn0AMOIk;H:JFHkBK8;XBXSncWB4kic?=c20E?9Pl@C6bRKD8U@JRCDEXBWXaRn>62m?keFRG;eDU8H=DX?FTR0<7SkJ7CUeGnBcYZ3QlS1PkHf;9ShV?G1i=0QA6YZk1=1POl=KEMnYQAjimG1:QEGj?@iEB:fNiaK2cREj?aIH>Bg6cJaMCfBl0a>R8UnWCFiYXVn9T3c0mUIM1kWInPAVTi;Yamm?Hl?PSS8e?J6FFdWidJiLV1K=?L6KVgb<ghNbUDmFl:b7<:gD6BT7cH:00@Lch?Se?CEK9PkULDW?a?:UY95ChE2m9m?h<dCJ;NLCnPS7Vi5PlSMAfE2:a;cVOI<=0ID=Re3Z7fMJ7Vd56L@89lFMAnmQ=a0MJU56ABMV4h<:NGiYWe4gX<dmh2;Lm9:=lgd@beZFLN50YUDbSWHnR98Vak?1H9VbYaRG6Y:RhMKU75:TS;Di;M5fi7DNh7>4?1JNW33@=bJmCAVa9ZR:2AW6hjnb5@@?36Ub3<X;VX3?gE57m5j=AdZTCcMkN?5fd5n098j71a?a1SXPg;4jd4c1dTdkE=kS<nQWLj?5Aa3C6MNIn9>PKk1ZLHH<QReZBe844OkY<=bEggLj7HWFdaKY0G@Xm4;KU3iWkWPhn531cCaEGNMEmiWPR??23e@YRfnD>iWFF?7Z>QL?ZAYhjUa6ageHfNEFHam2E>F8<aXEN;aB590VBENLkR4b21C;@8X53HUZb5BYkQF8Q;iIVV3<V6X2RU;S@gkV2maASReHbZR1K@gG7U4G763VmkP5=<WaAPe>hgI5LZbaW3gD44RaaDBOAM18IHjAm6l?RBj;26NmcC87YHTNg8nWDFJ23NT=RdU<FB>7C76BYgQeNnBE6OFUfQP:684EEkH<0H4PTY12:lOeK?@7gb:H:d6j??jc:HAf3<J32LBV>Rdl@fdnF205a=k9kBa2hQ2JFI7KGBeZ797gajX:5k4?ckf;d2UdF3dEZ:MRO:naIacljSfTL8AF5FZlLYV@3>IRDm33UXFl95M1bklbIHM?9b@Qj8QhW:K1K4@j0CWhHIP=NdGR0CEUNiG5<PS1PSi;D:g?I625YhFg38Uh?:R>e34E9WP7GKNAa3JJIMY9K1diU3Zl10X7ULgMPhWHL5WCmRQ@XRaK6aZIb<:R3Xm4LT=DDKY@17dm2<<g8LbagGLAbG97U?OaUUhdU08QVNT=0O=klfP>2<2YJM<Xck@30X=cf00CmAZUfhcDGZ2X5dFUfP=Z7;glHjE2>ccZG>6fjFi43h17hN6cih>1CT=AJSXL;DcUJIM?cPgMHFglhS9jmUdAV=;U31nc??<i2D?lVgGBiN3P05nM02?NcUK85@AS<9lFBWS1;L=CPg1lR8d;BG1BMIFJGcP0VP0RT0T2KQbX28KJdHTDIcZE3l@F8HB@k2K6JALZVg1DMEiV;05gb<eI76MDXH6W>i1dWF:TONQg:le4dA?cUNBPE@eXj4U1N34ID3ETaWKS9hJWSZ17YeS2k<77Xk0FA<V7bWAF4n9MFiVJ@VmlDAY90gDHODgHI?5YJ0fJLYiTPT=lF6QA=1hB<?k1?VXAlBdg@QlEYZRbmP5kZ8SU@4J=XbJ37JPOhJhVL?nDPNk:61I2Kg35C0BkJmHGLEgjID;hTdML9iN43l89Y662:E90KSXOd:eCMB84hLJegSl@ABQGD38dMc1XYPTMMnaf9<9?APYIGP4<MLTaC@HUESVLSWHMJBghNUAfTRcA0:AICajBk4B9E75h>W423GeP0>9bJYZO>c6:5NQH:l:0bI:bnb1NiaMV5IClC9WlT0U4lHB5UaY11MgiJXil8dFE2L8=;X4Cn4XJQ?mBT3AYLN<MYV4ZaPW3J9OjVjOcZ5IK7ZiFH>72=0DbOTgBGYZ4CgY4Vcmb:JNBeWRZT69j7k>;W0;hR5P4XGTUQ9WU8TLkiPQ8<8iiA4Zh7Kcbd<JbD:F=2Th3m7Hl63?H5K6O4SDjWiGcP@Qi5@6MeE@J>5HHn<TmB08:nQ9Ub=W4W1OOSO22jldF9aREb9FPBW1PJ0iCSKHFMiQ9UFXBl?626Zimn2AOPW1b88emE3c6jAC?=;AFYeih=9aH4OUIh2D;m>a2IESCTW;;i66g9b6lLXLUA7K<=GLcVIZKC<3bGSkTmh=ImF<:4YTXPQ3NW6La7L7<M4ffnGGa"
end PySem.W.Fast
def D0(h:True:=by decide):True:=h
def D1(h:True:=by rfl):True:=h
def D2(h:True:=by kernel_rfl):True:=h
def D3(h:True:=by first|show .inl rfl|show .inr rfl|assumption):True:=h
def D4(h:True:=by intro _;rfl):True:=h
def D5(h:True:=by show .inl rfl):True:=h
def D6(h:True:=by with_unfolding_all rfl):True:=h
def Z{α:Sort _}{a:α}:a=a:=rfl
abbrev Aa:=List (Int×Int)
abbrev Ab:=List (List Int)
abbrev Ac:=List Int
abbrev Ad:=PySem.W.Frag
abbrev Ae:=PySem.Value->PySem.Shared->Prop
abbrev Af:=PySem.Str->Option PySem.Value
abbrev Ag:=List PySem.Value
def J{p:Prop}(h:p:=by lia):p:=h
def D{p:Prop}(h:p:=by decide +kernel):p:=h
def AP{p:Prop}(h:autoParam (p) D0._auto_1):p:=h
def Fe{p:Prop}(h:p:=by simp):p:=h
def rO{p:Prop}(h:p:=by omega):p:=h
def B{p:Prop}(h:p:=by grind):p:=h
def rN{p:Prop}(h:autoParam (p) D1._auto_1):p:=h
def rP{p:Prop}(h:autoParam (p) D2._auto_1):p:=h
def Xv:=@List.getElem?_eq_some_iff
def Xw:=@List.getElem?_eq_getElem
def XT:=@PySem.wpAny_bind
def Xl:=@PySem.Heap.get?_push_of_some
def Xf:=@List.mem_of_getElem?
def XI:=@Nat.le_refl
def Xe:=@List.length_append
def We:=@List.getD_eq_getElem?_getD
def Xc:=@List.mem_singleton
def Xk:=@List.mem_append
def Ya:=@List.mem_cons_self
def Yb:=@List.length_map
def Yc:=@Nat.zero_le
def Qd:=@PySem.Heap.get?_push_size
def Ye:=@PySem.wpAny_pure
def Yf:=@List.mem_cons_of_mem
def Yg:=@List.mem_append_right
def Yh:=@if_neg
def Yi:=@if_pos
def Yj:=@List.mem_append_left
def Yk:=@PySem.Heap.lt_size
def Yl:=@Nat.le_trans
def Ym:=@Option.some.inj
def Yn:=@List.getElem?_map
def Yo:=@List.mem_cons
def Yp:=@Nat.lt_of_lt_of_le
def Yq:=@Array.toList_append
def Yr:=@List.mem_filter
def Ys:=@PyProof.Rows.wpS_bind
def Yt:=@Classical.byContradiction
def Yu:=@List.length_take
def Yv:=@List.take_of_length_le
def Yw:=@Nat.ne_of_lt
def Yx:=@List.getElem?_of_mem
def Yy:=@List.take_length
def Yz:=@List.mem_map
def YA:=@List.take_succ
def YB:=@List.map_append
def YC:=@Bool.false_ne_true
def YD:=@List.getElem?_append_right
def YE:=@decide_eq_true
def YF:=@congrArg
def YG:=@List.getElem?_append_left
def YH:=@PySem.PassesOwn.never
def YI:=@Array.length_toList
def YJ:=@PySem.Heap.get?_update_other
def YK:=@List.length_singleton
def YL:=@List.length_filter_le
def YM:=@Array.getElem?_toList
def YN:=@List.pairwise_cons
def YO:=@of_decide_eq_true
def QP:=@PySem.F.plainAttrs_list
def YQ:=@List.map_congr_left
def YR:=@List.size_toArray
def YS:=@List.append_nil
def YT:=@Array.getD_eq_getD_getElem?
def YU:=@PyProof.Rows.wpS_pure
def YV:=@List.append_assoc
def YW:=@List.length_cons
def YX:=@Int.toNat_natCast
def YY:=@List.mem_range
def YZ:=@PySem.Heap.get?_update_self
def UH:=@List.pairwise_iff_getElem
def Uj:=@PyProof.Rows.callWith_type1
def VI:=@List.filter_append
def VH:=@PySem.Obj.data_mapFields
def XH:=@Ne.symm
def UG:=@List.length_eq_zero_iff
def UZ:=@List.length_replicate
def VG:=@List.nodup_append
def Ui:=@Array.getElem?_eq_getElem
def VX:=@Nat.not_lt_zero
def NS:=@PySem.F.type_list_append
def NR:=@PySem.F.slot_list_append
def RZ:=@List.length_drop
def LW:=@Array.perm_iff_toList_perm
def Qh:=@PySem.Heap.SameBut.update
def Qg:=@decide_eq_true_iff
def QC:=@PySem.wpAny_newObj_type
def RY:=@PySem.codeAny_builtin
def SR:=@List.map_cons
def Kz:=@List.perm_ext_iff_of_nodup
def SQ:=@PySem.wpAny_holding
def NQ:=@List.pairwise_append
def QB:=@PySem.wpAny_call_entry
def Qf:=@PySem.wpAny_truthy_bool
def QA:=@List.nodup_cons
def OA:=@PySem.wpAny_Call_Name_kw
def LV:=@List.getElem?_zipWith
def RX:=@Nat.lt_irrefl
def RW:=@Int.mul_assoc
def Oz:=@Array.toList_push
def Ts:=@Nat.le_succ
def LU:=@List.mem_of_mem_take
def Qe:=@Int.emod_nonneg
def LS:=@List.length_reverse
def Ht:=@List.extract_eq_take_drop
def NP:=@List.length_range
def RV:=@Int.mul_zero
def Qc:=@Nat.mul_le_mul
def SO:=@PySem.wpAny_of_eq
def LR:=@List.getElem?_drop
def Sx:=@Int.one_mul
def RC:=@getElem?_pos
def RB:=@Nat.zero_add
def RA:=@Nat.ne_of_gt
def NO:=@List.all_eq_true
def Rz:=@Int.add_zero
def Oy:=@PyProof.Rows.KeyOrd.kle_trans
def LQ:=@List.pairwise_map
def LP:=@List.ext_getElem?
def Tq:=@PySem.wpAny_mono
def Ky:=@PySem.mem_of_lookup
def Kx:=@List.length_zipWith
def Hs:=@PySem.wpAny_callSpecial?_slot
def NN:=@List.range_succ
def Qz:=@Int.mul_comm
def RU:=@PySem.sizeLine_eq
def Hr:=@List.take_append_drop
def Kw:=@Nat.lt_of_le_of_lt
def Kv:=@List.getElem?_take
def FL:=@List.drop_eq_getElem_cons
def Ku:=@Int.emod_lt_of_pos
def Ox:=@PySem.Heap.size_push
def Vt:=@PyProof.Rows.wpS_forRange
def Ry:=@Array.toList_extract
def Rx:=@PySem.Obj.isFreed_of_fields
def Tp:=@Bool.eq_iff_iff
def Rw:=@List.map_eq_nil_iff
def Uh:=@PyProof.Rows.KeyOrd.kle_refl
def Ug:=@PySem.wpAny_setField
def Qb:=@PySem.F.slot_str_split
def Qa:=@PySem.F.plainAttrs_str
def UE:=@Nat.sub_self
def Ow:=@Nat.le_of_lt
def NM:=@List.sum_cons
def FK:=@List.pairwise_lt_range
def Ov:=@List.map_map
def FJ:=@List.drop_eq_nil_of_le
def Kt:=@List.cons_append
def Ou:=@PyProof.Rows.listUpdate_at
def FI:=@List.getElem?_eq_none
def Rv:=@PySem.wpAny_rule
def NL:=@PySem.wpAny_newList
def NK:=@PySem.wpAny_attempt
def NJ:=@PySem.plainId_quiet
def Ks:=@List.nil_append
def Hq:=@List.getElem?_set
def NI:=@Nat.succ.inj
def FH:=@Nat.pow_le_pow_right
def FG:=@List.mem_of_getLast?
def NH:=@Int.zero_add
def Kr:=@PySem.wpAny_passesOwn
def Ho:=@Nat.lt_succ_self
def Hn:=@List.mem_reverse
def FF:=@List.getElem_of_mem
def Hm:=@List.getElem_mem
def Hl:=@PySem.wpAny_setState_of
def xg:=@List.pairwise_singleton
def FE:=@Bool.false_eq_true
def Hj:=@List.foldl_cons
def FC:=@PySem.wpAny_setEntries_of
def Kq:=@PySem.wpAny_seqItems
def Hi:=@PySem.wpAny_isInstance
def Hh:=@PySem.wpAny_askSetting
def Hg:=@PySem.F.plain_min_loop
def FA:=@List.reverse_perm
def Fz:=@List.filter_congr
def Hf:=@PyProof.Rows.KeyOrd.kle_of_klt
def Fy:=@Bool.eq_false_iff
def LO:=@PySem.codeAny_mono
def LN:=@PySem.F.called_set
def He:=@PySem.wpAny_specialOf
def LM:=@Int.mul_add
def Fx:=@List.lookup_cons
def tu:=@List.dropLast_concat_getLast
def Kp:=@Int.pow_zero
def Fw:=@decide_eq_false
def Fv:=@Array.Perm.refl
def Sw:=@PyProof.Rows.wpS_mono
def NG:=@PySem.call_meets
def Ko:=@Int.le_refl
def tm:=@PySem.F.type_list_extend
def tj:=@PySem.F.slot_list_extend
def tf:=@PySem.F.args_tuple_add_2
def sZ:=@PySem.F.args_str_split_2
def Km:=@Option.isSome_iff_exists
def Kl:=@List.eq_of_mem_replicate
def PZ:=@List.drop_zero
def Kk:=@List.Pairwise.imp_of_mem
def Ru:=@Int.pow_succ
def PY:=@Int.natAbs_mul
def Rt:=@Int.le_of_lt
def NF:=@Int.mul_left_comm
def Kj:=@PySem.F.entry_tuple_add
def Ki:=@PySem.F.entry_str_split
def sY:=@Int.eq_ofNat_of_zero_le
def Kh:=@PySem.intItems_at
def xf:=@beq_self_eq_true
def Fu:=@PySem.W.mg_of
def sX:=@PySem.F.slot_tuple_add
def xc:=@Nat.le_of_not_lt
def sW:=@List.getElem?_set_self
def sV:=@List.getElem?_eraseIdx
def xb:=@List.filter_cons
def xa:=@List.any_eq_true
def wZ:=@PySem.Code.quiet_builtin
def sU:=@PySem.Calls.call_function_entry
def wY:=@Bool.and_eq_true
def Hd:=@Int.mul_one
def Ft:=@PySem.wpAny_tryCatch
def sT:=@List.pairwise_reverse
def wX:=@PySem.wpAny_pyIter_list
def wW:=@PySem.Obj.cls_mapFields
def wV:=@List.find?_cons
def Fs:=@Nat.mul_comm
def sS:=@List.length_eraseIdx
def Fq:=@Int.zero_mul
def Fp:=@Int.le_trans
def sR:=@Array.toList_reverse
def Fo:=@PyProof.Rows.get?_update_seq
def sQ:=@List.reverse_append
def sP:=@List.filter_eq_self
def wU:=@List.drop_drop
def sO:=@Int.toNat_of_nonneg
def Hc:=@Int.not_lt
def wR:=@PySem.F.entry_min_loop
def LL:=@PyProof.Rows.wpS_modify
def Hb:=@PySem.wpAny_letGo
def sN:=@List.map_singleton
def sM:=@Array.size_extract
def wQ:=@PySem.wpAny_updateSeq
def wO:=@PySem.wpAny_execs_nil
def wN:=@List.cons.inj
def Fn:=@PySem.wpAny_typeOf
def sL:=@PySem.wpAny_pyIter_revIter
def sI:=@bne_self_eq_false
def cD:=@PyProof.Rows.callWith_builtin1
def sH:=@List.take_sublist
def cC:=@List.eq_nil_iff_forall_not_mem
def sF:=@Int.natAbs_add_le
def cB:=@List.drop_append_of_le_length
def wM:=@PySem.wpAny_runValue
def wL:=@PySem.wpAny_fieldsOf
def Ha:=@PySem.typeIs_str
def sD:=@decide_eq_decide
def cz:=@PySem.F.slot_dict_setdefault
def wK:=@Nat.sub_zero
def ND:=@Nat.add_zero
def Kg:=@List.not_mem_nil
def PX:=@PyProof.Rows.firstMet_succ
def Kf:=@PySem.wpAny_pyIter_tuple
def PV:=@PySem.wpAny_field
def Ke:=@and_congr_right
def Kd:=@PySem.SeqAt.EqAt.of_refs
def Fm:=@PySem.F.slot_tuple_getitem
def Kc:=@Nat.min_eq_left
def Kb:=@Nat.le_antisymm
def sy:=@List.of_mem_zip
def sv:=@List.length_set
def su:=@Int.min_eq_left
def cy:=@Int.fdiv_eq_ediv_of_nonneg
def sr:=@PySem.Calls.spliced_cons
def cx:=@Array.getElem?_eq_some_iff
def wJ:=@PySem.nums_intItems
def cv:=@PySem.F.plain_extend_loop
def cu:=@List.mem_or_eq_of_mem_set
def wI:=@Int.neg_mul
def cq:=@Int.eq_of_mul_eq_mul_left
def wH:=@Int.add_mul
def sq:=@PySem.wpAny_pyIter_slot
def wG:=@PyProof.Rows.entry_list_sort
def cn:=@PySem.F.slot_dict_values
def so:=@List.take_zero
def cm:=@List.mem_of_mem_eraseIdx
def cg:=@List.getElem?_take_of_lt
def sj:=@List.drop_take
def cf:=@List.append_cancel_right
def si:=@List.Perm.refl
def sf:=@PySem.Calls.spliced_nil
def Fl:=@PyProof.Rows.listItems_at
def sd:=@PyProof.Rows.entry_proto_collect'
def b9:=@PySem.F.plainAttrs_dict
def b8:=@Nat.add_sub_cancel_left
def b7:=@List.pairwise_mergeSort
def Fj:=@PySem.wpAny_load
def Fi:=@PySem.wpAny_call
def r9:=@PySem.noFill_tuple_add
def wF:=@beq_iff_eq
def bZ:=@PySem.W.cellsFrom_some
def bY:=@PySem.F.type_str_split
def bX:=@List.merge_perm_append
def bW:=@List.length_eq_one_iff
def bV:=@List.filter_eq_nil_iff
def bU:=@List.drop_of_length_le
def r6:=@List.any_cons
def rZ:=@PySem.Heap.size_update
def bT:=@Array.getElem?_eq_none
def PU:=@PyProof.Rows.wpS_get
def wD:=@PyProof.Rows.slot_list_sort
def rY:=@PyProof.Rows.getElem?_mirror_all
def bS:=@PySem.F.type_str_join
def bR:=@PySem.F.slot_str_join
def bQ:=@List.set_append_right
def bP:=@List.getElem?_toArray
def bO:=@List.getElem?_reverse
def bN:=@List.Perm.append_left
def bM:=@List.Pairwise.sublist
/-! THE HAND bL,for ints,bools,texts,own classes,bK and tuples (index,rX,in,append,pop ..),calls,loops. bJ it whole ahead of rW own text;what rW proof does not reach may be deleted. -/
namespace L2
open PySem PySem.Spec PyProof.Rows
abbrev Key:=Sum Int Str
def Rr:(Key->Value->Bool)
 | .inl k,v=>Value.isInt k v
 | .inr x,v=>Value.isStrOf x v
def Zaa(w:World):(Key->Int)
 | .inl k=>hashInt k
 | .inr x=>hashStr w x
def ZL:∀{k:Key}{v:Value},Rr k v=true->(∃i t,k=Sum.inl i/\v=Value.int i t)\/(∃x t,k=Sum.inr x/\v=Value.str x t)
 | .inl i,v,h=>by let(t,e):=Value.isInt_shape (k:=i) (v:=v) h;show .inl ⟨i,t,Z,e⟩
 | .inr x,v,h=>by let(t,e):=Value.isStrOf_shape (x:=x) (v:=v) h;show .inr ⟨x,t,Z,e⟩
def ZI9(i:Int)(t:Tok):Rr (.inl i) (.int i t)=true:=by simp[Rr,Value.isInt]
def ZH9(x:Str)(t:Tok):Rr (.inr x) (.str x t)=true:=by simp[Rr,Value.isStrOf]
def Zab(a b:Int):decide ((Sum.inl a:Key)=Sum.inl b)=(a == b):=by lia
def Zac(a b:Str):decide ((Sum.inr a:Key)=Sum.inr b)=decide (a=b):=by
 simp_all
def Rq(prog:Program)(w:World):(PySem.KeyKind prog w Key) where
 is:=Rr
 hash:=Zaa w
 inj:=λv a b ha hb=>by
  rcases ZL ha with ⟨i,t,rfl,rfl⟩|⟨x,t,rfl,rfl⟩
  .rcases ZL hb with ⟨j,u,rfl,e⟩|⟨y,u,rfl,e⟩
   .simp_all
   simp_all
  .rcases ZL hb with ⟨j,u,rfl,e⟩|⟨y,u,rfl,e⟩
   .simp_all
   simp_all
 byValue:=λk v h=>by rcases ZL h with ⟨i,t,rfl,rfl⟩|⟨x,t,rfl,rfl⟩<;>rfl
 pyHash:=λhv h=>by
  rcases ZL hv with ⟨i,t,rfl,rfl⟩|⟨x,t,rfl,rfl⟩
  .show wpAny_pyHash_int h
  .show wpAny_pyHash_str h
 eqBool:=λhu hv h=>by
  rcases ZL hu with ⟨i,t,rfl,rfl⟩|⟨x,t,rfl,rfl⟩
  .rcases ZL hv with ⟨j,u,rfl,rfl⟩|⟨y,u,rfl,rfl⟩
   .rw[Zab]at h;show wpAny_eqBool_int h
   .show SeqAt.EqAt.int_str i t y u _ _ _ _ h
  .rcases ZL hv with ⟨j,u,rfl,rfl⟩|⟨y,u,rfl,rfl⟩
   .show SeqAt.EqAt.str_int x t j u _ _ _ _ h
   .rw[Zac]at h;show wpAny_eqBool_str h
 «strs»:=λk x t v h=>by
  rcases ZL h with ⟨i,u,rfl,e⟩|⟨y,u,rfl,e⟩
  .simp_all
  .injection e with e1 _;subst e1;cases v<;>rfl
def ZH6(prog:Program)(w:World)(i:Int)(t:Tok):(Rq prog w).is (.inl i) (.int i t)=true:=ZI9 i t
def ZG6(prog:Program)(w:World)(x:Str)(t:Tok):(Rq prog w).is (.inr x) (.str x t)=true:=ZH9 x t
inductive V where
 |non|bl (b:Bool)|int (i:Int)|str (x:Str)|byt (b:Array UInt8)|flt (b:UInt64)|ref (a:Addr)|ty (n:String)
 deriving DecidableEq
def RelV:(V->Value->Prop)
 | .non,u=>u=Value.none
 | .bl b,u=>u=Value.bool b
 | .int i,u=>∃t,u=Value.int i t
 | .str x,u=>∃t,u=Value.str x t
 | .byt b,u=>∃t,u=Value.bytes b t
 | .flt b,u=>∃t,u=Value.float b t
 | .ref a,u=>u=Value.ref a
 | .ty n,u=>u=Value.type n
abbrev Vals:List V->List Value->Prop:=Paired RelV
def Vals.length{xs:List V}{us:Ag}(r:Vals xs us):xs.f=us.f:=Paired.f r
def Vals.get{xs:List V}{us:Ag}{i:Nat}{x:V}(h:Vals xs us)(e:xs[i]?=some x):∃u,us[i]?=some u/\RelV x u:=by
 induction h generalizing i with
 |nil=>simp at e
 |cons r t ih=>
  cases i with
  |zero=>simp at e;subst e;exists _,Z,r
  |succ i=>
   let(u,h1,h2):=ih (i:=i) (by simpa using e);exists u,by simpa using h1,h2
def Vals.set(r:RelV x u){xs:List V}{us:Ag}(i:Nat)(h:Vals xs us):Vals (xs.set i x) (us.set i u):=by
 induction h generalizing i with
 |nil=>show .nil
 |cons q t ih=>
  cases i with
  |zero=>show .cons r t
  |succ i=>show .cons q (ih i)
def Vals.append{xs ys:List V}{us ws:Ag}(h:Vals xs us)(s:Vals ys ws):Vals (xs++ys) (us++ws):=by
 induction h with
 |nil=>show s
 |cons r t ih=>show .cons r ih
def Vals.take{xs:List V}{us:Ag}(n:Nat)(h:Vals xs us):Vals (xs.M n) (us.M n):=by
 induction h generalizing n with
 |nil=>cases n<;>show .nil
 |cons r t ih=>
  cases n with
  |zero=>show .nil
  |succ n=>show .cons r (ih n)
def Vals.drop{xs:List V}{us:Ag}(n:Nat)(h:Vals xs us):Vals (xs.drop n) (us.drop n):=by
 induction h generalizing n with
 |nil=>cases n<;>show .nil
 |cons r t ih=>
  cases n with
  |zero=>show .cons r t
  |succ n=>show ih n
def RelO:(Option V->Option Value->Prop)
 |some v,some u=>RelV v u
 |none,none=>True
 |_,_=>False
def KV{κ:Type}:(List (κ×V)->List (κ×Value)->Prop):=Paired λ(p:κ×V) (q:κ×Value)=>p.1=q.1/\RelV p.2 q.2
def kV:(Key->V)
 | .inl i=>.int i
 | .inr x=>.str x
inductive HO where
 |lst (xs:List V)
 |tup (xs:List V)
 |dK (kvs:List (Key×V))|dT (kvs:List (List Key×V))
 |set (S:Int->Bool) (n:Nat)
 |ins (C dx:Addr) (fs:List (Str×V))
 |own (x:Addr)
 |xd (fs:List (Str×V))
 |met (f x:Addr)
 |rng (lo hi:Int)
 |frz (o:Obj) (u:HO)
 |tbl (ps:Array Value)
 |ext (φ:Heap->Prop)
abbrev Hp:=Addr->Option HO
def upd(H:Hp)(a:Addr)(o:HO):(Hp):=λb=>if b=a then some o else H b
def XZ:upd H a o a=some o:=by unfold upd;simp_all
def Zb(h:b≠a):upd H a o b=H b:=by unfold upd;simp_all
def PR{H:Hp}{a b:Addr}{o u:HO}(h:H a=some o)(h':H b=some u)(d:o≠u):a≠b:=by lia
def Za{H:Hp}{a b:Addr}{o:HO}(h:H a=some o)(h':H b=none):a≠b:=by lia
section
variable(P:Program)(w:World)
def ObjOk(H:Hp)(h:Heap)(a:Addr):(HO->Prop)
 | .lst xs=>xs.f<=sizeLine/\∃(XS:Ag)(n:Nat),Vals xs XS/\h.E a=some {cls:=.type "list",data:=.seq XS.C n}
 | .tup xs=>xs.f<=sizeLine/\∃XS:Ag,Vals xs XS/\IsTup h a XS.C
 | .dK kvs=>kvs.f<=sizeLine/\(a == sysModules)=false/\∃vs,KV kvs vs/\h.DictOf (Rq P w) a vs
 | .dT kvs=>kvs.f<=sizeLine/\(a == sysModules)=false/\∃xs:List (List Key×Addr×Value),
   Paired (λ(p:List Key×V) (q:List Key×Addr×Value)=>p.1=q.1/\H q.2.1=some (.tup<|p.1.H kV)/\RelV p.2 q.2.2) kvs xs/\
   ∃o es ep,h.E a=some o/\o.ExactDict/\o.data=.dict es ep/\es.m=xs.H (entryOfKey<|tupleKind<|Rq P w)/\(xs.H (·.1)).Nodup
 | .set S n=>h.SetOf (intKind P w) a S n
 | .ins C dx fs=>H dx=some (.own a)/\fs.f<=1000/\dx≠a/\h.E a=some (PySem.W.instObj C dx)/\
   ∃mA,h.Ns1 dx mA/\(∀f,RelO (fs.S f)<|mA f)/\PySem.Within mA (fs.H (·.1))
 | .own _=>∃o,h.E a=some o
 | .xd fs=>∃mA,h.Ns1 a mA/\∀f,RelO (fs.S f) (mA f)
 | .rng lo hi=>∃t u v,h.E a=some {cls:=.type "range",data:=.fields #[.int lo t,.int hi u,.int 1 v]}
 | .frz o u=>h.E a=some o/\ObjOk H h a u
 | .tbl ps=>h.E a=some {cls:=.none,data:=.fields ps}
 | .met f x=>h.E a=some (PySem.W.methodObj ↑f<|.ref x)
 | .ext φ=>φ h/\(∃o,h.E a=some o)/\∀h1 h2:Heap,φ h1->(∀o,h1.E a=some o->h2.E a=some o)->φ h2
def HOk(H:Hp)(h:Heap):(Prop):=∀a o,H a=some o->ObjOk P w H h a o
end
section
variable{P:Program}{w:World}{H H':Hp}{h h':Heap}{a:Addr}{o:HO}
def ObjOk.lt(x:ObjOk P w H h a o):a<h.objs.o:=by
 cases o with
 |lst xs=>let(_,_,_,_,e):=x;show Yk e
 |tup xs=>let(_,_,_,p):=x;show p.lt
 |dK kvs=>let(_,_,_,_,o,_,_,e,_):=x;show Yk e
 |dT kvs=>let(_,_,_,_,o,_,_,e,_):=x;show Yk e
 |set S n=>let(o,_,_,_,e,_):=x;show Yk e
 |ins C dx fs=>let(_,_,_,e,_):=x;show Yk e
 |own y=>let(_,e):=x;show Yk e
 |xd fs=>let(_,(_,_,_,e,_),_):=x;show Yk e
 |rng lo hi=>let(_,_,_,e):=x;show Yk e
 |frz ob u=>let(e,_):=x;show Yk e
 |tbl ps=>show Yk (show h.E a=some _ from x)
 |met f y=>show Yk (show h.E a=some _ from x)
 |ext φ=>let(_,(_,e),_):=x;show Yk e
def Paired.mapP{α β:Type}{F G:α->β->Prop}{l₁:List α}{l₂:List β}(h:Paired F l₁ l₂)(f:∀a b,F a b->G a b):Paired G l₁ l₂:=by
 induction h with
 |nil=>show .nil
 |cons r t ih=>show .cons (f _ _ r) ih
def ObjOk.stay(x:ObjOk P w H h a o)(k:∀b u,(b=a\/H b=some (.own a))->h.E b=some u->h'.E b=some u)
  (ho:∀b,H b=some (.own a)->H' b=some (.own a))(ht:∀b xs,H b=some (.tup xs)->H' b=some (.tup xs)):ObjOk P w H' h' a o:=by
 induction o with
 |lst xs=>let(z,XS,n,r,e):=x;exists z,XS,n,r,k _ _ (.inl Z) e
 |tup xs=>let(z,XS,r,ob,e,c):=x;exists z,XS,r,ob,k _ _ (.inl Z) e,c
 |dK kvs=>let(z,y,vs,r,ob,es,ep,e,c):=x;exists z,y,vs,r,ob,es,ep,k _ _ (.inl Z) e,c
 |dT kvs=>
  let(z,y,xs,r,ob,es,ep,e,c):=x;exists z,y,xs,Paired.mapP r λp q z=>{z.1,ht _ _ z.2.1,z.2.2},ob,es,ep,k _ _ (.inl Z) e,c
 |set S n=>let(ob,es,ep,t,e,c):=x;exists ob,es,ep,t,k _ _ (.inl Z) e,c
 |ins C dx fs=>
  let(d,z,ne,e,mA,(od,es,ep,e2,c),r):=x;exists ho _ d,z,ne,k _ _ (.inl Z) e,mA,{od,es,ep,k _ _ (.inr d) e2,c},r
 |own y=>let(ob,e):=x;exists ob,k _ _ (.inl Z) e
 |xd fs=>let(mA,(od,es,ep,e,c),r):=x;exists mA,{od,es,ep,k _ _ (.inl Z) e,c},r
 |rng lo hi=>let(t,u,v,e):=x;exists t,u,v,k _ _ (.inl Z) e
 |frz ob u ih=>let(e,q):=x;exists k _ _ (.inl Z) e,ih q
 |tbl ps=>
  let e:h.E a=some {cls:=.none,data:=.fields ps}:=x;show k a _ (.inl Z) e
 |met f y=>
  let e:h.E a=some (PySem.W.methodObj ↑f<|.ref y):=x;show k a _ (.inl Z) e
 |ext φ=>let(p,(o,e),st):=x;exists st _ _ p λo q=>k _ _ (.inl Z) q,{o,k _ _ (.inl Z) e},st
def HOk.lt(x:HOk P w H h)(e:H a=some o):a<h.objs.o:=(x a o e).lt
def HOk.fresh(x:HOk P w H h)(e:h.objs.o<=a):H a=none:=by
 cases q:H a with
 |none=>rfl
 |some u=>show absurd (Yp (x.lt q) e) (RX _)
def HOk.kept(x:HOk P w H h)(k:∀b u,h.E b=some u->h'.E b=some u):HOk P w H h':=λa o e=>
 (x a o e).stay (λb u _ q=>k b u q) (λ_ q=>q) λ_ _ q=>q
def HOk.laid(x:HOk P w H h)(k:∀b u,h.E b=some u->h'.E b=some u)(hp:h.objs.o<=a)(new:ObjOk P w (upd H a o) h' a o):HOk P w (upd H a o) h':=λb u e=>by
 let hn:=x.fresh hp;cases hb:b=a
 .subst hb;rw[XZ]at e;simp_all
 .rw[Zb hb]at e;show(x b u e).stay (λc v _ q=>k c v q) (λc q=>by rwa[Zb (Za q hn)]) λc xs q=>by rwa[Zb (Za q hn)]
end
def Rd(H:Hp)(a:Addr)(u:HO):(Prop):=H a=some u\/∃o,H a=some (.frz o u)
def Rd.ok(r:Rd H a u)(x:HOk P w H h):ObjOk P w H h a u:=by
 rcases r with r|⟨o,r⟩
 .show x a u r
 .let⟨_,q⟩:=x a _ r;show q
def Fh:(Option HO->Prop)
 |some (.lst _)=>True
 |some (.dK _)=>True
 |some (.dT _)=>True
 |some (.set _ _)=>True
 |some (.ins _ _ _)=>True
 |some (.ext _)=>True
 |_=>False
section
variable{P:Program}{w:World}{H:Hp}{h h':Heap}{x e:Addr}{o':HO}
def HOk.write(ok:HOk P w H h)(mu:Fh (H x))(he:e=x\/H e=some (.own x))(k:∀b u,b≠e->h.E b=some u->h'.E b=some u)(Fg:∃u,h'.E e=some u)
  (new:ObjOk P w (upd H x o') h' x o'):HOk P w (upd H x o') h':=λb u q=>by
 let rR:∀c y,H c=some (.own y)->c≠x:=λc y r z=>by subst z;rwa[r]at mu
 let rQ:∀c xs,H c=some (.tup xs)->c≠x:=λc xs r z=>by subst z;rwa[r]at mu
 cases hb:b=x
 .subst hb;rw[XZ]at q;lia
 .rw[Zb hb]at q;cases hbe:b=e
  .let q':H b=some (.own x):=by
    rcases he with z|z
    .lia
    .lia
   rw[q]at q';cases q';let(v,hv):=Fg;exists v,by simp_all
  .show(ok b u q).stay (λc v hc r=>k c v ?_ r) (λc r=>by rwa[Zb (rR c b r)]) λc xs r=>by rwa[Zb (rQ c xs r)]
   grind
end
structure Un(fs ex:List Addr)(H H':Hp)(h h':Heap):Prop where
 keep:∀b o,h.E b=some o->H b=none->b∉fs->b∉ex->h'.E b=some o
 slot:∀b o,h.E b=some o->H b=none->b∈fs->b∉ex->∃sl,h'.E b=some {o with slots:=sl}
 free:∀b o,h.E b=some o->H b=none->b∉ex->H' b=none
 there:∀b o,h.E b=some o->b∉ex->∃o',h'.E b=some o'
 tups:∀b xs,H b=some (.tup xs)->H' b=some (.tup xs)
 frzs:∀b o u,H b=some (.frz o u)->H' b=some (.frz o u)
 tbls:∀b ps,H b=some (.tbl ps)->∃more,H' b=some (.tbl<|ps++more)
section
variable{fs ex:List Addr}{H H1:Hp}{h h1 h':Heap}{a x e:Addr}{o:HO}
def Un.any(u:Un fs ex H H1 h h1){ob:Obj}(q:h.E b=some ob)(n:H b=none)(hx:b∉ex):∃sl,h1.E b=some {ob with slots:=sl}:=by
 cases hb:b∈fs
 .show u.slot b ob q n hb hx
 .exists ob.slots,u.keep b ob q n hb hx
def Un.kept(k:∀b u,h.E b=some u->h'.E b=some u):Un fs ex H H h h':=
 {λb ob q _ _ _=>k b ob q,λb ob q _ _ _=>{ob.slots,k b ob q},λ_ _ _ n _=>n,λb ob q _=>{ob,k b ob q},λ_ _ q=>q,λ_ _ _ q=>q,λ_ ps q=>{#[],by rw[q];simp}}
def Un.refl:Un fs ex H H h h:=Un.kept λ_ _ q=>q
def Un.laid(k:∀b u,h.E b=some u->h'.E b=some u)(hp:h.objs.o<=a)(hn:H a=none):Un fs ex H (upd H a o) h h' where
 keep:=λb u q _ _ _=>k b u q
 slot:=λb u q _ _ _=>{u.slots,k b u q}
 free:=λb u q n _=>by rwa[Zb (Yw<|Yp (Yk q) hp)]
 there:=λb u q _=>{u,k b u q}
 tups:=λb xs q=>by rwa[Zb (Za q hn)]
 frzs:=λb u xs q=>by rwa[Zb (Za q hn)]
 tbls:=λb ps q=>{#[],by rw[Zb (Za q hn),q];simp}
def Un.write(mu:Fh (H x))(he:e=x\/H e=some (.own x))(k:∀b u,b≠e->h.E b=some u->h'.E b=some u)(Fg:∃u,h'.E e=some u):Un fs ex H (upd H x o) h h':=by
 let hx:∀b,H b=none->b≠x:=λb n z=>by subst z;rwa[n]at mu
 let hb:∀b,H b=none->b≠e:=λb n z=>by
  simp_all
 let hm:∀b u,H b=some u->¬Fh (some u)->b≠x:=λb u q nm z=>by simp_all
 show⟨λb u q n _ _=>k b u (hb b n) q,λb u q n _ _=>{u.slots,k b u (hb b n) q},λb u q n _=>by rw[Zb (hx b n)];show n,λb u q _=>?_,
  λb xs q=>by rw[Zb (hm b _ q λz=>z)];show q,λb u xs q=>by rw[Zb (hm b _ q λz=>z)];show q,λb ps q=>{#[],by rw[Zb (hm b _ q λz=>z),q];simp}⟩
 grind
end
def wC(h:Heap)(H:Hp):(List Addr):=(List.range h.objs.o).filter λa=>(H a).isSome
def UD(h:Heap)(H:Hp):(Heap):=PySem.W.hideAll h (wC h H)
def ZN9(h:Heap)(H:Hp):(UD h H).objs.o=h.objs.o:=PySem.W.hideAll_size _ _
def Zad{b:Addr}{o:Obj}(e:h.E b=some o)(n:H b=none):(UD h H).E b=some o:=
 PySem.W.hideAll_get _ e λhm=>by
  let q:(H b).isSome=true:=(Yr.R hm).2
  simp_all
def Zae{b:Addr}{o:Obj}(e:(UD h H).E b=some o):h.E b=some o/\H b=none:=by
 let e':h.E b=some o:=PySem.W.of_hideAll (wC h H) e;exists e',?_;cases q:H b with
 |none=>rfl
 |some x=>
  let hm:b∈wC h H:=Yr.mpr {YY.mpr<|Yk e',by simp[q]};let z:(UD h H).E b=none:=PySem.W.hideAll_none (wC h H) hm
  simp_all
def Zaf(g h:Heap)(L:Addr):(List (Addr×Obj)):=(List.range h.objs.o).filterMap λa=>if a=L\/(g.E a).isSome=true then none else (h.E a).H λo=>(a,o)
def rest(g h:Heap)(L d:Addr):(List (Addr×Obj)):=(Zaf g h L).filter λp=>decide (p.1≠d)
structure Mod(K:Ad)(mg:Af)(base:Heap):Prop where
 kin:K.In base
 glob:base.Ns mainGlobals mg
 blt:∃mb,base.Ns builtinsNs mb/\∀x:Str,x≠"__name__"->mb x=bootBuiltins x
 nolimit:base.NoLimit
structure Cx where
 prog:Program
 w:World
 K:Ad
 mg:Af
 base:Heap
 A:Around
 N:List Str
 s₀:Shared
 H₀:Hp
 env:Env
 outer:List Env
 stack:List Env
 ex:List Addr
 fn:Str->Bool
 calm:Bool
 pn:List (Addr×Obj)
 xe:Ae
def TJ(l:List Env):(List Addr):=l.filterMap (·.frame)
abbrev Cx.fs(X:Cx):List Addr:=TJ X.outer
def wB(sc:Scope)(x:Str):(Prop):=sc.names.S x=some .local\/sc.names.S x=some .cell\/sc.names.S x=some .free
def Loc(sc:Scope)(x:Str):(Prop):=sc.names.S x=some .local\/sc.names.S x=some .cell
def Look(env:Env)(h:Heap)(m:Af)(x:Str)(u:Value):(Prop):=
 (env.kindOf x=some .local/\m x=some u)\/((env.kindOf x=some .cell\/env.kindOf x=some .free)/\∃c,env.cells.S x=some c/\h.IsCell c (some u))
structure Cx.Ok(X:Cx):Prop where
 mod:Mod X.K X.mg X.base
 kind:X.X.scope.kind=.function
 glob:X.X.globals=mainGlobals
 blt:X.X.builtins=builtinsNs
 above:(~~~X.s₀)<=X.X.locals
 inj:∀x y c,X.X.cells.S x=some c->X.X.cells.S y=some c->x=y
 has:∀x,(X.X.kindOf x=some .cell\/X.X.kindOf x=some .free)->∃c,X.X.cells.S x=some c
 cab:∀x c,X.fn x=true->X.X.cells.S x=some c->(~~~X.s₀)<=c
 hd:X.calm=true->X.A.handled=none
 frames:X.A.frames=some X.stack
 stk:X.stack=X.outer\/(X.stack=X.X::X.outer/\X.X.frame=some X.X.locals)
 exf:∀b∈X.ex,b≠X.X.locals/\∀x c,X.X.cells.S x=some c->c≠b
 bs:∀b o,X.base.E b=some o->X.s₀.r.E b=some o/\X.H₀ b=none
 bsz:X.base.objs.o<=(~~~X.s₀)
 noex:∀b o,X.base.E b=some o->b∉X.ex
 exfs:∀b∈X.ex,b∉X.fs
 funs:X.s₀.r.FunFrames X.base X.outer
 frf:∀b∈X.fs,X.H₀ b=none
structure Inv(X:Cx)(pins:List (Addr×Obj))(σ:List (Option V))(H:Hp)(s:Shared):Prop where
 ok:X.Ok
 os:s.os=X.s₀.os
 bare:AllBare s.gens
 base:Un X.fs X.ex X.H₀ H X.s₀.r s.r
 loc:∃m,s.r.Ns X.X.locals m/\∀(i:Nat)(x:Str)(v:V),X.N[i]?=some x->σ[i]?=some (some v)->wB X.X.scope x->∃u,RelV v u/\Look X.X s.r m x u
 cell:∀x c,X.X.cells.S x=some c->∃v,s.r.IsCell c v
 free:H X.X.locals=none
 freeC:∀x c,X.X.cells.S x=some c->H c=none
 pin:∀p∈X.pn++pins,s.r.E p.1=some p.2/\H p.1=none/\p.1≠X.X.locals/\p.1∉X.fs/\∀v,p.2.data≠.cell v
 hok:HOk X.prog X.w H s.r
 len:σ.f=X.N.f
section
variable{X:Cx}{pins:List (Addr×Obj)}{σ:List (Option V)}{H H':Hp}{s:Shared}{h':Heap}
def Cx.Ok.nofr(ok:X.Ok){b:Addr}{o:Obj}(e:X.base.E b=some o):b∉X.fs:=λhb=>by
 have:=(ok.funs.mem hb).1
 lia
def Inv.bs(I:Inv X pins σ H s):∀b o,X.base.E b=some o->s.r.E b=some o/\H b=none:=λb o e=>
 {I.base.keep b o (I.ok.bs b o e).1 (I.ok.bs b o e).2 (I.ok.nofr e) (I.ok.noex b o e),I.base.free b o (I.ok.bs b o e).1 (I.ok.bs b o e).2 (I.ok.noex b o e)}
def Inv.bk(I:Inv X pins σ H s):∀b o,X.base.E b=some o->s.r.E b=some o:=λb o e=>(I.bs b o e).1
def Inv.mod(I:Inv X pins σ H s):Mod X.K X.mg X.base:=I.ok.mod
def Inv.kIn(I:Inv X pins σ H s):X.K.In s.r:=I.ok.mod.kin.keeps I.bk
def Inv.lt(I:Inv X pins σ H s):X.X.locals<(~~~s):=by let(_,hn,_):=I.loc;show hn.lt
def Inv.sz(I:Inv X pins σ H s):(~~~X.s₀)<=(~~~s):=Yl I.ok.above (Ow I.lt)
def Inv.nofs(I:Inv X pins σ H s){a:Addr}(h:(~~~s)<=a):a∉X.fs:=λhb=>by let(_,o,ho,_):=I.ok.funs.mem hb;show absurd (Yp (Yk ho)<|Yl I.sz h) (RX _)
def Inv.cne(I:Inv X pins σ H s):∀x c,X.X.cells.S x=some c->c≠X.X.locals:=λx c e z=>by
 let(v,o,ho,hd):=I.cell x c e;let(m,(o',es,ep,TH,bI,_),_):=I.loc
 simp_all
def Inv.funs(I:Inv X pins σ H s):s.r.FunFrames X.base X.outer:=by
 let all:∀(l:List Env),(∀b∈TJ l,b∈X.fs)->X.s₀.r.FunFrames X.base l->s.r.FunFrames X.base l:=by
  intro l
  induction l with
  |nil=>intro _ _;trivial
  |cons env r ih=>
   intro hs hl;let(hk,(L,o,hf,hn,ho,hd),hr):=hl;let hL:L∈X.fs:=hs L (by unfold TJ;simp_all)
   let(sl,e):=I.base.slot L o ho (I.ok.frf L hL) hL λz=>I.ok.exfs L z hL;exists hk,{L,_,hf,hn,e,hd},ih (λb hb=>hs b<|by unfold TJ;rw[List.filterMap_cons,hf];show Yf _ hb) hr
 show all X.outer (λ_ hb=>hb) I.ok.funs
def Inv.stack(I:Inv X pins σ H s):s.r.FunFrames X.base X.stack:=by
 rcases I.ok.stk with e|⟨e,hf⟩
 .rw[e];show I.funs
 .rw[e];let(m,hn,_):=I.loc;show .cons (by rw[I.ok.kind];decide) hf hn ?_ I.funs;show Heap.get?_none_of_le (Yl I.ok.bsz I.ok.above)
def Inv.stkSub(I:Inv X pins σ H s):∀b∈TJ X.stack,b∈X.X.locals::X.fs:=λb hb=>by
 rcases I.ok.stk with e|⟨e,hf⟩
 .simp_all
 .rw[e]at hb;unfold TJ at hb;rwa[List.filterMap_cons,hf]at hb
def Inv.stkFree(I:Inv X pins σ H s):∀b∈TJ X.stack,H b=none:=λb hb=>by
 rcases Yo.R (I.stkSub b hb) with e|hb
 .rw[e];show I.free
 .let⟨_,o,ho,_⟩:=I.ok.funs.mem hb;show I.base.free b o ho (I.ok.frf b hb) λz=>I.ok.exfs b z hb
def Inv.step{g':Array GenState}{t':Nat}{d':Drawn}{ch:List Addr}(I:Inv X pins σ H s)
  (NC:∀b∈ch,(b∈X.ex\/(~~~X.s₀)<=b)/\b≠X.X.locals/\(∀x c,X.X.cells.S x=some c->c≠b)/\∀p∈X.pn++pins,p.1≠b)
  (keep:∀b o,b≠X.X.locals->b∉X.fs->b∉ch->s.r.E b=some o->H b=none->h'.E b=some o)
  (slot:∀b o,b≠X.X.locals->b∈X.fs->b∉ch->s.r.E b=some o->H b=none->∃sl,h'.E b=some {o with slots:=sl})(free:∀b o,b∉ch->s.r.E b=some o->H b=none->H' b=none)
  (there:∀b o,b∉ch->s.r.E b=some o->∃o',h'.E b=some o')
  (tups:∀b xs,H b=some (.tup xs)->H' b=some (.tup xs))(frzs:∀b o u,H b=some (.frz o u)->H' b=some (.frz o u))(tbls:∀b ps,H b=some (.tbl ps)->∃more,H' b=some (.tbl<|ps++more))
  (ns:∀m,s.r.Ns X.X.locals m->h'.Ns X.X.locals m)(hok:HOk X.prog X.w H' h')(hg:AllBare g'):
  Inv X pins σ H' {s with heap:=h',gens:=g',drawn:=d',toks:=t'}:=by
 let bH:∀b o,X.s₀.r.E b=some o->b≠X.X.locals:=λb o e=>Yw (Yp (Yk e) I.ok.above);let wz:∀b o,X.s₀.r.E b=some o->b∉X.ex->b∉ch:=λb o e hx hb=>by
  rcases(NC b hb).1 with z|z
  .show hx z
  .show absurd (Yp (Yk e) z) (RX _)
 let cellK:∀x c,X.X.cells.S x=some c->∀v,s.r.IsCell c v->h'.IsCell c v:=λx c e v ⟨o,ho,hd⟩=>by
  let bG:c∉ch:=λz=>(NC c z).2.2.1 x c e rfl;cases hc:c∈X.fs
  .let⟨sl,q⟩:=slot c o (I.cne x c e) hc bG ho (I.freeC x c e);exists _,q,hd
  .exists o,keep c o (I.cne x c e) hc bG ho<|I.freeC x c e,hd
 exists I.ok,I.os,hg,{λb o e n hb hx=>?_,λb o e n hb hx=>?_,λb o e n hx=>?_,λb o e hx=>?_,λb xs e=>tups b xs<|I.base.tups b xs e,λb o xs e=>frzs b o xs<|I.base.frzs b o xs e,λb ps e=>?_},?_,λx c e=>?_,?_,λx c e=>?_,λp hp=>?_,hok,I.len
 .show keep b o (bH b o e) hb (wz b o e hx) (I.base.keep b o e n hb hx) (I.base.free b o e n hx)
 .let⟨sl,e1⟩:=I.base.slot b o e n hb hx;let(sl',e2):=slot b _ (bH b o e) hb (wz b o e hx) e1 (I.base.free b o e n hx);exists sl',e2
 .let⟨o',e1⟩:=I.base.there b o e hx;show free b o' (wz b o e hx) e1 (I.base.free b o e n hx)
 .let⟨o',e1⟩:=I.base.there b o e hx;show there b o' (wz b o e hx) e1
 .let⟨m1,e1⟩:=I.base.tbls b ps e;grind
 .let⟨m,hn,hl⟩:=I.loc;exists m,ns m hn,λi x v e1 e2 e3=>?_;let(u,r,l):=hl i x v e1 e2 e3;exists u,r,?_;rcases l with l|⟨k,c,e,z⟩
  .show .inl l
  .show .inr {k,c,e,cellK x c e _ z}
 .let⟨v,z⟩:=I.cell x c e;exists v,cellK x c e v z
 .let⟨m,⟨o,_,_,ho,_⟩,_⟩:=I.loc;show free _ o (λz=>(NC _ z).2.1 Z) ho I.free
 .let⟨v,o,ho,hd⟩:=I.cell x c e;show free c o (λz=>(NC c z).2.2.1 x c e Z) ho (I.freeC x c e)
 .let⟨e,n,ne,nf,d⟩:=I.pin p hp;grind
def Inv.un{t':Nat}(I:Inv X pins σ H s)(u:Un X.fs [] H H' s.r h')(hok:HOk X.prog X.w H' h'):Inv X pins σ H' {s with heap:=h',toks:=t'}:=by
 let(m,(o,es,ep,ho,r),_):=id I.loc;let(sl,hL):=u.any ho I.free Fe;show I.step (g':=s.gens) (d':=s.drawn) (ch:=[]) (λ_ z=>nomatch z) (λb o _ hb _ e n=>u.keep b o e n hb Fe) (λb o _ hb _ e n=>u.slot b o e n hb Fe) (λb o _ e n=>u.free b o e n Fe) (λb o _ e=>u.there b o e Fe) u.tups u.frzs u.tbls (λm' hm=>by let(o',rM,rL,TH,r'):=hm;rw[ho]at TH;cases TH;exists _,rM,rL,hL,r') hok I.bare
def Inv.call{t':Nat}{d':Drawn}(I:Inv X pins σ H s)(u:Un (TJ X.stack) ch H H' s.r h')(hok:HOk X.prog X.w H' h')(hg:AllBare g')
  (NC:∀b∈ch,(b∈X.ex\/(~~~X.s₀)<=b)/\b≠X.X.locals/\(∀x c,X.X.cells.S x=some c->c≠b)/\∀p∈X.pn++pins,p.1≠b):
  Inv X pins σ H' {s with heap:=h',gens:=g',drawn:=d',toks:=t'}:=by
 let(m,(o,es,ep,ho,r),_):=id I.loc;let(sl,hL):=u.any ho I.free λz=>(NC _ z).2.1 rfl;show I.step (ch:=ch) NC (λb o hL hb hc e n=>u.keep b o e n (λz=>(Yo.R<|I.stkSub b z).elim hL hb) hc) (λb o _ _ hc e n=>u.any e n hc) (λb o hc e n=>u.free b o e n hc) (λb o hc e=>u.there b o e hc) u.tups u.frzs u.tbls (λm' hm=>by let(o',rM,rL,TH,r'):=hm;rw[ho]at TH;cases TH;exists _,rM,rL,hL,r') hok hg
def Inv.turned{t':Nat}(I:Inv X pins σ H s)(k:∀b o,b≠it->s.r.E b=some o->h'.E b=some o)(hn:H it=none)(hL:it≠X.X.locals)
  (h1:it∈X.ex\/(~~~X.s₀)<=it)(h2:∀x c,X.X.cells.S x=some c->c≠it)(h3:∀p∈X.pn++pins,p.1≠it):Inv X pins σ H {s with heap:=h',toks:=t'}:=by
 show I.step (g':=s.gens) (d':=s.drawn) (ch:=[it]) (λb hb=>?_) (λb o _ _ hc e _=>k b o (λz=>hc<|by simp[z]) e) (λb o _ _ hc e _=>{o.slots,k b o (λz=>hc<|by simp[z]) e}) (λ_ _ _ _ n=>n)
  (λb o hc e=>{o,k b o (λz=>hc<|by simp[z]) e}) (λ_ _ e=>e) (λ_ _ _ e=>e) (λb ps e=>{#[],by rw[e];simp}) (λm hm=>?_) (λb u e=>?_) I.bare
 .let e:b=it:=by simpa using hb
  subst e;exists h1,hL,h2,h3
 .let⟨o,es,ep,ho,r⟩:=hm;exists o,es,ep,k _ o (XH hL) ho,r
 .show(I.hok b u e).stay (λc v hc q=>k c v ?_ q) (λ_ q=>q) λ_ _ q=>q;lia
def Inv.tok(I:Inv X pins σ H s)(t:Nat):Inv X pins σ H {s with toks:=t}:=I.un (h':=s.r) (t':=t) Un.refl I.hok
def Inv.kept{t':Nat}(I:Inv X pins σ H s)(k:∀b u,s.r.E b=some u->h'.E b=some u):Inv X pins σ H {s with heap:=h',toks:=t'}:=I.un (Un.kept k) (I.hok.kept k)
def Inv.laid{t':Nat}(I:Inv X pins σ H s)(k:∀b u,s.r.E b=some u->h'.E b=some u)(hp:(~~~s)<=a)(new:ObjOk X.prog X.w (upd H a o) h' a o):
  Inv X pins σ (upd H a o) {s with heap:=h',toks:=t'}:=I.un (Un.laid k hp<|I.hok.fresh hp) (I.hok.laid k hp new)
def Inv.write{t':Nat}(I:Inv X pins σ H s)(mu:Fh (H x))(he:e=x\/H e=some (.own x))(k:∀b u,b≠e->s.r.E b=some u->h'.E b=some u)(Fg:∃u,h'.E e=some u)
  (new:ObjOk X.prog X.w (upd H x o) h' x o):Inv X pins σ (upd H x o) {s with heap:=h',toks:=t'}:=I.un (Un.write mu he k Fg) (I.hok.write mu he k Fg new)
def Inv.weak(I:Inv X pins σ H s)(hl:σ'.f=σ.f)(w:∀(i:Nat) v,σ'[i]?=some (some v)->σ[i]?=some (some v)):Inv X pins σ' H s:=
 {I.ok,I.os,I.bare,I.base,by let(m,hn,PQ):=I.loc;show{m,hn,λi x v e1 e2 e3=>PQ i x v e1 (w i v e2) e3},I.cell,I.free,I.freeC,I.pin,I.hok,hl.l I.len}
def Inv.pins_of(I:Inv X pins σ H s)(h:∀p∈pins',s.r.E p.1=some p.2/\H p.1=none/\p.1≠X.X.locals/\p.1∉X.fs/\∀v,p.2.data≠.cell v):Inv X pins' σ H s:=
 {I.ok,I.os,I.bare,I.base,I.loc,I.cell,I.free,I.freeC,λp hp=>(Xk.R hp).elim (λz=>I.pin p<|Yj _ z) (h p),I.hok,I.len}
def bF{N:List Str}(hN:N.Nodup){i j:Nat}{x:Str}(a:N[i]?=some x)(b:N[j]?=some x):i=j:=by let(h1,e1):=Xv.R a;let(h2,e2):=Xv.R b;show(List.getElem_inj hN).R (e1.l e2.symm)
def Zc9{E:Ae}{i:Nat}{x:Str}{Q:Unit->Shared->Prop}(I:Inv X pins σ H s)(hN:X.N.Nodup)(hi:X.N[i]?=some x)(hx:Loc X.X.scope x)(r:RelV v u)
  (h:∀s',Inv X pins (σ.set i<|some v) H s'->(∃a,Heap.SameBut a s.r s'.r/\(a=X.X.locals\/X.X.cells.S x=some a))->Q () s')(hf:autoParam (X.fn x=true\/X.X.scope.names.S x=some .local) D3._auto_1):wpAny M A (storeName X.X x u) Q E s:=by
 let(m,hn,hl):=id I.loc;let rK:(X.X.scope.kind == .class||(X.X.scope.kind == .module&&X.X.locals != X.X.globals))=false:=by rw[I.ok.kind];rfl
 let Ff:i<σ.f:=by rw[I.len];show(Xv.R hi).1
 let cne:=I.cne;let tracked:∀{a:Addr}{h':Heap},(∃o,s.r.E a=some o/\H a=none)->Heap.SameBut a s.r h'->HOk X.prog X.w H h':=λ{a h'} ha hs b ob e=>by show(I.hok b ob e).stay (λc w' hc q=>(hs.2 c ?_).l q) (λ_ q=>q) λ_ _ q=>q;lia
 rcases hx with hk|hk
 .show wpAny_storeName_local hk hn (λh' Ot hs=>?_) rK;let(oL,_,_,Oq,_):=id hn;show h _ {I.ok,I.os,I.bare,{λb o e n hb hx=>?_,λb o e n hb hx=>?_,I.base.free,λb o e hx=>?_,I.base.tups,I.base.frzs,I.base.tbls},{_,Ot,λj y v' e1 e2 e3=>?_},λy c e=>?_,I.free,I.freeC,λp hp=>?_,tracked ⟨oL,Oq,I.free⟩ hs,by simpa using I.len} {_,hs,.inl Z}
  .show(hs.2 b<|Yw<|Yp (Yk e) I.ok.above).l (I.base.keep b o e n hb hx)
  .let⟨sl,e1⟩:=I.base.slot b o e n hb hx;exists sl,(hs.2 b<|Yw<|Yp (Yk e) I.ok.above).l e1
  .let⟨o',e1⟩:=I.base.there b o e hx;exists o',(hs.2 b<|Yw<|Yp (Yk e) I.ok.above).l e1
  .cases hj:j=i
   .subst hj;rw[hi]at e1;cases e1;rw[sW Ff]at e2;cases e2;exists u,r,.inl ⟨hk,Fe⟩
   .rw[List.getElem?_set_ne (XH hj)]at e2;let(u',r',q):=hl j y v' e1 e2 e3;exists u',r',?_;rcases q with ⟨k,e⟩|⟨k,c,e,z⟩
    .show .inl {k,?_}
     have:y≠x:=λe=>hj (bF hN e1<|e▸hi)
     simp_all
    .show .inr {k,c,e,z.sameBut hs<|cne y c e}
  .let⟨w',z⟩:=I.cell y c e;exists w',z.sameBut hs<|cne y c e
  .let⟨e,n,ne,nf,d⟩:=I.pin p hp;exists (hs.2 p.1 ne).l e,n,ne,nf,d
 .let NB:X.fn x=true:=by
   rcases hf with z|z
   .show z
   .simp_all
  let(c,hc):=I.ok.has x (.inl hk);let(w',z):=I.cell x c hc;show wpAny_storeName_cell I.ok.kind hk hc z λh' Vj hs=>?_;let(oc,rJ,hocd):=id z;show h {s with heap:=h'} {I.ok,I.os,I.bare,{λb o e n hb hx=>?_,λb o e n hb hx=>?_,I.base.free,λb o e hx=>?_,I.base.tups,I.base.frzs,I.base.tbls},{m,hn.sameBut hs<|XH<|cne x c hc,λj y v' e1 e2 e3=>?_},λy c' e=>?_,I.free,I.freeC,λp hp=>?_,tracked {oc,rJ,I.freeC x c hc} hs,by simpa using I.len} {c,hs,.inr hc}
  .show(hs.2 b<|Yw<|Yp (Yk e)<|I.ok.cab x c NB hc).l (I.base.keep b o e n hb hx)
  .let⟨sl,e1⟩:=I.base.slot b o e n hb hx;exists sl,(hs.2 b<|Yw<|Yp (Yk e)<|I.ok.cab x c NB hc).l e1
  .let⟨o',e1⟩:=I.base.there b o e hx;exists o',(hs.2 b<|Yw<|Yp (Yk e)<|I.ok.cab x c NB hc).l e1
  .cases hj:j=i
   .subst hj;rw[hi]at e1;cases e1;rw[sW Ff]at e2;cases e2;exists u,r,.inr {.inl hk,c,hc,Vj}
   .rw[List.getElem?_set_ne (XH hj)]at e2;let(u',r',q):=hl j y v' e1 e2 e3;exists u',r',?_;rcases q with q|⟨k,c',e,z'⟩
    .show .inl q
    .show .inr {k,c',e,z'.sameBut hs ?_};rintro rfl;show hj (bF hN e1<|I.ok.inj _ _ _ e hc▸hi)
  .cases bE:c'=c
   .grind
   .let⟨w2,z2⟩:=I.cell y c' e;exists w2,z2.sameBut hs bE
  .let⟨e,n,ne,nf,d⟩:=I.pin p hp;exists (hs.2 p.1 ?_).l e,n,ne,nf,d;grind
def wy{E:Ae}{i:Nat}{x:Str}{Q:Unit->Shared->Prop}(I:Inv X pins σ H s)(hN:X.N.Nodup)(hi:X.N[i]?=some x)(hx:Loc X.X.scope x)(r:RelV v u)
  (h:∀s',Inv X pins (σ.set i<|some v) H s'->Q () s')(hf:autoParam (X.fn x=true\/X.X.scope.names.S x=some .local) D3._auto_1):wpAny M A (storeName X.X x u) Q E s:=
 Zc9 I hN hi hx r (λs' I' _=>h s' I') hf
def Inv.call'(I:Inv X pins σ H s)(ho:s'.os=s.os)(u:Un (TJ X.stack) ch H H' s.r s'.r)(hok:HOk X.prog X.w H' s'.r)(hg:AllBare s'.gens)
  (NC:∀b∈ch,(b∈X.ex\/(~~~X.s₀)<=b)/\b≠X.X.locals/\(∀x c,X.X.cells.S x=some c->c≠b)/\∀p∈X.pn++pins,p.1≠b):Inv X pins σ H' s':=by
 let(h',g',d',t',o'):=s';let e:o'=s.os:=ho
 subst e;show I.call (g':=g') (t':=t') (d':=d') u hok hg NC
end
abbrev XK:=Value->Option Addr->Hp->Prop
abbrev St:=List (Option V)
abbrev VK:=V->Hp->Prop
abbrev TE:=St->Hp->VK->Prop
abbrev TT:=St->Hp->(Bool->Hp->Prop)->Prop
abbrev TA:=St->Hp->(List V->Hp->Prop)->Prop
structure Ends where
 nx:St->Hp->Prop
 rt:VK
 bk:St->Hp->Prop:=λ_ _=>False
 ct:St->Hp->Prop:=λ_ _=>False
abbrev TS:=Ends->St->Hp->Prop
def EP(X:Cx)(pins:List (Addr×Obj))(σ:St)(Q:VK)(u:Value)(s':Shared):(Prop):=∃v H',Inv X pins σ H' s'/\RelV v u/\Q v H'
def TP(X:Cx)(pins:List (Addr×Obj))(σ:St)(Q:Bool->Hp->Prop)(b:Bool)(s':Shared):(Prop):=∃H',Inv X pins σ H' s'/\Q b H'
def Zag(X:Cx)(pins:List (Addr×Obj))(σ:St)(Q:List V->Hp->Prop)(us:Ag)(s':Shared):(Prop):=∃vs H',Inv X pins σ H' s'/\Vals vs us/\Q vs H'
def SP(X:Cx)(pins:List (Addr×Obj))(tB:Ends)(f:Flow)(s':Shared):(Prop):=
 match f with
 | .next=>∃σ' H',Inv X pins σ' H' s'/\tB.nx σ' H'
 | .brk=>∃σ' H',Inv X pins σ' H' s'/\tB.bk σ' H'
 | .cont=>∃σ' H',Inv X pins σ' H' s'/\tB.ct σ' H'
 | .ret u=>∃v σ' H',Inv X pins σ' H' s'/\RelV v u/\tB.rt v H'
def PE(X:Cx)(e:Expr)(t:TE):(Prop):=
 ∀(pins:List (Addr×Obj))(s:Shared)(σ:St)(H:Hp)(Q:VK),Inv X pins σ H s->t σ H Q->wpAny (model X.prog X.w) X.A (eval e X.X) (EP X pins σ Q) X.xe s
def PT(X:Cx)(e:Expr)(t:TT):(Prop):=
 ∀(pins:List (Addr×Obj))(s:Shared)(σ:St)(H:Hp)(Q:Bool->Hp->Prop),Inv X pins σ H s->t σ H Q->wpAny (model X.prog X.w) X.A (isTrue e X.X<|eval e X.X) (TP X pins σ Q) X.xe s
def PW(X:Cx)(e:Expr)(t:TT):(Prop):=
 ∀(whole:Sem Value)(pins:List (Addr×Obj))(s:Shared)(σ:St)(H:Hp)(Q:Bool->Hp->Prop),Inv X pins σ H s->t σ H Q->wpAny (model X.prog X.w) X.A (isTrue e X.X whole) (TP X pins σ Q) X.xe s
def PW.pt(h:PW X e t):PT X e t:=h _
def PA(X:Cx)(es:List Expr)(t:TA):(Prop):=
 ∀(pos:Pos)(pins:List (Addr×Obj))(s:Shared)(σ:St)(H:Hp)(Q:List V->Hp->Prop),Inv X pins σ H s->t σ H Q->wpAny (model X.prog X.w) X.A (spliced<|backTo pos<|starEach es X.X) (Zag X pins σ Q) X.xe s
def PS(X:Cx)(st:Stmt)(t:TS):(Prop):=
 ∀(pins:List (Addr×Obj))(s:Shared)(σ:St)(H:Hp)(tB:Ends),Inv X pins σ H s->t tB σ H->wpAny (model X.prog X.w) X.A (exec st X.X) (SP X pins tB) X.xe s
def PSs(X:Cx)(st:List Stmt)(t:TS):(Prop):=
 ∀(pins:List (Addr×Obj))(s:Shared)(σ:St)(H:Hp)(tB:Ends),Inv X pins σ H s->t tB σ H->wpAny (model X.prog X.w) X.A (execs st X.X) (SP X pins tB) X.xe s
def thn{α:Type}{t:Sem α}{Q Q':α->Shared->Prop}{M:Model}{A:Around}{E:Ae}{s:Shared}(h:wpAny M A t Q E s)(hQ:∀a s,Q a s->Q' a s):wpAny M A t Q' E s:=Tq h hQ λ_ _ x=>x
section
variable{X:Cx}
inductive isB(x:V)(H:Hp)(Q:Bool->Hp->Prop):Prop
 |mk (k:Bool) (_:x=.bl k) (_:Q k H)
inductive tVar(i:Nat)(σ:St)(H:Hp)(Q:VK):Prop
 |mk (v:_) (_:σ[i]?=some (some v)) (_:Q v H)
def tC(v:V):(TE):=λ_ H Q=>Q v H
def Zah{x:Str}{pos:Pos}(hN:X.N[i]?=some x)(hv:wB X.X.scope x)(hd:autoParam ((x == ("__debug__":Str))=false) D0._auto_1)(SN:autoParam ((x == ("__classdict__":Str))=false) D0._auto_1):PE X (.Name x pos) (tVar i):=by
 intro pins s σ H Q I h;let(v,e,h):=h;let(m,hn,hl):=I.loc;let(u,r,l):=hl i x v hN e hv;let fin:EP X pins σ Q u s:=⟨v,H,I,r,h⟩
 rcases l with ⟨hk,hm⟩|⟨hk,c,hc,Ut⟩
 .show wpAny_Name (wpAny_loadName_local I.ok.kind hk hn hm fin) hd
 .rcases hk with hk|hk
  .show wpAny_Name (wpAny_loadName_cell I.ok.kind hk hc Ut fin) hd
  .show wpAny_Name (wpAny_loadName_free I.ok.kind hk hc Ut fin SN) hd
def XN{i j pos}:PE X (.Constant (.int i) j pos) (tC (.int i)):=λ_ _ _ H _ I h=>wpAny_Constant_int {.int i,H,I.tok _,{_,Z},h}
def NA{b j pos}:PE X (.Constant (.bool b) j pos) (tC (.bl b)):=λ_ _ _ H _ I h=>Constant_bool {.bl b,H,I,Z,h}
def Ka{j pos}:PE X (.Constant .none j pos) (tC .non):=λ_ _ _ H _ I h=>Constant_none ⟨.non,H,I,Z,h⟩
def PN{x j pos}:PE X (.Constant (.str x) j pos) (tC (.str x)):=λ_ _ _ H _ I h=>Calls.Constant_str {.str x,H,I.tok _,{_,Z},h}
def Gl(X:Cx)(x:Str):(Prop):=X.X.kindOf x=some .globalImplicit
def JZ{E:Ae}{u:Value}{pos:Pos}{Q:Ae}(I:Inv X pins σ H s)(hg:Gl X x)(hm:X.mg x=some u)(h:Q u s)
  (hd:autoParam ((x == ("__debug__":Str))=false) D0._auto_1):wpAny (model X.prog X.w) X.A (eval (.Name x pos) X.X) Q E s:=
 Calls.Name_function_global I.ok.kind hg (Calls.loadGlobal_global (by rw[I.ok.glob];show I.mod.glob.keeps I.bk) hm h) hd
def Rp{E:Ae}{u:Value}{pos:Pos}{Q:Ae}(I:Inv X pins σ H s)(hg:Gl X x)(hm:X.mg x=none)(hv:bootBuiltins x=some u)(h:Q u s)
  (hn:autoParam (x≠"__name__") D0._auto_1)(hd:autoParam ((x == ("__debug__":Str))=false) D0._auto_1):wpAny (model X.prog X.w) X.A (eval (.Name x pos) X.X) Q E s:=by let(mb,h1,h2):=I.mod.blt;show Calls.Name_function_global I.ok.kind hg (Calls.loadGlobal_builtin (by rw[I.ok.glob];show I.mod.glob.keeps I.bk) hm (by rw[I.ok.blt];show h1.keeps I.bk) ((h2 x hn).l hv) h) hd
def PM{u:Value}{pos:Pos}(hg:Gl X x)(hm:X.mg x=some u)(r:RelV v u)(hd:autoParam ((x == ("__debug__":Str))=false) D0._auto_1):PE X (.Name x pos) (tC v):=
 λ_ _ _ H _ I h=>JZ I hg hm ⟨v,H,I,r,h⟩ hd
variable{a b:Expr}{ta tb:TE}{pos:Pos}
def PC(X:Cx)(op:CmpOp)(a b:Expr)(t:TE):(Prop):=
 ∀(pins:List (Addr×Obj))(s:Shared)(σ:St)(H:Hp)(Q:VK),Inv X pins σ H s->t σ H Q->
  wpAny (model X.prog X.w) X.A (eval a X.X) (λv s₁=>wpAny (model X.prog X.w) X.A (eval b X.X) (λu s₂=>wpAny (model X.prog X.w) X.A (compareOp op v u) (EP X pins σ Q) X.xe s₂) X.xe s₁) X.xe s
def Zai(t:TE):(TT):=λσ H Q=>t σ H λx H1=>isB x H1 Q
def RT{e:Expr}{t:TE}(h:PE X e t)(he:autoParam (∀whole,isTrue e X.X whole=(do let v <-whole;standAt e.pos;holding [v] (truthy v))) D4._auto_1):PT X e (Zai t):=by intro pins s σ H Q I hw;show isTrue_plain (thn (h pins s σ H _ I hw) λv s1 zz=>?_) (he _);let(x,H1,I1,r1,q1):=zz;let(d,rfl,q):=q1;cases r1;show Qf ⟨H1,I1,q⟩
variable{tA wx:TT}{rest:List Expr}
def Zaj(t u:TT):(TT):=λσ H Q=>t σ H λc H1=>if c=true then u σ H1 Q else Q false H1
def tOr(t u:TT):(TT):=λσ H Q=>t σ H λc H1=>if c=true then Q true H1 else u σ H1 Q
def Zak(t:TT):(TT):=λσ H Q=>t σ H λc H1=>Q (!c) H1
def GZ(ha:PT X a tA):PW X (.BoolOp .And [a] pos) tA:=by
 intro wh pins s σ H Q I h;show isTrue_and (thn (ha pins s σ H Q I h) λc s1 e=>?_);cases c with
 |true=>show isTrue_and_nil e
 |false=>show e
def To(ha:PT X a tA):PW X (.BoolOp .Or [a] pos) tA:=by
 intro wh pins s σ H Q I h;show isTrue_or (thn (ha pins s σ H Q I h) λc s1 e=>?_);cases c with
 |false=>show isTrue_or_nil e
 |true=>show e
def GY(ha:PT X a tA)(hb:PW X (.BoolOp .And (b::rest) pos) wx):PW X (.BoolOp .And (a::b::rest) pos) (Zaj tA wx):=by
 intro wh pins s σ H Q I h;show isTrue_and (thn (ha pins s σ H _ I h) λc s1 XB=>?_);let(H1,I1,q1):=XB;cases c with
 |true=>show hb wh pins s1 σ H1 Q I1 q1
 |false=>exists H1,I1,q1
def Tn(ha:PT X a tA)(hb:PW X (.BoolOp .Or (b::rest) pos) wx):PW X (.BoolOp .Or (a::b::rest) pos) (tOr tA wx):=by
 intro wh pins s σ H Q I h;show isTrue_or (thn (ha pins s σ H _ I h) λc s1 XB=>?_);let(H1,I1,q1):=XB;cases c with
 |true=>exists H1,I1,q1
 |false=>show hb wh pins s1 σ H1 Q I1 q1
def PL(ha:PT X a tA):PT X (.UnaryOp .Not a pos) (Zak tA):=by intro pins s σ H Q I h;show isTrue_not (ha pins s σ H (λc H1=>Q (!c) H1) I h)
def Zal(ta tb:TE):(TE):=λσ H Q=>ta σ H λx H1=>∃c,x=.bl c/\if c=true then tb σ H1 Q else Q (.bl false) H1
def rF(ta tb:TE):(TE):=λσ H Q=>ta σ H λx H1=>∃c,x=.bl c/\if c=true then Q (.bl true) H1 else tb σ H1 Q
def Fc(ta:TE):(TE):=λσ H Q=>ta σ H λx H1=>∃c,x=.bl c/\Q (.bl<|!c) H1
def LK{op}(h:PE X a t):PE X (.BoolOp op [a] pos) t:=λpins s σ H Q I hw=>BoolOp_one (h pins s σ H Q I hw)
def LJ(ha:PE X a ta)(hb:PE X (.BoolOp .And (b::rest) pos) tb):PE X (.BoolOp .And (a::b::rest) pos) (Zal ta tb):=by
 intro pins s σ H Q I h;show BoolOp_and (thn (ha pins s σ H _ I h) λv s1 XB=>?_);let(x,H1,I1,r1,q1):=XB;let(c,rfl,q1):=q1;cases r1;show Qf ?_;cases c with
 |true=>show hb pins s1 σ H1 Q I1 q1
 |false=>exists .bl false,H1,I1,Z,q1
def rE(ha:PE X a ta)(hb:PE X (.BoolOp .Or (b::rest) pos) tb):PE X (.BoolOp .Or (a::b::rest) pos) (rF ta tb):=by
 intro pins s σ H Q I h;show BoolOp_or (thn (ha pins s σ H _ I h) λv s1 XB=>?_);let(x,H1,I1,r1,q1):=XB;let(c,rfl,q1):=q1;cases r1;show Qf ?_;cases c with
 |false=>show hb pins s1 σ H1 Q I1 q1
 |true=>exists .bl true,H1,I1,Z,q1
def Fb(ha:PE X a ta):PE X (.UnaryOp .Not a pos) (Fc ta):=by intro pins s σ H Q I h;show UnaryOp_ (thn (ha pins s σ H _ I h) λv s1 XB=>?_);let(x,H1,I1,r1,q1):=XB;let(c,rfl,q1):=q1;cases r1;show not_of (Qf {.bl<|!c,H1,I1,Z,q1})
def tIf(t:TT)(ta tb:TE):(TE):=λσ H Q=>t σ H λc H1=>if c=true then ta σ H1 Q else tb σ H1 Q
def GX{c:Expr}(hc:PT X c tA)(ha:PE X a ta)(hb:PE X b tb):PE X (.IfExp c a b pos) (tIf tA ta tb):=by
 intro pins s σ H Q I h;show wpAny_IfExp (thn (hc pins s σ H _ I h) λd s1 XB=>?_);let(H1,I1,q1):=XB;cases d with
 |true=>show ha pins s1 σ H1 Q I1 q1
 |false=>show hb pins s1 σ H1 Q I1 q1
end
def SqL(K:Ad)(H:Hp)(a:Addr)(xs:List V):(Prop):=
 Rd H a (.lst xs)\/
  ∃(o:Obj)(XS:Array Value)(n:Nat),K.S a=some o/\o.cls=.type "list"/\o.dict=none/\o.data=.seq XS n/\XS.o<=sizeLine/\Vals xs XS.m
def SqT(K:Ad)(H:Hp)(a:Addr)(xs:List V):(Prop):=
 Rd H a (.tup xs)\/
  ∃(o:Obj)(XS:Array Value)(n:Nat),K.S a=some o/\o.cls=.type "tuple"/\o.data=.seq XS n/\XS.o<=sizeLine/\Vals xs XS.m
def rz:(Value->Option V)
 | .none=>some .non
 | .bool b=>some (.bl b)
 | .int i _=>some (.int i)
 | .str x _=>some (.str x)
 | .bytes b _=>some (.byt b)
 | .float b _=>some (.flt b)
 | .ref a=>some ↑a
 | .type n=>some (.ty n)
 |_=>none
def RelV.abs(r:RelV x u):rz u=some x:=by
 cases x with
 |non=>cases r;rfl
 |bl _=>cases r;rfl
 |int _=>let(t,rfl):=r;rfl
 |str _=>let(t,rfl):=r;rfl
 |byt _=>let(t,rfl):=r;rfl
 |flt _=>let(t,rfl):=r;rfl
 |ref _=>cases r;rfl
 |ty _=>cases r;rfl
def RelV.inj(r:RelV x u)(q:RelV y u):x=y:=Ym (r.abs.symm.l q.abs)
def Vals.inj{xs ys:List V}{us:Ag}(h:Vals xs us)(h':Vals ys us):xs=ys:=by
 induction h generalizing ys with
 |nil=>cases h';rfl
 |cons r t ih=>cases h' with
  |cons r' t'=>rw[r.inj r',ih t']
section
variable{X:Cx}{pins:List (Addr×Obj)}{σ:St}{H:Hp}{s:Shared}{a:Addr}{xs ys:List V}
def SqL.of{K:Ad}(h:H a=some (.lst xs)):SqL K H a xs:=.inl (.inl h)
def SqT.of{K:Ad}(h:H a=some (.tup xs)):SqT K H a xs:=.inl (.inl h)
def Inv.list(I:Inv X pins σ H s)(h:SqL X.K H a xs):∃XS:Ag,Vals xs XS/\PlainL s.r a XS.C/\xs.f<=sizeLine:=by
 rcases h with h|⟨o,XS,n,hk,hc,hd,hs,hz,r⟩
 .let⟨z,XS,n,r,e⟩:=h.ok I.hok;exists XS,r,{_,n,e,Z,Z,Z},z
 .exists XS.m,r,{o,n,I.kIn a o hk,hc,hd,rO},?_;let e:=r.f
  simp_all
def Inv.tuple(I:Inv X pins σ H s)(h:SqT X.K H a xs):∃XS:Ag,Vals xs XS/\IsTup s.r a XS.C/\xs.f<=sizeLine:=by
 rcases h with h|⟨o,XS,n,hk,hc,hs,hz,r⟩
 .let⟨z,XS,r,p⟩:=h.ok I.hok;exists XS,r,p,z
 .exists XS.m,r,{o,I.kIn a o hk,hc,n,rO},?_;let e:=r.f
  simp_all
def Inv.list_inj(I:Inv X pins σ H s)(h:SqL X.K H a xs)(h':SqL X.K H a ys):xs=ys:=by
 let(XS,r,(o,n,e,_,_,d),_):=I.list h;let(its',r',(o',n',e',_,_,d'),_):=I.list h';rw[e]at e';cases e';rw[d]at d';injection d' with d1 _
 have:XS=its':=by simpa using YF Array.toList d1
 subst this;show r.inj r'
def Inv.tuple_inj(I:Inv X pins σ H s)(h:SqT X.K H a xs)(h':SqT X.K H a ys):xs=ys:=by
 let(XS,r,(o,e,_,n,d),_):=I.tuple h;let(its',r',(o',e',_,n',d'),_):=I.tuple h';rw[e]at e';cases e';rw[d]at d';injection d' with d1 _
 have:XS=its':=by simpa using YF Array.toList d1
 subst this;show r.inj r'
end
abbrev Cx.wish(X:Cx)(E:Ae):Cx:={X with xe:=E}
abbrev Cx.nox(X:Cx):Cx:=X.wish λ_ _=>False
def Cx.Ok.wish{X:Cx}(ok:X.Ok)(E:Ae):(X.wish E).Ok:=
 ⟨ok.mod,ok.kind,ok.glob,ok.blt,ok.above,ok.inj,ok.has,ok.cab,ok.hd,ok.frames,ok.stk,ok.exf,ok.bs,ok.bsz,ok.noex,ok.exfs,ok.funs,ok.frf⟩
def Cx.Ok.unwish{X:Cx}{E:Ae}(ok:(X.wish E).Ok):X.Ok:=
 ⟨ok.mod,ok.kind,ok.glob,ok.blt,ok.above,ok.inj,ok.has,ok.cab,ok.hd,ok.frames,ok.stk,ok.exf,ok.bs,ok.bsz,ok.noex,ok.exfs,ok.funs,ok.frf⟩
section
variable{X:Cx}{pins:List (Addr×Obj)}{σ:St}{H:Hp}{s:Shared}{E:Ae}
def Inv.wish(I:Inv X pins σ H s)(E:Ae):Inv (X.wish E) pins σ H s:={I.ok.wish E,I.os,I.bare,I.base,I.loc,I.cell,I.free,I.freeC,I.pin,I.hok,I.len}
def Inv.unwish(I:Inv (X.wish E) pins σ H s):Inv X pins σ H s:=⟨I.ok.unwish,I.os,I.bare,I.base,I.loc,I.cell,I.free,I.freeC,I.pin,I.hok,I.len⟩
def SP.unwish(h:SP (X.wish E) pins tB f s'):SP X pins tB f s':=by
 cases f with
 |next=>let(σ',H',I,q):=h;exists σ',H',I.unwish,q
 |brk=>let(σ',H',I,q):=h;exists σ',H',I.unwish,q
 |cont=>let(σ',H',I,q):=h;exists σ',H',I.unwish,q
 |ret u=>let(v,σ',H',I,r,q):=h;exists v,σ',H',I.unwish,r,q
def PSs.nox{st:List Stmt}{t:TS}(h:PSs X.nox st t):PSs X st t:=λpins s σ H tB I hw=>
 Tq (h pins s σ H tB (I.wish _) hw) (λ_ _ q=>q.unwish) λ_ _ z=>False.elim z
end
section
variable{X:Cx}{st:Stmt}{rest:List Stmt}{t u:TS}{e:Expr}{te:TE}{pos:Pos}
def EZ:(TS):=λtB σ H=>tB.nx σ H
def Nz(t u:TS):(TS):=λtB σ H=>t {tB with nx:=u tB} σ H
def Zm:PSs X [] EZ:=λ_ _ σ H _ I h=>wO ⟨σ,H,I,h⟩
def XO(h1:PS X st t)(h2:PSs X rest u):PSs X (st::rest) (Nz t u):=by
 intro pins s σ H tB I h;show wpAny_execs_cons (thn (h1 pins s σ H {tB with nx:=u tB} I h) λf s1 q=>?_);cases f with
 |next=>
  let(σ',H',I',q):=q;show h2 pins s1 σ' H' tB I' q
 |ret v=>show q
 |brk=>show q
 |cont=>show q
def XM(h1:PS X st t):PSs X [st] t:=by
 intro pins s σ H tB I h;show wpAny_execs_cons (thn (h1 pins s σ H tB I h) λf s1 q=>?_);cases f with
 |next=>show wO q
 |ret v=>show q
 |brk=>show q
 |cont=>show q
def Inv.quiet(I:Inv X pins σ H s):interactive X.X=false:=by simp[interactive,I.ok.kind]
def EY(te:TE):(TS):=λtB σ H=>te σ H λ_ H1=>tB.nx σ H1
def ZW(he:PE X e te)(hs:autoParam (swapsWith e none pos.line X.X=pure false) D1._auto_1):PS X (.Expr e pos) (EY te):=by intro pins s σ H tB I h;show wpAny_Expr_any (thn (he pins s σ H _ I h) λv s1 zz=>by let(x,H1,I1,r1,q1):=zz;exists σ,H1,I1,q1) I.quiet hs
def rq(te:TE):(TS):=λtB σ H=>te σ H tB.rt
def Zk(he:PE X e te):PS X (.Return (some e) pos) (rq te):=by intro pins s σ H tB I h;show wpAny_Return_some (thn (he pins s σ H _ I h) λv s1 zz=>by let(x,H1,I1,r1,q1):=zz;exists x,σ,H1,I1,r1,q1)
def rp(c:TT)(t u:TS):(TS):=λtB σ H=>c σ H λb H1=>if b=true then t tB σ H1 else u tB σ H1
def WN{c:Expr}{a b:List Stmt}{tc:TT}(hc:PT X c tc)(ha:PSs X a t)(hb:PSs X b u):PS X (.If c a b pos) (rp tc t u):=by
 intro pins s σ H tB I h;show wpAny_If (thn (hc pins s σ H _ I h) λd s1 XB=>?_);let(H1,I1,q1):=XB;cases d with
 |true=>show ha pins s1 σ H1 tB I1 q1
 |false=>show hb pins s1 σ H1 tB I1 q1
def rn:(TS):=λ_ _ _=>False
def ZV:PS X st rn:=λ_ _ _ _ _ _ h=>h.elim
end
abbrev TG:=V->St->Hp->(St->Hp->Prop)->Prop
abbrev JY:=List V->St->Hp->(St->Hp->Prop)->Prop
def PG(X:Cx)(target:Expr)(t:TG):(Prop):=
 ∀(pins:List (Addr×Obj))(s:Shared)(σ:St)(H:Hp)(v:V)(u:Value)(Q:St->Hp->Prop),Inv X pins σ H s->RelV v u->t v σ H Q->
  wpAny (model X.prog X.w) X.A (assign target X.X u) (λ_ s'=>∃σ' H',Inv X pins σ' H' s'/\Q σ' H') X.xe s
def EX(X:Cx)(ts:List Expr)(t:JY):(Prop):=
 ∀(pins:List (Addr×Obj))(s:Shared)(σ:St)(H:Hp)(vs:List V)(us:Ag)(Q:St->Hp->Prop),Inv X pins σ H s->Vals vs us->t vs σ H Q->
  wpAny (model X.prog X.w) X.A (assignInOrder ((assignEach ts X.X).H (·.2)) us) (λ_ s'=>∃σ' H',Inv X pins σ' H' s'/\Q σ' H') X.xe s
abbrev PK:=V->V->V->Hp->(Hp->Prop)->Prop
def JX(X:Cx)(t:PK):(Prop):=
 ∀(pins:List (Addr×Obj))(s:Shared)(σ:St)(H:Hp)(o i v:V)(ov iv u:Value)(Q:Hp->Prop),Inv X pins σ H s->RelV o ov->RelV i iv->RelV v u->t o i v H Q->
  wpAny (model X.prog X.w) X.A (setItem ov iv u) (λ_ s'=>∃H',Inv X pins σ H' s'/\Q H') X.xe s
abbrev GW:=V->V->Hp->VK->Prop
def wu(X:Cx)(op:Operator)(t:GW):(Prop):=
 ∀(pins:List (Addr×Obj))(s:Shared)(σ:St)(H:Hp)(x y:V)(v u:Value)(Q:VK),Inv X pins σ H s->RelV x v->RelV y u->t x y H Q->
  wpAny (model X.prog X.w) X.A (inplaceOp op v u) (EP X pins σ Q) X.xe s
section
variable{X:Cx}{pos:Pos}
def Ny(i:Nat):(TG):=λv σ H Q=>Q (σ.set i<|some v) H
def wq{x:Str}(hN:X.N.Nodup)(hi:X.N[i]?=some x)(hx:Loc X.X.scope x)(hf:autoParam (X.fn x=true\/X.X.scope.names.S x=some .local) D3._auto_1):PG X (.Name x pos) (Ny i):=by intro pins s σ H v u Q I r h;show wpAny_assign_Name (wy I hN hi hx r (λs' I'=>{_,H,I',h}) hf)
def Xm(i:Nat){x:Str}(hN:autoParam (decide X.N.Nodup=true) D2._auto_1)(hi:autoParam (X.N[i]?=some x) D1._auto_1)(hx:autoParam (Loc X.X.scope x) D5._auto_1)(hf:autoParam (X.fn x=true\/X.X.scope.names.S x=some .local) D3._auto_1):PG X (.Name x pos) (Ny i):=wq (YO hN) hi hx hf
inductive gNil(vs:List V)(σ:St)(H:Hp)(Q:St->Hp->Prop):Prop
 |mk  (_:vs=[]) (_:Q σ H)
inductive gCons(t:TG)(u:JY)(vs:List V)(σ:St)(H:Hp)(Q:St->Hp->Prop):Prop
 |mk (v r:_) (_:vs=v::r) (_:t v σ H λσ' H'=>u r σ' H' Q)
def PJ:EX X [] gNil:=by intro pins s σ H vs us Q I r h;let(e,h):=h;show assignInOrder_nil ⟨σ,H,I,h⟩
def Zx{e:Expr}{es:List Expr}{t:TG}{u:JY}(h1:PG X e t)(h2:EX X es u)
  (hs:autoParam ((assignEach (e::es) X.X).H (·.2)=assign e X.X::(assignEach es X.X).H (·.2)) D1._auto_1):EX X (e::es) (gCons t u):=by
 intro pins s σ H vs us Q I r h;let(v,vr,e1,h):=h;subst e1;cases r with
 |cons r rr=>
  rw[hs];show assignInOrder_cons (thn (h1 pins s σ H _ _ _ I r h) λ_ s1 XB=>?_);let(σ1,H1,I1,q1):=XB;show h2 pins s1 σ1 H1 _ _ Q I1 rr q1
inductive gTup(K:Ad)(n:Nat)(t:JY)(v:V)(σ:St)(H:Hp)(Q:St->Hp->Prop):Prop
 |mk (a xs:_) (_:v=.ref a) (_:SqT K H a xs) (_:xs.f=n) (_:t xs σ H Q)
def EW{k:Nat}(hc:X.calm=true)(h:EX X es t)
  (hn:autoParam ((assignEach es X.X).f=n) D1._auto_1)(Wr:autoParam ((assignEach es X.X).findIdx? (·.1)=none) D1._auto_1):PG X (.Tuple es k pos) (gTup X.K n t):=by
 intro pins s σ H v u Q I r hw;let(a,xs,e1,hq,hl,hw):=hw;subst e1;cases r;let(XS,rv,ht,hz):=I.tuple hq;show assign_Tuple_tuple (I.ok.hd hc) ht (by simp[hn,<-hl,rv.length]) Wr λh' hx=>?_;let I1:Inv X pins σ H {s with heap:=h'}:=I.kept (t':=s.toks) λb o e=>hx b o (Yw<|Yk e) e
 show h pins _ σ H xs _ Q I1 rO hw
def rm(to ti:TE)(t:PK):(TG):=λv σ H Q=>to σ H λo H1=>ti σ H1 λi H2=>t o i v H2 λH3=>Q σ H3
def EV{o i:Expr}{to ti:TE}{t:PK}(ho:PE X o to)(hi:PE X i ti)(hs:JX X t)
  (ha:autoParam (∀v,assign (.Subscript o i pos) X.X v=(do
   let ov <-holding [v] (eval o X.X)
   let iv <-holding [v,ov] (eval i X.X)
   standAt pos
   holding [v,ov,iv] (setItem ov iv v)
   release [v,ov,iv] [])) D4._auto_1):PG X (.Subscript o i pos) (rm to ti t):=by intro pins s σ H v u Q I r h;rw[ha];show XT (SQ<|thn (ho pins s σ H _ I h) λov s1 XB=>?_);let(x,H1,I1,r1,q1):=XB;show XT (SQ<|thn (hi pins s1 σ H1 _ I1 q1) λiv s2 XB=>?_);let(y,H2,I2,r2,q2):=XB;show XT (wpAny_standAt<|XT<|SQ<|thn (hs pins s2 σ H2 x y v ov iv u _ I2 r1 r2 r q2) λ_ s3 XB=>?_);let(H3,I3,q3):=XB;show wpAny_release ⟨σ,H3,I3,q3⟩
def Nx(te:TE)(g:TG):(TS):=λtB σ H=>te σ H λx H1=>g x σ H1 tB.nx
def Tj{tg e:Expr}{te:TE}{g:TG}(he:PE X e te)(hg:PG X tg g)(hs:autoParam (swapsWithSole [tg] e pos.line X.X=pure false) D1._auto_1)(hw:autoParam (swappedStores [tg] e X.X=pure none) D1._auto_1)
  (h1:autoParam ((assignEach [tg] X.X).H (·.2)=[assign tg X.X]) D1._auto_1):PS X (.Assign [tg] e pos) (Nx te g):=by intro pins s σ H tB I h;show wpAny_Assign_stores (thn (he pins s σ H _ I h) λv s1 XB=>?_) hs hw;let(x,H1,I1,r1,q1):=XB;rw[h1];show thn (hg pins s1 σ H1 x v _ I1 r1 q1) λ_ s2 q=>q
def VP{i:Nat}{x:Str}{e:Expr}{te:TE}{pos':Pos}(hN:X.N.Nodup)(hi:X.N[i]?=some x)(hx:Loc X.X.scope x)(he:PE X e te)(hs:autoParam (swapsWith e (some (.Name x pos')) pos.line X.X=pure false) D1._auto_1)(hf:autoParam (X.fn x=true\/X.X.scope.names.S x=some .local) D3._auto_1):
  PS X (.Assign [.Name x pos'] e pos) (Nx te<|Ny i):=by intro pins s σ H tB I h;show wpAny_Assign_Name (thn (he pins s σ H _ I h) λv s1 XB=>?_) hs;let(y,H1,I1,r1,q1):=XB;show wy I1 hN hi hx r1 (λs2 I2=>{_,H1,I2,q1}) hf
def Zd(i:Nat){x:Str}{e:Expr}{te:TE}{pos':Pos}(he:PE X e te)(hN:autoParam (decide X.N.Nodup=true) D2._auto_1)(hi:autoParam (X.N[i]?=some x) D1._auto_1)(hx:autoParam (Loc X.X.scope x) D5._auto_1)(hs:autoParam (swapsWith e (some<|.Name x pos') pos.line X.X=pure false) D1._auto_1)(hf:autoParam (X.fn x=true\/X.X.scope.names.S x=some .local) D3._auto_1):PS X (.Assign [.Name x pos'] e pos) (Nx te<|Ny i):=VP (YO hN) hi hx he hs hf
def rj(i:Nat)(te:TE)(ti:GW):(TS):=λtB σ H=>∃x,σ[i]?=some (some x)/\te σ H λy H1=>ti x y H1 λz H2=>tB.nx (σ.set i<|some z) H2
def rh{i:Nat}{x:Str}{e:Expr}{te:TE}{op:Operator}{ti:GW}{pos':Pos}(hN:X.N.Nodup)(hi:X.N[i]?=some x)(hx:Loc X.X.scope x)(he:PE X e te)(ho:wu X op ti)(hf:autoParam (X.fn x=true\/X.X.scope.names.S x=some .local) D3._auto_1):
  PS X (.AugAssign (.Name x pos') op e pos) (rj i te ti):=by
 intro pins s σ H tB I h;let(v,e1,h):=h;let(m,hn,hl):=I.loc;let vis:wB X.X.scope x:=by rcases hx with k|k;show .inl k;show .inr (.inl k)
 let(u,r,l):=hl i x v hi e1 vis;show wpAny_AugAssign_Name ?_;let go:wpAny (model X.prog X.w) X.A (eval e X.X) (λw s₂=>wpAny (model X.prog X.w) X.A (inplaceOp op u w) (λr s₃=>wpAny (model X.prog X.w) X.A (storeName X.X x r) (λ_=>SP X pins tB .next) X.xe s₃) X.xe s₂) X.xe s:=by show thn (he pins s σ H _ I h) λw s1 XB=>?_;let(y,H1,I1,r1,q1):=XB;show thn (ho pins s1 σ H1 v y u w _ I1 r r1 q1) λz s2 XB=>?_;let(zv,H2,I2,r2,q2):=XB;show wy I2 hN hi hx r2 (λs3 I3=>{_,H2,I3,q2}) hf
 rcases l with ⟨hk,hm⟩|⟨hk,c,hc,Ut⟩
 .show wpAny_loadName_local I.ok.kind hk hn hm go
 .rcases hk with hk|hk
  .show wpAny_loadName_cell I.ok.kind hk hc Ut go
  .rcases hx with k|k
   .have:X.X.scope.names.S x=some .free:=hk
    simp_all
   .have:X.X.scope.names.S x=some .free:=hk
    simp_all
def EU(to ti te:TE)(tget:V->V->Hp->VK->Prop)(wm:GW)(tset:PK):(TS):=λtB σ H=>to σ H λo H1=>ti σ H1 λi H2=>tget o i H2 λx H3=>te σ H3 λy H4=>wm x y H4 λz H5=>tset o i z H5 λH6=>tB.nx σ H6
def ET(X:Cx)(t:V->V->Hp->VK->Prop):(Prop):=
 ∀(pins:List (Addr×Obj))(s:Shared)(σ:St)(H:Hp)(o i:V)(ov iv:Value)(Q:VK),Inv X pins σ H s->RelV o ov->RelV i iv->t o i H Q->
  wpAny (model X.prog X.w) X.A (getItem ov iv) (EP X pins σ Q) X.xe s
def wk{o i e:Expr}{to ti te:TE}{tget:V->V->Hp->VK->Prop}{wm:GW}{tset:PK}{op:Operator}{Sv:Pos}(ho:PE X o to)(hi:PE X i ti)(hg:ET X tget)(he:PE X e te)(hp:wu X op wm)(hs:JX X tset)
  (ha:∀ov iv new,augStore i ov iv new=(do holding [new,ov,iv] (setItem ov iv new);release [new,ov,iv] [];pure .next):=by intros;rfl):PS X (.AugAssign (.Subscript o i Sv) op e pos) (EU to ti te tget wm tset):=by intro pins s σ H tB I h;show wpAny_AugAssign_SubscriptAny (thn (ho pins s σ H _ I h) λov s1 XB=>?_) ha;let(x1,H1,I1,r1,q1):=XB;show thn (hi pins s1 σ H1 _ I1 q1) λiv s2 XB=>?_;let(x2,H2,I2,r2,q2):=XB;show thn (hg pins s2 σ H2 x1 x2 ov iv _ I2 r1 r2 q2) λold s3 XB=>?_;let(x3,H3,I3,r3,q3):=XB;show thn (he pins s3 σ H3 _ I3 q3) λv s4 XB=>?_;let(x4,H4,I4,r4,q4):=XB;show thn (hp pins s4 σ H4 x3 x4 old v _ I4 r3 r4 q4) λnew s5 XB=>?_;let(x5,H5,I5,r5,q5):=XB;show thn (hs pins s5 σ H5 x1 x2 x5 ov iv new _ I5 r1 r2 r5 q5) λ_ s6 zz=>by let(H6,I6,q6):=zz;exists σ,H6,I6,q6
def bD(f:Int->Int->Int):(GW):=λx y H Q=>∃i j,x=.int i/\y=.int j/\Q (.int<|f i j) H
def ES:wu X .Add (bD λi j=>i+j):=by intro pins s σ H x y v u Q I r1 r2 h;let(i,j,e1,e2,q):=h;subst e1;subst e2;let(t,rfl):=r1;let(t',rfl):=r2;show iadd_int {.int _,H,I.tok _,{_,Z},q}
def PH:wu X .Sub (bD λi j=>i-j):=by intro pins s σ H x y v u Q I r1 r2 h;let(i,j,e1,e2,q):=h;subst e1;subst e2;let(t,rfl):=r1;let(t',rfl):=r2;show isub_int {.int _,H,I.tok _,{_,Z},q}
def rg(c:TT)(tb:TS):(TS):=λtB σ H=>∃W:Nat->St->Hp->Prop,(∃m,W m σ H)/\∀m σ H,W m σ H->
 c σ H λb H1=>if b=true then ∃N:St->Hp->Prop,(∀σ' H',N σ' H'->∃m',m'<m/\W m' σ' H')/\tb {tB with nx:=N,ct:=N,bk:=tB.nx} σ H1 else tB.nx σ H1
def bC{c:Expr}{body:List Stmt}{tc:TT}{tb:TS}(hp:PassesOwn (model X.prog X.w) X.A X.X X.xe)(hc:PT X c tc)(hb:PSs X body tb):PS X (.While c body [] pos) (rg tc tb):=by
 intro pins s σ H tB I h;let(W,(m0,w0),turn):=h;show wpAny_While (codeAny_whileLoop (λn s'=>∃σ' H',Inv X pins σ' H' s'/\W n σ' H') ?_ m0 ⟨σ,H,I,w0⟩);rintro n s1 ⟨σ1,H1,I1,w1⟩;show Kr hp (thn (hc pins s1 σ1 H1 _ I1<|turn n σ1 H1 w1) λb s2 XB=>?_);let(H2,I2,q2):=XB;cases b with
 |true=>
  let(N,hN,q2):=q2;show Kr hp (thn (hb pins s2 σ1 H2 _ I2 q2) λf s3 q3=>?_);cases f with
  |next=>
   let(σ3,H3,I3,n3):=q3;let(m',hm,w3):=hN σ3 H3 n3;exists m',hm,σ3,H3,I3,w3
  |cont=>
   let(σ3,H3,I3,n3):=q3;let(m',hm,w3):=hN σ3 H3 n3;exists m',hm,σ3,H3,I3,w3
  |brk=>show q3
  |ret v=>show q3
 |false=>
  show wO ⟨σ1,H2,I2,q2⟩
end
structure It where
 go:Nat->Hp->Prop
 yld:Nat->Hp->V->Hp->Prop
 stop:Nat->Hp->Prop
def FpOk(X:Cx)(pins:List (Addr×Obj))(H:Hp)(b:Addr):(Prop):=
 H b=none/\b≠X.X.locals/\b∉X.fs/\(b∈X.ex\/(~~~X.s₀)<=b)/\(∀x c,X.X.cells.S x=some c->c≠b)/\∀p∈X.pn++pins,p.1≠b
def Inv.fpOk{b:Addr}(I:Inv X pins σ H s)(hb:(~~~s)<=b)(hn:H' b=none):FpOk X pins H' b:=by
 exists hn,RA<|Yp I.lt hb,I.nofs hb,.inr<|Yl I.sz hb,λx c e z=>?_,λp hp z=>?_
 .let⟨v,q⟩:=I.cell x c e;show absurd (Yp q.lt<|by rwa[z]) (RX _)
 .show absurd (Yp (Yk (I.pin p hp).1)<|by rwa[z]) (RX _)
structure Turn(P:Program)(w:World)(K:Ad)(tg:Expr)(rG:It)(fp:List Addr)(it:Addr)(tn:Nat->Heap->Prop):Prop where
 mem:it∈fp
 obj:∀i h,tn i h->∀b∈fp,∃o,h.E b=some o/\∀v,o.data≠.cell v
 keep:∀i h h',tn i h->(∀b∈fp,∀o,h.E b=some o->h'.E b=some o)->tn i h'
 item:∀(X:Cx),X.prog=P->X.w=w->X.K=K->X.calm=true->∀(i:Nat)(pins:List (Addr×Obj))(s:Shared)(σ:St)(H:Hp)(E:Ae),Inv X pins σ H s->(∀b∈fp,FpOk X pins H b)->tn i s.r->rG.go i H->
  wpAny (model P w) X.A (pyNext<|.ref it) (λr s1=>∃u,r=some u/\
   wpAny (model P w) X.A (letOwnedTupleGo tg ↑it u) (λ_ s2=>∃x H',Inv X pins σ H' s2/\RelV x u/\rG.yld i H x H'/\tn (i+1) s2.r/\∀b∈fp,H' b=none) E s1) E s
 done:∀(X:Cx),X.prog=P->X.w=w->X.K=K->X.calm=true->∀(i:Nat)(pins:List (Addr×Obj))(s:Shared)(σ:St)(H:Hp)(E:Ae),Inv X pins σ H s->(∀b∈fp,FpOk X pins H b)->tn i s.r->rG.stop i H->
  wpAny (model P w) X.A (pyNext<|.ref it) (λr s1=>r=none/\Inv X pins σ H s1) E s
 self:∀(A:Around)(i:Nat)(s:Shared)(Q:Ae)(E:Ae),tn i s.r->Q ↑it s->wpAny (model P w) A (pyIter<|.ref it) Q E s
abbrev TI:=St->Hp->(It->Hp->Prop)->Prop
def bB(X:Cx)(pins:List (Addr×Obj))(σ:St)(tg:Expr)(R:It->Hp->Prop)(rf:Value)(s2:Shared):(Prop):=
 ∃(it:Addr)(fp:List Addr)(tn:Nat->Heap->Prop)(rG:It)(H':Hp),rf=.ref it/\Inv X pins σ H' s2/\Turn X.prog X.w X.K tg rG fp it tn/\tn 0 s2.r/\(∀b∈fp,FpOk X pins H' b)/\R rG H'
def PI(X:Cx)(tg iter:Expr)(wi:TI):(Prop):=
 ∀(pins:List (Addr×Obj))(s:Shared)(σ:St)(H:Hp)(R:It->Hp->Prop),Inv X pins σ H s->wi σ H R->
  wpAny (model X.prog X.w) X.A (eval iter X.X) (λv s1=>wpAny (model X.prog X.w) X.A (pyIter v) (bB X pins σ tg R) X.xe s1) X.xe s
def Ro{E:Ae}{s:Shared}{it:Addr}{o:Obj}{n:String}{vs:Array Value}{Q:Unit->Shared->Prop}(ho:s.r.E it=some o)(hc:o.cls=.type n)(hd:o.data=.fields vs)
  (hn:["enumerate","zip","dict_itemiterator","dict_reverseitemiterator","odict_iterator","itertools.zip_longest","itertools.pairwise"].contains n=false)(hQ:Q () s):wpAny M A (letOwnedTupleGo tg ↑it u) Q E s:=by
 cases tg<;>first
  |show Ye hQ
  | (cases u<;>first
    |show Ye hQ
    | (show XT (Fj ho ?_)
       rw[hc,hd];change wpAny M A (if (["enumerate","zip","dict_itemiterator","dict_reverseitemiterator","odict_iterator","itertools.zip_longest","itertools.pairwise"].contains n&&vs[0]? == some (rawInt _))=true then _ else _) Q E s
       rw[Yh J];show Ye hQ))
def PF(K:Ad)(a:Addr):(It):=
 {λi H=>∃xs x,SqL K H a xs/\xs[i]?=some x,λi H x H'=>H'=H/\∀xs,SqL K H a xs->xs[i]?=some x,λi H=>∃xs,SqL K H a xs/\xs.f<=i}
def PD(K:Ad)(a:Addr):(It):=
 {λi H=>∃xs x,SqT K H a xs/\xs[i]?=some x,λi H x H'=>H'=H/\∀xs,SqT K H a xs->xs[i]?=some x,λi H=>∃xs,SqT K H a xs/\xs.f<=i}
def LI(lo:Int)(n:Nat):(It):={λi _=>i<n,λi H x H'=>H'=H/\x=.int (lo+i),λi _=>n<=i}
def bA{P:Program}{w:World}{K:Ad}{tg:Expr}(a it:Addr):Turn P w K tg (PF K a) [it] it (λi h=>h.IsListIter it a i) where
 mem:=Fe
 obj:=λi h st b hb=>by
  let e:b=it:=by simpa using hb
  subst e;let(o,e,c,d):=st;exists o,e,λv z=>by simp_all
 keep:=λi h h' st k=>st.at λo e=>k it Fe o e
 item:=by
  intro X hP hw hK hc i pins s σ H E I hf st hg;subst hP hw hK;let(xs,x,hq,hx):=hg;let(XS,rv,p,hz):=I.list hq;let(u,hu,ru):=rv.get hx;let(f0,f1,f2,f3,f4,f5):=hf it Fe;show wpAny_pyNext_list_item st p.isList (x:=u) (by simpa using hu) λh' XR sb=>?_;let I1:Inv X pins σ H {s with heap:=h'}:=I.turned (t':=s.toks) (λb o hb e=>(sb.2 b hb).l e) f0 f1 f3 f4 f5
  let(o,e,c,d):=id XR;exists u,Z,Ro (s:={s with heap:=h'}) e c d AP {x,H,I1,ru,{Z,λys hy=>by rwa[I.list_inj hy hq]},XR,λb hb=>(hf b hb).1}
 done:=by
  intro X hP hw hK hc i pins s σ H E I hf st hg;subst hP hw hK;let(xs,hq,hx):=hg;let(XS,rv,p,hz):=I.list hq;let(f0,f1,f2,f3,f4,f5):=hf it Fe;let hl:=rv.f
  show wpAny_pyNext_list_end (I.ok.hd hc) st p.isList (by simp;simp_all) λh' eb=>{Z,I.turned (t':=s.toks) (λb o hb e=>eb b o hb e) f0 f1 f3 f4 f5}
 self:=λ_ _ _ _ _ st h=>wpAny_pyIter_listiter st h
def bx{P:Program}{w:World}{K:Ad}{tg:Expr}(a it:Addr):Turn P w K tg (PD K a) [it] it (λi h=>h.IsTupleIter it a i) where
 mem:=Fe
 obj:=λi h st b hb=>by
  let e:b=it:=by simpa using hb
  subst e;let(o,e,c,d):=st;exists o,e,λv z=>by simp_all
 keep:=λi h h' st k=>st.at λo e=>k it Fe o e
 item:=by
  intro X hP hw hK hc i pins s σ H E I hf st hg;subst hP hw hK;let(xs,x,hq,hx):=hg;let(XS,rv,p,hz):=I.tuple hq;let(u,hu,ru):=rv.get hx;let(f0,f1,f2,f3,f4,f5):=hf it Fe;show wpAny_pyNext_tuple_item st (show s.r.IsTuple a XS.C from p) (x:=u) (by simpa using hu) λh' XR sb=>?_;let I1:Inv X pins σ H {s with heap:=h'}:=I.turned (t':=s.toks) (λb o hb e=>(sb.2 b hb).l e) f0 f1 f3 f4 f5
  let(o,e,c,d):=id XR;exists u,Z,Ro (s:={s with heap:=h'}) e c d AP {x,H,I1,ru,{Z,λys hy=>by rwa[I.tuple_inj hy hq]},XR,λb hb=>(hf b hb).1}
 done:=by
  intro X hP hw hK hc i pins s σ H E I hf st hg;subst hP hw hK;let(xs,hq,hx):=hg;let(XS,rv,p,hz):=I.tuple hq;let(f0,f1,f2,f3,f4,f5):=hf it Fe;let hl:=rv.f
  show wpAny_pyNext_tuple_end (I.ok.hd hc) st (show s.r.IsTuple a XS.C from p) (by simp_all) λh' eb=>{Z,I.turned (t':=s.toks) (λb o hb e=>eb b o hb e) f0 f1 f3 f4 f5}
 self:=λ_ _ _ _ _ st h=>wpAny_pyIter_tupleiter st h
def Zb7{P:Program}{w:World}{K:Ad}{tg:Expr}(it:Addr)(lo:Int)(n:Nat):Turn P w K tg (LI lo n) [it] it (λi h=>IsRangeIter h it (lo+(i:Nat)*1) ((n:Int)-(i:Nat)) 1) where
 mem:=Fe
 obj:=λi h st b hb=>by
  simp_all
 keep:=λi h h' st k=>k it Fe _ st
 item:=by
  intro X hP hw hK hc i pins s σ H E I hf st hg;subst hP hw hK;let(f0,f1,f2,f3,f4,f5):=hf it Fe;let W:=Walks.range (prog:=X.prog) (w:=X.w) (I.ok.hd hc) it lo 1 n
  show W.item i s _ _ hg st λv h' tk hv XR kk=>?_;let(t,rfl):=hv;let I1:Inv X pins σ H {s with heap:=h',toks:=tk}:=I.turned (λb o hb e=>kk b o (by simp_all) e) f0 f1 f3 f4 f5
  exists _,Z,Ro (s:={s with heap:=h',toks:=tk}) (n:="range_iterator") XR Z Z AP {.int<|lo+i,H,I1,{t,?_},⟨Z,Z⟩,XR,λb hb=>(hf b hb).1}
  simp_all
 done:=by intro X hP hw hK hc i pins s σ H E I hf st hg;let(f0,f1,f2,f3,f4,f5):=hf it Fe;show wpAny_pyNext_range_end (I.ok.hd hc) st (by have:n<=i:=hg;lia) λh' eb=>{Z,I.turned (t':=s.toks) (λb o hb e=>eb b o hb e) f0 f1 f3 f4 f5}
 self:=λ_ _ _ _ _ st h=>wpAny_pyIter_rangeiter st h
section
variable{X:Cx}{tg:Expr}
inductive xList(K:Ad)(x:V)(H1:Hp)(R:It->Hp->Prop):Prop
 |mk (a:_) (_:x=.ref a) (_:∃xs,SqL K H1 a xs) (_:R (PF K a) H1)
def ER(K:Ad)(tl:TE):(TI):=λσ H R=>tl σ H λx H1=>xList K x H1 R
inductive xTpl(K:Ad)(x:V)(H1:Hp)(R:It->Hp->Prop):Prop
 |mk (a:_) (_:x=.ref a) (_:∃xs,SqT K H1 a xs) (_:R (PD K a) H1)
def EO(K:Ad)(tl:TE):(TI):=λσ H R=>tl σ H λx H1=>xTpl K x H1 R
def EN{l:Expr}{tl:TE}(hl:PE X l tl):PI X tg l (ER X.K tl):=by
 intro pins s σ H R I h;show thn (hl pins s σ H _ I h) λv s1 XB=>?_;let(x,H1,I1,r1,q1):=XB;let(a,e,(xs,hq),q):=q1;subst e;cases r1;let(XS,rv,p,hz):=I1.list hq;show wX p.isList ?_;exists (~~~s1),[(~~~s1)],_,_,H1,Z,I1.kept (t':=s1.toks) λb o e=>Xl _ e,bA a _,{_,Qd _ Z,Z,Z},λb hb=>?_,q;let e:b=(~~~s1):=by simpa using hb
 subst e;show I1.fpOk (XI _) (I1.hok.fresh<|XI _)
def rd{l:Expr}{tl:TE}(hl:PE X l tl):PI X tg l (EO X.K tl):=by
 intro pins s σ H R I h;show thn (hl pins s σ H _ I h) λv s1 XB=>?_;let(x,H1,I1,r1,q1):=XB;let(a,e,(xs,hq),q):=q1;subst e;cases r1;let(XS,rv,p,hz):=I1.tuple hq;show Kf (show s1.r.IsTuple a XS.C from p) ?_;exists (~~~s1),[(~~~s1)],_,_,H1,Z,I1.kept (t':=s1.toks) λb o e=>Xl _ e,bx a _,{_,Qd _ Z,Z,Z},λb hb=>?_,q;let e:b=(~~~s1):=by simpa using hb
 subst e;show I1.fpOk (XI _) (I1.hok.fresh<|XI _)
def bw{R:It->Hp->Prop}{E:Ae}{lo hi:Int}{t u v:Tok}{tk:Nat}(I:Inv X pins σ H s)(h1:-(2^62)<=lo)(h2:lo<2^62)(h3:-(2^62)<=hi)(h4:hi<2^62)
  (q:R (LI lo (hi-lo).j) H):wpAny (model X.prog X.w) X.A (pyIter<|.ref (~~~s)) (bB X pins σ tg R) E {s with heap:=s.r.push {cls:=.type "range",data:=.fields #[.int lo t,.int hi u,.int 1 v]},toks:=tk}:=by
 show wpAny_pyIter_range (IsRange.new ..) (small_one h1 h2 h3 h4) ?_;let I1:Inv X pins σ H {s with heap:=s.r.push {cls:=.type "range",data:=.fields #[.int lo t,.int hi u,.int 1 v]},toks:=tk}:=I.kept λb o e=>Xl _ e
 show⟨(s.r.push {cls:=.type "range",data:=.fields #[.int lo t,.int hi u,.int 1 v]}).objs.o,[(s.r.push {cls:=.type "range",data:=.fields #[.int lo t,.int hi u,.int 1 v]}).objs.o],_,_,H,Z,
  I1.kept (t':=tk) λb o e=>Xl _ e,Zb7 _ lo (hi-lo).j,?_,λb hb=>?_,q⟩
 .let e1:lo+((0:Nat):Int)*1=lo:=Fe;let e2:(((hi-lo).j:Nat):Int)-((0:Nat):Int)=Builtin.Range.rangeSize lo hi 1:=by rw[rangeSize_one];split<;>grind
  rw[e1,e2];show Qd _ rfl
 .let e:b=(s.r.push {cls:=.type "range",data:=.fields #[.int lo t,.int hi u,.int 1 v]}).objs.o:=by simpa using hb
  subst e;show I1.fpOk (XI _) (I1.hok.fresh<|XI _)
inductive xRng(vs:List V)(H1:Hp)(R:It->Hp->Prop):Prop
 |mk (j:Int) (_:vs=[.int j]) (_:-(2^62)<=j) (_:j<2^62) (_:R (LI 0 j.j) H1)
def q9(ta:TA):(TI):=λσ H R=>ta σ H λvs H1=>xRng vs H1 R
def q8(ta:TA):(TI):=λσ H R=>ta σ H λvs H1=>∃i j:Int,vs=[.int i,.int j]/\(-(2^62)<=i/\i<2^62/\-(2^62)<=j/\j<2^62)/\R (LI i (j-i).j) H1
def ZB{a:Expr}{ta:TA}{p pos:Pos}(hg:Gl X "range")(hm:X.mg "range"=none)(ha:PA X [a] ta)(hs:autoParam (starEach [a] X.X=[(false,eval a X.X)]) D1._auto_1):PI X tg (.Call (.Name "range" p) [a] [] pos) (q9 ta):=by
 intro pins s σ H R I h;show Call_ (Rp I hg hm boot_range<|Uj (thn (ha pos pins s σ H _ I h) λus s1 XB=>?_) hs Z);let(vs,H1,I1,r1,q1):=XB;let(j,e,q1,q2,q):=q1;subst e;cases r1 with
 |cons r rr=>
  cases rr;let(t,rfl):=r;show call_range_1 (bw I1 (by simp_all) (by simp_all) q1 q2<|by simpa using q)
def bu{a b:Expr}{ta:TA}{p pos:Pos}(hg:Gl X "range")(hm:X.mg "range"=none)(ha:PA X [a,b] ta)(hs:autoParam (starEach [a,b] X.X=[(false,eval a X.X),(false,eval b X.X)]) D1._auto_1)(UC:autoParam (starEach [b] X.X=[(false,eval b X.X)]) D1._auto_1):
  PI X tg (.Call (.Name "range" p) [a,b] [] pos) (q8 ta):=by
 intro pins s σ H R I h;show Call_ (Rp I hg hm boot_range<|Uj (thn (ha pos pins s σ H _ I h) λus s1 zz=>?_) (by rw[hs,UC])<|by rw[UC];rfl);let(vs,H1,I1,r1,q1):=zz;let(i,j,e,(q1,q2,q3,q4),q):=q1;subst e;cases r1 with
 |cons r rr=>
  cases rr with
  |cons r' rr=>
   cases rr;let(t,rfl):=r;let(t',rfl):=r';show call_range_2 (bw I1 q1 q2 q3 q4 q)
def qZ(wi:TI)(g:TG)(tb:TS):(TS):=λtB σ H=>wi σ H λrG H1=>∃W:Nat->Nat->St->Hp->Prop,(∃m,W 0 m σ H1)/\∀i m σ H,W i m σ H->
 (rG.stop i H/\tB.nx σ H)\/(rG.go i H/\∃N:St->Hp->Prop,(∀σ' H',N σ' H'->∃m',m'<m/\W (i+1) m' σ' H')/\∀x H',rG.yld i H x H'->g x σ H' λσ2 H2=>tb {tB with nx:=N,ct:=N,bk:=tB.nx} σ2 H2)
def Nw(fp:List Addr)(h:Heap):(List (Addr×Obj)):=fp.filterMap λb=>(h.E b).H λo=>(b,o)
def wj{b:Addr}{o:Obj}(hb:b∈fp)(e:h.E b=some o):(b,o)∈Nw fp h:=List.mem_filterMap.mpr {b,hb,by rw[e];rfl}
def br{p:Addr×Obj}(hp:p∈Nw fp h):p.1∈fp/\h.E p.1=some p.2:=by
 let(b,hb,e):=List.mem_filterMap.R hp;cases q:h.E b with
 |none=>simp_all
 |some o=>
  grind
def Inv.pinned(I:Inv X pins σ H s)(hf:∀b∈fp,FpOk X pins H b)(ho:∀b∈fp,∃o,s.r.E b=some o/\∀v,o.data≠.cell v):Inv X (pins++Nw fp s.r) σ H s:=
 I.pins_of λp hp=>(Xk.R hp).elim (λz=>I.pin p<|Yg _ z) λz=>by let(hb,e):=br z;let(f0,f1,f2,_):=hf p.1 hb;grind
def Inv.unpinned{pins pl:List (Addr×Obj)}(I:Inv X (pins++pl) σ H s):Inv X pins σ H s:=I.pins_of λp hp=>I.pin p (Yg _<|Yj _ hp)
def WT{iter:Expr}{body:List Stmt}{wi:TI}{g:TG}{tb:TS}{pos:Pos}(hp:PassesOwn (model X.prog X.w) X.A X.X X.xe)(hc:X.calm=true)(hi:PI X tg iter wi)(hg:PG X tg g)(hb:PSs X body tb)
  (hs:autoParam (∀x,foldedSetIterable iter X.X x=pure x) D4._auto_1):PS X (.For tg iter body [] pos) (qZ wi g tb):=by
 intro pins s σ H tB I h;show wpAny_For (thn (hi pins s σ H _ I h) λv s1 h1=>thn h1 λrf s2 h2=>?_) hs;let(it,fp,tn,rG,H2,e,I2,T,WW,f2,W,(m0,w0),turn):=h2;subst e;let JW:∀{H':Hp},(∀b∈fp,H' b=none)->∀b∈fp,FpOk X pins H' b:=λhn b hb=>{hn b hb,(f2 b hb).2}
 show codeAny_forLoop_any (λn s'=>∃i σ' H',Inv X pins σ' H' s'/\tn i s'.r/\(∀b∈fp,H' b=none)/\W i n σ' H') ?_ m0 {0,σ,H2,I2,WW,λb hb=>(f2 b hb).1,w0};rintro n s3 ⟨i,σ3,H3,I3,VO,bq,w3⟩;rcases turn i n σ3 H3 w3 with ⟨stop,qn⟩|⟨go,N,hN,step⟩
 .show Kr hp (thn (T.done X Z Z Z hc i pins s3 σ3 H3 X.xe I3 (JW bq) VO stop) λr s4 zz=>?_);let(hr,I4):=zz;subst hr;show wO ⟨σ3,H3,I4,qn⟩
 .show Kr hp (thn (T.item X Z Z Z hc i pins s3 σ3 H3 X.xe I3 (JW bq) VO go) λr s4 XB=>?_);let(u,hr,h4):=XB;subst hr;show Kr hp (thn h4 λ_ s5 XB=>?_);let(x,H5,I5,r5,y5,UM,qY):=XB;let qX:=I5.pinned (JW qY) (T.obj _ _ UM)
  show Kr hp (thn (hg _ s5 σ3 H5 x u _ qX r5<|step x H5 y5) λ_ s6 XB=>?_);let(σ6,H6,I6,q6):=XB;show Kr hp (thn (hb _ s6 σ6 H6 _ I6 q6) λf s7 q7=>?_);let again:∀{σ7:St}{H7:Hp},Inv X (pins++Nw fp s5.r) σ7 H7 s7->N σ7 H7->∃m,m<n/\∃i σ' H',Inv X pins σ' H' s7/\tn i s7.r/\(∀b∈fp,H' b=none)/\W i m σ' H':=λ{σ7 H7} I7 n7=>by let(m',hm,w7):=hN σ7 H7 n7;exists m',hm,i+1,σ7,H7,I7.unpinned,T.keep _ _ _ UM λb hb o e=>(I7.pin (b,o)<|Yg _<|Yg _<|wj hb e).1,λb hb=>?_,w7;let(o,e,d):=T.obj _ _ UM b hb;show(I7.pin (b,o)<|Yg _<|Yg _<|wj hb e).2.1
  cases f with
  |next=>let(σ7,H7,I7,n7):=q7;show again I7 n7
  |cont=>let(σ7,H7,I7,n7):=q7;show again I7 n7
  |brk=>let(σ7,H7,I7,q7):=q7;exists σ7,H7,I7.unpinned,q7
  |ret v=>let(x7,σ7,H7,I7,r7,q7):=q7;exists x7,σ7,H7,I7.unpinned,r7,q7
end
def wg{K:Ad}{a:Addr}{xs:List V}{g:TG}{tb:TS}{tB:Ends}{σ:St}{H:Hp}(Pv:Nat->St->Hp->Prop)(h0:Pv 0 σ H)(hl:∀i σ H,i<=xs.f->Pv i σ H->SqL K H a xs)
  (hs:∀i x σ H,xs[i]?=some x->Pv i σ H->g x σ H λσ2 H2=>tb {tB with nx:=Pv<|i+1,ct:=Pv<|i+1,bk:=tB.nx} σ2 H2)(hd:∀σ H,Pv xs.f σ H->tB.nx σ H):
  ∃W:Nat->Nat->St->Hp->Prop,(∃m,W 0 m σ H)/\∀i m σ H,W i m σ H->
   ((PF K a).stop i H/\tB.nx σ H)\/((PF K a).go i H/\∃N:St->Hp->Prop,(∀σ' H',N σ' H'->∃m',m'<m/\W (i+1) m' σ' H')/\∀x H',(PF K a).yld i H x H'->g x σ H' λσ2 H2=>tb {tB with nx:=N,ct:=N,bk:=tB.nx} σ2 H2):=by
 exists λi m σ H=>m=xs.f-i/\i<=xs.f/\Pv i σ H,{xs.f,Fe,Yc _,h0},?_;rintro i m σ H ⟨rfl,hi,p⟩;let q:=hl i σ H hi p
 cases Xx:i<xs.f
 .show .inr {{xs,xs[i],q,by simp[Xx]},Pv<|i+1,λσ' H' p'=>{xs.f-(i+1),B,Z,Xx,p'},λx H' y=>?_};let(e,y):=y;subst e;show hs i x σ _ (y xs q) p
 .let e:i=xs.f:=J;subst e;show .inl {{xs,q,XI _},hd σ H p}
def qW{K:Ad}{a:Addr}{xs:List V}{g:TG}{tb:TS}{tB:Ends}{σ:St}{H:Hp}(Pv:Nat->St->Hp->Prop)(h0:Pv 0 σ H)(hl:∀i σ H,i<=xs.f->Pv i σ H->SqT K H a xs)
  (hs:∀i x σ H,xs[i]?=some x->Pv i σ H->g x σ H λσ2 H2=>tb {tB with nx:=Pv<|i+1,ct:=Pv<|i+1,bk:=tB.nx} σ2 H2)(hd:∀σ H,Pv xs.f σ H->tB.nx σ H):
  ∃W:Nat->Nat->St->Hp->Prop,(∃m,W 0 m σ H)/\∀i m σ H,W i m σ H->
   ((PD K a).stop i H/\tB.nx σ H)\/((PD K a).go i H/\∃N:St->Hp->Prop,(∀σ' H',N σ' H'->∃m',m'<m/\W (i+1) m' σ' H')/\∀x H',(PD K a).yld i H x H'->g x σ H' λσ2 H2=>tb {tB with nx:=N,ct:=N,bk:=tB.nx} σ2 H2):=by
 exists λi m σ H=>m=xs.f-i/\i<=xs.f/\Pv i σ H,{xs.f,Fe,Yc _,h0},?_;rintro i m σ H ⟨rfl,hi,p⟩;let q:=hl i σ H hi p
 cases Xx:i<xs.f
 .show .inr {{xs,xs[i],q,by simp[Xx]},Pv<|i+1,λσ' H' p'=>{xs.f-(i+1),B,Z,Xx,p'},λx H' y=>?_};let(e,y):=y;subst e;show hs i x σ _ (y xs q) p
 .let e:i=xs.f:=B;subst e;show .inl {{xs,q,XI _},hd σ H p}
def ZY{lo:Int}{n:Nat}{g:TG}{tb:TS}{tB:Ends}{σ:St}{H:Hp}(Pv:Nat->St->Hp->Prop)(h0:Pv 0 σ H)
  (hs:∀i σ H,i<n->Pv i σ H->g (.int<|lo+i) σ H λσ2 H2=>tb {tB with nx:=Pv<|i+1,ct:=Pv<|i+1,bk:=tB.nx} σ2 H2)(hd:∀σ H,Pv n σ H->tB.nx σ H):
  ∃W:Nat->Nat->St->Hp->Prop,(∃m,W 0 m σ H)/\∀i m σ H,W i m σ H->
   ((LI lo n).stop i H/\tB.nx σ H)\/((LI lo n).go i H/\∃N:St->Hp->Prop,(∀σ' H',N σ' H'->∃m',m'<m/\W (i+1) m' σ' H')/\∀x H',(LI lo n).yld i H x H'->g x σ H' λσ2 H2=>tb {tB with nx:=N,ct:=N,bk:=tB.nx} σ2 H2):=by
 exists λi m σ H=>m=n-i/\i<=n/\Pv i σ H,{n,Fe,Yc _,h0},?_;rintro i m σ H ⟨rfl,hi,p⟩;cases Xx:i<n
 .show .inr {Xx,Pv<|i+1,λσ' H' p'=>{n-(i+1),B,Z,Xx,p'},λx H' y=>?_};let(e,y):=y;subst e y;show hs i σ _ Xx p
 .let e:i=n:=J;subst e;show .inl {XI _,hd σ H p}
abbrev R2:=V->V->Hp->VK->Prop
def Wy(X:Cx)(f:Value->Value->Sem Value)(r:R2):(Prop):=
 ∀(pins:List (Addr×Obj))(s:Shared)(σ:St)(H:Hp)(x y:V)(v u:Value)(Q:VK),Inv X pins σ H s->RelV x v->RelV y u->r x y H Q->
  wpAny (model X.prog X.w) X.A (f v u) (EP X pins σ Q) X.xe s
def qV(X:Cx)(f:Value->Sem Value)(r:V->Hp->VK->Prop):(Prop):=
 ∀(pins:List (Addr×Obj))(s:Shared)(σ:St)(H:Hp)(x:V)(v:Value)(Q:VK),Inv X pins σ H s->RelV x v->r x H Q->
  wpAny (model X.prog X.w) X.A (f v) (EP X pins σ Q) X.xe s
def VF(X:Cx)(f:Value)(r:List V->Hp->VK->Prop):(Prop):=
 ∀(pins:List (Addr×Obj))(s:Shared)(σ:St)(H:Hp)(xs:List V)(us:Ag)(Q:VK),Inv X pins σ H s->Vals xs us->r xs H Q->
  wpAny (model X.prog X.w) X.A (call f us) (EP X pins σ Q) X.xe s
def we(r:R2)(ta tb:TE):(TE):=λσ H Q=>ta σ H λx H1=>tb σ H1 λy H2=>r x y H2 Q
def tUn(r:V->Hp->VK->Prop)(ta:TE):(TE):=λσ H Q=>ta σ H λx H1=>r x H1 Q
inductive rI(C:Int->Int->Prop)(g:Int->Int->V)(x:V)(y:V)(H:Hp)(Q:VK):Prop
 |mk (i j:_) (_:x=.int i) (_:y=.int j) (_:C i j) (_:Q (g i j) H)
inductive rI0(g:Int->Int->V)(x:V)(y:V)(H:Hp)(Q:VK):Prop
 |mk (i j:_) (_:x=.int i) (_:y=.int j) (_:Q (g i j) H)
inductive rU(g:Int->V)(x:V)(H:Hp)(Q:VK):Prop
 |mk (i:_) (_:x=.int i) (_:Q (g i) H)
section
variable{X:Cx}{a b:Expr}{ta tb:TE}{pos:Pos}
def JV(ha:PE X a ta)(hb:PE X b tb){pins:List (Addr×Obj)}{s:Shared}{σ:St}{H:Hp}{R:V->V->Hp->Prop}(I:Inv X pins σ H s)
  (h:ta σ H λx H1=>tb σ H1 λy H2=>R x y H2){Q:Ae}{f:Value->Value->Sem Value}
  (hf:∀v u s2 x y H2,Inv X pins σ H2 s2->RelV x v->RelV y u->R x y H2->wpAny (model X.prog X.w) X.A (f v u) Q X.xe s2):
  wpAny (model X.prog X.w) X.A (eval a X.X) (λv s₁=>wpAny (model X.prog X.w) X.A (eval b X.X) (λu s₂=>wpAny (model X.prog X.w) X.A (f v u) Q X.xe s₂) X.xe s₁) X.xe s:=by show thn (ha pins s σ H _ I h) λv s1 XB=>?_;let(x,H1,I1,r1,q1):=XB;show thn (hb pins s1 σ H1 _ I1 q1) λu s2 XB=>?_;let(y,H2,I2,r2,q2):=XB;show hf v u s2 x y H2 I2 r1 r2 q2
def Zp(ho:Wy X (binaryOp op) r)(ha:PE X a ta)(hb:PE X b tb):PE X (.BinOp a op b pos) (we r ta tb):=by intro pins s σ H Q I h;show wpAny_BinOp (JV ha hb I h λv u s2 x y H2 I2 rx ry q=>ho pins s2 σ H2 x y v u Q I2 rx ry q)
def EM{op:UnaryOp}{r:V->Hp->VK->Prop}(ho:qV X (unaryOp op) r)(ha:PE X a ta):PE X (.UnaryOp op a pos) (tUn r ta):=by intro pins s σ H Q I h;show UnaryOp_ (thn (ha pins s σ H _ I h) λv s1 zz=>by let(x,H1,I1,r1,q1):=zz;show ho pins s1 σ H1 x v Q I1 r1 q1)
def GV{f:Value->Value->Sem Value}{C:Int->Int->Prop}{g:Int->Int->Int}
  (rule:∀(i j:Int)(t u:Tok)(s:Shared)(Q:Ae)(E:Ae),C i j->Q (.int (g i j) s.toks) {s with toks:=s.toks+1}->wpAny (model X.prog X.w) X.A (f (.int i t)<|.int j u) Q E s):
  Wy X f (rI C λi j=>.int<|g i j):=by intro pins s σ H x y v u Q I rx ry h;let(i,j,rfl,rfl,hc,q):=h;let(t,rfl):=rx;let(t',rfl):=ry;show rule i j t t' s _ _ hc {.int<|g i j,H,I.tok _,{_,Z},q}
def EL{f:Value->Value->Sem Value}{g:Int->Int->Int}
  (rule:∀(i j:Int)(t u:Tok)(s:Shared)(Q:Ae)(E:Ae),Q (.int (g i j) s.toks) {s with toks:=s.toks+1}->wpAny (model X.prog X.w) X.A (f (.int i t)<|.int j u) Q E s):
  Wy X f (rI0 λi j=>.int<|g i j):=by intro pins s σ H x y v u Q I rx ry h;let(i,j,rfl,rfl,q):=h;let(t,rfl):=rx;let(t',rfl):=ry;show rule i j t t' s _ _ {.int<|g i j,H,I.tok _,{_,Z},q}
def Nv{f:Value->Value->Sem Value}{g:Int->Int->Bool}
  (rule:∀(i j:Int)(t u:Tok)(s:Shared)(Q:Ae)(E:Ae),Q (.bool<|g i j) s->wpAny (model X.prog X.w) X.A (f (.int i t)<|.int j u) Q E s):
  Wy X f (rI0 λi j=>.bl<|g i j):=by intro pins s σ H x y v u Q I rx ry h;let(i,j,rfl,rfl,q):=h;let(t,rfl):=rx;let(t',rfl):=ry;show rule i j t t' s _ _ {.bl<|g i j,H,I,Z,q}
def EK(i j:Int):(Prop):=0<j/\j<1073741824
def qU(i j:Int):(Prop):=0<=j/\j<=1000000/\i.natAbs<2^64
def CMul(i j:Int):(Prop):=(-(2^64)<i/\i<2^64)\/(-(2^64)<j/\j<2^64)
def CMul.ok(h:CMul i j):IntMulOk i j:=by
 rcases h with ⟨h1,h2⟩|⟨h1,h2⟩
 .show .of_left (intBits_le_64 h1 h2)
 .show .of_right (intBits_le_64 h1 h2)
def UY:Wy X (binaryOp .Add) (rI0 λi j=>.int (i+j)):=EL λ_ _ _ _ _ _ _ q=>add_int q
def TF:Wy X (binaryOp .Sub) (rI0 λi j=>.int (i-j)):=EL λ_ _ _ _ _ _ _ q=>sub_int q
def PB:Wy X (binaryOp .Mult) (rI CMul λi j=>.int (i*j)):=GV λ_ _ _ _ _ _ _ hc q=>mul_int q hc.ok
def Pz:Wy X (binaryOp .FloorDiv) (rI EK λi j=>.int (i/j)):=GV λi j _ _ _ _ _ hc q=>by
 let h1:(0:Int)<j:=hc.1;let h2:j<1073741824:=hc.2
 show floordiv_int J (by rwa[cy i J]) (.inl<|PyProof.noPylong_small B)
def ZX:Wy X (binaryOp .Mod) (rI (λ_ j=>0<j) λi j=>.int (i%j)):=GV λi j _ _ _ _ _ hc q=>by show mod_int' B (by rwa[Int.fmod_eq_emod_of_nonneg i J])
def JU:Wy X (binaryOp .Pow) (rI qU λi j=>.int (i^j.j)):=GV λ_ _ _ _ _ _ _ hc q=>pow_int_small hc.1 hc.2.1 hc.2.2 q
def unI{f:Value->Sem Value}{g:Int->Int}
  (rule:∀(i:Int)(t:Tok)(s:Shared)(Q:Ae)(E:Ae),Q (.int (g i) s.toks) {s with toks:=s.toks+1}->wpAny (model X.prog X.w) X.A (f<|.int i t) Q E s):
  qV X f (rU λi=>.int<|g i):=by intro pins s σ H x v Q I rx h;let(i,rfl,q):=h;let(t,rfl):=rx;show rule i t s _ _ {.int<|g i,H,I.tok _,{_,Z},q}
def EJ:qV X (unaryOp .USub) (rU λi=>.int (-i)):=unI λ_ _ _ _ _ q=>neg_int q
end
def EI:(V->V->Bool)
 | .non,.non=>true | .non,.int _=>true | .int _,.non=>true | .non,.bl _=>true | .bl _,.non=>true | .non,.str _=>true | .str _,.non=>true
 | .int _,.int _=>true | .bl _,.bl _=>true | .str _,.str _=>true | .byt _,.byt _=>true
 | .int _,.str _=>true | .str _,.int _=>true | .bl _,.str _=>true | .str _,.bl _=>true
 |_,_=>false
inductive rEq(x:V)(y:V)(H:Hp)(Q:VK):Prop
 |mk  (_:EI x y=true) (_:Q (.bl<|decide<|x=y) H)
inductive rNe(x:V)(y:V)(H:Hp)(Q:VK):Prop
 |mk  (_:EI x y=true) (_:Q (.bl<|!decide (x=y)) H)
def ZH:decide (V.int i=V.int j)=(i == j):=by lia
def LH:decide (V.bl i=V.bl j)=(i == j):=by lia
def LG:decide (V.str i=V.str j)=(i == j):=by lia
def LF:decide (V.byt i=V.byt j)=(i.m == j.m):=by
 rw[Tp]
 simp_all
section
variable{X:Cx}{a b c:Expr}{ta tb tc:TE}{pos:Pos}
def ZR{k k':Bool}(I:Inv X pins σ H s)(q:Q (.bl k) H)(e:k=k'):EP X pins σ Q (.bool k') s:=by subst e;exists .bl k,H,I,Z,q
def Rm:Wy X (compareOp .Eq) rEq:=by
 intro pins s σ H x y v u Q I rx ry h;let(hs,q):=h;cases x with
 |non=>
  cases rx;cases y with
  |non=>cases ry;show PySem.EqNone.eq_none_none (ZR I q Fe)
  |bl j=>cases ry;show PySem.EqNone.eq_none_bool (ZR I q Fe)
  |int j=>let(t',rfl):=ry;show PySem.EqNone.eq_none_int (ZR I q Fe)
  |str j=>let(t',rfl):=ry;show PySem.EqNone.eq_none_str (ZR I q Fe)
  |_=>show absurd (show false=true from hs) YC
 |bl i=>
  cases rx;cases y with
  |non=>cases ry;show PySem.EqNone.eq_bool_none (ZR I q Fe)
  |bl j=>cases ry;show eq_bool (ZR I q LH)
  |str j=>let(t',rfl):=ry;show PySem.EqMixed.eq_bool_str (ZR I q Fe)
  |_=>show absurd (show false=true from hs) YC
 |int i=>
  let(t,rfl):=rx;cases y with
  |non=>cases ry;show PySem.EqNone.eq_int_none (ZR I q Fe)
  |int j=>let(t',rfl):=ry;show eq_int (ZR I q ZH)
  |str j=>let(t',rfl):=ry;show PySem.EqMixed.eq_int_str (ZR I q Fe)
  |_=>show absurd (show false=true from hs) YC
 |str i=>
  let(t,rfl):=rx;cases y with
  |non=>cases ry;show PySem.EqNone.eq_str_none (ZR I q Fe)
  |bl j=>cases ry;show PySem.EqMixed.eq_str_bool (ZR I q Fe)
  |int j=>let(t',rfl):=ry;show PySem.EqMixed.eq_str_int (ZR I q Fe)
  |str j=>let(t',rfl):=ry;show eq_str (ZR I q LG)
  |_=>show absurd (show false=true from hs) YC
 |byt i=>
  let(t,rfl):=rx;cases y with
  |byt j=>let(t',rfl):=ry;show PySem.W.eq_bytes (ZR I q LF)
  |_=>show absurd (show false=true from hs) YC
 |_=>cases y<;>show absurd (show false=true from hs) YC
def Ue:Wy X (compareOp .NotEq) rNe:=by
 intro pins s σ H x y v u Q I rx ry h;let(hs,q):=h;cases x with
 |non=>
  cases rx;cases y with
  |non=>cases ry;show PySem.EqNone.ne_none_none (ZR I q Fe)
  |bl j=>cases ry;show PySem.EqNone.ne_none_bool (ZR I q Fe)
  |int j=>let(t',rfl):=ry;show PySem.EqNone.ne_none_int (ZR I q Fe)
  |str j=>let(t',rfl):=ry;show PySem.EqNone.ne_none_str (ZR I q Fe)
  |_=>show absurd (show false=true from hs) YC
 |bl i=>
  cases rx;cases y with
  |non=>cases ry;show PySem.EqNone.ne_bool_none (ZR I q Fe)
  |bl j=>cases ry;show ne_bool (ZR I q<|YF not LH)
  |str j=>let(t',rfl):=ry;show PySem.EqMixed.ne_bool_str (ZR I q Fe)
  |_=>show absurd (show false=true from hs) YC
 |int i=>
  let(t,rfl):=rx;cases y with
  |non=>cases ry;show PySem.EqNone.ne_int_none (ZR I q Fe)
  |int j=>let(t',rfl):=ry;show ne_int (ZR I q<|YF not ZH)
  |str j=>let(t',rfl):=ry;show PySem.EqMixed.ne_int_str (ZR I q Fe)
  |_=>show absurd (show false=true from hs) YC
 |str i=>
  let(t,rfl):=rx;cases y with
  |non=>cases ry;show PySem.EqNone.ne_str_none (ZR I q Fe)
  |bl j=>cases ry;show PySem.EqMixed.ne_str_bool (ZR I q Fe)
  |int j=>let(t',rfl):=ry;show PySem.EqMixed.ne_str_int (ZR I q Fe)
  |str j=>let(t',rfl):=ry;show ne_str (ZR I q<|YF not LG)
  |_=>show absurd (show false=true from hs) YC
 |byt i=>
  let(t,rfl):=rx;cases y with
  |byt j=>let(t',rfl):=ry;show PySem.W.ne_bytes (ZR I q<|YF not LF)
  |_=>show absurd (show false=true from hs) YC
 |_=>cases y<;>show absurd (show false=true from hs) YC
def Qy:Wy X (compareOp .Lt) (rI0 λi j=>.bl (decide (i<j))):=Nv λ_ _ _ _ _ _ _ q=>lt_int q
def Ti:Wy X (compareOp .LtE) (rI0 λi j=>.bl (decide (i<=j))):=Nv λ_ _ _ _ _ _ _ q=>le_int q
def Oo:Wy X (compareOp .Gt) (rI0 λi j=>.bl (decide (j<i))):=Nv λ_ _ _ _ _ _ _ q=>gt_int q
def Py:Wy X (compareOp .GtE) (rI0 λi j=>.bl (decide (j<=i))):=Nv λ_ _ _ _ _ _ _ q=>ge_int q
def EH:Wy X (compareOp .Is) (λx y H Q=>y=.non/\Q (.bl (decide (x=.non))) H):=by
 intro pins s σ H x y v u Q I rx ry h;let(rfl,q):=h;cases ry;show is_none_gen (ZR I q ?_);cases x<;>first
  | (cases rx;rfl)
  | (let(t,rfl):=rx;rfl)
def EG:Wy X (compareOp .IsNot) (λx y H Q=>y=.non/\Q (.bl (!decide (x=.non))) H):=by
 intro pins s σ H x y v u Q I rx ry h;let(rfl,q):=h;cases ry;show isnot_none_gen (ZR I q ?_);cases x<;>first
  | (cases rx;rfl)
  | (let(t,rfl):=rx;rfl)
def ZS4:Wy X (compareOp .NotIn) (λx y H Q=>∃i j,x=.str i/\y=.str j/\Q (.bl (!(!(Builtin.Str.occurrences j i 0 j.f 1).isEmpty))) H):=by intro pins s σ H x y v u Q I rx ry h;let(i,j,rfl,rfl,q):=h;let(t,rfl):=rx;let(t',rfl):=ry;show notIn_str (ZR I q Z)
def Zo(b:Expr)(h:autoParam (op≠.In) D0._auto_1)(h2:autoParam (op≠.NotIn) D0._auto_1):behindInMarks op b=false:=by
 let e1:(op == CmpOp.In)=false:=by cases op<;>first|rfl|lia
 let e2:(op == CmpOp.NotIn)=false:=by cases op<;>first|rfl|lia
 cases b<;>simp[behindInMarks,e1,e2]
def Px(ho:Wy X (compareOp op) r)(ha:PE X a ta)(hb:PE X b tb)(hm:behindInMarks op b=false):PE X (.Compare a [op] [b] pos) (we r ta tb):=by intro pins s σ H Q I h;show wpAny_Compare1 (JV ha hb I h λv u s2 x y H2 I2 rx ry q=>ho pins s2 σ H2 x y v u Q I2 rx ry q) hm
def EF(t:TE):(TT):=λσ H Q=>t σ H λx H'=>isB x H' Q
def Zh{op:CmpOp}{r:R2}(ho:Wy X (compareOp op) r)(ha:PE X a ta)(hb:PE X b tb)(hm:behindInMarks op b=false):PT X (.Compare a [op] [b] pos) (EF (we r ta tb)):=by
 intro pins s σ H Q I h;show wpAny_isTrue_Compare1 (thn (ha pins s σ H _ I h) λv s1 ⟨x,H1,I1,r1,q1⟩=>thn (hb pins s1 σ H1 _ I1 q1) λu s2 ⟨y,H2,I2,r2,q2⟩=>
  thn (ho pins s2 σ H2 x y v u _ I2 r1 r2 q2) λc s3 ⟨z,H3,I3,r3,k,e,q3⟩=>?_) hm
 subst e;cases r3;show Qf ⟨H3,I3,q3⟩
def EE(r r':R2)(ta tb tc:TE):(TE):=λσ H Q=>ta σ H λx H1=>tb σ H1 λy H2=>r x y H2 λz H3=>∃k,z=.bl k/\
 (if k=true then tc σ H3 λw' H4=>r' y w' H4 Q else Q (.bl false) H3)
def qT{op JT:CmpOp}{r r':R2}(ho:Wy X (compareOp op) r)(TH:Wy X (compareOp JT) r')(ha:PE X a ta)(hb:PE X b tb)(hc:PE X c tc)
  (hm:autoParam (lastMarks [op,JT] [b,c]=false) D6._auto_1):PE X (.Compare a [op,JT] [b,c] pos) (EE r r' ta tb tc):=by
 intro pins s σ H Q I h;show Compare_chain (thn (ha pins s σ H _ I h) λv s1 ⟨x,H1,I1,r1,q1⟩=>chain_link (thn (hb pins s1 σ H1 _ I1 q1) λu s2 ⟨y,H2,I2,r2,q2⟩=>
  thn (ho pins s2 σ H2 x y v u _ I2 r1 r2 q2) λd s3 ⟨z,H3,I3,r3,k,e,q3⟩=>?_)) hm
 subst e;cases r3;show Qf ?_;cases k with
 |false=>show ite_ff {.bl false,H3,I3,Z,q3}
 |true=>show ite_tt (chain_last<|thn (hc pins s3 σ H3 _ I3 q3) λw' s4 zz=>by let(z',H4,I4,r4,q4):=zz;show TH pins s4 σ H4 y z' u w' Q I4 r2 r4 q4)
def wd{op JT:CmpOp}{r r':R2}(ho:Wy X (compareOp op) r)(TH:Wy X (compareOp JT) r')(ha:PE X a ta)(hb:PE X b tb)(hc:PE X c tc)
  (hm:autoParam (lastMarks [op,JT] [b,c]=false) D6._auto_1):PT X (.Compare a [op,JT] [b,c] pos) (EF<|EE r r' ta tb tc):=by
 intro pins s σ H Q I h;show isTrue_chain (thn (ha pins s σ H _ I h) λv s1 ⟨x,H1,I1,r1,q1⟩=>test_link (thn (hb pins s1 σ H1 _ I1 q1) λu s2 ⟨y,H2,I2,r2,q2⟩=>
  thn (ho pins s2 σ H2 x y v u _ I2 r1 r2 q2) λd s3 ⟨z,H3,I3,r3,k,e,q3⟩=>?_)) hm
 subst e;cases r3;show Qf ?_;cases k with
 |false=>
  let(k',e',q'):=q3;cases e';show ite_ff ⟨H3,I3,q'⟩
 |true=>
  show ite_tt (test_last<|thn (hc pins s3 σ H3 _ I3 q3) λw' s4 zz=>?_);let(z',H4,I4,r4,q4):=zz;show thn (TH pins s4 σ H4 y z' u w' _ I4 r2 r4 q4) λd' s5 XB=>?_;let(z2,H5,I5,r5,k2,e2,q5):=XB;subst e2;cases r5;show Qf ⟨H5,I5,q5⟩
def JS:(sizeLine:Nat)<2^63:=by decide
def ZD7:Wy X (binaryOp .Add) (λx y H Q=>∃i j,x=.str i/\y=.str j/\i.f+j.f<=sizeLine/\Q (.str (i++j)) H):=by intro pins s σ H x y v u Q I rx ry h;let(i,j,rfl,rfl,hz,q):=h;let(t,rfl):=rx;let(t',rfl):=ry;show add_str (λt' tk=>{.str<|i++j,H,I.tok _,{_,Z},q}) hz
def Vi{us:Ag}(r:Vals [x] us):∃u,us=[u]/\RelV x u:=by
 cases r with
 |cons r1 r2=>cases r2;simp_all
def JR{us:Ag}(r:Vals [x,y] us):∃u w',us=[u,w']/\RelV x u/\RelV y w':=by
 cases r with
 |cons r1 r2=>
  cases r2 with
  |cons r3 r4=>cases r4;exists _,_,Z,r1,r3
def wc(hc:X.calm=true):VF X (.builtin "max") (λxs H Q=>∃i j,xs=[.int i,.int j]/\Q (.int (if j>i then j else i)) H):=by
 intro pins s σ H xs us Q I r h;let(i,j,rfl,q):=h;let(u,w',rfl,(t,rfl),(t',rfl)):=JR r;show max_two_ints (I.ok.hd hc) λh' tk k=>{_,H,I.kept k,?_,q};cases hj:j>i
 .rw[Yi hj,Yi hj];exists _,Z
 .rw[Yh hj,Yh hj];exists _,Z
def wb(hc:X.calm=true):VF X (.builtin "min") (λxs H Q=>∃i j,xs=[.int i,.int j]/\Q (.int (if j<i then j else i)) H):=by
 intro pins s σ H xs us Q I r h;let(i,j,rfl,q):=h;let(u,w',rfl,(t,rfl),(t',rfl)):=JR r;show min_two_ints (I.ok.hd hc) λh' tk k=>{_,H,I.kept k,?_,q};cases hj:j<i
 .rw[Yi hj,Yi hj];exists _,Z
 .rw[Yh hj,Yh hj];exists _,Z
def Zb5:VF X (.type "str") (λxs H Q=>∃i,xs=[.int i]/\i.natAbs.log2<1920/\Q (.str (toString i)) H):=by intro pins s σ H xs us Q I r h;let(i,rfl,hz,q):=h;let(u,rfl,t,rfl):=Vi r;show PySem.P.str_of_int hz {.str _,H,I.tok _,{_,Z},q}
end
structure ObjM(h:Heap)(x dx C:Addr)(mA:Af):Prop where
 obj:h.E x=some (PySem.W.instObj C dx)
 ns:h.Ns1 dx mA
 ne:dx≠x
def ZC9{h:Heap}{mA:Af}(n:h.Ns1 dx mA):∃od,h.E dx=some od/\∀name,PySem.W.lookIn name od=some (mA name):=by
 let(o,es,ep,ho,hd,hk,_,hm):=n;exists o,ho,λname=>?_;let e:=hm name
 unfold nsFind findBy at e;rw[<-Array.find?_toList]at e;unfold PySem.W.lookIn;rw[hd];dsimp only;split
 .simp_all
 .rename_i q;rw[q]at e;let a:es.m.any (·.refKey)=false:=by rw[List.any_eq_false];intro y hy;let(z,t,qS):=hk y (Array.mem_toList_iff.R hy);simp[DictEntry.refKey,qS]
  grind
def ObjM.look{mA:Af}(I:ObjM h x dx C mA):∃od,PySem.W.InstAt h x (PySem.W.instObj C dx) C (some od)/\∀name,PySem.W.lookIn name od=some (mA name):=
 let ⟨od,ho,hl⟩:=ZC9 I.ns
 {od,⟨I.obj,Z,Z,ho⟩,hl}
section
variable{prog:Program}{w:World}{A:Around}{E:Ae}{s:Shared}{K:Ad}{x dx C f:Addr}{mA:Af}{name:Str}{v:Value}
def qR{Q:Ae}(X:K.In s.r)(I:ObjM s.r x dx C mA)(hg:PySem.W.plainGet K C name=true)(hh:PySem.W.hasDictIn K C=true)
  (ha:PySem.W.findIn K ↑C name=some none)(hv:mA name=some v)(GU:PySem.W.handedIn v=true)(h:Q v {s with toks:=s.toks+1}):
  wpAny (model prog w) A (getAttr ↑x name expr) Q E s:=by let(od,rG,hl):=I.look;show PySem.W.get_value X rG (PySem.W.plainGet_of hg).1 (PySem.W.findObj_own hh ha Z<|by rw[hl,hv]) GU h
def qQ{Q:Unit->Shared->Prop}(X:K.In s.r)(I:ObjM s.r x dx C mA)
  (hs:PySem.W.findIn K ↑C "__setattr__"=some (some<|.builtin "object.__setattr__"))(hp:PySem.W.plainOver K C=true)(ht:PySem.W.takerIn K C name=some none)(hh:PySem.W.hasDictIn K C=true)
  (hw:PySem.Within mA ns)(hsz:ns.f<=sizeLine)
  (h:∀h',ObjM h' x dx C (λy=>if y=name then some v else mA y)->Heap.SameBut dx s.r h'->Q () {s with heap:=h',toks:=s.toks+2}):
  wpAny (model prog w) A (setAttr ↑x name v) Q E s:=by
 let(od,rG,hl):=I.look;show PySem.W.set_plain X rG hs (PySem.W.osa_open (s:={s with toks:=s.toks+1}) (r:=none) X rG hp ht λb=>?_);let(cd,hc,bI):=PySem.W.any_some hh;let hx:s.r.E x=some ⟨.ref C,some dx,.plain,#[]⟩:=I.obj
 show XT (Ye<|XT<|XT<|wpAny_loadPart hx<|XT<|PySem.W.Looks.here (s:={s with toks:=s.toks+1}) (PySem.W.looks_clsIn X hc) ?_);rw[bI];show Ye (a:=some dx) (XT<|Ye<|XT ?_);show wpAny_nsSet1 (s:={s with toks:=s.toks+1}) I.ns λh' RS UC=>?_;let(oD,esD,epD,bp,bo,hcD):=RS.count (PySem.Within.cons name v hw);show XT (wpAny_lookBehind bp (by rw[bo];show pastItsLine_dict<|Yl hcD<|by simp_all) ?_);show Ye (h _ {(UC.2 _<|XH I.ne).l I.obj,RS,I.ne} UC)
def qP{R:Result->Shared->Prop}{vs:Ag}{kw:List (Str×Value)}(X:K.In s.r)(hm:PySem.W.makesIn K C=true)
  (hi:PySem.W.findIn K ↑C "__init__"=some (some<|.ref f))(hf:PySem.W.typeIn K ↑f=some (.type "function"))
  (h:codeAny (model prog w) (A.under<|.builtin "type.__call__" {.ref C::vs,kw}) (.call ↑f {.ref ((~~~s)+1)::vs,kw}) (PySem.W.InitBack ((~~~s)+1) R)
   {s with heap:=(s.r.push PySem.W.emptyDict).push (PySem.W.instObj C (~~~s))}):
  codeAny (model prog w) A (.call ↑C ⟨vs,kw⟩) R s:=by show PySem.W.make_core (PySem.W.makes_of X hm) (PySem.W.looks_findIn X hi) (λself=>PySem.W.bind_fn X self hf) (.inl Z) h
end
def XA(f:Str)(v:V):(List (Str×V)->List (Str×V))
 |[]=>[(f,v)]
 | (g,x)::r=>if g=f then (g,v)::r else (g,x)::XA f v r
def ED(f g:Str)(v:V):∀fs:List (Str×V),(XA f v fs).S g=if g=f then some v else fs.S g
 |[]=>by change List.S g [(f,v)]=_;grind
 | (k,x)::r=>by let ih:=ED f g v r;rw[show XA f v ((k,x)::r)=(if k=f then (k,v)::r else (k,x)::XA f v r) from Z];grind
def qO(f:Str)(v:V):∀fs:List (Str×V),f∈(XA f v fs).H (·.1)/\∀g,g∈fs.H (·.1)->g∈(XA f v fs).H (·.1)
 |[]=>{by simp[XA],λg h=>by simp at h}
 | (k,x)::r=>by let(i1,i2):=qO f v r;rw[show XA f v ((k,x)::r)=(if k=f then (k,v)::r else (k,x)::XA f v r) from Z];grind
def bj(f:Str)(v:V):∀fs:List (Str×V),(XA f v fs).f<=fs.f+1
 |[]=>by simp[XA]
 | (k,x)::r=>by let ih:=bj f v r;rw[show XA f v ((k,x)::r)=(if k=f then (k,v)::r else (k,x)::XA f v r) from Z];grind
def RelO.some_of{v:V}(r:RelO (some v) o):∃u,o=some u/\RelV v u:=by
 cases o with
 |none=>show(show False from r).elim
 |some u=>exists u,Z,r
def ZO9(r:RelV v u):PySem.W.handedIn u=true:=by
 cases v with
 |non=>cases (show u=Value.none from r);rfl
 |bl b=>cases (show u=Value.bool b from r);rfl
 |int i=>let(t,e):=(show ∃t,u=Value.int i t from r);cases e;rfl
 |str x=>let(t,e):=(show ∃t,u=Value.str x t from r);cases e;rfl
 |byt b=>let(t,e):=(show ∃t,u=Value.bytes b t from r);cases e;rfl
 |flt b=>let(t,e):=(show ∃t,u=Value.float b t from r);cases e;rfl
 |ref a=>cases (show u=Value.ref a from r);rfl
 |ty n=>cases (show u=Value.type n from r);rfl
section
variable{P:Program}{w:World}{H:Hp}{h:Heap}{a C dx:Addr}{fs:List (Str×V)}
def EC(hok:HOk P w H h)(e:H a=some (.ins C dx fs)):∃mA,ObjM h a dx C mA/\(∀f,RelO (fs.S f) (mA f))/\PySem.Within mA (fs.H (·.1))/\fs.f<=1000/\H dx=some (.own a):=by let(d,z,ne,ob,mA,n,r,q):=(show ObjOk P w H h a (.ins C dx fs) from hok a _ e);exists mA,⟨ob,n,ne⟩,r,q,z,d
end
structure Cls(K:Ad)(C:Addr):Prop where
 pg:PySem.W.plainGet K C Str.empty=true
 hd:PySem.W.hasDictIn K C=true
 po:PySem.W.plainOver K C=true
 sa:PySem.W.findIn K ↑C "__setattr__"=some (some<|.builtin "object.__setattr__")
def Cls.get{K:Ad}{C:Addr}(c:Cls K C)(f:Str):PySem.W.plainGet K C f=true:=c.pg
def NoAttr(K:Ad)(C:Addr)(f:Str):(Prop):=PySem.W.findIn K ↑C f=some none
def NoAttr.taker{K:Ad}{C:Addr}{f:Str}(n:NoAttr K C f):PySem.W.takerIn K C f=some none:=by unfold PySem.W.takerIn;rw[show PySem.W.findIn K ↑C f=some none from n];rfl
section
variable{X:Cx}{pins:List (Addr×Obj)}{σ:St}{H:Hp}{s:Shared}{a C dx:Addr}{fs:List (Str×V)}{f:Str}{v:V}{A:Around}{E:Ae}
def Zg8{Q:Ae}(I:Inv X pins σ H s)(e:H a=some (.ins C dx fs))(c:Cls X.K C)(n:NoAttr X.K C f)(l:fs.S f=some v)
  (h:∀u s',Inv X pins σ H s'->RelV v u->Q u s'):wpAny (model X.prog X.w) A (getAttr ↑a f b) Q E s:=by let(mA,O,r,_,_,_):=EC I.hok e;let(u,hu,ru):=RelO.some_of (v:=v) (o:=mA f) B;show qR I.kIn O (c.get f) c.hd n hu (ZO9 ru) (h u _ (I.tok _) ru)
def Zm7{Q:Unit->Shared->Prop}(I:Inv X pins σ H s)(e:H a=some (.ins C dx fs))(c:Cls X.K C)(n:NoAttr X.K C f)(hl:fs.f<1000)(ry:RelV y u)
  (h:∀s',Inv X pins σ (upd H a<|.ins C dx<|XA f y fs) s'->Q () s'):wpAny (model X.prog X.w) A (setAttr ↑a f u) Q E s:=by
 let(mA,O,r,wi,_,ho):=EC I.hok e;let hz:(fs.H (·.1)).f<=sizeLine:=by rw[Yb,RU];lia
 show qQ I.kIn O c.sa c.po n.taker c.hd wi hz λh' O' sb=>h _ ?_;let hd:∃o,h'.E dx=some o:=by let(o,_,_,e',_):=O'.ns;exists o,e'
 show I.write (x:=a) (e:=dx) (by rw[e];show True.intro) (.inr ho) (λb q hb z=>(sb.2 b hb).l z) hd ?_;exists by rw[Zb O.ne];show ho,?_,O.ne,O'.obj,_,O'.ns,λg=>?_,λg hg=>?_
 .have:=bj f y fs;lia
 .rw[ED];cases q:g=f
  .rw[Yi q,Yi q];show ry
  simp_all
 .cases q:g=f
  .rw[q];show(qO f y fs).1
  .show(qO f y fs).2 g (wi g λz=>hg ?_)
   simp_all
def Inv.made(I:Inv X pins σ H s):Inv X pins σ (upd (upd H (~~~s) (.own ((~~~s)+1))) ((~~~s)+1) (.ins C (~~~s) []))
  {s with heap:=(s.r.push PySem.W.emptyDict).push (PySem.W.instObj C (~~~s))}:=by
 let e1:(s.r.push PySem.W.emptyDict).E (~~~s)=some PySem.W.emptyDict:=Qd s.r rfl;let e2:((s.r.push PySem.W.emptyDict).push (PySem.W.instObj C (~~~s))).E ((~~~s)+1)=some (PySem.W.instObj C (~~~s)):=by
  have:=Qd (s.r.push PySem.W.emptyDict) (o:=PySem.W.instObj C (~~~s)) rfl
  rwa[Ox]at this
 let e3:(s.r.push PySem.W.emptyDict).Ns (~~~s) (λ_=>none):={PySem.W.emptyDict,#[],_,e1,Z,λe he=>absurd he Fe,λ_=>rfl};let I1:=I.laid (a:=(~~~s)) (o:=.own<|(~~~s)+1) (h':=s.r.push PySem.W.emptyDict) (t':=s.toks) (λb u q=>Xl _ q) (XI _) {_,e1}
 show I1.laid (a:=(~~~s)+1) (o:=.ins C (~~~s) []) (t':=s.toks) (λb u q=>Xl _ q) (Nat.le_of_eq<|Ox _ _) ?_;let ne:(~~~s)≠(~~~s)+1:=Yw (Ho _)
 exists by rw[Zb ne,XZ],Yc _,ne,e2,λ_=>none,(Heap.Ns1.of_empty e3).at λo q=>Xl _ q,λ_=>True.intro,λy hy=>absurd Z hy
def qN{pos:Pos}{Q:Ae}(hb:attributeBase e f env (eval e env)=eval e env)
  (h:wpAny (model prog w) A (eval e env) (λo s₁=>wpAny (model prog w) A (getAttr o f true) Q E s₁) E s):wpAny (model prog w) A (eval (.Attribute e f pos) env) Q E s:=
 Attribute_any_ h (by rw[arm_eval_Attribute,hb])
end
inductive xFld(K:Ad)(f:Str)(x:V)(H1:Hp)(Q:VK):Prop
 |mk (a C dx fs v:_) (_:x=.ref a) (_:H1 a=some (.ins C dx fs)) (_:Cls K C) (_:NoAttr K C f) (_:fs.S f=some v) (_:Q v H1)
def EB(K:Ad)(ta:TE)(f:Str):(TE):=λσ H Q=>ta σ H λx H1=>xFld K f x H1 Q
def qM(K:Ad)(ta tv:TE)(f:Str):(TS):=λtB σ H=>tv σ H λy H1=>ta σ H1 λx H2=>∃a C dx fs,x=.ref a/\H2 a=some (.ins C dx fs)/\Cls K C/\NoAttr K C f/\fs.f<1000/\
 tB.nx σ (upd H2 a<|.ins C dx<|XA f y fs)
section
variable{X:Cx}{o e value:Expr}{f:Str}{pos pos':Pos}{ta tv:TE}
def EA(he:PE X e ta)(hb:attributeBase e f X.X (eval e X.X)=eval e X.X):PE X (.Attribute e f pos) (EB X.K ta f):=by intro pins s σ H Q I h;show qN hb (thn (he pins s σ H _ I h) λu s1 XB=>?_);let(x,H1,I1,rx,a,C,dx,fs,v,ex,ea,c,n,l,q):=XB;subst ex;let rfl:u=Value.ref a:=rx;show Zg8 I1 ea c n l λu' s2 I2 ru=>⟨v,H1,I2,ru,q⟩
def Nu(ha:PE X o ta)(hv:PE X value tv)(hs:swapsWith value (some (.Attribute o f pos')) pos.line X.X=pure false):PS X (.Assign [.Attribute o f pos'] value pos) (qM X.K ta tv f):=by intro pins s σ H tB I h;show plainObj_wpAny_Assign_Attribute (thn (hv pins s σ H _ I h) λu s1 zz=>?_) hs;let(y,H1,I1,ry,q):=zz;show thn (ha pins s1 σ H1 _ I1 q) λov s2 XB=>?_;let(x,H2,I2,rx,a,C,dx,fs,ex,ea,c,n,l,q2):=XB;subst ex;let rfl:ov=Value.ref a:=rx;show Zm7 I2 ea c n l ry λs3 I3=>{σ,_,I3,q2}
end
structure Room(k:Nat)(A:Around):Prop where
 hd:A.handled=none
 dp:A.depth+3*k+5<recursionLimit
 un:A.units+16*k+200<cLine
def Room.mono(r:Room k A)(h:j<=k):Room j A:={r.hd,by have:=r.dp;lia,by have:=r.un;lia}
def Room.deeper(r:Room (k+1) A)(env:Env):Room k (A.deeper env):=
 {r.hd,by have:=r.dp;change A.depth+1+3*k+5<_;lia,by have:=r.un;change A.units+3+16*k+200<_;lia}
def Room.in1(r:Room (k+1) A):Room k A.in1:=
 {r.hd,by have:=r.dp;lia,by have:=r.un;lia}
def ZT7{A:Around}{C:Addr}{us:Ag}{kw:List (Str×Value)}:(A.under (.builtin "type.__call__" {.ref C::us,kw})).depth=A.depth+1:=by
 first|rfl|simp[Around.under,Code.weight,Code.isCreation,Code.isGuard,Code.isCaller,Code.frames,Code.isFrame,guardIds]
def ZS7{A:Around}{C:Addr}{us:Ag}{kw:List (Str×Value)}:(A.under (.builtin "type.__call__" {.ref C::us,kw})).units=A.units+1:=by
 first|rfl|simp[Around.under,Code.cUnits,Code.frames,Code.isFrame]
def Room.make(r:Room (k+1) A)(C:Addr)(us:Ag)(kw:List (Str×Value)):Room k (A.under (.builtin "type.__call__" {.ref C::us,kw})):=
 {r.hd,by have:=r.dp;rw[ZT7];lia,by have:=r.un;rw[ZS7];lia}
def Room.depth(r:Room k A):A.depth<recursionLimit:=by have:=r.dp;lia
def Room.units(r:Room k A):A.units+64<cLine:=by have:=r.un;lia
def JQ:(TA):=λ_ H Q=>Q [] H
def JP(ta:TE)(tr:TA):(TA):=λσ H Q=>ta σ H λx H1=>tr σ H1 λxs H2=>Q (x::xs) H2
section
variable{X:Cx}{e:Expr}{es:List Expr}{te:TE}{t:TA}{pos:Pos}
def XW:PA X [] JQ:=λ_ _ _ _ H Q I h=>sf {[],H,I,.nil,h}
def XX(ha:PE X e te)(hr:PA X es t)(hs:autoParam (starEach (e::es) X.X=(false,eval e X.X)::starEach es X.X) D1._auto_1):PA X (e::es) (JP te t):=by intro pos pins s σ H Q I h;rw[hs];show sr (thn (ha pins s σ H _ I h) λu s1 XB=>?_);let(x,H1,I1,r1,q1):=XB;show thn (hr pos pins s1 σ H1 _ I1 q1) λus s2 zz=>by let(xs,H2,I2,r2,q2):=zz;exists x::xs,H2,I2,.cons r1 r2,q2
inductive xTup(xs:List V)(H1:Hp)(Q:VK):Prop
 |mk (_:xs.f<=sizeLine) (_:∀p,H1 p=none->Q ↑p (upd H1 p<|.tup xs))
def qL(t:TA):(TE):=λσ H Q=>t σ H λxs H1=>xTup xs H1 Q
inductive xLst(xs:List V)(H1:Hp)(Q:VK):Prop
 |mk (_:xs.f<=sizeLine) (_:∀p,H1 p=none->Q ↑p (upd H1 p<|.lst xs))
def qK(t:TA):(TE):=λσ H Q=>t σ H λxs H1=>xLst xs H1 Q
def ZZ{x1}(h:PA X es t):PE X (.Tuple es x1 pos) (qL t):=by
 intro pins s σ H Q I hq;show wpAny_Tuple_spliced (thn (h pos pins s σ H _ I hq) λus s1 ⟨xs,H1,I1,r,z,q⟩=>{by rw[<-r.f];show z,?_});let hf:H1 (~~~s1)=none:=I1.hok.fresh (XI _)
 exists .ref (~~~s1),upd H1 (~~~s1)<|.tup xs,I1.laid (t':=s1.toks) (λb u e=>Xl _ e) (XI _) ?_,Z,q _ hf;exists z,us,r,{_,Qd _ Z,Z,_,Z}
def WR(h:PA X es t):PE X (.List es pos) (qK t):=by
 intro pins s σ H Q I hq;show wpAny_List_spliced (thn (h pos pins s σ H _ I hq) λus s1 ⟨xs,H1,I1,r,z,q⟩=>{by rw[<-r.f];show z,?_});let hf:H1 (~~~s1)=none:=I1.hok.fresh (XI _)
 exists .ref (~~~s1),upd H1 (~~~s1)<|.lst xs,I1.laid (t':=s1.toks) (λb u e=>Xl _ e) (XI _) ?_,Z,q _ hf;exists z,us,0,r,Qd _ Z
end
abbrev Sp:=List V->Hp->VK->XK->Prop
abbrev Rj:=List Env->Hp->Shared->XK->Ae
structure Env0(P:Program)(w:World)(K:Ad)(mg:Af)(base:Heap)(A:Around)(outer:List Env)(s:Shared)(H:Hp):Prop where
 frames:A.frames=some outer
 mod:Mod K mg base
 bs:∀b o,base.E b=some o->s.r.E b=some o/\H b=none
 bsz:base.objs.o<=(~~~s)
 funs:s.r.FunFrames base outer
 frf:∀b∈TJ outer,H b=none
 hok:HOk P w H s.r
 bare:AllBare s.gens
def CE(outer:List Env)(P:Program)(w:World)(H:Hp)(s:Shared)(Q:VK)(u:Value)(s':Shared):(Prop):=
 ∃v H',s'.os=s.os/\AllBare s'.gens/\Un (TJ outer) [] H H' s.r s'.r/\HOk P w H' s'.r/\RelV v u/\Q v H'
def CR(CX:Rj)(outer:List Env)(P:Program)(w:World)(H:Hp)(s:Shared)(Q:VK)(E:XK)(r:Result)(s':Shared):(Prop):=
 match r with
 | .ok (.ret u)=>CE outer P w H s Q u s'
 | .ok _=>False
 | .error e=>CX outer H s E e s'
structure FnOk(P:Program)(w:World)(K:Ad)(mg:Af)(base:Heap)(CX:Rj)(k:Nat)(f:Addr)(fd:FuncData)(ps:List Str)(sp:Sp):Prop where
 len:∀vs H Q E,sp vs H Q E->vs.f=ps.f
 run:∀(A:Around)(outer:List Env)(s:Shared)(H:Hp)(args:Args)(us:Ag)(vs:List V)(Q:VK)(E:XK),Room k A->Env0 P w K mg base A outer s H->BindsTo s fd args (ps.zip us)->Vals vs us->sp vs H Q E->
  codeAny (model P w) A (.call ↑f args) (CR CX outer P w H s Q E) s
def FnOk.imp{P:Program}{w:World}{K:Ad}{mg:Af}{base:Heap}{CX:Rj}{k:Nat}{f:Addr}{fd:FuncData}{ps:List Str}{sp bh:Sp}(F:FnOk P w K mg base CX k f fd ps sp)
  (h:∀vs H Q E,bh vs H Q E->sp vs H Q E):FnOk P w K mg base CX k f fd ps bh:=
 {λvs H Q E q=>F.len vs H Q E<|h _ _ _ _ q,λA outer s H args us vs Q E hr he hb hv hs=>F.run A outer s H args us vs Q E hr he hb hv<|h _ _ _ _ hs}
def Env0.make{P:Program}{w:World}{K:Ad}{mg:Af}{base:Heap}{A:Around}{outer:List Env}{s:Shared}{H:Hp}(e:Env0 P w K mg base A outer s H)(C:Addr)(us:Ag)(kw:List (Str×Value)):
  Env0 P w K mg base (A.under<|.builtin "type.__call__" {.ref C::us,kw}) outer s H:={by first|show e.frames|(simpa[Around.under,Code.envs,Code.isFrame,pushEnvs] using e.frames),e.mod,e.bs,e.bsz,e.funs,e.frf,e.hok,e.bare}
def Env0.in1{P:Program}{w:World}{K:Ad}{mg:Af}{base:Heap}{A:Around}{outer:List Env}{s:Shared}{H:Hp}(e:Env0 P w K mg base A outer s H):
  Env0 P w K mg base A.in1 outer s H:=⟨e.frames,e.mod,e.bs,e.bsz,e.funs,e.frf,e.hok,e.bare⟩
section
variable{X:Cx}{pins:List (Addr×Obj)}{σ:St}{H:Hp}{s s':Shared}
def Inv.env0(I:Inv X pins σ H s):Env0 X.prog X.w X.K X.mg X.base X.A X.stack s H:=
 {I.ok.frames,I.ok.mod,I.bs,Yl I.ok.bsz I.sz,I.stack,I.stkFree,I.hok,I.bare}
def Inv.after(I:Inv X pins σ H s)(h:CE X.stack X.prog X.w H s Q u s'):EP X pins σ Q u s':=by let(v,H',os,bare,un,hok,r,q):=h;let(hh,g,d,t,qJ):=s';let rfl:qJ=s.os:=os;exists v,H',I.call (h':=hh) (g':=g) (d':=d) (t':=t) (ch:=[]) un hok bare λb z=>absurd z Fe,r,q
end
def Ez(sp:Sp)(Su:List V)(E:XK)(t:TA):(TE):=λσ H Q=>t σ H λvs H1=>sp (vs++Su) H1 Q E
def Ey(C:Addr)(sp:Sp)(Su:List V)(E:XK)(t:TA):(TE):=λσ H Q=>t σ H λvs H1=>∀x dx,H1 x=none->H1 dx=none->dx≠x->
 sp (.ref x::(vs++Su)) (upd (upd H1 dx<|.own x) x<|.ins C dx []) (λv H2=>v=.non/\Q ↑x H2) E
def Binds(K:Ad)(fd:FuncData)(ps:List Str)(ds:Ag):(Prop):=
 ∀(s:Shared)(us:Ag),K.In s.r->(us++ds).f=ps.f->BindsTo s fd {us,[]} (ps.zip<|us++ds)
def Binds.all{K:Ad}{fd:FuncData}{ps:List Str}(h:∀us:Ag,us.f=ps.f->bindArgs fd {us,[]}=pure (ps.zip us)):Binds K fd ps []:=λs us _ hl=>by rw[YS]at hl ⊢;show .of_eq (h us hl)
def GS(CX:Rj)(X:Cx)(E:XK):(Prop):=∀(pins:List (Addr×Obj))(σ:St)(H:Hp)(s:Shared)(e:Value)(s':Shared),Inv X pins σ H s->CX X.stack H s E e s'->X.xe e s'
section
variable{X:Cx}{CX:Rj}{k:Nat}{f C:Addr}{fd:FuncData}{ps:List Str}{sp:Sp}{Su:List V}{ds:Ag}{E:XK}{x:Str}{p pos:Pos}{e:Expr}{es:List Expr}{t:TA}
def qI(F:FnOk X.prog X.w X.K X.mg X.base CX k f fd ps sp)(hr:Room k X.A)(hb:Binds X.K fd ps ds)(hd:Vals Su ds)(hx:GS CX X E)
  (I:Inv X pins σ H s)(r:Vals vs us)(h:sp (vs++Su) H Q E):wpAny (model X.prog X.w) X.A (call ↑f us) (EP X pins σ Q) X.xe s:=by
 let r2:Vals (vs++Su) (us++ds):=r.append hd;let hl:(us++ds).f=ps.f:=by rw[<-r2.f];show F.len _ _ _ _ h
 show Fi (LO (F.run X.A X.stack s H {us,[]} (us++ds) (vs++Su) Q E hr I.env0 (hb s us I.kIn hl) r2 h) λr s' hq=>?_);cases r with
 |error e=>show hx pins σ H s e s' I hq
 |ok fl=>
  cases fl with
  |ret u=>show I.after hq
  |next=>show False.elim hq
  |brk=>show False.elim hq
  |cont=>show False.elim hq
def Qx(F:FnOk X.prog X.w X.K X.mg X.base CX k f fd ps sp)(hr:Room k X.A)(hg:Gl X x)(hm:X.mg x=some ↑f)(hk:PySem.W.keepIn X.K ↑f=true)(hb:Binds X.K fd ps ds)(hd:Vals Su ds)(hx:GS CX X E)
  (ha:PA X (e::es) t)(Ss:autoParam ((x == ("__debug__":Str))=false) D0._auto_1)(he:autoParam (starEach (e::es) X.X=(false,eval e X.X)::starEach es X.X) D1._auto_1)(Us:autoParam ((backTo pos<|starEach es X.X).any (·.1)=false) D1._auto_1):
  PE X (.Call (.Name x p) (e::es) [] pos) (Ez sp Su E t):=by intro pins s σ H Q I h;show OA (JZ I hg hm ?_ Ss);show PySem.W.callWith_K (h₀:=X.base) I.ok.mod.kin hk (thn (ha pos pins s σ H _ I h) λus s1 ⟨vs,H1,I1,r,q⟩=>{I1.kIn,?_}) he Us;show qI F hr hb hd hx I1 r q
structure Mk(K:Ad)(C f:Addr):Prop where
 makes:PySem.W.makesIn K C=true
 init:PySem.W.findIn K ↑C "__init__"=some (some<|.ref f)
 fn:PySem.W.isFn K ↑f=true
 kp:PySem.W.keepIn K ↑C=true
def qH(M:Mk X.K C f)(F:FnOk X.prog X.w X.K X.mg X.base CX k f fd ps sp)(hr:Room (k+1) X.A)(hb:Binds X.K fd ps ds)(hd:Vals Su ds)
  (hx:GS CX X E)(I:Inv X pins σ H s)(r:Vals vs us)
  (h:∀x dx,H x=none->H dx=none->dx≠x->sp (.ref x::(vs++Su)) (upd (upd H dx<|.own x) x<|.ins C dx []) (λv H2=>v=.non/\Q ↑x H2) E):
  wpAny (model X.prog X.w) X.A (call ↑C us) (EP X pins σ Q) X.xe s:=by
 let hq:=h ((~~~s)+1) (~~~s) (I.hok.fresh<|Ts _) (I.hok.fresh<|XI _) (Yw<|Ho _);let I2:=Inv.made (C:=C) I
 let r2:Vals (V.ref ((~~~s)+1)::(vs++Su)) (Value.ref ((~~~s)+1)::(us++ds)):=.cons Z (r.append hd);let hl:(Value.ref ((~~~s)+1)::us++ds).f=ps.f:=by let e:=r2.f;rw[F.len _ _ _ _ hq]at e;show e.symm
 show Fi (qP (f:=f) I.kIn M.makes M.init (wF.R M.fn) (LO (F.run _ X.stack _ _ {Value.ref ((~~~s)+1)::us,[]} (Value.ref ((~~~s)+1)::(us++ds)) _ _ E (hr.make C us [])
  (I2.env0.make C us []) (hb _ (Value.ref ((~~~s)+1)::us) I2.kIn hl) r2 hq) λr s' Ex=>?_))
 cases r with
 |error e=>show hx pins σ _ _ e s' I2 Ex
 |ok fl=>
  cases fl with
  |ret u=>
   let(v,H',I3,rv,ev,q3):=I2.after Ex;subst ev;exists rv,{V.ref<|(~~~s)+1,H',I3,Z,q3}
  |next=>show False.elim Ex
  |brk=>show False.elim Ex
  |cont=>show False.elim Ex
def JO(M:Mk X.K C f)(F:FnOk X.prog X.w X.K X.mg X.base CX k f fd ps sp)(hr:Room (k+1) X.A)(hg:Gl X x)(hm:X.mg x=some ↑C)(hb:Binds X.K fd ps ds)(hd:Vals Su ds)(hx:GS CX X E)
  (ha:PA X (e::es) t)(Ss:autoParam ((x == ("__debug__":Str))=false) D0._auto_1)(he:autoParam (starEach (e::es) X.X=(false,eval e X.X)::starEach es X.X) D1._auto_1)(Us:autoParam ((backTo pos<|starEach es X.X).any (·.1)=false) D1._auto_1):
  PE X (.Call (.Name x p) (e::es) [] pos) (Ey C sp Su E t):=by intro pins s σ H Q I h;show OA (JZ I hg hm ?_ Ss);show PySem.W.callWith_K (h₀:=X.base) I.ok.mod.kin M.kp (thn (ha pos pins s σ H _ I h) λus s1 ⟨vs,H1,I1,r,q⟩=>{I1.kIn,?_}) he Us;show qH M F hr hb hd hx I1 r q
end
structure FnScope(N P:List Str)(sc:Scope):Prop where
 kind:sc.kind=.function
 co:sc.isCoroutine=false
 gen:sc.isGenerator=false
 nd:N.Nodup
 pre:N.M P.f=P
 par:∀x∈P,sc.names.S x=some .local\/sc.names.S x=some .cell
 nofree:∀y∈sc.names,y.2≠.free
def bg{kindOf:Str->Option NameKind}:∀{binds:List (Str×Value)}{m:Af},(∀v,(x,v)∉binds)->bindL kindOf binds m x=m x
 |[],_,_=>rfl
 | (n,v)::r,m,h=>by
  unfold bindL;rw[bg λw hw=>h w (Yf _ hw)];split
  .grind
  .rfl
def bb{kindOf:Str->Option NameKind}:∀{binds:List (Str×Value)}{m:Af},(∀v,(x,v)∉binds)->bindC kindOf binds m x=m x
 |[],_,_=>rfl
 | (n,v)::r,m,h=>by
  unfold bindC;rw[bb λw hw=>h w (Yf _ hw)];split
  .rfl
  grind
def ba{kindOf:Str->Option NameKind}{x:Str}{v:Value}:∀{P:List Str}{vs:Ag}{i:Nat}{m:Af},P.Nodup->P[i]?=some x->vs[i]?=some v->kindOf x=some .local->
  bindL kindOf (P.zip vs) m x=some v
 |[],_,_,_,_,h,_,_=>by simp at h
 |_::_,[],_,_,_,_,h,_=>by simp at h
 |p::P,w::vs,0,m,nd,h1,h2,hk=>by
  simp at h1 h2;subst h1;subst h2;change bindL kindOf ((p,w)::P.zip vs) m p=_
  unfold bindL;rw[bg λv hv=>(QA.R nd).1 (sy hv).1,Yi hk];simp
 |p::P,w::vs,i+1,m,nd,h1,h2,hk=>by change bindL kindOf ((p,w)::P.zip vs) m x=_;show ba (i:=i) (QA.R nd).2 (by simpa using h1) (by simpa using h2) hk
def a9{kindOf:Str->Option NameKind}{x:Str}{v:Value}:∀{P:List Str}{vs:Ag}{i:Nat}{m:Af},P.Nodup->P[i]?=some x->vs[i]?=some v->kindOf x≠some .local->
  bindC kindOf (P.zip vs) m x=some v
 |[],_,_,_,_,h,_,_=>by simp at h
 |_::_,[],_,_,_,_,h,_=>by simp at h
 |p::P,w::vs,0,m,nd,h1,h2,hk=>by
  simp at h1 h2;subst h1;subst h2;change bindC kindOf ((p,w)::P.zip vs) m p=_
  unfold bindC;rw[bb λv hv=>(QA.R nd).1 (sy hv).1,Yh hk];simp
 |p::P,w::vs,i+1,m,nd,h1,h2,hk=>by change bindC kindOf ((p,w)::P.zip vs) m x=_;show a9 (i:=i) (QA.R nd).2 (by simpa using h1) (by simpa using h2) hk
def start(N:List Str)(vs:List V):(St):=vs.H some++List.U (N.f-vs.f) none
def Ud(CX:Rj)(P:Program)(w:World)(K:Ad)(mg:Af)(base:Heap)(N:List Str)(qual:Str)(scope:Scope)(f:Addr)(cd:Value)(A:Around)(outer:List Env)(s:Shared)(H:Hp)(E:XK):(Cx) where
 prog:=P
 w:=w
 K:=K
 mg:=mg
 base:=base
 A:=A.deeper (envOfC qual scope (~~~s) f cd)
 N:=N
 s₀:=s
 H₀:=H
 env:=envOfC qual scope (~~~s) f cd
 outer:=outer
 stack:=envOfC qual scope (~~~s) f cd::outer
 ex:=[]
 calm:=true
 fn:=λ_=>true
 pn:=[]
 xe:=λe s'=>wpAny (model P w) (A.deeper<|envOfC qual scope (~~~s) f cd) (leaving (envOfC qual scope (~~~s) f cd) e) (λ_ SM=>CX outer H s E e SM) (λe' SM=>CX outer H s E e' SM) s'
def a8{sc:Scope}(h:sc.names.S x=some .cell):∃c,(cellsFrom n sc.names []).S x=some c:=by let q:=bZ sc.names n [] (.inl h);show Km.R q
def ZL9{CX:Rj}{P:Program}{w:World}{K:Ad}{mg:Af}{base:Heap}{N ps:List Str}{qual:Str}{scope:Scope}{f:Addr}{cd:Value}{A:Around}{outer:List Env}{s s1:Shared}{H:Hp}{E:XK}{us:Ag}{vs:List V}
  (S:FnScope N ps scope)(hd:A.handled=none)(e0:Env0 P w K mg base A outer s H)(hl:vs.f=ps.f)(r:Vals vs us)
  (x:InCallC s (~~~s) (bindL (envOfC qual scope (~~~s) f cd).kindOf (ps.zip us) λ_=>none) (cellsFrom ((~~~s)+1) scope.names []) (bindC (envOfC qual scope (~~~s) f cd).kindOf (ps.zip us) λ_=>none) s1):
  Inv (Ud CX P w K mg base N qual scope f cd A outer s H E) [] (start N vs) H s1:=by
 let Us:ps.f<=N.f:=by have:=YF List.f S.pre;rw[Yu]at this;lia
 let(h1,tk,rfl,hk):=x.done;let JN:∀b:Addr,b∉(Ud CX P w K mg base N qual scope f cd A outer s H E).ex:=λb z=>absurd (show b∈([]:List Addr) from z) Fe
 show⟨{e0.mod,S.kind,Z,Z,XI _,λy z c h1 h2=>?_,λy hy=>?_,λy c _ h=>?_,λ_=>hd,Around.frames_deeper e0.frames,.inr ⟨Z,Z⟩,λb z=>absurd z<|JN b,e0.bs,e0.bsz,λb _ _=>JN b,λb z=>absurd z<|JN b,e0.funs,e0.frf},
  rfl,e0.bare,Un.kept hk,{_,x.toInCall.ns,λi y v h1 h2 h3=>?_},λy c h=>{_,x.cell y c h},e0.hok.fresh<|XI _,λy c h=>?_,λp hp=>absurd (show p∈([]:List (Addr×Obj)) from hp) Fe,e0.hok.kept hk,?_⟩
 .show name_of_addr x.apart (Ky h1) (Ky h2)
 .rcases hy with hy|hy
  .show a8 hy
  .show absurd Z (S.nofree _<|Ky hy)
 .show Ow (x.above y c<|Ky h)
 .let hi:i<vs.f:=by
   unfold start at h2;cases hi:i<vs.f
   .show hi
   .grind
  let ha:vs[i]?=some v:=by
   unfold start at h2;rw[YG (by simpa using hi),Yn]at h2;cases e:vs[i]? with
   |none=>simp_all
   |some a=>simp_all
  let(u,hu,rv):=r.get ha;let hp:ps[i]?=some y:=by rwa[<-S.pre,cg (by simp_all)]
  let aZ:ps.Nodup:=by rw[<-S.pre];show S.nd.sublist (sH _ _)
  exists u,rv,?_;rcases S.par y (Xf hp) with k|k
  .show .inl {k,ba aZ hp hu k}
  .let⟨c,e⟩:=a8 (n:=(~~~s)+1) k;show .inr {.inl k,c,e,?_};let q:=x.cell y c e
   rwa[a9 aZ hp hu (by change scope.names.S y≠_;lia)]at q
 .show e0.hok.fresh (Ow<|x.above y c<|Ky h)
 .unfold start;change _=N.f
  simp_all
def Ew{CX:Rj}{P:Program}{w:World}{K:Ad}{mg:Af}{base:Heap}{k:Nat}{f:Addr}{name qual:Str}{params:Arguments}{body:List Stmt}{scope:Scope}{dV kV doc pm XF ct oc:Value}{an od:Option Addr}
  {TB:Array (Option Value)}{N ps:List Str}{sp:Sp}(lk:K.S f=some {oc,od,.func<|PySem.W.fnOf name qual params body scope dV kV doc pm an XF ct,TB})(SN:PySem.W.codeIn K XF qual=true)(S:FnScope N ps scope)
  (len:∀vs H Q E,sp vs H Q E->vs.f=ps.f)
  (VE:∀(A:Around)(outer:List Env)(s:Shared)(H:Hp)(vs:List V)(Q:VK)(E:XK),Room k (A.deeper<|envOfC qual scope (~~~s) f XF)->sp vs H Q E->
   ∃t,PSs (Ud CX P w K mg base N qual scope f XF A outer s H E) body t/\t {nx:=λ_ H'=>Q .non H',rt:=Q} (start N vs) H):
  FnOk P w K mg base CX (k+1) f (PySem.W.fnOf name qual params body scope dV kV doc pm an XF ct) ps sp:=by
 exists len,λA outer s H args us vs Q E hr e0 hb r Uc=>?_;let hl:=len _ _ _ _ Uc
 let KX:K.In s.r:=e0.mod.kin.keeps λb o e=>(e0.bs b o e).1;let lim:s.r.NoLimit:=e0.mod.nolimit.keeps λb o e=>(e0.bs b o e).1
 let Eu:∀y∈ps.zip us,scope.names.S y.1=some .local\/(scope.names.S y.1=some .cell/\((cellsFrom ((~~~s)+1) scope.names []).S y.1).isSome=true):=λ⟨n,v⟩ hy=>by
  rcases S.par n (sy hy).1 with q|q
  .show .inl q
  .show .inr {q,bZ _ _ _<|.inl q}
 show codeAny_call_function hr.depth (KX _ _ lk) Z S.co S.gen Z (PySem.W.codeRec_of KX SN) (hb _ _ _ _ ?_);show wpAny_newFunctionEnv_cells S.kind Eu λenv he s1 x=>?_;subst he;exists lim.keeps x.toInCall.keep,codeAny_func ?_;let(t,ht,hq):=VE A outer s H vs Q E (hr.deeper _) Uc;let I:Inv (Ud CX P w K mg base N qual scope f XF A outer s H E) [] (start N vs) H s1:=ZL9 S hr.hd e0 hl r x
 show Tq (ht [] s1 (start N vs) H _ I hq) (λfl s' hs=>?_) λe s' hs=>hs;let fin:∀{σ':St}{H':Hp}{v:V}{u:Value},Inv (Ud CX P w K mg base N qual scope f XF A outer s H E) [] σ' H' s'->RelV v u->Q v H'->CE outer P w H s Q u s':=
  λ{σ' H' v u} rG rv q=>⟨v,H',rG.os,rG.bare,rG.base,rG.hok,rv,q⟩
 cases fl with
 |ret u=>
  let(v,σ',H',rG,rv,q):=hs;show fin rG rv q
 |next=>
  let(σ',H',rG,q):=hs;show fin (v:=V.non) (u:=Value.none) rG Z q
 |brk=>
  let(_,_,_,q):=hs;show False.elim q
 |cont=>
  let(_,_,_,q):=hs;show False.elim q
section
variable{X:Cx}{x:Str}{p pos:Pos}{e:Expr}{es:List Expr}{t:TA}{id T:String}{r:List V->Hp->VK->Prop}
def aY(r:List V->Hp->VK->Prop)(t:TA):(TE):=λσ H Q=>t σ H λvs H1=>r vs H1 Q
def Zc(hc:VF X (.builtin id) r)(hg:Gl X x)(hm:X.mg x=none)(hv:bootBuiltins x=some (.builtin id))(ha:PA X (e::es) t)(hn:autoParam (x≠"__name__") D0._auto_1)(Ss:autoParam ((x == ("__debug__":Str))=false) D0._auto_1)
  (he:autoParam (starEach (e::es) X.X=(false,eval e X.X)::starEach es X.X) D1._auto_1)(Us:autoParam ((backTo pos<|starEach es X.X).any (·.1)=false) D1._auto_1):PE X (.Call (.Name x p) (e::es) [] pos) (aY r t):=by intro pins s σ H Q I h;show OA (Rp I hg hm hv ?_ hn Ss);show cD (thn (ha pos pins s σ H _ I h) λus s1 zz=>by let(vs,H1,I1,r1,q1):=zz;show hc pins s1 σ H1 vs us Q I1 r1 q1) he Us
def Zl(hc:VF X (.type T) r)(hg:Gl X x)(hm:X.mg x=none)(hv:bootBuiltins x=some (.type T))(ha:PA X (e::es) t)(hn:autoParam (x≠"__name__") D0._auto_1)(Ss:autoParam ((x == ("__debug__":Str))=false) D0._auto_1)
  (he:autoParam (starEach (e::es) X.X=(false,eval e X.X)::starEach es X.X) D1._auto_1)(Us:autoParam ((backTo pos<|starEach es X.X).any (·.1)=false) D1._auto_1):PE X (.Call (.Name x p) (e::es) [] pos) (aY r t):=by intro pins s σ H Q I h;show OA (Rp I hg hm hv ?_ hn Ss);show Uj (thn (ha pos pins s σ H _ I h) λus s1 zz=>by let(vs,H1,I1,r1,q1):=zz;show hc pins s1 σ H1 vs us Q I1 r1 q1) he Us
end
end L2
namespace HT
open PySem PyProof.Rows
def lexLt:(Ac->Ac->Bool)
 |[],[]=>false
 |[],_::_=>true
 |_::_,[]=>false
 |x::xs,y::ys=>if x=y then lexLt xs ys else decide (x<y)
def Xu(x y:Int)(xs ys:Ac):lexLt (x::xs) (y::ys)=if x=y then lexLt xs ys else decide (x<y):=rfl
section
variable{prog:Program}{w:World}{A:Around}{E:Ae}{s:Shared}
def Nt{vs ws:Ag}{Q:Ae}(ht:IsTup s.r t vs.C)(hb:IsTup s.r b ws.C)(hv:vs≠[])
  (h1:ws=[]->Q ↑t s)(h2:ws≠[]->Q (.ref (~~~s)) {s with heap:=s.r.push {cls:=.type "tuple",data:=.seq (vs++ws).C} })
  (hsz:vs.f+ws.f<=sizeLine):wpAny (model prog w) A (binaryOp .Add ↑t<|.ref b) Q E s:=by
 let((cls,dd,data,sl),ho,hc,n,hd):=id ht;let((qG,wa,data2,vZ),Ub,Vn,n2,hd2):=id hb;subst hc hd Vn hd2;let e:vs.C++ws.C=(vs++ws).C:=Fe
 cases hw:ws=[]
 .show concat_meets {_,ho,Z} {_,Ub,Z} r9 seq_tuple_add sX Kj (tf _ _)
   (tuple_addW1 t b vs.C ws.C n n2 dd wa sl vZ (by simpa using hv)<|by simp[hw]) {ho,Ub,h1 hw}
 .show concat_meets {_,ho,Z} {_,Ub,Z} r9 seq_tuple_add sX Kj (tf _ _)
   (tuple_addW2 t b vs.C ws.C n n2 dd wa sl vZ (by simp_all) (by simp_all)<|by show hsz) ⟨ho,Ub,?_⟩
  rw[e];show h2 hw
def UB(n d:Nat):(Option Int->Nat)
 |none=>d
 |some v=>if v<0 then (v+(n:Int)).j else min v.j n
def VD(n d:Nat):UB n d none=d:=rfl
end
end HT
namespace L2
open PySem PySem.Spec PyProof.Rows
abbrev TO:=St->Hp->(Option Int->Hp->Prop)->Prop
def PO(X:Cx)(e:Option Expr)(t:TO):(Prop):=
 ∀(pins:List (Addr×Obj))(s:Shared)(σ:St)(H:Hp)(Q:Option Int->Hp->Prop),Inv X pins σ H s->t σ H Q->
  wpAny (model X.prog X.w) X.A (evalPart e X.X) (λu s'=>∃o H',Inv X pins σ H' s'/\IsPart u o/\Q o H') X.xe s
def qF:(TO):=λ_ H Q=>Q none H
inductive xPart(x:V)(H1:Hp)(Q:Option Int->Hp->Prop):Prop
 |mk (i:Int) (_:x=.int i) (_:Q (some i) H1)
def Et(t:TE):(TO):=λσ H Q=>t σ H λx H1=>xPart x H1 Q
section
variable{X:Cx}{e:Expr}{te:TE}{lo hi:Option Expr}{tl th:TO}{pos p2:Pos}
def Sr:PO X none qF:=by intro pins s σ H Q I h;show Ye ⟨none,H,I,.none,h⟩
def Wd(h:PE X e te):PO X (some e) (Et te):=by intro pins s σ H Q I hw;show thn (h pins s σ H _ I hw) λu s1 XB=>?_;let(x,H1,I1,r1,q1):=XB;let(i,rfl,q):=q1;let(t,rfl):=r1;exists some i,H1,I1,.int i t,q
def vY(X:Cx)(r:V->Option Int->Option Int->Hp->VK->Prop):(Prop):=
 ∀(pins:List (Addr×Obj))(s:Shared)(σ:St)(H:Hp)(x:V)(v vl vu:Value)(lo hi:Option Int)(sl:Addr)(Q:VK),Inv X pins σ H s->RelV x v->s.r.IsSliceOf sl vl vu .none->IsPart vl lo->IsPart vu hi->r x lo hi H Q->
  ∃T id,typeLookup (.type T) "__getitem__"=pure (some<|.builtin id)/\s.TypeIs v T/\wpAny (model X.prog X.w) X.A (getItem v<|.ref sl) (EP X pins σ Q) X.xe s
def tSl(r:V->Option Int->Option Int->Hp->VK->Prop)(te:TE)(tl th:TO):(TE):=λσ H Q=>te σ H λx H1=>tl σ H1 λl H2=>th σ H2 λu H3=>r x l u H3 Q
def ZQ{r:V->Option Int->Option Int->Hp->VK->Prop}(hr:vY X r)(he:PE X e te)(hl:PO X lo tl)(hu:PO X hi th):PE X (.Subscript e (.Slice lo hi none p2) pos) (tSl r te tl th):=by
 intro pins s σ H Q I h;show Subscript_ (thn (he pins s σ H _ I h) λv s1 XB=>?_);let(x,H1,I1,r1,q1):=XB;show wpAny_Slice (thn (hl pins s1 σ H1 _ I1 q1) λvl s2 zz=>?_);let(l,H2,I2,pl,q2):=zz;show thn (hu pins s2 σ H2 _ I2 q2) λvu s3 XB=>?_;let(u,H3,I3,pu,q3):=XB;show Ye ?_;let I4:Inv X pins σ H3 {s3 with heap:=s3.r.push {cls:=.type "slice",data:=.fields #[vl,vu,.none]} }:=I3.kept (t':=s3.toks) λb ob q=>Xl _ q
 let(T,id,hT,ht,hg):=hr pins {s3 with heap:=s3.r.push {cls:=.type "slice",data:=.fields #[vl,vu,.none]} } σ H3 x v vl vu l u (~~~s3) Q I4 r1 (Heap.IsSliceOf.new ..) pl pu q3;show tail_any (ops:=[.ref (~~~s3),v]) ht hT hg (by with_unfolding_all rfl)
def XG(xs:List V)(lo hi:Option Int):(List V):=(xs.drop<|HT.UB xs.f 0 lo).M (HT.UB xs.f xs.f hi-HT.UB xs.f 0 lo)
def Es(xs:List V)(lo hi:Option Int):(XG xs lo hi).f<=xs.f:=by unfold XG;rw[Yu,RZ];lia
def Er(K:Ad):(R2):=λx y H Q=>∃a b xs ys,x=.ref a/\y=.ref b/\SqT K H a xs/\SqT K H b ys/\xs≠[]/\xs.f+ys.f<=sizeLine/\
 (ys=[]->Q ↑a H)/\(ys≠[]->∀p,H p=none->Q ↑p (upd H p<|.tup<|xs++ys))
def Vals.nil_iff(r:Vals xs us):us=[]↔xs=[]:=by
 cases r with
 |nil=>simp
 |cons _ _=>simp
def qE:Wy X (binaryOp .Add) (Er X.K):=by intro pins s σ H x y v u Q I rx ry h;let(a,b,xs,ys,rfl,rfl,ha,hb,hx,hz,q1,q2):=h;cases rx;cases ry;let(XS,r1,p1,_):=I.tuple ha;let(Vs,r2,p2,_):=I.tuple hb;show HT.Nt p1 p2 (λz=>hx<|r1.nil_iff.R z) (λz=>{.ref a,H,I,Z,q1<|r2.nil_iff.R z}) (λz=>?_) (by rwa[<-r1.f,<-r2.f]);exists .ref (~~~s),_,I.laid (t':=s.toks) (o:=.tup<|xs++ys) (λb ob q=>Xl _ q) (XI _) ?_,Z,q2 (λw=>z<|r2.nil_iff.mpr w) _<|I.hok.fresh<|XI _;exists by simp_all,_,r1.append r2,IsTup.new _ _
end
def Ri(n:Nat)(i:Int):(Option Nat):=if 0<=i then (if i<n then some i.j else none) else if -(n:Int)<=i then some (i+n).j else none
def Wk{α:Type}(xs:List α)(i:Int):(Option α):=(Ri xs.f i).bind λj=>xs[j]?
def Ep{j:Nat}(h:Ri n i=some j):seqIndex? i n=some j/\j<n/\-(n:Int)<=i/\i<n:=by
 unfold Ri at h;cases h0:0<=i
 .rw[Yi h0]at h;cases h1:i<n
  .rw[Yi h1]at h;let e:i.j=j:=Ym h
   exists by rw[seqIndex_of h0 h1,e],J,J,h1
  simp_all
 .rw[Yh h0]at h;cases h1:-(n:Int)<=i
  .rw[Yi h1]at h;let e:(i+n).j=j:=Ym h
   exists by rw[seqIndex_neg (by simp_all) h1,e],J,h1,J
  simp_all
def qD{α:Type}{xs:List α}{i:Int}{v:α}(h:Wk xs i=some v):∃j,seqIndex? i xs.f=some j/\xs[j]?=some v/\j<xs.f/\-xs⁻¹<=i/\i<xs.f:=by
 unfold Wk at h;cases e:Ri xs.f i with
 |none=>simp_all
 |some j=>
  rw[e]at h;let(h1,h2,h3,h4):=Ep e;exists j,h1,h,h2,h3,h4
def qC(b:Expr):(Prop):=∀o i,subscripted b false o i=operate [o,i] (getItem o i)
def GR(X:Cx)(r:R2):(Prop):=
 ∀(value slice:Expr)(pins:List (Addr×Obj))(s:Shared)(σ:St)(H:Hp)(x y:V)(v u:Value)(Q:VK),Inv X pins σ H s->RelV x v->RelV y u->r x y H Q->
  subscripted slice false v u=operate [v,u] (getItem v u)->wpAny (model X.prog X.w) X.A (subscriptTail value slice v u) (EP X pins σ Q) X.xe s
def vX(X:Cx)(id:String)(r:V->List V->Hp->VK->Prop):(Prop):=
 ∀(pins:List (Addr×Obj))(s:Shared)(σ:St)(H:Hp)(x:V)(xs:List V)(v:Value)(us:Ag)(Q:VK),Inv X pins σ H s->RelV x v->Vals xs us->r x xs H Q->
  wpAny (model X.prog X.w) X.A (call (.builtin id)<|v::us) (EP X pins σ Q) X.xe s
section
variable{X:Cx}{a b:Expr}{ta tb:TE}{pos:Pos}
def ZA(hr:GR X r)(ha:PE X a ta)(hb:PE X b tb)(hs:qC b):PE X (.Subscript a b pos) (we r ta tb):=by intro pins s σ H Q I h;show Subscript_ (JV ha hb I h λv u s2 x y H2 I2 rx ry q=>hr a b pins s2 σ H2 x y v u Q I2 rx ry q<|hs _ _)
inductive rIxL(K:Ad)(x:V)(y:V)(H:Hp)(Q:VK):Prop
 |mk (p xs i v:_) (_:x=.ref p) (_:y=.int i) (_:SqL K H p xs) (_:Wk xs i=some v) (_:Q v H)
inductive rIxT(K:Ad)(x:V)(y:V)(H:Hp)(Q:VK):Prop
 |mk (p xs i v:_) (_:x=.ref p) (_:y=.int i) (_:SqT K H p xs) (_:Wk xs i=some v) (_:Q v H)
def qB:(R2):=λx y H Q=>∃z i c,x=.str z/\y=.int i/\z.f<=sizeLine/\Wk z.cps.m i=some c/\Q (.str {#[c]}) H
def qA:GR X (rIxL X.K):=by
 intro value slice pins s σ H x y v u Q I rx ry h hs;let(p,xs,i,z,rfl,rfl,hq,he,q):=h;cases rx;let(t,rfl):=ry;let(XS,r,pl,hz):=I.list hq;let(j,h1,h2,h3,h4,h5):=qD he;let(w,ew,JM):=r.get h2;let hl:=r.f
 let hn:=JS;let fin:EP X pins σ Q w s:=⟨z,H,I,JM,q⟩
 cases h0:0<=i
 .let hj:i.j=j:=by rw[seqIndex_of h0 h5]at h1;show Ym h1
  show item_listR pl.isList h0 J B fin hs
 .let hj:(i+(XS.C.o:Int)).j=j:=by rw[seqIndex_neg (by simp_all) h4]at h1;rw[YR,<-hl];show Ym h1
  show subscriptTail_builtinR (x:=w) pl.isList.typeIs slot_list_getitem.S
   (wpAny_getItem_list_neg (Q:=λr s'=>r=w/\EP X pins σ Q r s') pl.isList B (by simp_all) J (by rw[hj];simpa using ew) ⟨Z,fin⟩) hs
def qz:GR X (rIxT X.K):=by
 intro value slice pins s σ H x y v u Q I rx ry h hs;let(p,xs,i,z,rfl,rfl,hq,he,q):=h;cases rx;let(t,rfl):=ry;let(XS,r,pl,hz):=I.tuple hq;let(j,h1,h2,h3,h4,h5):=qD he;let(w,ew,JM):=r.get h2;let hl:=r.f
 let hn:=JS;let fin:EP X pins σ Q w s:=⟨z,H,I,JM,q⟩
 show subscriptTail_builtinR (x:=w) pl.typeIs slot_tuple_getitem.S
  (getItem_tuple (j:=j) (Q:=λr s'=>r=w/\EP X pins σ Q r s') pl J J (by simp_all) (by simpa using ew) ⟨Z,fin⟩) hs
def qy:GR X qB:=by
 intro value slice pins s σ H x y v u Q I rx ry h hs;let(z,i,c,rfl,rfl,hz,he,q):=h;let(t,rfl):=rx;let(t',rfl):=ry;let(j,h1,h2,h3,h4,h5):=qD he;let hl:z.cps.m.f=z.f:=by simp[Str.length]
 rw[hl]at h1 h4 h5;let hn:=JS
 show tail_any (Ha s z t) slot_str_getitem.S (getItem_str (c:=c) (by
  lia) B {.str {#[c]},H,I.tok _,{_,Z},q}) hs
def ZR7(XS:Ag)(n j:Nat)(u:Value):Obj.mapSeq (·.setIfInBounds j u) {cls:=.type "list",data:=.seq XS.C n}={cls:=.type "list",data:=.seq (XS.set j u).C n}:=by simp[Obj.mapSeq]
def Inv.lst{pins:List (Addr×Obj)}{σ:St}{H:Hp}{s:Shared}{p:Addr}{xs:List V}(I:Inv X pins σ H s)(h:H p=some (.lst xs)):
  ∃(XS:Ag)(n:Nat),Vals xs XS/\s.r.E p=some {cls:=.type "list",data:=.seq XS.C n}/\xs.f<=sizeLine:=by let(z,XS,n,r,e):=I.hok p _ h;exists XS,n,r,e,z
def Inv.lstUpd{p:Addr}{xs ys:List V}{XS its':Ag}{f:Obj->Obj}(I:Inv X pins σ H s)(h:H p=some (.lst xs))
  (ho:s.r.E p=some {cls:=.type "list",data:=.seq XS.C n})(hf:f {cls:=.type "list",data:=.seq XS.C n}={cls:=.type "list",data:=.seq its'.C n'})(r:Vals ys its')(hz:ys.f<=sizeLine)(t:Nat):
  Inv X pins σ (upd H p<|.lst ys) {s with heap:=s.r.update p f,toks:=t}:=by
 let e:(s.r.update p f).E p=some {cls:=.type "list",data:=.seq its'.C n'}:=by rw[YZ f ho (by rw[hf]<;>rfl),hf]
 show I.write (x:=p) (e:=p) (by rw[h];trivial) (.inl Z) (λb u hb q=>(YJ _ _<|XH hb).l q) {_,e} ?_;exists hz,its',n',r,e
inductive rSetL(o:V)(i:V)(v:V)(H:Hp)(Q:Hp->Prop):Prop
 |mk (p xs k j:_) (_:o=.ref p) (_:i=.int k) (_:H p=some (.lst xs)) (_:Ri xs.f k=some j) (_:Q (upd H p<|.lst<|xs.set j v))
def Nr:JX X rSetL:=by
 intro pins s σ H o i v ov iv u Q I ro ri rv h;let(p,xs,k,j,rfl,rfl,hp,hj,q):=h;cases ro;let(t,rfl):=ri;let(XS,n,r,ho,hz):=I.lst hp;let(h1,h2,h3,h4):=Ep hj;let hl:=r.f
 let hn:=JS;let I':Inv X pins σ (upd H p<|.lst<|xs.set j v) {s with heap:=s.r.update p (Obj.mapSeq (·.setIfInBounds j u))}:=
  I.lstUpd hp ho (ZR7 XS n j u) (r.set rv j) (by simp_all) s.toks
 cases h0:0<=k
 .let hk:k.j=j:=by rw[seqIndex_of h0 h4]at h1;show Ym h1
  show PySem.W.ki_setAt ho h0 J (by simp_all) (by rw[hk];exists _,I',q)
 .let hk:(k+(XS.C.o:Int)).j=j:=by rw[seqIndex_neg J h3]at h1;rw[YR,<-hl];show Ym h1
  show PySem.W.ki_setBack ho B (by simp_all) J (by rw[hk];exists _,I',q)
def Eo(i:Int)(n:Nat):max 0 (min (if i<0 then i+n else i) n)=((if i<0 then (i+n).j else min i.j n:Nat):Int):=by
 cases h:i<0
 .rw[Yi h,Yi h,su J,Int.ofNat_toNat,Int.max_comm]
 .let⟨m,rfl⟩:=sY (Hc.R h);rw[Yh h,Yh h,YX];grind
def ZK4(lo hi:Option Int)(n:Nat):(sliceBounds lo hi none n).1=((HT.UB n 0 lo:Nat):Int)/\(sliceBounds lo hi none n).2.1=((HT.UB n n hi:Nat):Int)/\(sliceBounds lo hi none n).2.2=1:=by exists by cases lo<;>first|rfl|show Eo _ n,by cases hi<;>first|rfl|show Eo _ n,rfl
def qx(XS:Ag)(lo hi:Option Int):slicePick XS.C lo hi none=((XS.drop (HT.UB XS.f 0 lo)).M (HT.UB XS.f XS.f hi-HT.UB XS.f 0 lo)).C:=by let(h1,h2,h3):=ZK4 lo hi XS.C.o;unfold slicePick;rw[h1,h2,h3];simp only[sliceRange_one,pick_run,YR]<;>rfl
inductive rSlL(K:Ad)(x:V)(lo:Option Int)(hi:Option Int)(H:Hp)(Q:VK):Prop
 |mk (a xs:_) (_:x=.ref a) (_:SqL K H a xs) (_:∀p,H p=none->Q ↑p (upd H p<|.lst<|XG xs lo hi))
def qw:vY X (rSlL X.K):=by
 intro pins s σ H x v vl vu lo hi sl Q I rx hs pl pu h;let(a,xs,rfl,hx,q):=h;cases rx;let(XS,r,ht,hz):=I.list hx;let hlen:=r.f
 exists "list",_,slot_list_getitem.S,ht.isList.typeIs,?_;show wpAny_getItem_list_slice ht.isList hs pl pu .none Fe ?_ (by simp_all);rw[qx,<-hlen];exists .ref (~~~s),_,I.laid (t':=s.toks) (o:=.lst<|XG xs lo hi) (λb ob q=>Xl _ q) (XI _) ?_,Z,q _<|I.hok.fresh<|XI _;exists Yl (Es xs lo hi) hz,_,0,(r.drop<|HT.UB xs.f 0 lo).M (HT.UB xs.f xs.f hi-HT.UB xs.f 0 lo),Qd _ Z
def SK:(V->Bool)
 | .non=>true
 | .bl _=>true
 | .int _=>true
 | .str _=>true
 |_=>false
def Om:(V->V->Bool)
 | .non,.non=>true
 | .bl a,.bl b=>a == b
 | .bl a,.int b=>(if a then 1 else 0) == b
 | .int a,.bl b=>a == (if b then 1 else 0)
 | .int a,.int b=>a == b
 | .str a,.str b=>a == b
 |_,_=>false
def En(ry:RelV y u)(rx:RelV x v)(fy:SK y=true)(fx:SK x=true):SeqAt.EqAt A s u v (Om y x):=by
 cases y with
 |non=>
  cases ry;cases x with
  |non=>cases rx;show SeqAt.EqAt.same _
  |bl b=>cases rx;show SeqAt.EqAt.none_bool b
  |int b=>let(t,rfl):=rx;show SeqAt.EqAt.none_int b t
  |str b=>let(t,rfl):=rx;show SeqAt.EqAt.none_str b t
  |_=>show absurd (show false=true from fx) YC
 |bl a=>
  cases ry;cases x with
  |non=>cases rx;show SeqAt.EqAt.bool_none a
  |bl b=>cases rx;show SeqAt.EqAt.bool_bool a b
  |int b=>let(t,rfl):=rx;show SeqAt.EqAt.bool_int a b t
  |str b=>let(t,rfl):=rx;show SeqAt.EqAt.bool_str a b t
  |_=>show absurd (show false=true from fx) YC
 |int a=>
  let(t',rfl):=ry;cases x with
  |non=>cases rx;show SeqAt.EqAt.int_none a t'
  |bl b=>cases rx;show SeqAt.EqAt.int_bool a t' b
  |int b=>let(t,rfl):=rx;show SeqAt.EqAt.int_int a t' b t
  |str b=>let(t,rfl):=rx;show SeqAt.EqAt.int_str a t' b t
  |_=>show absurd (show false=true from fx) YC
 |str a=>
  let(t',rfl):=ry;cases x with
  |non=>cases rx;show SeqAt.EqAt.str_none a t'
  |bl b=>cases rx;show SeqAt.EqAt.str_bool a t' b
  |int b=>let(t,rfl):=rx;show SeqAt.EqAt.str_int a t' b t
  |str b=>let(t,rfl):=rx;show SeqAt.EqAt.str_str a t' b t
  |_=>show absurd (show false=true from fx) YC
 |_=>show absurd (show false=true from fy) YC
def SJ(x:V)(u:Value):(Bool):=match u with
 | .none=>Om .non x
 | .bool b=>Om (.bl b) x
 | .int i _=>Om (.int i) x
 | .str z _=>Om (.str z) x
 |_=>false
def Em(r:RelV y u)(f:SK y=true):SJ x u=Om y x:=by
 cases y with
 |non=>cases r;rfl
 |bl b=>cases r;rfl
 |int i=>let(t,rfl):=r;rfl
 |str z=>let(t,rfl):=r;rfl
 |_=>show absurd (show false=true from f) YC
def vW{xs:List V}{us:Ag}(h:Vals xs us)(f:xs.all SK=true):us.any (SJ x)=xs.any λy=>Om y x:=by
 induction h with
 |nil=>rfl
 |cons r t ih=>
  rw[List.all_cons,wY]at f;rw[r6,r6,Em r f.1,ih f.2]
def El(rx:RelV x v)(fx:SK x=true){xs:List V}{us:Ag}(h:Vals xs us)(f:xs.all SK=true):∀u∈us,SeqAt.EqAt A s u v (SJ x u):=by
 induction h with
 |nil=>intro u hu;cases hu
 |cons r t ih=>
  intro u' hu;rw[List.all_cons,wY]at f;rcases Yo.R hu with rfl|hu
  .rw[Em r f.1];show En r rx f.1 fx
  .show ih f.2 u' hu
def GQ(x:V)(xs:List V):(Bool):=xs.any λy=>Om y x
def aX(K:Ad)(neg:Bool):(R2):=λx y H Q=>∃p xs,y=.ref p/\(SqL K H p xs\/SqT K H p xs)/\SK x=true/\xs.all SK=true/\Q (.bl<|if neg then !GQ x xs else GQ x xs) H
def Zs9:Wy X (compareOp .In) (aX X.K false):=by
 intro pins s σ H x y v u Q I rx ry h;let(p,xs,rfl,hq,fx,fs,q):=h;cases ry;rcases hq with hq|hq
 .let⟨XS,r,pl,hz⟩:=I.list hq;show SeqAt.in_listAt (SJ x) pl.isList (λw hw=>El rx fx r fs w<|by simpa using hw) ⟨.bl _,H,I,Z,?_⟩;rwa[show XS.C.any (SJ x)=XS.any (SJ x) by simp,vW r fs]
 .let⟨XS,r,pl,hz⟩:=I.tuple hq;show SeqAt.in_tupleAt (SJ x) pl (λw hw=>El rx fx r fs w<|by simpa using hw) ⟨.bl _,H,I,Z,?_⟩;rwa[show XS.C.any (SJ x)=XS.any (SJ x) by simp,vW r fs]
def ZT4:Wy X (compareOp .NotIn) (aX X.K true):=by
 intro pins s σ H x y v u Q I rx ry h;let(p,xs,rfl,hq,fx,fs,q):=h;cases ry;rcases hq with hq|hq
 .let⟨XS,r,pl,hz⟩:=I.list hq;show SeqAt.notIn_listAt (SJ x) pl.isList (λw hw=>El rx fx r fs w<|by simpa using hw) ⟨.bl _,H,I,Z,?_⟩;rwa[show XS.C.any (SJ x)=XS.any (SJ x) by simp,vW r fs]
 .let⟨XS,r,pl,hz⟩:=I.tuple hq;show SeqAt.notIn_tupleAt (SJ x) pl (λw hw=>El rx fx r fs w<|by simpa using hw) ⟨.bl _,H,I,Z,?_⟩;rwa[show XS.C.any (SJ x)=XS.any (SJ x) by simp,vW r fs]
inductive yR0(K:Ad)(xs:List V)(H:Hp)(Q:VK):Prop
 |mk (p ys:_) (_:xs=[.ref p]) (_:(SqL K H p ys\/SqT K H p ys)) (_:Q (.int ys.f) H)
def Zf5:VF X (.builtin "len") (yR0 X.K):=by
 intro pins s σ H xs us Q I r h;let(p,ys,rfl,hq,q):=h;let(u,rfl,rx):=Vi r;cases rx;let hn:=JS
 rcases hq with hq|hq
 .let⟨XS,r',pl,hz⟩:=I.list hq;let hlen:=r'.f
  show Calls.call_len_list pl.isList B {.int ys.f,H,I.tok _,{s.toks+1,by simp_all},q}
 .let⟨XS,r',pl,hz⟩:=I.tuple hq;let hlen:=r'.f
  show len_tuple pl B {.int ys.f,H,I.tok _,{s.toks+1,by simp_all},q}
def Ze5:VF X (.builtin "len") (λxs H Q=>∃z,xs=[.str z]/\z.f<=sizeLine/\Q (.int z.f) H):=by
 intro pins s σ H xs us Q I r h;let(z,rfl,hz,q):=h;let(u,rfl,t,rfl):=Vi r;let hn:=JS
 show len_str J {.int z.f,H,I.tok _,{_,Z},q}
def Zd5:VF X (.type "list") (λxs H Q=>∃p ys,xs=[.ref p]/\(SqL X.K H p ys\/SqT X.K H p ys)/\∀l,H l=none->Q ↑l (upd H l (.lst ys))):=by
 intro pins s σ H xs us Q I r h;let(p,ys,rfl,hq,q):=h;let(u,rfl,rx):=Vi r;cases rx;let fin:∀(XS:Ag),Vals ys XS->ys.f<=sizeLine->∀(h':Heap)(c':Nat),(∀b o',s.r.E b=some o'->h'.E b=some o')->
   h'.E (~~~s)=some {cls:=.type "list",dict:=none,data:=.seq XS.C c',slots:=#[]}->EP X pins σ Q (.ref (~~~s)) {s with heap:=h'}:=λXS r' hz h' c' kp e=>
  {.ref (~~~s),_,I.laid (t':=s.toks) kp (XI _)<|show ObjOk X.prog X.w _ h' _ (.lst ys) from⟨hz,XS,c',r',e⟩,Z,q _<|I.hok.fresh<|XI _}
 rcases hq with hq|hq
 .let⟨XS,r',pl,hz⟩:=I.list hq;let hlen:=r'.f
  let(o,ho,hc,n,hd):=pl.isList;show call_list_seq p (.inl Z) ho hc hd (λh' c' kp e=>fin XS r' hz h' c' kp e) (by simp_all)
 .let⟨XS,r',pl,hz⟩:=I.tuple hq;let hlen:=r'.f
  let(o,ho,hc,n,hd):=pl;show call_list_seq p (.inr Z) ho hc hd (λh' c' kp e=>fin XS r' hz h' c' kp e) B
def Zt4:VF X (.type "tuple") (λxs H Q=>∃p ys,xs=[.ref p]/\((SqL X.K H p ys/\∀l,H l=none->Q ↑l (upd H l (.tup ys)))\/(SqT X.K H p ys/\Q ↑p H))):=by
 intro pins s σ H xs us Q I r h;let(p,ys,rfl,h):=h;let(u,rfl,rx):=Vi r;cases rx;rcases h with ⟨hq,q⟩|⟨hq,q⟩
 .let⟨XS,r',pl,hz⟩:=I.list hq;let hlen:=r'.f
  show call_tuple_list pl.isList (λh' kp=>?_) B;let I1:Inv X pins σ H {s with heap:=h'}:=I.kept (t':=s.toks) kp
  let I2:Inv X pins σ (upd H h'.objs.o<|.tup ys) {s with heap:=h'.push {cls:=.type "tuple",data:=.seq XS.C} }:=
   I1.laid (t':=s.toks) (λb o e=>Xl _ e) (XI _) (show ObjOk X.prog X.w _ _ _ (.tup ys) from{hz,XS,r',IsTup.new _ _})
  exists .ref h'.objs.o,_,I2,Z,q _<|I1.hok.fresh<|XI _
 .let⟨XS,r',pl,hz⟩:=I.tuple hq;show call_tuple_same pl {.ref p,H,I,Z,q}
def qv(K:Ad)(T:String)(x:V)(H:Hp):(Prop):=match x with
 | .str _=>T="str"
 | .int _=>T="int"
 | .ref p=>(T="list"/\∃xs,SqL K H p xs)\/(T="tuple"/\∃o,K.S p=some o/\o.cls=.type "tuple"/\o.dict=none)\/
   (T="dict"/\((∃kvs,H p=some (.dK kvs))\/∃kvs,H p=some (.dT kvs)))\/(T="set"/\∃S n,H p=some (.set S n))
 |_=>False
def Ek(I:Inv X pins σ H s)(r:RelV x v)(ty:qv X.K T x H):
  s.TypeIs v T/\∀a,v=.ref a->∃ob,s.r.E a=some ob/\ob.dict=none:=by
 cases x with
 |str z=>
  let(t,rfl):=r;cases (show T="str" from ty);exists Ha s z t,λ_ e=>nomatch e
 |int i=>
  let(t,rfl):=r;cases (show T="int" from ty);exists typeIs_int s i t,λ_ e=>nomatch e
 |ref p=>
  cases r;rcases ty with ⟨rfl,xs,hq⟩|⟨rfl,o,hk,hc,hd⟩|⟨rfl,hk⟩|⟨rfl,S,n,hk⟩
  .let⟨XS,_,pl,_⟩:=I.list hq;exists pl.isList.typeIs,λa e=>?_;cases e;let(o,n,e,c,hd,_):=pl;exists o,e,hd
  .exists {o,I.kIn p o hk,hc},λa e=>?_;cases e;exists o,I.kIn _ o hk,hd
  .let z:∃o,s.r.E p=some o/\o.ExactDict:=by
    rcases hk with ⟨kvs,hk⟩|⟨kvs,hk⟩
    .let⟨_,_,_,_,o,_,_,e,ex,_⟩:=I.hok p _ hk;exists o,e,ex
    .let⟨_,_,_,_,o,_,_,e,ex,_⟩:=I.hok p _ hk;exists o,e,ex
   let(o,e,ex):=z;exists ⟨o,e,ex.1⟩,λa e2=>?_;cases e2;exists o,e,ex.2.1
  .let⟨o,_,_,_,e,ex,_⟩:=I.hok p _ hk;exists ⟨o,e,ex.1⟩,λa e2=>?_;cases e2;exists o,e,ex.2.1
 |_=>show False.elim ty
def Ej(K:Ad)(T:String)(r:V->List V->Hp->VK->Prop)(to:TE):(TE):=λσ H Q=>to σ H λx H1=>qv K T x H1/\r x [] H1 Q
def aW(K:Ad)(T:String)(r:V->List V->Hp->VK->Prop)(to:TE)(t:TA):(TE):=λσ H Q=>to σ H λx H1=>qv K T x H1/\t σ H1 λxs H2=>r x xs H2 Q
variable{o e:Expr}{es:List Expr}{to:TE}{t:TA}{name:Str}{apos Xb:Pos}{T id:String}{r:V->List V->Hp->VK->Prop}
def Ei(pa:PlainAttrs T)(slot:Slot T name id)(JL:typeOf (.builtin id)=pure (.type "method_descriptor"))(hm:vX X id r)(ho:PE X o to)
  (UX:autoParam (attributeBase o name X.X (eval o X.X)=eval o X.X) D1._auto_1)(UW:autoParam ((apos.endLine == Xb.line)=true) D1._auto_1):PE X (.Call (.Attribute o name apos) [] [] Xb) (Ej X.K T r to):=by intro pins s σ H Q I h;show wpAny_Call_method0_late UX UW (thn (ho pins s σ H _ I h) λv s1 XB=>?_);let(x,H1,I1,r1,ty,q1):=XB;let(h1,h2):=Ek I1 r1 ty;exists T,id,pa,slot,JL,h1,h2,Calls.callWith_builtin Z<|PySem.evalArgs_none<|hm pins s1 σ H1 x [] v [] Q I1 r1 .nil q1
def qu(pa:PlainAttrs T)(slot:Slot T name id)(JL:typeOf (.builtin id)=pure (.type "method_descriptor"))(hm:vX X id r)(ho:PE X o to)(ha:PA X (e::es) t)
  (UX:autoParam (attributeBase o name X.X (eval o X.X)=eval o X.X) D1._auto_1)
  (JK:autoParam (((backTo Xb<|starEach (e::es) X.X).all (λx=>!x.1)&&(backToKw Xb<|keywordEach [] X.X).all (λx=>x.1.isSome)
   && decide ((e::es).f+([]:List Keyword).f+(if ([]:List Keyword).isEmpty then 0 else 1)<30))=true) D1._auto_1)
  (UW:autoParam ((apos.endLine == Xb.line)=true) D1._auto_1)(hs:autoParam (starEach (e::es) X.X=(false,eval e X.X)::starEach es X.X) D1._auto_1)(Pw:autoParam ((backTo Xb<|starEach es X.X).any (·.1)=false) D1._auto_1):
  PE X (.Call (.Attribute o name apos) (e::es) [] Xb) (aW X.K T r to t):=by
 intro pins s σ H Q I h;show wpAny_Call_method_late UX JK UW Z (thn (ho pins s σ H _ I h) λv s1 XB=>?_);let(x,H1,I1,r1,ty,q1):=XB;let(h1,h2):=Ek I1 r1 ty;exists T,id,pa,slot,JL,h1,h2,?_;let hA:=ha Xb pins s1 σ H1 _ I1 q1
 rw[hs]at hA ⊢;show Calls.callWith_builtin B (Calls.evalArgs_plain ?_);show thn hA λus s2 zz=>by let(vs,H2,I2,r2,q2):=zz;show hm pins s2 σ H2 x vs v us Q I2 r1 r2 q2
end
def Nq(X:Cx)(id:String)(r:V->List V->Hp->VK->Prop):(Prop):=
 ∀(pins:List (Addr×Obj))(s:Shared)(σ:St)(H:Hp)(x:V)(xs:List V)(v:Value)(us:Ag)(Q:VK),Inv X pins σ H s->RelV x v->Vals xs us->r x xs H Q->
  wpAny (model X.prog X.w) X.A (call (.builtin id)<|v::us) (EP X pins σ Q) X.xe s
def Vals.one{x:V}{us:Ag}(r:Vals [x] us):∃u,us=[u]/\RelV x u:=by
 cases r with
 |cons a r=>cases r;exists _,Z,a
def Vals.eraseIdx{xs:List V}{us:Ag}(i:Nat)(h:Vals xs us):Vals (xs.eraseIdx i) (us.eraseIdx i):=by
 induction h generalizing i with
 |nil=>show .nil
 |cons r t ih=>
  cases i with
  |zero=>show t
  |succ i=>show .cons r (ih i)
def Vals.rep(h:Vals xs us):∀k:Nat,Vals (List.U k xs).flatten (List.U k us).flatten
 |0=>.nil
 |k+1=>by show Vals.append h (Vals.rep h k)
def aV{α:Type}:∀(l:List α)(i:Nat),(l.eraseIdx i).f<=l.f
 |[],_=>XI _
 |_::_,0=>Ts _
 |_::r,i+1=>Nat.succ_le_succ (aV r i)
def aS(XS:Ag):∀(k:Nat)(acc:Ag),
  List.foldl (λx1 x2=>x1++x2) acc.C (List.U k XS.C)=(acc++(List.U k XS).flatten).C
 |0,acc=>Fe
 |k+1,acc=>by
  let e:acc.C++XS.C=(acc++XS).C:=Fe;let e2:(acc++XS)++(List.U k XS).flatten=acc++(List.U (k+1) XS).flatten:=by rw[List.replicate_succ,List.flatten_cons,YV]
  rw[<-e2,<-aS XS k (acc++XS),<-e,List.replicate_succ,Hj]
section
variable{X:Cx}{pins:List (Addr×Obj)}{σ:St}{H:Hp}{s:Shared}{l:Addr}{xs ys:List V}
def Inv.lset{XS its':Ag}{f:Array Value->Array Value}{t':Nat}(I:Inv X pins σ H s)(hH:H l=some (.lst xs))
  (e:s.r.E l=some {cls:=.type "list",data:=.seq XS.C n})(hf:f XS.C=its'.C)(hv:Vals ys its')(hz:ys.f<=sizeLine):
  Inv X pins σ (upd H l<|.lst ys) {s with heap:=s.r.update l<|Obj.mapSeq f,toks:=t'}:=by let q:=PySem.IsL.update e f;rw[hf]at q;show I.write (x:=l) (e:=l) (by rw[hH];show trivial) (.inl Z) (λb' u hb hu=>(YJ s.r (Obj.mapSeq f)<|XH hb).l hu) {_,q} ?_;exists hz,its',_,hv,q
def Inv.lnew{t':Nat}(I:Inv X pins σ H s)(hv:Vals ys XS)(hz:ys.f<=sizeLine):
  Inv X pins σ (upd H (~~~s)<|.lst ys) {s with heap:=s.r.push {cls:=.type "list",data:=.seq XS.C},toks:=t'}:=
 I.laid (λ_ _ q=>Xl _ q) (XI _) {hz,XS,0,hv,Qd _ Z}
def Inv.fresh(I:Inv X pins σ H s):H (~~~s)=none:=I.hok.fresh (XI _)
def Inv.lstM(I:Inv X pins σ H s)(hH:H l=some (.lst xs)):xs.f<=sizeLine/\∃(XS:Ag)(n:Nat),Vals xs XS/\xs.f=XS.f/\s.r.E l=some {cls:=.type "list",data:=.seq XS.C n}:=by let(z,XS,n,r,e):=I.hok l _ hH;exists z,XS,n,r,r.f,e
def aR(h:n<=sizeLine):Builtin.List.listTooLong n=false:=by
 unfold Builtin.List.listTooLong
 simp_all
end
section
variable{X:Cx}
inductive rAppend(x:V)(vs:List V)(H:Hp)(Q:VK):Prop
 |mk (l xs y:_) (_:x=.ref l) (_:vs=[y]) (_:H l=some (.lst xs)) (_:xs.f<sizeLine) (_:Q .non (upd H l<|.lst<|xs++[y]))
def Np:Nq X "list.append" rAppend:=by intro pins s σ H x vs v us Q I rx rv h;let(l,xs,y,rfl,rfl,hH,hz,q):=h;cases rx;let(u,rfl,ru):=rv.one;let(z,XS,n,r,hl,e):=I.lstM hH;show NG F.slot_list_append {_,e,Z} F.entry_list_append (F.args_list_append_2 _ _) (PySem.list_append l XS.C n u<|by simp_all) ⟨e,?_⟩;exists .non,_,I.lset (its':=XS++[u]) hH e Fe (r.append<|.cons ru .nil) ?_,Z,q;grind
def qt:(V->List V->Hp->VK->Prop):=λx vs H Q=>∃l b xs zs,x=.ref l/\vs=[.ref b]/\H l=some (.lst xs)/\H b=some (.lst zs)/\xs.f+zs.f<=sizeLine/\Q .non (upd H l<|.lst<|xs++zs)
def qr:Nq X "list.extend" qt:=by
 intro pins s σ H x vs v us Q I rx rv h;let(l,b,xs,zs,rfl,rfl,hH,hB,hz,q):=h;cases rx;let(u,rfl,ru):=rv.one;cases ru;let(z,XS,n,r,hl,e):=I.lstM hH;let(z2,Vs,n2,r2,SI,e2):=I.lstM hB;let hsz:XS.C.o+Vs.C.o<=sizeLine:=by rw[YR,YR];simp_all
 let Pu:¬(!XS.C.isEmpty&&Builtin.List.listTooLong (XS.C.o+Vs.C.o))=true:=by rw[aR hsz,Bool.and_false];show YC
 show NG F.slot_list_extend {_,e,Z} F.entry_list_extend (F.args_list_extend_2 _ _)
  (AutoSeq1.list_extend_list_list_0 l XS.C n b Vs.C n2 Pu (by simp_all) J) {e,e2,?_}
 exists .non,_,I.lset (its':=XS++Vs) hH e Fe (r.append r2) ?_,Z,q
 simp_all
def qq:(V->List V->Hp->VK->Prop):=λx vs H Q=>∃l xs i k y,x=.ref l/\vs=[.int i]/\H l=some (.lst xs)/\-(2^63)<=i/\i<2^63/\seqIndex? i xs.f=some k/\xs[k]?=some y/\Q y (upd H l<|.lst<|xs.eraseIdx k)
def qp:Nq X "list.pop" qq:=by
 intro pins s σ H x vs v us Q I rx rv h;let(l,xs,i,k,y,rfl,rfl,hH,h1,h2,hk,hy,q):=h;cases rx;let(u,rfl,ru):=rv.one;let(t,rfl):=ru;let(z,XS,n,r,hl,e):=I.lstM hH;let(w,hw,JM):=r.get hy;show NG F.slot_list_pop {_,e,Z} F.entry_list_pop (F.args_list_pop_2 _ _)
  (MeetsSeq.list_pop_at l XS.C n i t k w (fitsIndex_both h1 h2) (by simp_all) (by simp_all)<|by simp_all) ⟨e,?_⟩
 exists y,_,I.lset (its':=XS.eraseIdx k) hH e ?_ (r.eraseIdx k) ?_,JM,q
 .simp_all
 .have:=aV xs k
  lia
inductive rCat(x:V)(y:V)(H:Hp)(Q:VK):Prop
 |mk (l b xs zs:_) (_:x=.ref l) (_:y=.ref b) (_:H l=some (.lst xs)) (_:H b=some (.lst zs)) (_:xs.f+zs.f<=sizeLine) (_:∀p,H p=none->Q ↑p (upd H p<|.lst<|xs++zs))
def JJ:Wy X (binaryOp .Add) rCat:=by
 intro pins s σ H x y v u Q I rx ry h;let(l,b,xs,zs,rfl,rfl,hH,hB,hz,q):=h;cases rx;cases ry;let(z,XS,n,r,hl,e):=I.lstM hH;let(z2,Vs,n2,r2,SI,e2):=I.lstM hB;show PySem.P.add_list e e2 ?_ (by simp_all);let ea:XS.C++Vs.C=(XS++Vs).C:=Fe
 rw[ea];exists .ref _,_,I.lnew (t':=s.toks) (r.append r2) (by rw[Xe];omega),Z,q _ I.fresh
def qo:(R2):=λx y H Q=>∃l k xs,x=.ref l/\y=.int k/\H l=some (.lst xs)/\-(2^63)<=k/\k<2^63/\xs.f*k.j<=sizeLine/\
 ∀p,H p=none->Q ↑p (upd H p<|.lst (List.U k.j xs).flatten)
def qm{α:Type}(xs:List α)(k:Nat):(List.U k xs).flatten.f=k*xs.f:=by
 simp_all
def vV:Wy X (binaryOp .Mult) qo:=by
 intro pins s σ H x y v u Q I rx ry h;let(l,k,xs,rfl,rfl,hH,h1,h2,hz,q):=h;cases rx;let(t,rfl):=ry;let(z,XS,n,r,hl,e):=I.lstM hH;let hlen:XS.C.o*k.j<=sizeLine:=by rwa[YR,<-hl]
 let qk:¬XS.C.o*k.j>(2^63-1)/8:=by
  have:(sizeLine:Nat)<=(2^63-1)/8:=AP
  grind
 let qj:¬(!Builtin.List.listFitsIndex k)=true:=by rw[fitsIndex_both h1 h2];show YC
 let Pu:¬Builtin.List.listTooLong (XS.C.o*k.j)=true:=by rw[aR hlen];show YC
 let Pr:List.foldl (λx1 x2=>x1++x2) #[] (List.U (if XS.C.isEmpty=true then 0 else k.j) XS.C)=(List.U k.j XS).flatten.C:=by
  let f0:∀m:Nat,List.foldl (λx1 x2=>x1++x2) #[] (List.U m XS.C)=(List.U m XS).flatten.C:=λm=>by
   have:=aS XS m []
   simp_all
  rw[f0];cases XS with
  |nil=>simp
  |cons a r'=>simp_all
 show wpAny_binaryOp_repeat_ref (T:="list") (U:="int") AP {_,e,Z} (λs'=>typeIs_int s' k t) noFill_list_mul F.fills_int_mul F.slot_int_rmul repeat_list F.slot_int_index.S
  (NG F.slot_int_rmul (typeIs_int s k t) F.entry_int_rmul (F.args_int_rmul_2 _ _) (int___rmul___int_list k t l XS.C n)
   {e,Z,{_,e,Z},NG F.slot_list_mul {_,e,Z} F.entry_list_mul (F.args_list_mul_2 _ _) (AutoListH.list___mul___list_int_3 l XS.C n k t qj qk Pu) {e,?_}})
 rw[Pr];exists .ref _,_,I.lnew (t':=s.toks) (r.rep k.j) (by rwa[qm,Fs]),Z,q _ I.fresh
end
section
variable{κ:Type}[DecidableEq κ]
def Wi(kvs:List (κ×V))(k:κ):(Option V):=(kvs.find? λkv=>decide<|kv.1=k).H (·.2)
def putK(kvs:List (κ×V))(k:κ)(v:V):(List (κ×V)):=
 if (kvs.any λkv=>decide<|kv.1=k)=true then kvs.H (λkv=>if kv.1=k then (kv.1,v) else kv) else kvs++[(k,v)]
def qi{p:κ×V}{r:List (κ×V)}(e:p.1=k):Wi (p::r) k=some p.2:=by simp[Wi,wV,e]
def qh{p:κ×V}(e:¬p.1=k):Wi (p::r) k=Wi r k:=by simp[Wi,wV,e]
def Eh(k:κ):∀kvs:List (κ×V),(kvs.any λkv=>decide (kv.1=k))=(Wi kvs k).isSome
 |[]=>rfl
 |p::r=>by
  rw[r6];cases e:p.1=k
  .simp only[qi e,YE e,Bool.true_or,Option.isSome_some]
  .rw[qh e,Fw e,Bool.false_or];show Eh k r
def ZI6(kvs:List (κ×V))(k:κ)(v:V):(putK kvs k v).f<=kvs.f+1:=by unfold putK;grind
def qg{kvs:List (κ×V)}{k:κ}(v:V)(h:Wi kvs k=none):putK kvs k v=kvs++[(k,v)]:=by
 unfold putK;rw[Eh,h]
 simp_all
def KV.val(r:KV kvs vs)(k:κ):RelO (Wi kvs k) (valueAt vs k):=by
 induction r with
 |nil=>show True.intro
 |@cons p q ps qs h t ih=>
  let(h1,h2):=h;cases e:p.1=k
  .let e':q.1=k:=h1.symm.l e;let b:valueAt (q::qs) k=some q.2:=by simp[valueAt,wV,e']
   rwa[qi e,b]
  .let e':¬q.1=k:=λz=>e (h1.l z);let b:valueAt (q::qs) k=valueAt qs k:=by simp[valueAt,wV,e']
   rwa[qh e,b]
def KV.any(r:KV kvs vs)(k:κ):(kvs.any λkv=>decide (kv.1=k))=vs.any λkv=>decide (kv.1=k):=by
 induction r with
 |nil=>rfl
 |cons h t ih=>simp_all
def KV.repl(r:KV kvs vs)(k:κ)(ry:RelV y u):
  KV (kvs.H λkv=>if kv.1=k then (kv.1,y) else kv) (vs.H λkv=>if kv.1=k then (kv.1,u) else kv):=by
 induction r with
 |nil=>show .nil
 |@cons p q ps qs h t ih=>
  show .cons ?_ ih;lia
def KV.put(r:KV kvs vs)(k:κ)(ry:RelV y u):KV (putK kvs k y) (stored vs k u):=by
 unfold putK stored;rw[r.any k];cases e:(vs.any λkv=>decide<|kv.1=k)=true
 .rw[Yi e,Yi e];show r.repl k ry
 .rw[Yh e,Yh e];show Paired.snoc r ⟨Z,ry⟩
def KV.length{kvs:List (κ×V)}{vs:List (κ×Value)}(r:KV kvs vs):kvs.f=vs.f:=Paired.f r
end
def qf(r:RelV (kV k) u):(Rq P w).is k u=true:=by
 cases k with
 |inl i=>let(t,e):=(show ∃t,u=Value.int i t from r);subst e;show ZH6 P w i t
 |inr x=>let(t,e):=(show ∃t,u=Value.str x t from r);subst e;show ZG6 P w x t
section
variable{P:Program}{w:World}{H:Hp}{h:Heap}{a:Addr}
def qd(ok:HOk P w H h)(e:Rd H a u):ObjOk P w H h a u:=e.ok ok
def qc(ok:HOk P w H h)(e:Rd H a (.dK kvs)):kvs.f<=sizeLine/\(a == sysModules)=false/\∃vs,KV kvs vs/\h.DictOf (Rq P w) a vs:=
 show ObjOk P w H h a (.dK kvs) from qd ok e
def JI(ok:HOk P w H h)(e:H a=some (.dK kvs)):kvs.f<=sizeLine/\(a == sysModules)=false/\∃vs,KV kvs vs/\h.DictOf (Rq P w) a vs:=qc ok (.inl e)
end
section
variable{X:Cx}{pins:List (Addr×Obj)}{σ:St}{H:Hp}{s:Shared}{a:Addr}
def Inv.big(I:Inv X pins σ H s):sysModules<(~~~s):=by let h:mainGlobals<(~~~s):=(I.mod.glob.keeps I.bk).lt;show Nat.lt_trans AP h
def Eg{t':Nat}(I:Inv X pins σ H s)(mu:Fh (H a))(hs:Heap.SameBut a s.r h')(he:∃q,h'.E a=some q)(new:ObjOk X.prog X.w (upd H a ob) h' a ob):
  Inv X pins σ (upd H a ob) {s with heap:=h',toks:=t'}:=
 I.write (x:=a) (e:=a) mu (.inl Z) (λb q hb z=>(hs.2 b hb).l z) he new
def qb(z:kvs.f<=sizeLine)(hd:(a == sysModules)=false)(rel:KV kvs vs)(dd:h'.DictOf (Rq P w) a vs):
  ObjOk P w H' h' a (.dK kvs):=⟨z,hd,vs,rel,dd⟩
end
def qa(h:Heap)(hb:sysModules<h.objs.o):ObjOk P w H (h.push {cls:=.type "dict",data:=.dict #[]}) h.objs.o (.dK []):=
 {Yc _,beq_eq_false_iff_ne.mpr<|XH<|Yw hb,[],.nil,Heap.DictOf.new h}
def p8:(TE):=λ_ H Q=>∀p,H p=none->Q ↑p (upd H p<|.dK [])
section
variable{X:Cx}{pos:Pos}
def p7:PE X (.Dict [] [] pos) p8:=λpins s σ H Q I h=>
 wpAny_Dict_empty {.ref (~~~s),_,I.laid (a:=(~~~s)) (o:=.dK []) (t':=s.toks) (λ_ _ q=>Xl _ q) (XI _)<|qa s.r I.big,Z,h _<|I.hok.fresh<|XI _}
end
structure M1(X:Cx)(o:Expr)(m:Str)(apos:Pos)(e:Expr)(Xb:Pos):Prop where
 base:attributeBase o m X.X (eval o X.X)=eval o X.X
 aQ:((backTo Xb<|starEach [e] X.X).all (λx=>!x.1)&&(backToKw Xb<|keywordEach [] X.X).all (λx=>x.1.isSome)
  && decide (([e]:List Expr).f+([]:List Keyword).f+(if ([]:List Keyword).isEmpty then 0 else 1)<30))=true
 line:(apos.endLine == Xb.line)=true
 trees:backTo Xb (starEach [e] X.X)=[(false,eval e X.X)]
structure M2(X:Cx)(o:Expr)(m:Str)(apos:Pos)(e f:Expr)(Xb:Pos):Prop where
 base:attributeBase o m X.X (eval o X.X)=eval o X.X
 aQ:((backTo Xb<|starEach [e,f] X.X).all (λx=>!x.1)&&(backToKw Xb<|keywordEach [] X.X).all (λx=>x.1.isSome)
  && decide (([e,f]:List Expr).f+([]:List Keyword).f+(if ([]:List Keyword).isEmpty then 0 else 1)<30))=true
 line:(apos.endLine == Xb.line)=true
 trees:backTo Xb (starEach [e,f] X.X)=[(false,eval e X.X),(false,eval f X.X)]
end L2
namespace Att
open PySem PySem.W PySem.Calls PyProof.Rows
def Zb3:∀(ns:Ac)(vs:Ag),WellAll P h vs (ns.H WData.int)->IntsAre vs ns:=by
 intro ns
 induction ns with
 |nil=>
  intro vs w;cases w;show .nil
 |cons n ns ih=>
  intro vs w;cases w with
  |cons a b=>
   cases a;show .cons _ _ (ih _ b)
def Zh9{l:OpenLaw}{n:Nat}(hn:l.most=some n) 
  (Nn:l.row.toRowW.claim.pre args=true)(Ef:WellAll P h vals args):
  ∃a vs ns,vals=[Value.ref a]/\args=[WData.list (ns.H WData.int)]/\h.E a=some {cls:=.type "list",data:=.seq vs.C}/\IntsAre vs ns/\ns.f<=n:=by
 let hsh:WShape.hasAll [] args [.list .int]=true:=(pre_splitW Nn).1;let hc:l.pre.holds [] {args:=args}=true:=(pre_splitW Nn).2
 let(d,r,rfl,h1,h2):=hasAllW_cons hsh;let rfl:=hasAllW_nil h2;let(xs,rfl,h3):=hasW_list h1;let(ns,rfl):=items_int h3;let hlen:ns.f<=n:=by
  unfold OpenLaw.pre at hc;let h4:(WTm.not<|.lt (.lit<|.int (n:Int))<|.len<|.arg 0).holds [] {args:=[.list (ns.H .int)]}=true:=by let h4:=(holds_andW hc).1;rwa[hn]at h4
  let h5:=condW_of h4 (w_not<|w_lt w_lit<|w_len_list<|w_arg Z);rw[Yb]at h5;show xc λq=>?_;let q':(n:Int)<((ns.f:Nat):Int):=by simp_all
  first
   |simp_all
   | (simp at h5;omega)
 cases Ef with
 |cons w1 w2=>
  cases w2;cases w1 with
  |list ho Ua=>exists _,_,ns,Z,Z,ho,Zb3 ns _ Ua,hlen
def Zn9(l:OpenLaw)(args:List WData):l.row.toRowW.claim.post args (.bool true) args=true:=
 postW_of (r:=l.row.toRowW) (X:=(true == true))
  (show WShape.has [] (.bool true) .bool=true by first|rfl|decide|simp[WShape.has,WShape.arms,WShape.armsAll])
  (show(WTm.eq .res<|.lit<|.bool true).value [] {args:=args,res:=some<|.bool true,after:=args}=some (.bool<|true == true) from w_eq_bool (w_res Z) w_lit) rfl
def Th{l:OpenLaw}{n:Nat}{XP:Af->Heap->Prop}{YP:World->Heap->Prop} 
  (hn:l.most=some n)(pZ:d.params.defaults=[])
  (call:∀(w:World)(s₀ s₁:Shared)(mg mb:Af)(fa:Addr)(o:Obj)(pm cd doc:Value)(a:Addr)(vs:Ag)(ns:Ac),
   Ground q loose [] XP w s₀ mg mb s₁.r->YP w s₁.r->
   s₁.r.E fa=some o->o.data=.func (docDef d.name d.params d.body d.scope pm cd doc)->s₁.r.CodeRec cd d.name->mg d.name=some ↑fa->
   s₁.r.E a=some {cls:=.type "list",data:=.seq vs.C}->IntsAre vs ns->ns.f<=n->s₁.gens=#[]->
   codeAny (model l.prog w) callerA (.call ↑fa {[.ref a],[]}) (λr s'=>r=.ok (.ret<|.bool true)/\OldK s₁.r s'.r/\s'.os=s₁.os/\AllBare s'.gens) s₁):
  WalkO q loose XP YP l.row.toRowW d [] (λf vs=>PySem.call f vs):=by intro w s₀ s₁ mg mb G Y fa o pm cd doc dV kV ho hd SN hD Ee hg args vals as Nn hlay pY Ef Ol;let rfl:dV=.none:=Dflts.none hD pZ;let rfl:kV=.none:=Dflts.noKw hD;let(a,vs,ns,rfl,rfl,JH,hints,hlen):=Zh9 hn Nn Ef;show enter_call (LO (call w s₀ s₁ mg mb fa o pm cd doc a vs ns G Y ho (fd_plain hd) SN Ee JH hints hlen hg) λr s' hq=>?_);let(rfl,h2,h3,h4):=hq;exists .inl {.bool true,.bool true,[],Z,λ_=>rfl,.bool true,Zn9 l _,λ_=>{List.G.nil,λ_ hm=>(nomatch hm)}},h2,h3,h4
section
def ZE17(h:Heap)(L d:Addr):(List (Addr×Obj)):=(List.range h.objs.o).filterMap λa=>if a=L\/a=d then none else (h.E a).H λo=>(a,o)
end
end Att
namespace L2
open PySem PySem.Spec PyProof.Rows
def pX{vs:Ag}{ns:Ac}(h:IntsAre vs ns):Vals (ns.H V.int) vs:=by
 induction h with
 |nil=>show .nil
 |cons n t h ih=>show .cons ⟨t,Z⟩ ih
abbrev JG{K:Ad}{h:Heap}(_:K.In h):Ad:=K
def Ec(s:Stmt)(j:Nat):(Stmt):=match s with
 | .ClassDef _ _ _ body _ _ _ _ _ _ _=>body.Q j (.Pass ⟨0,0,0,0⟩)
 |_=>.Pass ⟨0,0,0,0⟩
def LD(s:Stmt):(Arguments):=match s with
 | .FunctionDef _ a _ _ _ _ _ _ _ _=>a
 |_=>{posonlyargs:=[],args:=[],vararg:=none,kwonlyargs:=[],kw_defaults:=[],kwarg:=none,defaults:=[]}
def Rh(s:Stmt):(List Stmt):=match s with
 | .FunctionDef _ _ b _ _ _ _ _ _ _=>b
 |_=>[]
def Xo(s:Stmt):(Scope):=match s with
 | .FunctionDef _ _ _ _ _ _ sc _ _ _=>sc
 |_=>{kind:=.function,names:=[],isGenerator:=false,isCoroutine:=false}
abbrev Xz:Rj:=λ_ _ _ _ _ _=>False
abbrev E0:XK:=λ_ _ _=>False
def Zs:GS Xz X E0:=λ_ _ _ _ _ _ _ h=>h.elim
structure Fun(K:Ad)(x qual:Str)(st:Stmt)(f:Addr)(fd:FuncData):Prop where
 ex:∃(oc:Value)(od:Option Addr)(kV doc pm:Value)(an:Option Addr)(XF ct:Value)(TB:Array (Option Value)),
  fd=PySem.W.fnOf x qual (LD st) (Rh st) (Xo st) .none kV doc pm an XF ct/\K.S f=some {oc,od,.func fd,TB}/\PySem.W.codeIn K XF qual=true
 kp:PySem.W.keepIn K ↑f=true
section
variable{P:Program}{w:World}{K:Ad}{mg:Af}{base:Heap}
def Fun.ok{x qual:Str}{st:Stmt}{f:Addr}{fd:FuncData}{N ps:List Str}{k:Nat}{sp:Sp}(F:Fun K x qual st f fd)(S:FnScope N ps (Xo st))(len:∀vs H Q E,sp vs H Q E->vs.f=ps.f)
  (VE:∀(XF:Value)(A:Around)(outer:List Env)(s:Shared)(H:Hp)(vs:List V)(Q:VK)(E:XK),Room k (A.deeper<|envOfC qual (Xo st) (~~~s) f XF)->sp vs H Q E->
   ∃t,PSs (Ud Xz P w K mg base N qual (Xo st) f XF A outer s H E).nox (Rh st) t/\t {nx:=λ_ H'=>Q .non H',rt:=Q} (start N vs) H):FnOk P w K mg base Xz (k+1) f fd ps sp:=by let(oc,od,kV,doc,pm,an,XF,ct,TB,rfl,lk,SN):=F.ex;show Ew lk SN S len λA outer s H vs Q E hr Uc=>?_;let(t,h,q):=VE XF A outer s H vs Q E hr Uc;exists t,h.nox,q
def Fun.binds{x qual:Str}{st:Stmt}{f:Addr}{fd:FuncData}{ps:List Str}(F:Fun K x qual st f fd)
  (h:∀(kV doc pm:Value)(an:Option Addr)(XF ct:Value)(us:Ag),us.f=ps.f->bindArgs (PySem.W.fnOf x qual (LD st) (Rh st) (Xo st) .none kV doc pm an XF ct) {us,[]}=pure (ps.zip us)):Binds K fd ps []:=by let(oc,od,kV,doc,pm,an,XF,ct,TB,rfl,lk,SN):=F.ex;show .all (h kV doc pm an XF ct)
def vU{x qual:Str}{st:Stmt}{f:Addr}{oc:Value}{od an:Option Addr}{TB:Array (Option Value)}{kV doc pm XF ct:Value}(l:K.S f=some {oc,od,.func (PySem.W.fnOf x qual (LD st) (Rh st) (Xo st) .none kV doc pm an XF ct),TB})
  (c:PySem.W.codeIn K XF qual=true)(k:PySem.W.keepIn K ↑f=true):Fun K x qual st f (PySem.W.fnOf x qual (LD st) (Rh st) (Xo st) .none kV doc pm an XF ct):={⟨oc,od,kV,doc,pm,an,XF,ct,TB,Z,l,c⟩,k}
end
section
variable{X:Cx}
def pv(i:Nat){x:Str}{pos:Pos}(hN:autoParam (X.N[i]?=some x) D1._auto_1)(hv:wB X.X.scope x:=by first|show Or.inl rfl|show Or.inr (Or.inl rfl)|show Or.inr<|Or.inr rfl)(hd:autoParam ((x == ("__debug__":Str))=false) D0._auto_1)
  (SN:autoParam ((x == ("__classdict__":Str))=false) D0._auto_1):PE X (.Name x pos) (tVar i):=Zah hN hv hd SN
end
def Vr{A rH:Prop}(h:rH):if false=true then A else rH:=by
 simp_all
def UU{A rH:Prop}(h:A):if true=true then A else rH:=by
 simp_all
def Eb{c A rH:Prop}[Decidable c](h1:c->A)(h2:¬c->rH):if c then A else rH:=by
 simp_all
def Same(H H':Hp):(Prop):=∀b o,H b=some o->H' b=some o
def Same.refl(H:Hp):Same H H:=λ_ _ h=>h
def Same.trans{H H1 H2:Hp}(a:Same H H1)(b:Same H1 H2):Same H H2:=λc o h=>b c o (a c o h)
def Same.free(e:Same H H'){l:Addr}(h:H' l=Option.none):H l=Option.none:=by
 cases q:H l with
 |none=>rfl
 |some o=>
  rw[e l o q]at h;cases h
def Same.seq{K:Ad}{H H':Hp}{a:Addr}{xs:List V}(e:Same H H')(h:SqL K H a xs):SqL K H' a xs:=by
 rcases h with (h|⟨o,h⟩)|h
 .show .inl (.inl<|e _ _ h)
 .show .inl (.inr {o,e _ _ h})
 .show .inr h
def Ea(X:Cx)(ifs:List Expr)(t:TT):(Prop):=
 ∀pins s σ H Q,Inv X pins σ H s->t σ H Q->
  wpAny (model X.prog X.w) X.A (forIn ifs true λc r=>if r=true then do let ok <-isTrue c X.X (eval c X.X);pure (ForInStep.yield ok) else pure (ForInStep.yield r)) (TP X pins σ Q) X.xe s
def tYes:(TT):=λ_ H Q=>Q true H
def ZN:Ea X [] tYes:=λ_ _ _ H _ I h=>wpAny_tests_nil ⟨H,I,h⟩
def RR(hc:PT X c t):Ea X [c] t:=λpins s σ H Q I h=>wpAny_tests_one (hc pins s σ H Q I h)
def pW{R:Result->Shared->Prop}{elt target iter:Expr}{scope:Scope}{pos:Pos}{it acc:Value}(rG:Nat->Shared->Prop)
  (turn:∀n s,rG n s->wpAny (model prog w) A (pyNext it) (λr s1=>match r with
   |none=>R (.ok .next) s1
   |some v=>wpAny (model prog w) A (letOwnedTupleGo target it v) (λ_ s2=>wpAny (model prog w) A (assign target env v) (λ_ s3=>
     wpAny (model prog w) A (forIn ifs true λc r=>if r=true then do let ok <-isTrue c env (eval c env);pure (ForInStep.yield ok) else pure (ForInStep.yield r)) (λok s4=>
      if ok=true then wpAny (model prog w) A (eval elt env) (λx s5=>
       wpAny (model prog w) A (call (.builtin "list.append") [acc,x]) (λ_ s6=>∃m,m<n/\rG m s6) (λ_ _=>False) s5) (λ_ _=>False) s4
      else ∃m,m<n/\rG m s4) (λ_ _=>False) s3) (λ_ _=>False) s2) (λ_ _=>False) s1) (λ_ _=>False) s)
  (n:Nat)(h:rG n s):codeAny (model prog w) A (.compLoop (.ListComp elt [⟨target,iter,ifs,0⟩] scope pos) 0 it acc env) R s:=by
 show codeAny_loop Z rG (λn s hI=>?_) n h;show wpAny_noted ?_;show XT (wpAny_standAt<|XT<|Tq (turn n s hI) (λr s1 h1=>?_) λ_ _ z=>z.elim);cases r with
 |none=>show Ye h1
 |some v=>
  show XT (Tq h1 (λ_ s2 h2=>?_) λ_ _ z=>z.elim);show XT (Tq h2 (λ_ s3 h3=>XT<|Tq h3 (λok s4 h4=>?_) λ_ _ z=>z.elim) λ_ _ z=>z.elim);cases ok with
  |false=>show Ye ⟨Z,h4⟩
  |true=>
   show XT (XT<|Tq h4 (λx s5 h5=>XT<|Tq h5 (λ_ s6 h6=>Ye<|Ye ⟨Z,h6⟩) λ_ _ z=>z.elim) λ_ _ z=>z.elim)
def RQ(cells:List (Str×Addr)):(List (Str×NameKind)->List (Str×Addr)->List (Str×Addr))
 |[],acc=>acc
 | (n,k)::r,acc=>if k == .free then RQ cells r ((n,(cells.S n).Q 0)::acc) else RQ cells r acc
def aP:∀names acc,(∀y∈names,y.2=.free->∃c,env.cells.S y.1=some c)->
  (forIn names acc λ(x:Str×NameKind) (cs:List (Str×Addr))=>(if (x.2 == .free)=true then do let a <-cellOf env x.1;pure (ForInStep.yield<|(x.1,a)::cs) else pure (ForInStep.yield cs):Sem (ForInStep<|List<|Str×Addr)))=pure (RQ env.cells names acc)
 |[],acc,_=>rfl
 | (n,k)::r,acc,h=>by
  let ih:=λacc=>aP r acc λy hy=>h y (Yf _ hy);rw[List.forIn_cons];unfold RQ;cases hk:(k == NameKind.free)=true
  .let⟨c,hc⟩:=h (n,k) Ya (by simp_all);let e:cellOf env n=pure c:=by unfold cellOf;rw[show env.cells.S n=some c from hc]
   simp_all
  .simp only[hk,FE,if_false,pure_bind];show ih acc
def ZM8(h:∀y∈scope.names,y.2=.free->∃c,env.cells.S y.1=some c):closureFor scope env=pure (RQ env.cells scope.names []):=by let e:=aP scope.names [] h;unfold closureFor;simp only[bind_pure]at e ⊢;show e
def pV{env:Env}:∀names acc,(∀y∈names,y.2=.free->∃c,env.cells.S y.1=some c)->(∀x c,acc.S x=some c->env.cells.S x=some c)->
  ∀x c,(RQ env.cells names acc).S x=some c->env.cells.S x=some c
 |[],acc,_,ha,x,c,e=>ha x c e
 | (n,k)::r,acc,h,ha,x,c,e=>by
  unfold RQ at e;cases hk:(k == NameKind.free)=true
  .rw[Yi hk]at e;let(d,hd):=h (n,k) Ya J;show pV r _ (λy hy=>h y<|Yf _ hy) (λy b q=>?_) x c e;grind
  .rw[Yh hk]at e;show pV r acc (λy hy=>h y<|Yf _ hy) ha x c e
def pU:∀names acc x,(acc.S x).isSome=true->((RQ cells names acc).S x).isSome=true
 |[],_,_,h=>h
 | (n,k)::r,acc,x,h=>by
  unfold RQ;cases hk:(k == NameKind.free)=true
  .rw[Yi hk];show pU r _ x ?_;grind
  .rw[Yh hk];show pU r acc x h
def vT:∀names acc x,(x,NameKind.free)∈names->((RQ cells names acc).S x).isSome=true
 |[],_,_,h=>nomatch h
 | (n,k)::r,acc,x,h=>by
  unfold RQ;rcases Yo.R h with e|h
  .cases e;show pU r _ _ ?_
   simp_all
  .cases hk:(k == NameKind.free)=true
   .rw[Yi hk];show vT r _ x h
   .rw[Yh hk];show vT r _ x h
def vS{env:Env}:∀{names:List (Str×NameKind)}{x:Str}{k:NameKind},(names.H λ(n,k)=>if (k == NameKind.free&&env.scope.kind == .function&&env.kindOf n == some .cell) then (n,NameKind.cell) else (n,k)).S x=some k->
  (k=.cell\/k=.free)->(x,NameKind.free)∈names\/(x,NameKind.cell)∈names
 |[],_,_,h,_=>by simp at h
 | (n,q)::r,x,k,h,hk=>by
  let h':List.S x ((if (q == NameKind.free&&env.scope.kind == .function&&env.kindOf n == some .cell)=true then (n,NameKind.cell) else (n,q))::r.H λ(n,k)=>if (k == NameKind.free&&env.scope.kind == .function&&env.kindOf n == some .cell) then (n,NameKind.cell) else (n,k))=some k:=h;cases hc:(q == NameKind.free&&env.scope.kind == .function&&env.kindOf n == some .cell)=true
  .rw[Yi hc,Fx]at h';cases hx:(x == n)=true
   .simp_all
   .let UT:(x == n)=false:=by simpa using hx
    rw[UT]at h';rcases vS (env:=env) h' hk with z|z
    .grind
    grind
  .rw[Yh hc,Fx]at h';cases hx:(x == n)=true
   .grind
   .let UT:(x == n)=false:=by simpa using hx
    rw[UT]at h';rcases vS (env:=env) h' hk with z|z
    .grind
    grind
def JF{env:Env}:∀{names:List (Str×NameKind)}{x:Str},names.S x=some .free->
  (names.H λ(n,k)=>if (k == NameKind.free&&env.scope.kind == .function&&env.kindOf n == some .cell) then (n,NameKind.cell) else (n,k)).S x=some .cell\/
  (names.H λ(n,k)=>if (k == NameKind.free&&env.scope.kind == .function&&env.kindOf n == some .cell) then (n,NameKind.cell) else (n,k)).S x=some .free
 |[],_,h=>by simp at h
 | (n,q)::r,x,h=>by
  change List.S x ((if (q == NameKind.free&&env.scope.kind == .function&&env.kindOf n == some .cell)=true then (n,NameKind.cell) else (n,q))::_)=_\/List.S x ((if (q == NameKind.free&&env.scope.kind == .function&&env.kindOf n == some .cell)=true then (n,NameKind.cell) else (n,q))::_)=_;rw[Fx]at h;cases hc:(q == NameKind.free&&env.scope.kind == .function&&env.kindOf n == some .cell)=true
  .rw[Yi hc,Fx];cases hx:(x == n)=true
   .rw[hx];show .inl rfl
   .let UT:(x == n)=false:=by simpa using hx
    rw[UT]at h ⊢;show JF h
  .rw[Yh hc,Fx];cases hx:(x == n)=true
   .rw[hx]at h ⊢;show .inr h
   .let UT:(x == n)=false:=by simpa using hx
    rw[UT]at h ⊢;show JF h
def Ur(X:Cx)(N':List Str)(scope:Scope)(C:Addr)(s:Shared)(H:Hp)(fp:List Addr):(Cx) where
 prog:=X.prog
 w:=X.w
 K:=X.K
 mg:=X.mg
 base:=X.base
 A:=X.A
 N:=N'
 s₀:=s
 H₀:=H
 env:=compEnvC scope (RQ X.X.cells scope.names []) C X.X
 outer:=X.stack
 stack:=X.stack
 ex:=fp
 fn:=λ_=>false
 calm:=X.calm
 pn:=[]
 xe:=λ_ _=>False
def σC(o:Nat)(fr:List Nat)(σ:St):(St):=List.U o none++fr.H λj=>(σ[j]?).join
structure CompScope(sc0:Scope)(N N':List Str)(o:Nat)(fr:List Nat)(scope:Scope):Prop where
 kind:scope.kind=.function
 nocell:(scope.names.all λy=>y.2 != .cell)=true
 loc:(scope.names.all λy=>y.2 != .local||scope.names.S y.1 == some .local)=true
 free:(scope.names.all λy=>y.2 != .free||sc0.names.S y.1 == some .cell||sc0.names.S y.1 == some .free)=true
 len:N'.f=o+fr.f
 sees:((List.range fr.f).all λj=>match fr[j]? with
  |none=>false
  |some y=>match N[y]? with
   |none=>false
   |some x=>N'[o+j]? == some x&&scope.names.S x == some .free)=true
def Nm(rG:It)(g:TG)(tt:TT)(te:TE)(o:Nat)(fr:List Nat)(σ:St)(H1:Hp)(Q:VK):(Prop):=∃W:Nat->Nat->List V->Hp->Prop,(∃m,W 0 m [] H1)/\∀i m ys H,W i m ys H->
 (rG.stop i H/\ys.f<=sizeLine/\∀p,H p=none->Q ↑p (upd H p<|.lst ys))\/
 (rG.go i H/\ys.f<sizeLine/\∀x H',rG.yld i H x H'->g x (σC o fr σ) H' λσ2 H2=>tt σ2 H2 λb H3=>if b=true then te σ2 H3 λy H4=>∃m',m'<m/\W (i+1) m' (ys++[y]) H4 else ∃m',m'<m/\W (i+1) m' ys H3)
def pT(wi:TI)(g:TG)(tt:TT)(te:TE)(o:Nat)(fr:List Nat):(TE):=λσ H Q=>wi σ H λrG H1=>Nm rG g tt te o fr σ H1 Q
def Pq(o:Nat)(g:TG):(Prop):=∀x ow fr H Q,ow.f=o->g x (ow++fr) H Q->g x (ow++fr) H λσ2 H2=>(∃DZ,DZ.f=o/\σ2=DZ++fr)/\Q σ2 H2
def Zq(h:i<o):Pq o (Ny i):=λx ow fr H Q hl q=>{{ow.set i<|some x,by simp_all,by simp_all},q}
def Nl(o:Nat)(g:JY):(Prop):=∀xs ow fr H Q,ow.f=o->g xs (ow++fr) H Q->g xs (ow++fr) H λσ2 H2=>(∃DZ,DZ.f=o/\σ2=DZ++fr)/\Q σ2 H2
def DY:Nl o gNil:=λ_ ow _ _ _ hl zz=>by let(e,q):=zz;exists e,⟨ow,hl,Z⟩,q
def Oj(h:i<o)(h2:Nl o u):Nl o (gCons (Ny i) u):=by
 rintro xs ow fr H Q hl ⟨v,r,rfl,q⟩;exists v,r,Z,?_;let q':u r ((ow++fr).set i (some v)) H Q:=q
 change u r ((ow++fr).set i (some v)) H _;rw[List.set_append_left _ _ (by simp_all)]at q' ⊢;show h2 r (ow.set i<|some v) fr H Q (by simp_all) q'
def DX{K:Ad}{o n:Nat}{u:JY}(h:Nl o u):Pq o (gTup K n u):=by rintro x ow fr H Q hl ⟨a,xs,rfl,hs,hn,q⟩;exists a,xs,Z,hs,hn,h xs ow fr H Q hl q
section
variable{X:Cx}{pins:List (Addr×Obj)}{σ:St}{H:Hp}{s:Shared}{N':List Str}{o:Nat}{fr:List Nat}{scope:Scope}{fp:List Addr}
abbrev VW(us:Ag):Obj:={cls:=.type "list",data:=.seq us.C us.f}
def CompScope.nocell'(S:CompScope sc0 N N' o fr scope):∀y∈scope.names,y.2≠.cell:=λy hy e=>by
 let q:=NO.R S.nocell y hy
 simp_all
def CompScope.loc'(S:CompScope sc0 N N' o fr scope):∀y∈scope.names,y.2=.local->scope.names.S y.1=some .local:=λy hy e=>by
 let q:=NO.R S.loc y hy
 simp_all
def CompScope.free'(S:CompScope sc0 N N' o fr scope)(hs:X.X.scope=sc0):∀y∈scope.names,y.2=.free->X.X.kindOf y.1=some .cell\/X.X.kindOf y.1=some .free:=λy hy e=>by
 let q:=NO.R S.free y hy;rw[e]at q;change X.X.scope.names.S y.1=_\/X.X.scope.names.S y.1=_
 rw[hs];simpa using q
def CompScope.sees'(S:CompScope sc0 N N' o fr scope):∀j y,fr[j]?=some y->∃x,N[y]?=some x/\N'[o+j]?=some x/\scope.names.S x=some .free:=λj y e=>by
 let hj:j<fr.f:=(Xv.R e).1;let q:=NO.R S.sees j (YY.mpr hj)
 grind
def CompScope.cells(S:CompScope sc0 N0 N' o fr scope)(hs:X.X.scope=sc0)(I:Inv X pins σ H s):∀y∈scope.names,y.2=.free->∃c,X.X.cells.S y.1=some c:=λy hy e=>I.ok.has y.1 (S.free' hs y hy e)
def CompScope.sub(S:CompScope sc0 N0 N' o fr scope)(hs:X.X.scope=sc0)(I:Inv X pins σ H s):∀x c,(RQ X.X.cells scope.names []).S x=some c->X.X.cells.S x=some c:=
 pV (env:=X.X) scope.names [] (S.cells hs I) (λ_ _ z=>nomatch z)
def Inv.block(S:CompScope sc0 N0 N' o fr scope)(hs:X.X.scope=sc0)(hN:X.N=N0)(I:Inv X pins σ H s)(hf:∀b∈fp,FpOk X pins H b)(Oi:∀b∈fp,b<(~~~s)){h1:Heap}{C tB:Addr}{m:Af}{t:Nat}
  (hC:(~~~s)<=C)(hD:(~~~s)<=tB)(Nk:tB≠C)
  (old:∀b ob,s.r.E b=some ob->h1.E b=some ob)(hn:h1.Ns C m)(ha:h1.E tB=some (VW us)):Inv (Ur X N' scope C s H fp) [(tB,VW us)] (σC o fr σ) H {s with heap:=h1,toks:=t}:=by
 let sub:=S.sub hs I;let frC:∀b∈TJ X.stack,b<(~~~s):=λb hb=>by let(_,ob,ho,_):=I.stack.mem hb;show Yk ho
 show⟨{I.ok.mod,S.kind,I.ok.glob,I.ok.blt,hC,λx y c h1 h2=>I.ok.inj x y c (sub x c h1)<|sub y c h2,λx hx=>?_,λx c hfx _=>(nomatch hfx),I.ok.hd,I.ok.frames,.inl Z,λb hb=>?_,I.bs,Yl I.ok.bsz I.sz,λb ob e hb=>?_,λb hb Pp=>?_,I.stack,I.stkFree},
  rfl,I.bare,Un.kept old,{m,hn,λi x v e1 e2 e3=>?_},λx c e=>?_,I.hok.fresh hC,λx c e=>I.freeC x c<|sub x c e,λp hp=>?_,I.hok.kept old,?_⟩
 .let UT:(relabel scope X.X).names.S x=some .cell\/(relabel scope X.X).names.S x=some .free:=hx;let key:(x,NameKind.free)∈scope.names:=by
   rcases UT with z|z
   .rcases vS (env:=X.X) z (.inl rfl) with q|q
    .show q
    .show absurd Z (S.nocell' _ q)
   .rcases vS (env:=X.X) z (.inr rfl) with q|q
    .show q
    .show absurd Z (S.nocell' _ q)
  show Km.R (vT (cells:=X.X.cells) scope.names [] x key)
 .let⟨f0,f1,f2,f3,f4,f5⟩:=hf b hb;exists Yw<|Yp (Oi b hb) hC,λx c e=>f4 x c<|sub x c e
 .let⟨f0,f1,f2,f3,f4,f5⟩:=hf b hb;rcases f3 with z|z
  .show I.ok.noex b ob e z
  .show absurd (Yp (Yk e)<|Yl I.ok.bsz z) (RX _)
 .let⟨f0,f1,f2,f3,f4,f5⟩:=hf b hb;rcases Yo.R (I.stkSub b Pp) with z|z
  .show f1 z
  lia
 .unfold σC at e2;cases hi:i<o
  .rw[YG (by rwa[UZ]),List.getElem?_replicate,Yi hi]at e2;cases e2
  .rw[YD (by simp_all),UZ,Yn]at e2;cases hy:fr[i-o]? with
   |none=>simp_all
   |some y=>
    rw[hy]at e2;let aO:(σ[y]?).join=some v:=Ym e2
    let e3':σ[y]?=some (some v):=by
     cases q:σ[y]? with
     |none=>simp_all
     |some z=>rw[q]at aO;show YF some aO
    let(x',s2,s1,s3):=S.sees' (i-o) y hy;rw[<-hN]at s2;rw[show o+(i-o)=i by simp_all]at s1;let ex:x=x':=by let e1':N'[i]?=some x:=e1;rw[e1']at s1;show Ym s1
    subst ex;let hmem:=Ky s3
    let(m0,_,hl):=I.loc;let hk:=S.free' hs (x,.free) hmem rfl
    let(u,ru,lk):=hl y x v s2 e3' (by rcases hk with z|z;show .inr (.inl z);show .inr<|.inr z);exists u,ru,.inr {JF (env:=X.X) s3,?_};let(c',Vj):=Km.R (vT (cells:=X.X.cells) scope.names [] x hmem);exists c',Vj,?_;rcases lk with ⟨z,_⟩|⟨_,c,e,ob,ho,hd⟩
    .simp_all
    .let ec:c=c':=by
      have:=sub x c' Vj
      rw[e]at this;show Ym this
     subst ec;exists ob,old _ _ ho,hd
 .let⟨v,ob,ho,hd⟩:=I.cell x c (sub x c e);exists v,ob,old _ _ ho,hd
 .let e:p=(tB,VW us):=by simpa using (show p∈([]:List (Addr×Obj))++[(tB,VW us)] from hp)
  subst e;exists ha,I.hok.fresh hD,Nk,λz=>absurd (Yp (frC tB z) hD)<|RX _,λv z=>nomatch z
 .change(σC o fr σ).f=N'.f;unfold σC;rw[Xe,UZ,Yb,S.len]
def Inv.unblock(I:Inv X pins σ H s)(hf:∀b∈fp,FpOk X pins H b){σ':St}{s':Shared}(hC:(~~~s)<=C)(hD:(~~~s)<=tB)(Nk:tB≠C)
  (I':Inv (Ur X N' scope C s H fp) [(tB,VW us)] σ' H' s')(r:Vals ys us)(hz:ys.f<=sizeLine):∃oC m,s'.r.E C=some oC/\s'.r.Ns C m/\Inv X (pins++[(C,oC)]) σ (upd H' tB<|.lst ys) s':=by
 let(aD,nD,_,_,_):=I'.pin (tB,VW us) Fe;let un:Un (TJ X.stack) fp H H' s.r s'.r:=I'.base
 let lt:∀b u,H b=some u->b≠tB:=λb u e=>Yw (Yp (I.hok.lt e) hD);let pS:Un (TJ X.stack) fp H (upd H' tB<|.lst ys) s.r s'.r:=by
  exists un.keep,un.slot,λb ob e n hx=>?_,un.there,λb xs e=>?_,λb ob u e=>?_,λb ps e=>?_
  .rw[Zb (Yw<|Yp (Yk e) hD)];show un.free b ob e n hx
  .rw[Zb (lt b _ e)];show un.tups b xs e
  .rw[Zb (lt b _ e)];show un.frzs b ob u e
  .let⟨more,q⟩:=un.tbls b ps e;exists more,by rwa[Zb (lt b _ e)]
 let hok:HOk X.prog X.w (upd H' tB<|.lst ys) s'.r:=λb u e=>by
  cases hb:b=tB
  .subst hb;rw[XZ]at e;cases e;exists hz,us,us.f,r,aD
  .rw[Zb hb]at e;show(I'.hok b u e).stay (λc v _ q=>q) (λc q=>by rwa[Zb (Za q nD)]) λc xs q=>by rwa[Zb (Za q nD)]
 let os:s'.os=s.os:=I'.os;let rG:Inv X pins σ (upd H' tB<|.lst ys) s':=I.call' (ch:=fp) os pS hok I'.bare λb hb=>by let(f0,f1,f2,f3,f4,f5):=hf b hb;exists f3,f1,f4,f5
 let(m,hn,_):=I'.loc;let(oC,es,ep,pR,hdC,_):=id hn;exists oC,m,pR,hn,rG.pins_of λp hp=>?_;rcases Xk.R hp with z|z
 .show rG.pin p (Yg _ z)
 .let e:p=(C,oC):=by simpa using z
  subst e;let nC:H' C=none:=I'.free
  exists pR,by rw[Zb (XH Nk)];show nC,RA<|Yp I.lt hC,I.nofs hC,λv z=>?_
  simp_all
end
section
variable{X:Cx}{N':List Str}{o:Nat}{fr:List Nat}{scope:Scope}{elt tg iter:Expr}{ifs:List Expr}{pos:Pos}{wi:TI}{g:TG}{tt:TT}{te:TE}
def DW(hc:X.calm=true)(S:CompScope sc0 N0 N' o fr scope)(hi:PI X tg iter wi)(ho:Pq o g)
  (hg:∀C s H fp,PG (Ur X N' scope C s H fp) tg g)
  (ht:∀C s H fp,Ea (Ur X N' scope C s H fp) ifs tt)
  (he:∀C s H fp,PE (Ur X N' scope C s H fp) elt te)
  (hs:∀x,foldedSetIterable iter X.X x=pure x)(Qw:X.X.scope=sc0)(DV:X.N=N0)(I:Inv X pins σ H s)(h:pT wi g tt te o fr σ H Qv)
  {use:Option (Value->Sem Unit)}{Q:Ae}{E:Ae}
  (hE:∀e s',X.xe e s'->E e s')
  (fin:∀C oC tB m H' ys s',Inv X (pins++[(C,oC)]) σ (upd H' tB<|.lst ys) s'->Qv ↑tB (upd H' tB<|.lst ys)->s'.r.Ns C m->H' C=none->C≠tB->
   C≠X.X.locals->(~~~X.s₀)<=C->(∀x c,X.X.cells.S x=some c->c≠C)->(∀p∈X.pn++pins,p.1≠C)->compPost (model X.prog X.w) X.A E use Q ↑tB C (.ok .next) s'):
  wpAny (model X.prog X.w) X.A (comprehension (.ListComp elt [⟨tg,iter,ifs,0⟩] scope pos) scope X.X (firstIterPos [⟨tg,iter,ifs,0⟩] pos) (newList []) false (eval iter X.X) use) Q E s:=by
 show wpAny_comprehension_free (use:=use) Z hs (ZM8<|S.cells Qw I) S.kind S.loc' (Tq (hi pins s σ H _ I h) (λxv s1 h1=>Tq h1 (λrf s2 h2=>?_) hE) hE);let(it,fp,tn,rG,H2,rfl,I2,T,WW,f2,W,(m0,w0),turn):=h2;let Oi:∀b∈fp,b<(~~~s2):=λb hb=>by let(ob,e,_):=T.obj 0 _ WW b hb;show Yk e
 show QC (wpAny_newFunctionEnv S.nocell' (by simp_all) (λh1 DU JE=>?_) S.kind);generalize pQ:s2.r.push {cls:=.type "list",dict:=none,data:=.seq ([]:Ag).C}=G at DU JE ⊢;let aN:G.objs.o=(~~~s2)+1:=by rw[<-pQ,Ox]
 let hC:(~~~s2)<=G.objs.o:=by rw[aN];show Ts _
 let Nk:(~~~s2)≠G.objs.o:=by rw[aN];show Yw (Ho _)
 let old:∀b ob,s2.r.E b=some ob->h1.E b=some ob:=λb ob e=>
  JE.extBut b ob (Yw<|Yp (Yk e) hC) (Xl _<|pQ▸Xl _ e)
 let VC:h1.E (~~~s2)=some (VW []):=JE.extBut _ _ Nk (Xl _<|pQ▸Qd _ Z);let Vc:tn 0 h1:=T.keep _ _ _ WW λb _ ob e=>old b ob e
 let pP:∀{us:Ag}{H':Hp},(∀b∈fp,H' b=none)->∀b∈fp,FpOk (Ur X N' scope G.objs.o s2 H2 fp) [((~~~s2),VW us)] H' b:=λ{us H'} hn b hb=>by
  let(f0,f1,f3,f4,f5,f6):=f2 b hb;exists hn b hb,Yw<|Yp (Oi b hb) hC,λz=>?_,.inl hb,λx c e=>f5 x c<|S.sub Qw I2 x c e,λp hp=>?_
  .rcases Yo.R (I2.stkSub b z) with q|q
   .show f1 q
   lia
  .let e:p=((~~~s2),VW us):=by simpa using (show p∈([]:List (Addr×Obj))++[((~~~s2),VW us)] from hp)
   subst e;show RA (Oi b hb)
 let loop:∀s3:Shared,s3={s2 with heap:=h1,toks:=s2.toks+([]:List (Str×Value)).f}->
   codeAny (model X.prog X.w) X.A (.compLoop (.ListComp elt [⟨tg,iter,ifs,0⟩] scope pos) 0 ↑it (.ref (~~~s2))<|compEnvC scope (RQ X.X.cells scope.names []) G.objs.o X.X)
    (compPost (model X.prog X.w) X.A E use Q (.ref (~~~s2)) G.objs.o) s3:=by
  rintro s3 rfl;show pW (λn s'=>∃i σ' H' ys us,Inv (Ur X N' scope G.objs.o s2 H2 fp) [((~~~s2),VW us)] σ' H' s'/\σ'=σC o fr σ/\Vals ys us/\tn i s'.r/\(∀b∈fp,H' b=none)/\W i n ys H') ?_ m0
   {0,_,H2,[],[],I2.block S Qw DV f2 Oi hC (XI _) Nk old DU VC,Z,.nil,Vc,λb hb=>(f2 b hb).1,w0}
  rintro n s' ⟨i,σ',H',ys,us,I',rfl,rv,XR,aM,w'⟩;rcases turn i n ys H' w' with ⟨stop,hz,q⟩|⟨go,hz,step⟩
  .show thn (T.done (Ur X N' scope G.objs.o s2 H2 fp) Z Z Z hc i _ s' _ H' _ I' (pP aM) XR stop) λr s4 zz=>?_;let(hr,I4):=zz;subst hr;let(oC,m,pR,hn,J4):=I2.unblock f2 hC (XI _) Nk I4 rv hz;show fin _ oC _ m H' ys s4 J4 (q _ (I4.pin ((~~~s2),VW us) Fe).2.1) hn I4.free (XH Nk) (RA<|Yp I2.lt hC) (Yl I2.sz hC)
    (λx c e=>by let(v,z):=I2.cell x c e;show Yw<|Yp z.lt hC) λp hp=>Yw (Yp (Yk (I2.pin p hp).1) hC)
  .show thn (T.item (Ur X N' scope G.objs.o s2 H2 fp) Z Z Z hc i _ s' _ H' _ I' (pP aM) XR go) λr s4 XB=>?_;let(u,hr,h4):=XB;subst hr;show thn h4 λ_ s5 XB=>?_;let(x,H5,I5,r5,y5,UM,qY):=XB;let Wr:=step x H5 y5
   let pO:=ho x (List.U o none) (fr.H λj=>(σ[j]?).join) H5 _ (UZ ..) Wr;let qX:=I5.pinned (pP (us:=us) qY) (T.obj _ _ UM)
   show thn (hg _ _ _ _ _ s5 _ H5 x u _ qX r5 pO) λ_ s6 XB=>?_;let(σ6,H6,I6,(ow,Nj,e6),q6):=XB;subst e6;show thn (ht _ _ _ _ _ s6 _ H6 _ I6 q6) λb s7 XB=>?_;let(H7,I7,q7):=XB;let back:∀{us':Ag}{σ8:St}{H8:Hp}{s8:Shared},Inv (Ur X N' scope G.objs.o s2 H2 fp) ([((~~~s2),VW us')]++Nw fp s5.r) (ow++fr.H λj=>(σ[j]?).join) H8 s8->
     Inv (Ur X N' scope G.objs.o s2 H2 fp) [((~~~s2),VW us')] (σC o fr σ) H8 s8/\tn (i+1) s8.r/\∀b∈fp,H8 b=none:=λ{us' σ8 H8 s8} I8=>by
    exists I8.unpinned.weak ?_ λj v e=>?_,T.keep _ _ _ UM λb hb ob e=>(I8.pin (b,ob)<|Yg _<|Yg _<|wj hb e).1,λb hb=>?_
    .unfold σC
     simp_all
    .unfold σC at e;grind
    .let⟨ob,e,_⟩:=T.obj _ _ UM b hb;show(I8.pin (b,ob)<|Yg _<|Yg _<|wj hb e).2.1
   cases b with
   |false=>
    let(m',hm,w7):=q7;let(I8,st8,fr8):=back (us':=us) (σ8:=[]) I7;exists m',hm,i+1,_,H7,ys,us,I8,Z,rv,st8,fr8,w7
   |true=>
    show thn (he _ _ _ _ _ s7 _ H7 _ I7 q7) λy s8 XB=>?_;let(yv,H8,I8,r8,m',hm,w8):=XB;let(aD,nD,_,_,_):=I8.pin ((~~~s2),VW us) Fe;let hul:us.f<=sizeLine:=by rw[<-rv.f];show Ow hz
    show append_at (hsz:=by omega) aD λh9 hs9 hD9=>?_;let I9:Inv (Ur X N' scope G.objs.o s2 H2 fp) (Nw fp s5.r) (ow++fr.H λj=>(σ[j]?).join) H8 {s8 with heap:=h9}:=
     (I8.pins_of (pins':=Nw fp s5.r) λp hp=>I8.pin p<|Yg _<|Yg _ hp).turned (t':=s8.toks) (it:=(~~~s2)) (λb ob hb e=>hs9.extBut b ob hb e) nD Nk (.inr<|XI _)
      (λx c e=>by let(v,z):=I2.cell x c (S.sub Qw I2 x c e);show Yw z.lt)
      λp hp=>by let(hb,_):=br (show p∈Nw fp s5.r from by simpa[Ur] using hp);show Yw (Oi p.1 hb)
    let I9':Inv (Ur X N' scope G.objs.o s2 H2 fp) ([((~~~s2),VW<|us++[y])]++Nw fp s5.r) (ow++fr.H λj=>(σ[j]?).join) H8 {s8 with heap:=h9}:=
     I9.pins_of λp hp=>by
      rcases Xk.R hp with z|z
      .simp_all
      .show I9.pin p (Yg _ z)
    let(I10,pN,pM):=back (us':=us++[y]) (σ8:=[]) I9';exists m',hm,i+1,_,H8,ys++[yv],us++[y],I10,Z,Vals.append rv<|.cons r8 .nil,pN,pM,w8
 show codeAny_compStart_list (loop _ Z) (T.self _ 0 _ _ _ Vc<|loop _ Z)
def US(hc:X.calm=true)(S:CompScope sc0 N0 N' o fr scope)(hi:PI X tg iter wi)(ho:Pq o g)
  (hg:∀C s H fp,PG (Ur X N' scope C s H fp) tg g)
  (ht:∀C s H fp,Ea (Ur X N' scope C s H fp) ifs tt)
  (he:∀C s H fp,PE (Ur X N' scope C s H fp) elt te)
  (hs:autoParam (∀x,foldedSetIterable iter X.X x=pure x) D4._auto_1)(Qw:autoParam (X.X.scope=sc0) D1._auto_1)(DV:autoParam (X.N=N0) D1._auto_1):PE X (.ListComp elt [⟨tg,iter,ifs,0⟩] scope pos) (pT wi g tt te o fr):=by intro pins s σ H Q I h;show DW hc S hi ho hg ht he hs Qw DV I h (use:=none) (λ_ _ z=>z) λC oC tB m H' ys s' rG q hn nC pL pK pJ pI pH=>?_;exists m,hn,λh' VL=>{.ref tB,upd H' tB<|.lst ys,?_,Z,q};show rG.unpinned.turned (t':=s'.toks) (it:=C) (λb ob hb e=>VL.extBut b ob hb e) (by rwa[Zb pL]) pK (.inr pJ) pI pH
def Rg{x:Str}{px:Pos}{DT:Pos}(hc:X.calm=true)(hN:X.N.Nodup)(hx:X.N[i]?=some x)(hl:X.X.kindOf x=some .local)(S:CompScope sc0 N0 N' o fr scope)(hi:PI X tg iter wi)(ho:Pq o g)
  (hg:∀C s H fp,PG (Ur X N' scope C s H fp) tg g)
  (ht:∀C s H fp,Ea (Ur X N' scope C s H fp) ifs tt)
  (he:∀C s H fp,PE (Ur X N' scope C s H fp) elt te)
  (hs:autoParam (∀x,foldedSetIterable iter X.X x=pure x) D4._auto_1)(Qw:autoParam (X.X.scope=sc0) D1._auto_1)(DV:autoParam (X.N=N0) D1._auto_1)
  (hsw:autoParam (swapsWith (.ListComp elt [⟨tg,iter,ifs,0⟩] scope pos) (some<|.Name x px) DT.line X.X=pure true) D1._auto_1):
  PS X (.Assign [.Name x px] (.ListComp elt [⟨tg,iter,ifs,0⟩] scope pos) DT) (Nx (pT wi g tt te o fr)<|Ny i):=by
 intro pins s σ H tB I h;rw[exec_Assign_Name_used _ _ _ _ hsw];show XT (wpAny_standAt<|XT ?_);show XT (Tq (DW (Q:=λ_ s'=>SP X pins tB .next s') hc S hi ho hg ht he hs Qw DV I h (use:=some<|assign (.Name x px) X.X) (λ_ _ z=>z) λC oC Dd m H' ys s' rG q hn nC pL pK pJ pI pH=>?_) (λ_ s' hq=>Ye<|Ye hq) λ_ _ e=>e);show wpAny_assign_Name (wy rG hN hx (.inl hl) (v:=.ref Dd) Z (λs2 I2=>?_)<|.inr hl);let g1:=(I2.pin (C,oC) Fe).1
 let n2:s2.r.Ns C m:=by
  let(oc,es,ep,e,r):=hn;let e0:=(rG.pin (C,oC) Fe).1
  let e0:s'.r.E C=some oC:=e0;rw[e]at e0;cases e0;exists _,es,ep,g1,r
 exists m,n2,λh' VL=>{_,upd H' Dd<|.lst ys,?_,q};show I2.unpinned.turned (t':=s2.toks) (it:=C) (λb ob hb e=>VL.extBut b ob hb e) (by rwa[Zb pL]) pK (.inr pJ) pI pH
end
section
variable{X:Cx}
def pG{x y:V}{us:Ag}(r:Vals [x,y] us):∃u v,us=[u,v]/\RelV x u/\RelV y v:=by
 cases r with
 |cons a r=>
  cases r with
  |cons b r=>cases r;exists _,_,Z,a,b
def Zu:∀{ns:Ac}{us:Ag},Vals (ns.H V.int) us->IntsAre us ns
 |[],_,.nil=>.nil
 |n::ns,_,.cons r t=>by let(tk,rfl):=r;show .cons n tk (Zu t)
def vR:VF X (.type "range") (λxs H Q=>∃j:Int,xs=[.int j]/\∀p,H p=none->Q ↑p (upd H p (.rng 0 j))):=by intro pins s σ H xs us Q I r h;let(j,rfl,q):=h;let(u,rfl,t,rfl):=Vi r;show call_range_1 ?_;exists .ref (~~~s),_,I.laid (o:=.rng 0 j) (λb u e=>Xl _ e) (XI _) {_,_,_,Qd _ Z},Z,q _<|I.hok.fresh<|XI _
def Wx(lo hi:Int):(Ac):=(List.range (hi-lo).j).H λ(i:Nat)=>lo+(i:Int)
def aL(lo hi:Int):(Wx lo hi).f=(hi-lo).j:=by unfold Wx;simp_all
def DS{lo:Int}:∀{us:Ag},us.f=n->(∀(j:Nat)(v:Value),us[j]?=some v->∃t,v=Value.int (lo+(j:Int)) t)->Vals (((List.range n).H λ(i:Nat)=>lo+(i:Int)).H V.int) us:=by
 induction n generalizing lo with
 |zero=>
  intro us h _;rw[UG.R h];show .nil
 |succ n ih=>
  intro us h hv;cases us with
  |nil=>cases h
  |cons u us=>
   rw[List.range_succ_eq_map,SR,SR];show .cons ?_ ?_
   .let⟨t,e⟩:=hv 0 u rfl;exists t,e
   .let q:=ih (lo:=lo+1) (us:=us) (NI h) λj v e=>by let(t,e'):=hv (j+1) v (by simpa using e);grind
    let e:(List.range n).H (λ(i:Nat)=>lo+1+(i:Int))=((List.range n).H Nat.succ).H (λ(i:Nat)=>lo+(i:Int)):=by
     rw[Ov];show YQ λi _=>?_;change lo+1+(i:Int)=lo+((i+1:Nat):Int)
     lia
    rwa[e]at q
inductive yR1(xs:List V)(H:Hp)(Q:VK):Prop
 |mk (p lo hi:_) (_:xs=[.ref p]) (_:H p=some (.rng lo hi)) (_:(-(2^62)<=lo/\lo<2^62/\-(2^62)<=hi/\hi<2^62)) (_:(hi-lo).j<=16777216) (_:∀l,H l=none->Q ↑l (upd H l<|.lst<|(Wx lo hi).H V.int))
def pF(hc:X.calm=true):VF X (.type "list") (yR1):=by
 intro pins s σ H xs us Q I r h;let(p,lo,hi,rfl,hp,(b1,b2,b3,b4),hz,q):=h;let(u,rfl,ru):=Vi r;let rfl:u=Value.ref p:=ru;let(t,u,v,e):=(show ObjOk X.prog X.w H s.r p (.rng lo hi) from I.hok p _ hp);let hn:Builtin.Range.rangeSize lo hi 1=(((hi-lo).j:Nat):Int):=by rw[rangeSize_one];split<;>grind
 show call_list_range (I.ok.hd hc) (t:=t) (u:=u) (v:=v) e (small_one b1 b2 b3 b4) hn hz λh' tk acc c' hk hS ha=>?_;let hl:acc.m.f=(hi-lo).j:=by rw[YI];show ha.1
 let rv:Vals ((Wx lo hi).H V.int) acc.m:=DS (lo:=lo) hl λj w ew=>by let(t,e):=ha.2 j w (by simpa using ew);grind
 exists .ref (~~~s),_,I.laid (o:=.lst<|(Wx lo hi).H V.int) hk (XI _) {?_,acc.m,c',rv,?_},Z,q _<|I.hok.fresh<|XI _
 .rw[Yb,aL]
  have:sizeLine=16777216:=RU
  simp_all
 simp_all
def Zu4(hc:X.calm=true):VF X (.builtin "sum") (λxs H Q=>∃(p:Addr)(ns:Ac),xs=[.ref p]/\SqL X.K H p (ns.H V.int)/\Q (.int ns.sum) H):=by
 intro pins s σ H xs us Q I r h;let(p,ns,rfl,hq,q):=h;let(u,rfl,ru):=Vi r;let rfl:u=Value.ref p:=ru;let(XS,rv,pl,hz):=I.list hq;let hi:=Zu rv
 let Ua:=hi.allInts;let(xs,ex):=Ua.items;let hl:=pl.isList
 rw[ex]at hl;show sum_intListG (I.ok.hd hc) hl λh' tk t' hk=>?_;let e1:preSum (numAt xs) xs.o=ns.sum:=by let e2:=hi.numsOf;rw[show XS=XS.C.m from Z,ex,wJ]at e2;rw[preSum_eq,Yv Fe,<-e2]
 exists .int ns.sum,H,I.kept hk,{t',by rw[e1]},q
def seen(ns:Ac):(Ac):=firstMet (λi=>ns.Q i 0) ns.f
def Zw4(hc:X.calm=true):VF X (.type "set") (λxs H Q=>∃p ns,xs=[.ref p]/\SqL X.K H p (ns.H V.int)/\ns.f+1<scanBound/\
  ∀l,H l=none->Q ↑l (upd H l (.set (λk=>(seen ns).any (· == k)) (seen ns).f))):=by
 intro pins s σ H xs us Q I r h;let(p,ns,rfl,hq,hb,q):=h;let(u,rfl,ru):=Vi r;let rfl:u=Value.ref p:=ru;let(XS,rv,pl,hz):=I.list hq;let hi:=Zu rv
 let hl:XS.C.o=ns.f:=by rw[YR,<-rv.f,Yb]
 show call_set_list (I.ok.hd hc) pl.isList (ns:=ns) rO (by simp_all) λh' tk hs hk=>?_;exists .ref (~~~s),_,I.laid (o:=.set (λk=>(seen ns).any (· == k)) (seen ns).f) (λb ob e=>hk b ob (Yk e) e) (XI _) ?_,Z,q _<|I.hok.fresh<|XI _;unfold seen;rwa[<-hl]
def Zx4:VF X (.builtin "len") (λxs H Q=>∃p S n,xs=[.ref p]/\H p=some (.set S n)/\(n:Int)<2^63/\Q (.int n) H):=by intro pins s σ H xs us Q I r h;let(p,S,n,rfl,hp,hn,q):=h;let(u,rfl,ru):=Vi r;let rfl:u=Value.ref p:=ru;let(o,es,ep,t,e,hx,hd,_,_,_,hf,hz):=(show ObjOk X.prog X.w H s.r p (.set S n) from I.hok p _ hp);subst hz;show call_len_set e hx hd hf hn {.int es.o,H,I.tok _,{_,Z},q}
def LC(K:Ad)(a:Addr):(It):=
 {λi H=>∃xs x,SqL K H a xs/\xs[i]?=some x,λi H v H'=>∃T x,H T=none/\v=.ref T/\H'=upd H T (.tup [.int i,x])/\∀xs,SqL K H a xs->xs[i]?=some x,λi H=>∃xs,SqL K H a xs/\xs.f<=i}
inductive xEnu(K:Ad)(vs:List V)(H1:Hp)(R:It->Hp->Prop):Prop
 |mk (a:_) (_:vs=[.ref a]) (_:∃xs,SqL K H1 a xs) (_:R (LC K a) H1)
def DR(K:Ad)(ta:TA):(TI):=λσ H R=>ta σ H λvs H1=>xEnu K vs H1 R
def ZX9{P:Program}{w:World}{K:Ad}{elts:List Expr}{x1:Nat}{pos:Pos}(a e it:Addr)(XJ:e≠it):∀(X:Cx),X.prog=P->X.w=w->X.K=K->∀(i:Nat)(pins:List (Addr×Obj))(s:Shared)(σ:St)(H:Hp)(E:Ae),Inv X pins σ H s->(∀b∈[e,it],FpOk X pins H b)->((∃old,IsEnum s.r e it i old)/\s.r.IsListIter it a i)->(LC K a).go i H->
  wpAny (model P w) X.A (pyNext<|.ref e) (λr s1=>∃u,r=some u/\
   wpAny (model P w) X.A (letOwnedTupleGo (.Tuple elts x1 pos) ↑e u) (λ_ s2=>∃x H',Inv X pins σ H' s2/\RelV x u/\(LC K a).yld i H x H'/\((∃old,IsEnum s2.r e it (i+1:Nat) old)/\s2.r.IsListIter it a (i+1))/\∀b∈[e,it],H' b=none) E s1) E s:=by
 intro X hP hw hK i pins s σ H E I hf st hg;subst hP hw hK;let(xs,x,hq,hx):=hg;let((old,he),hit):=st;let(XS,rv,p,hz):=I.list hq;let(u,hu,ru):=rv.get hx;let(f0,f1,f2,f3,f4,f5):=hf e Fe;let(g0,g1,g2,g3,g4,g5):=hf it Fe;let vQ:H (~~~s)=none:=I.hok.fresh (XI _)
 show wpAny_pyNext_enum_item he hit p.isList (x:=u) (by simpa using hu) XJ λh' ho pE hT hsz hk=>?_;let Oh:∀b ob,s.r.E b=some ob->b≠(~~~s):=λb ob z=>Yw (Yk z)
 let Po:∀b ob,H b=some ob->b≠(~~~s):=λb ob z=>Yw (I.hok.lt z);let I1:Inv X pins σ (upd H (~~~s)<|.tup [.int i,x]) {s with heap:=h',toks:=s.toks+1}:=by
  show I.step (g':=s.gens) (d':=s.drawn) (ch:=[e,it]) (λb hb=>?_) (λb o _ _ VQ z _=>hk b o (λq=>VQ<|by simp[q]) (λq=>VQ<|by simp[q]) z) (λb o _ _ VQ z _=>{o.slots,hk b o (λq=>VQ<|by simp[q]) (λq=>VQ<|by simp[q]) z})
   (λb o _ z n=>by rwa[Zb (Oh b o z)]) (λb o VQ z=>{o,hk b o (λq=>VQ<|by simp[q]) (λq=>VQ<|by simp[q]) z}) (λb ys z=>by rwa[Zb (Po b _ z)]) (λb o v z=>by rwa[Zb (Po b _ z)])
   (λb ps z=>{#[],by rw[Zb (Po b _ z),z];simp}) (λm hm=>?_) (λb v z=>?_) I.bare
  .rcases Yo.R hb with q|hb
   .rw[q];exists f3,f1,f4,f5
   .let q:b=it:=by simpa using hb
    rw[q];exists g3,g1,g4,g5
  .let⟨o,es,ep,TH,r⟩:=hm;exists o,es,ep,hk _ o (XH f1) (XH g1) TH,r
  .cases hb:b=(~~~s)
   .subst hb;rw[XZ]at z;cases z;exists by change 2<=sizeLine;decide,[.int i s.toks,u],.cons {_,Z}<|.cons ru .nil,{_,hT,Z,_,Z}
   .rw[Zb hb]at z;show(I.hok b v z).stay (λc w' Vj q=>?_) (λc q=>by rwa[Zb (Po c _ q)]) λc ys q=>by rwa[Zb (Po c _ q)]
    grind
 exists _,Z,wpAny_letOwnedTupleGo_enum ho λh2 JD UC=>?_;let fT:e≠(~~~s):=Oh e _ he
 let I2:Inv X pins σ (upd H (~~~s)<|.tup [.int i,x]) {s with heap:=h2,toks:=s.toks+1}:=Inv.turned (s:={s with heap:=h',toks:=s.toks+1}) (h':=h2) (t':=s.toks+1) (it:=e) I1 (λb o hb z=>UC.extBut b o hb z) (by rwa[Zb fT]) f1 f3 f4 f5;exists .ref (~~~s),_,I2,Z,{_,x,vQ,Z,Z,λys hy=>by rwa[I.list_inj hy hq]},{{u,by simpa using JD},pE.at λo z=>UC.extBut it o (XH XJ) z},λb hb=>?_;rcases Yo.R hb with q|hb
 .rw[q,Zb fT];show f0
 .let q:b=it:=by simpa using hb
  let(o,eo,_):=hit;rwa[q,Zb (Oh it o eo)]
def pD{P:Program}{w:World}{K:Ad}{elts:List Expr}{x1:Nat}{pos:Pos}(a e it:Addr)(XJ:e≠it):Turn P w K (.Tuple elts x1 pos) (LC K a) [e,it] e (λi h=>(∃old,IsEnum h e it i old)/\h.IsListIter it a i) where
 mem:=Fe
 obj:=λi h st b hb=>by let((old,he),o,eo,c,d):=st;grind
 keep:=λi h h' st k=>by let((old,he),hit):=st;exists {old,k e Fe _ he},hit.at λo x=>k it Fe o x
 item:=λX h1 h2 h3 _=>ZX9 a e it XJ X h1 h2 h3
 done:=by
  intro X hP hw hK hc i pins s σ H E I hf st hg;subst hP hw hK;let(xs,hq,hx):=hg;let((old,he),hit):=st;let(XS,rv,p,hz):=I.list hq;let(g0,g1,g2,g3,g4,g5):=hf it Fe;let hl:=rv.f
  show wpAny_pyNext_enum_end (I.ok.hd hc) he hit p.isList (by simp;simp_all) λh' eb=>{Z,I.turned (t':=s.toks) (it:=it) (λb o hb z=>eb b o hb z) g0 g1 g3 g4 g5}
 self:=λ_ _ _ _ _ st h=>by let((_,he),_):=st;show wpAny_pyIter_enum he h
def DQ{elts:List Expr}{x1:Nat}{Sv:Pos}{a:Expr}{ta:TA}{p pos:Pos}(hg:Gl X "enumerate")(hm:X.mg "enumerate"=none)(ha:PA X [a] ta)(hs:autoParam (starEach [a] X.X=[(false,eval a X.X)]) D1._auto_1):
  PI X (.Tuple elts x1 Sv) (.Call (.Name "enumerate" p) [a] [] pos) (DR X.K ta):=by
 intro pins s σ H R I h;show Call_ (Rp I hg hm Boot.«enumerate»<|Uj (thn (ha pos pins s σ H _ I h) λus s1 XB=>?_) hs Z);let(vs,H1,I1,r1,q1):=XB;let(b,e,(xs,hq),q):=q1;subst e;let(u,rfl,ru):=Vi r1;let rfl:u=Value.ref b:=ru;let(XS,rv,pl,hz):=I1.list hq;show call_enumerate_list pl.isList λh' he hit hsz hk=>?_;let I2:Inv X pins σ H1 {s1 with heap:=h'}:=I1.kept (t':=s1.toks) hk
 show wpAny_pyIter_enum he ?_;let nn:∀k,(~~~s1)<=k->H1 k=none:=λk hk=>I1.hok.fresh hk
 exists (~~~s1)+1,[(~~~s1)+1,(~~~s1)],_,_,H1,Z,I2,pD b _ _<|Nat.succ_ne_self _,{{_,he},hit},λc hc=>?_,q;let hle:(~~~s1)<=c:=by
  rcases Yo.R hc with q|hc
  .simp_all
  .simp_all
 show I1.fpOk hle (nn c hle)
def pC{us:Ag}(r:Vals [kV k,y] us):∃u v,us=[u,v]/\RelV (kV k) u/\RelV y v:=pG r
def pw:(V->List V->Hp->VK->Prop):=λx vs H Q=>∃d kvs k y,x=.ref d/\vs=[kV k,y]/\H d=some (.dK kvs)/\kvs.f<sizeLine/\(∀v,Wi kvs k=some v->Q v H)/\(Wi kvs k=none->Q y (upd H d<|.dK<|kvs++[(k,y)]))
def Zf4:Nq X "dict.setdefault" pw:=by
 intro pins s σ H x vs v us Q I rx rv h;let(d,kvs,k,y,rfl,rfl,hH,hz,h1,h2):=h;cases rx;let(uk,uy,rfl,rk,ry):=pC rv;let(z,hd,ws,rel,dd):=JI I.hok hH;show call_meetsIn cz dd.typeIs PySem.F.entry_dict_setdefault (PySem.F.args_dict_setdefault_3 _ _ _) (kt_meets_setdefault (Rq X.prog X.w) d (qf rk) hd uy)
  {ws,dd,by rw[<-rel.f];show z,λv' GU=>?_,λhn h' aK hs=>?_}
 .cases e:Wi kvs k with
  |none=>
   let q:=rel.val k;rw[e,GU]at q;show False.elim q
  |some w'=>
   let q:=rel.val k;rw[e,GU]at q;exists w',H,I.tok _,q,h1 w' e
 .let e:Wi kvs k=none:=by
   cases e:Wi kvs k with
   |none=>rfl
   |some w'=>
    let q:=rel.val k;rw[e,hn]at q;show False.elim q
  let he:∃q,h'.E d=some q:=by let(q,_,_,hq,_):=aK;exists q,hq
  exists y,_,Eg (ob:=.dK<|putK kvs k y) I (by rw[hH];show True.intro) hs he<|qb ?_ hd (rel.put k ry) aK,ry,?_
  .have:=ZI6 kvs k y;lia
  .rw[qg y e];show h2 e
def Rf(p d:Addr):(HO):=.ext λh=>h.IsValuesView p d
def pq:(V->List V->Hp->VK->Prop):=λx vs H Q=>∃d kvs,x=.ref d/\vs=[]/\H d=some (.dK kvs)/\∀p,H p=none->Q ↑p (upd H p<|Rf p d)
def Zv9:Nq X "dict.values" pq:=by
 intro pins s σ H x vs v us Q I rx rv h;let(d,kvs,rfl,rfl,hH,q):=h;cases rx;cases rv;let(z,hd,ws,rel,dd):=JI I.hok hH;show call_meetsIn cn dd.typeIs PySem.F.entry_dict_values (PySem.F.args_dict_values_1 _) (meets_dict_values (Rq X.prog X.w) d hd) {⟨ws,dd⟩,?_};exists .ref (~~~s),_,I.laid (o:=Rf (~~~s) d) (λb u e=>Xl _ e) (XI _) ?_,Z,q _<|I.hok.fresh<|XI _;let e:=Qd s.r (o:={cls:=.type "dict_values",data:=.fields #[.ref d]}) rfl
 exists {_,e,Z,Z},{_,e},λh1 h2 zz k=>by let(o,ho,r):=zz;exists o,k o ho,r
def ZY9{h:Heap}(dd:h.DictOf (Rq P w) d ws):∃ep,h.DictAt (Rq P w) d ws ep:=by let(o,es,ep,r):=dd;exists ep,o,es,r
def pj{κ:Type}{kvs:List (κ×V)}{ws:List (κ×Value)}(h:KV kvs ws):Vals (kvs.H (·.2)) (ws.H (·.2)):=by
 induction h with
 |nil=>show .nil
 |cons r t ih=>show .cons r.2 ih
def ZO3(hc:X.calm=true):VF X (.type "list") (λxs H Q=>∃p d kvs,xs=[.ref p]/\H p=some (Rf p d)/\H d=some (.dK kvs)/\∀l,H l=none->Q ↑l (upd H l (.lst (kvs.H (·.2))))):=by
 intro pins s σ H xs us Q I r h;let(p,d,kvs,rfl,hp,hd,q):=h;let(u,rfl,ru):=Vi r;let rfl:u=Value.ref p:=ru;let(hv,_,_):=(show ObjOk X.prog X.w H s.r p (Rf p d) from I.hok p _ hp);let(z,Ni,ws,rel,dd):=JI I.hok hd;let(ep,da):=ZY9 dd;let hl:ws.f=kvs.f:=rel.f.symm
 show PySem.W.kdl_call (PySem.W.kdl_values (knd:=Rq X.prog X.w) (kvs:=ws) (ep:=ep) (r:=p) (d:=d)) (I.ok.hd hc) ⟨hv,da⟩ (by simp_all) λh' tk acc c' hk hS ha=>?_;let ea:acc.m=ws.H (·.2):=by
  show LP λi=>?_;cases e:acc.m[i]? with
  |none=>
   have:ws.f<=i:=by
    have:=List.getElem?_eq_none_iff.R e
    rwa[YI,ha.1]at this
   simp_all
  |some v=>
   let(k,ek):=ha.2 i v (by simpa using e)
   simp_all
 exists .ref (~~~s),_,I.laid (o:=.lst (kvs.H (·.2))) hk (XI _) {by simp_all,acc.m,c',?_,by rw[hS]},Z,q _<|I.hok.fresh<|XI _;rw[ea];show pj rel
end
inductive EqD(K:Ad)(H:Hp):Nat->V->V->Bool->Prop
 |flat {n:Nat} {x y:V} (fx:SK x=true) (fy:SK y=true):EqD K H n x y (Om x y)
 |lsts {n:Nat} {a b:Addr} {xs ys:List V} {e:Nat->Bool} (ha:SqL K H a xs) (hb:SqL K H b ys) (hl:xs.f=ys.f) (h:∀i x y,xs[i]?=some x->ys[i]?=some y->EqD K H n x y (e i)):EqD K H (n+1) ↑a ↑b ((List.range xs.f).all e)
 |lens {n:Nat} {a b:Addr} {xs ys:List V} (ha:SqL K H a xs) (hb:SqL K H b ys) (hl:xs.f≠ys.f):EqD K H (n+1) ↑a ↑b false
 |tups {n:Nat} {a b:Addr} {xs ys:List V} {e:Nat->Bool} (ha:SqT K H a xs) (hb:SqT K H b ys) (h:∀i x y,xs[i]?=some x->ys[i]?=some y->EqD K H n x y (e i)):
   EqD K H (n+1) ↑a ↑b ((List.range<|min xs.f ys.f).all e&&xs.f == ys.f)
def ph(h:SK x=true):Om x x=true:=by cases x<;>first|rfl|show xf _|show absurd (show false=true from h) YC
section
variable{X:Cx}{pins:List (Addr×Obj)}{σ:St}{H:Hp}{s:Shared}
def Vals.at{j:Nat}(r:Vals xs us)(h:j<us.f):∃x,xs[j]?=some x/\RelV x us[j]:=by
 let hl:=r.f;let hx:xs[j]?=some (xs[j]'(by simp_all)):=Xw (by simp_all)
 let(u,e,ru):=r.get hx
 simp_all
def EqD.self(q:EqD X.K H n x y b)(I:Inv X pins σ H s):x=y->b=true:=by
 induction q with
 |flat fx fy=>intro e;subst e;show ph fx
 |@lsts n a b xs ys e ha hb hl h ih=>
  intro z;cases z;let e1:xs=ys:=I.list_inj ha hb
  simp_all
 |@lens n a b xs ys ha hb hl=>
  intro z;cases z;show absurd (YF List.f<|I.list_inj ha hb) hl
 |@tups n a b xs ys e ha hb h ih=>
  intro z;cases z;let e1:xs=ys:=I.tuple_inj ha hb
  simp_all
def EqD.at(q:EqD X.K H n x y b)(I:Inv X pins σ H s):∀{A:Around}{u v:Value},A.units+n<cLine->RelV x u->RelV y v->SeqAt.EqAt A s u v b:=by
 induction q with
 |flat fx fy=>intro A u v _ ru rv;show En ru rv fx fy
 |@lsts n a b xs ys e ha hb hl h ih=>
  intro A u v hu ru rv;let rfl:u=Value.ref a:=ru;let rfl:v=Value.ref b:=rv;cases Vq:a=b
  .let z:=EqD.self (EqD.lsts ha hb hl h) I (YF V.ref Vq);rw[z,Vq];show SeqAt.EqAt.same _
  let(us,rx,px,_):=I.list ha;let(vs,ry,py,_):=I.list hb;let l1:=rx.f
  let l2:=ry.f;let z:=SeqAt.RcAt.lists (A:=A) (s:=s) (e:=e) px.isList py.isList (by simp_all) J λj h1 h2=>by let(x,ex,Nh):=rx.at (j:=j) (by simpa using h1);let(y,ey,Ng):=ry.at (j:=j) (by simpa using h2);grind
  rw[YR,<-l1]at z;show Kd Vq z
 |@lens n a b xs ys ha hb hl=>
  intro A u v hu ru rv;let rfl:u=Value.ref a:=ru;let rfl:v=Value.ref b:=rv;let(us,rx,px,_):=I.list ha;let(vs,ry,py,_):=I.list hb;let l1:=rx.f
  let l2:=ry.f;let Vq:a≠b:=λz=>by subst z;show hl (YF List.f<|I.list_inj ha hb)
  show Kd Vq (SeqAt.RcAt.lists_lengths px.isList py.isList (by simp_all) B)
 |@tups n a b xs ys e ha hb h ih=>
  intro A u v hu ru rv;let rfl:u=Value.ref a:=ru;let rfl:v=Value.ref b:=rv;cases Vq:a=b
  .let z:=EqD.self (EqD.tups ha hb h) I (YF V.ref Vq);rw[z,Vq];show SeqAt.EqAt.same _
  let(us,rx,px,_):=I.tuple ha;let(vs,ry,py,_):=I.tuple hb;let l1:=rx.f
  let l2:=ry.f;let z:=SeqAt.RcAt.tuples (A:=A) (s:=s) (e:=e) (show s.r.IsTuple a us.C from px) (show s.r.IsTuple b vs.C from py) J λj h1 h2=>by let(x,ex,Nh):=rx.at (j:=j) (by simpa using h1);let(y,ey,Ng):=ry.at (j:=j) (by simpa using h2);grind
  rw[YR,YR,<-l1,<-l2]at z;show Kd Vq z
end
section
variable{X:Cx}
inductive rEqD(K:Ad)(neg:Bool)(x:V)(y:V)(H:Hp)(Q:VK):Prop
 |mk (n b p q:_) (_:x=.ref p) (_:y=.ref q) (_:n<=6) (_:EqD K H n x y b) (_:Q (.bl<|if neg then !b else b) H)
def DP(hu:X.A.units+8<cLine):Wy X (compareOp .Eq) (rEqD X.K false):=by
 intro pins s σ H x y u v Q I ru rv h;let(n,b,p,q,rfl,rfl,hn,d,hq):=h;let rfl:u=Value.ref p:=ru;let rfl:v=Value.ref q:=rv;let fin:EP X pins σ Q (.bool b) s:={.bl b,H,I,Z,hq}
 cases d with
 |flat fx fy=>show absurd (show false=true from fx) YC
 |@lsts n _ _ xs ys e ha hb hl h=>
  let(us,rx,px,_):=I.list ha;let(vs,ry,py,_):=I.list hb;let l1:=rx.f
  let l2:=ry.f;show SeqAt.eq_listAt (e:=e) px.isList py.isList (by simp_all) J (λj h1 h2=>?_) (by simp_all);let(x,ex,Nh):=rx.at (j:=j) (by simpa using h1);let(y,ey,Ng):=ry.at (j:=j) (by simpa using h2);show(h j x y ex ey).at I (A:=X.A.in1) J (by simpa using Nh) (by simpa using Ng)
 |@lens n _ _ xs ys ha hb hl=>
  let(us,rx,px,_):=I.list ha;let(vs,ry,py,_):=I.list hb;let l1:=rx.f
  let l2:=ry.f;show SeqAt.eq_list_lengthsAt px.isList py.isList (by simp_all) B fin
 |@tups n _ _ xs ys e ha hb h=>
  let(us,rx,px,_):=I.tuple ha;let(vs,ry,py,_):=I.tuple hb;let l1:=rx.f
  let l2:=ry.f;show SeqAt.eq_tupleAt (e:=e) (show s.r.IsTuple p us.C from px) (show s.r.IsTuple q vs.C from py) J (λj h1 h2=>?_) (by simp_all);let(x,ex,Nh):=rx.at (j:=j) (by simpa using h1);let(y,ey,Ng):=ry.at (j:=j) (by simpa using h2);show(h j x y ex ey).at I (A:=X.A.in1) J (by simpa using Nh) (by simpa using Ng)
def DO(hu:X.A.units+8<cLine):Wy X (compareOp .NotEq) (rEqD X.K true):=by
 intro pins s σ H x y u v Q I ru rv h;let(n,b,p,q,rfl,rfl,hn,d,hq):=h;let rfl:u=Value.ref p:=ru;let rfl:v=Value.ref q:=rv;let fin:EP X pins σ Q (.bool<|!b) s:={.bl<|!b,H,I,Z,hq}
 cases d with
 |flat fx fy=>show absurd (show false=true from fx) YC
 |@lsts n _ _ xs ys e ha hb hl h=>
  let(us,rx,px,_):=I.list ha;let(vs,ry,py,_):=I.list hb;let l1:=rx.f
  let l2:=ry.f;show SeqAt.RcNeAt.lists (e:=e) px.isList py.isList B rO (λj h1 h2=>?_) _ _ _ _ (by simp_all);let(x,ex,Nh):=rx.at (j:=j) (by simpa using h1);let(y,ey,Ng):=ry.at (j:=j) (by simpa using h2);show(h j x y ex ey).at I (A:=X.A.in1) J (by simpa using Nh) (by simpa using Ng)
 |@lens n _ _ xs ys ha hb hl=>
  let(us,rx,px,_):=I.list ha;let(vs,ry,py,_):=I.list hb;let l1:=rx.f
  let l2:=ry.f;show SeqAt.RcNeAt.lists_lengths px.isList py.isList B rO _ _ _ _ fin
 |@tups n _ _ xs ys e ha hb h=>
  let(us,rx,px,_):=I.tuple ha;let(vs,ry,py,_):=I.tuple hb;let l1:=rx.f
  let l2:=ry.f;show SeqAt.RcNeAt.tuples (e:=e) (show s.r.IsTuple p us.C from px) (show s.r.IsTuple q vs.C from py) B (λj h1 h2=>?_) _ _ _ _ (by simp_all);let(x,ex,Nh):=rx.at (j:=j) (by simpa using h1);let(y,ey,Ng):=ry.at (j:=j) (by simpa using h2);show(h j x y ex ey).at I (A:=X.A.in1) J (by simpa using Nh) (by simpa using Ng)
end
end L2
namespace My
open PySem L2
abbrev IL(ns:Ac):List V:=ns.H V.int
def Xh(ns:Ac):(IL ns).f=ns.f:=Yb ..
def vP(a b:Ac):IL (a++b)=IL a++IL b:=YB ..
def Wh(a:Ac)(r:Int):IL (a++[r])=IL a++[.int r]:=YB ..
def DN(a:Ac)(n:Nat):IL (a.M n)=(IL a).M n:=List.map_take ..
def pf(a:Ac)(n:Nat):IL (a.drop n)=(IL a).drop n:=List.map_drop ..
def JC(a:Ac)(n:Nat)(z:Int):IL (a.set n z)=(IL a).set n (.int z):=List.map_set ..
def WK{i:Nat}{z:Int}(h:ns[i]?=some z):(IL ns)[i]?=some (.int z):=by simp_all
def UL{i:Nat}{x:V}(h:(IL ns)[i]?=some x):∃z,x=.int z/\ns[i]?=some z:=by grind
def Zt{a:Addr}(hn:H a=none)(s:Same H H2):Same H (upd H2 a o):=λb u e=>by rw[Zb (Za e hn)];show s b u e
def Zr{p:Addr}(s:Same H H2)(hp:H2 p=none):Same H (upd H2 p o):=Zt (s.free hp) s
def XY{p:Addr}(hp:H p=none):Same H (upd H p o):=Zr (Same.refl H) hp
def ZP(e:Same H H')(h:SqT K H a xs):SqT K H' a xs:=by
 rcases h with (h|⟨o,h⟩)|h
 .show .inl (.inl<|e _ _ h)
 .show .inl (.inr {o,e _ _ h})
 .show .inr h
def Sq{n:Nat}(h:n<=1000000):n<=sizeLine:=Yl h AP
def Zi{n:Nat}(h:n<=1000000):n<sizeLine:=Kw h AP
def DM(hr:Room k A):A.units+8<cLine:=Kw (Nat.add_le_add_left (by decide:8<=64) _) hr.units
def Zv{α:Type}{xs:List α}{i:Int}{n:Nat}{x:α}(hi:i=(n:Int))(h:xs[n]?=some x):Wk xs i=some x:=by
 subst hi;let hn:n<xs.f:=(Xv.R h).1
 unfold Wk Ri
 simp_all
def pd{c A rH:Prop}[Decidable c](hc:c)(h:A):if decide c=true then A else rH:=by simp_all
def DL{c A rH:Prop}[Decidable c](hc:¬c)(h:rH):if decide c=true then A else rH:=by simp_all
def GP{c A rH:Prop}[Decidable c](hc:c)(h:rH):if (!decide c)=true then A else rH:=by simp_all
def o9{c A rH:Prop}[Decidable c](hc:¬c)(h:A):if (!decide c)=true then A else rH:=by simp_all
def Xt{c A rH:Prop}[Decidable c](h1:c->A)(h2:¬c->rH):if decide c=true then A else rH:=by
 simp_all
def WQ{c A rH:Prop}[Decidable c](h1:c->rH)(h2:¬c->A):if (!decide c)=true then A else rH:=by
 simp_all
def o8{b:Bool}{A rH:Prop}(h1:b=true->A)(h2:b=false->rH):if b=true then A else rH:=by
 simp_all
def JB{b:Bool}{A rH:Prop}(h1:b=true->rH)(h2:b=false->A):if (!b)=true then A else rH:=by
 simp_all
def SqK(k:Bool)(K:Ad)(H:Hp)(a:Addr)(xs:List V):(Prop):=match k with
 |false=>SqL K H a xs
 |true=>SqT K H a xs
def SqK.same(e:Same H H')(h:SqK k K H a xs):SqK k K H' a xs:=by
 cases k with
 |false=>show e.seq h
 |true=>show ZP e h
def SqK.or(h:SqK k K H a xs):SqL K H a xs\/SqT K H a xs:=by
 cases k with
 |false=>show .inl h
 |true=>show .inr h
def DK(K:Ad)(tl:TE):(TI):=λσ H R=>tl σ H λx H1=>∃a,x=.ref a/\(((∃xs,SqL K H1 a xs)/\R (PF K a) H1)\/((∃xs,SqT K H1 a xs)/\R (PD K a) H1))
def JA(hl:PE X l tl):PI X tg l (DK X.K tl):=by
 intro pins s σ H R I h;show thn (hl pins s σ H _ I h) λv s1 XB=>?_;let(x,H1,I1,r1,q1):=XB;let(a,e,q):=q1;subst e;cases r1;rcases q with ⟨⟨xs,hq⟩,q⟩|⟨⟨xs,hq⟩,q⟩
 .let⟨XS,rv,p,hz⟩:=I1.list hq;show wX p.isList ?_;exists (~~~s1),[(~~~s1)],_,_,H1,Z,I1.kept (t':=s1.toks) λb o e=>Xl _ e,bA a _,{_,Qd _ Z,Z,Z},λb hb=>?_,q;let e:b=(~~~s1):=by simpa using hb
  subst e;show I1.fpOk (XI _) (I1.hok.fresh<|XI _)
 .let⟨XS,rv,p,hz⟩:=I1.tuple hq;show Kf (show s1.r.IsTuple a XS.C from p) ?_;exists (~~~s1),[(~~~s1)],_,_,H1,Z,I1.kept (t':=s1.toks) λb o e=>Xl _ e,bx a _,{_,Qd _ Z,Z,Z},λb hb=>?_,q;let e:b=(~~~s1):=by simpa using hb
  subst e;show I1.fpOk (XI _) (I1.hok.fresh<|XI _)
def DJ{g:TG}{tb:TS}{tB:Ends}(Pv:Nat->St->Hp->Prop)(h0:Pv 0 σ H)(hl:∀i σ H,i<=xs.f->Pv i σ H->SqK k K H a xs)
  (hs:∀i x σ H,xs[i]?=some x->Pv i σ H->g x σ H λσ2 H2=>tb {tB with nx:=Pv<|i+1,ct:=Pv<|i+1,bk:=tB.nx} σ2 H2)(hd:∀σ H,Pv xs.f σ H->tB.nx σ H):((∃xs,SqL K H a xs)/\∃W:Nat->Nat->St->Hp->Prop,(∃m,W 0 m σ H)/\∀i m σ H,W i m σ H->
   ((PF K a).stop i H/\tB.nx σ H)\/((PF K a).go i H/\∃N:St->Hp->Prop,(∀σ' H',N σ' H'->∃m',m'<m/\W (i+1) m' σ' H')/\∀x H',(PF K a).yld i H x H'->g x σ H' λσ2 H2=>tb {tB with nx:=N,ct:=N,bk:=tB.nx} σ2 H2))\/
  ((∃xs,SqT K H a xs)/\∃W:Nat->Nat->St->Hp->Prop,(∃m,W 0 m σ H)/\∀i m σ H,W i m σ H->
   ((PD K a).stop i H/\tB.nx σ H)\/((PD K a).go i H/\∃N:St->Hp->Prop,(∀σ' H',N σ' H'->∃m',m'<m/\W (i+1) m' σ' H')/\∀x H',(PD K a).yld i H x H'->g x σ H' λσ2 H2=>tb {tB with nx:=N,ct:=N,bk:=tB.nx} σ2 H2)):=by
 cases k with
 |false=>show .inl {{xs,hl 0 σ H (Yc _) h0},wg (K:=K) (a:=a) (xs:=xs) Pv h0 hl hs hd}
 |true=>show .inr {{xs,hl 0 σ H (Yc _) h0},qW (K:=K) (a:=a) (xs:=xs) Pv h0 hl hs hd}
def PairV(H:Hp)(v:V)(p:Int×Int):(Prop):=∃t,v=.ref t/\H t=some (.tup [.int p.1,.int p.2])
def PairsV(H:Hp)(xs:List V)(ps:Aa):(Prop):=xs.f=ps.f/\∀(i:Nat)(p:Int×Int),ps[i]?=some p->∃v,xs[i]?=some v/\PairV H v p
def PairV.same(s:Same H H')(h:PairV H v p):PairV H' v p:=by let(t,e,q):=h;exists t,e,s _ _ q
def PairsV.same(s:Same H H')(h:PairsV H xs ps):PairsV H' xs ps:={h.1,λi p e=>by let(v,e1,q):=h.2 i p e;exists v,e1,q.same s}
def PairsV.at(h:PairsV H xs ps){i:Nat}{v:V}(e:xs[i]?=some v):∃p,ps[i]?=some p/\PairV H v p:=by
 let hi:i<xs.f:=(Xv.R e).1;let hp:i<ps.f:=by rwa[<-h.1]
 let(v',e1,q):=h.2 i ps[i] (Xw hp)
 simp_all
def PairsV.nil:PairsV H [] []:={Z,λi p e=>by simp at e}
def PairsV.snoc(h:PairsV H xs ps)(q:PairV H v p):PairsV H (xs++[v]) (ps++[p]):=by
 show{by rw[Xe,Xe,h.1];rfl,λi p' e=>?_};cases hi:i<ps.f
 .rw[YG hi]at e;rw[YG (by rwa[h.1])];show h.2 i p' e
 .let hl:i=ps.f:=by
   have:=(Xv.R e).1
   rw[Xe,YK]at this;lia
  subst hl;rw[YD (by rw[h.1];simp_all),h.1,UE]
  simp_all
def PairsV.drop(h:PairsV H xs ps)(n:Nat):PairsV H (xs.drop n) (ps.drop n):=by show{by rw[RZ,RZ,h.1],λi p e=>?_};rw[LR]at e ⊢;show h.2 _ p e
def PairsV.take(h:PairsV H xs ps)(n:Nat):PairsV H (xs.M n) (ps.M n):=by
 show{by rw[Yu,Yu,h.1],λi p e=>?_};cases hi:i<n
 .rw[cg hi]at e ⊢;show h.2 _ p e
 .rw[List.getElem?_take_eq_none (by simp_all)]at e;cases e
def PairsV.app(h:PairsV H xs ps)(h2:PairsV H ys qs):PairsV H (xs++ys) (ps++qs):=by
 show{by rw[Xe,Xe,h.1,h2.1],λi p e=>?_};cases hi:i<ps.f
 .rw[YG hi]at e;rw[YG (by rwa[h.1])];show h.2 i p e
 .rw[YD (by simp_all)]at e;rw[YD (by rw[h.1];simp_all),h.1];show h2.2 _ p e
def o7:¬(("places":Str)="ties"):=by decide +kernel
def wf(n:Int)(tl:Addr):(List (Str×V)):=XA "ties" ↑tl (XA "places" (.int n) [])
def ZS(n:Int)(tl:Addr):(wf n tl).S ("places":Str)=some (.int n):=by unfold wf;rw[ED,Yh o7,ED,Yi Z]
def ZM(n:Int)(tl:Addr):(wf n tl).S ("ties":Str)=some ↑tl:=by unfold wf;rw[ED,Yi Z]
def WebAt(C:Addr)(H:Hp)(w:Addr)(n:Int)(ps:Aa):(Prop):=∃dx tl xs,H w=some (.ins C dx<|wf n tl)/\H tl=some (.lst xs)/\PairsV H xs ps
def WebAt.same(s:Same H H')(h:WebAt C H w n ps):WebAt C H' w n ps:=by let(dx,tl,xs,a,b,c):=h;exists dx,tl,xs,s _ _ a,s _ _ b,c.same s
def GoodW(n:Int)(ps:Aa):(Prop):=1<=n/\n<=14/\ps.f<=30/\∀p∈ps,0<=p.1/\p.1<n/\0<=p.2/\p.2<n
def aJ(K:Ad)(mg:Af)(x qual:Str)(st:Stmt)(fs:List Str):(Prop):=∃C f fd,mg x=some ↑C/\Fun K "__init__" qual st f fd/\Cls K C/\Mk K C f/\∀a∈fs,NoAttr K C a
def DI{mg:Af}{oc:Value}{od an:Option Addr}{TB:Array (Option Value)}{kV doc pm XF ct:Value}(X:K.In h)(G:h.Ns mainGlobals mg)
  (aC:PySem.W.nsIn K mainGlobals x=some (some<|.ref C))(a:PySem.W.findIn K ↑C "__init__"=some (some<|.ref f))(i:PySem.W.isFn K ↑f=true)
  (l:K.S f=some {oc,od,.func<|PySem.W.fnOf "__init__" qual (LD st) (Rh st) (Xo st) .none kV doc pm an XF ct,TB})(c:PySem.W.codeIn K XF qual=true)(k:PySem.W.keepIn K ↑f=true)
  (pg:PySem.W.plainGet K C Str.empty=true)(hd:PySem.W.hasDictIn K C=true)(po:PySem.W.plainOver K C=true)(sa:PySem.W.findIn K ↑C "__setattr__"=some (some<|.builtin "object.__setattr__"))(mk:PySem.W.makesIn K C=true)(kc:PySem.W.keepIn K ↑C=true)
  (na:∀a∈fs,PySem.W.findIn K ↑C a=some none):aJ K mg x qual st fs:=
 {C,f,_,Fu X G aC,vU l c k,⟨pg,hd,po,sa⟩,⟨mk,a,i,kc⟩,na}
def VB{mg:Af}{z:Int}{v:Value}(X:K.In h)(G:h.Ns mainGlobals mg)(a:PySem.W.nsIn K mainGlobals x=some (some v))(e:∃tk,v=.int z tk):∃tk,mg x=some (.int z tk):=by let(tk,rfl):=e;exists tk,Fu X G a
def Og{x:V}{A rH:St->Hp->Prop}(h:A (σ.set i (some x)) H):Ny i x σ H λσ2 H2=>tYes σ2 H2 λb H3=>if b=true then A σ2 H3 else rH σ2 H3:=
 (show if true=true then A (σ.set i<|some x) H else rH (σ.set i<|some x) H from UU h)
def nm{x:V}{Q:St->Hp->Prop}(h:Q (σ.set i (some x)) H):Ny i x σ H Q:=h
section
variable{K:Ad}{a:Addr}{xs:List V}{g:TG}{tt:TT}{te:TE}{o:Nat}{fr:List Nat}{σ:St}{H:Hp}{Q:VK}
abbrev Jz(Pv:Nat->List V->Hp->Prop)(g:TG)(tt:TT)(te:TE)(o:Nat)(fr:List Nat)(σ:St)(i:Nat)(x:V)(ys:List V)(H:Hp):Prop:=
 ∀S:Nat->List V->Hp->Prop,(∀ys H,Pv (i+1) ys H->S (i+1) ys H)->g x (σC o fr σ) H λσ2 H2=>tt σ2 H2 λb H3=>if b=true then te σ2 H3 λy H4=>S (i+1) (ys++[y]) H4 else S (i+1) ys H3
def Wc(Pv:Nat->List V->Hp->Prop)(h0:Pv 0 [] H)(hz:xs.f<sizeLine)(hl:∀i ys H,i<=xs.f->Pv i ys H->SqL K H a xs/\ys.f<=i)
  (hs:∀i x ys H,xs[i]?=some x->Pv i ys H->Jz Pv g tt te o fr σ i x ys H)(hd:∀ys H,Pv xs.f ys H->∀p,H p=none->Q ↑p (upd H p<|.lst ys)):Nm (PF K a) g tt te o fr σ H Q:=by
 exists λi m ys H=>m=xs.f-i/\i<=xs.f/\Pv i ys H,{xs.f,Fe,Yc _,h0},?_;rintro i m ys H ⟨rfl,hi,p⟩;let(q,hy):=hl i ys H hi p;cases Xx:i<xs.f
 .show .inr {{xs,xs[i],q,by simp[Xx]},J,λx H' zz=>?_};let(e,y):=zz;subst e;let hx:=y xs q
  show hs i x ys _ hx p (λj ys H=>∃m',m'<xs.f-i/\m'=xs.f-j/\j<=xs.f/\Pv j ys H) λys H p'=>{xs.f-(i+1),B,Z,Xx,p'}
 .let e:i=xs.f:=J;subst e;show .inl {{xs,q,XI _},J,hd ys H p}
def Pn(Pv:Nat->List V->Hp->Prop)(h0:Pv 0 [] H)(hz:xs.f<sizeLine)(hl:∀i ys H,i<=xs.f->Pv i ys H->SqT K H a xs/\ys.f<=i)
  (hs:∀i x ys H,xs[i]?=some x->Pv i ys H->Jz Pv g tt te o fr σ i x ys H)(hd:∀ys H,Pv xs.f ys H->∀p,H p=none->Q ↑p (upd H p<|.lst ys)):Nm (PD K a) g tt te o fr σ H Q:=by
 exists λi m ys H=>m=xs.f-i/\i<=xs.f/\Pv i ys H,{xs.f,Fe,Yc _,h0},?_;rintro i m ys H ⟨rfl,hi,p⟩;let(q,hy):=hl i ys H hi p;cases Xx:i<xs.f
 .show .inr {{xs,xs[i],q,by simp[Xx]},B,λx H' zz=>?_};let(e,y):=zz;subst e;let hx:=y xs q
  show hs i x ys _ hx p (λj ys H=>∃m',m'<xs.f-i/\m'=xs.f-j/\j<=xs.f/\Pv j ys H) λys H p'=>{xs.f-(i+1),B,Z,Xx,p'}
 .let e:i=xs.f:=B;subst e;show .inl {{xs,q,XI _},B,hd ys H p}
def Pm(Pv:Nat->List V->Hp->Prop)(h0:Pv 0 [] H)(hz:xs.f<sizeLine)(hl:∀i ys H,i<=xs.f->Pv i ys H->SqK k K H a xs/\ys.f<=i)
  (hs:∀i x ys H,xs[i]?=some x->Pv i ys H->Jz Pv g tt te o fr σ i x ys H)(hd:∀ys H,Pv xs.f ys H->∀p,H p=none->Q ↑p (upd H p<|.lst ys)):
  ((∃xs,SqL K H a xs)/\Nm (PF K a) g tt te o fr σ H Q)\/((∃xs,SqT K H a xs)/\Nm (PD K a) g tt te o fr σ H Q):=by
 cases k with
 |false=>show .inl {{xs,(hl 0 [] H (Yc _) h0).1},Wc Pv h0 hz hl hs hd}
 |true=>show .inr {{xs,(hl 0 [] H (Yc _) h0).1},Pn Pv h0 hz hl hs hd}
def LB(Pv:Nat->List V->Hp->Prop)(h0:Pv 0 [] H)(hz:n<sizeLine)(hl:∀i ys H,i<=n->Pv i ys H->ys.f<=i)
  (hs:∀i ys H,i<n->Pv i ys H->Jz Pv g tt te o fr σ i (.int<|lo+i) ys H)(hd:∀ys H,Pv n ys H->∀p,H p=none->Q ↑p (upd H p<|.lst ys)):Nm (LI lo n) g tt te o fr σ H Q:=by
 exists λi m ys H=>m=n-i/\i<=n/\Pv i ys H,{n,Fe,Yc _,h0},?_;rintro i m ys H ⟨rfl,hi,p⟩;let hy:=hl i ys H hi p
 cases Xx:i<n
 .show .inr {Xx,J,λx H' zz=>?_};let(e,y):=zz;subst e;subst y;show hs i ys _ Xx p (λj ys H=>∃m',m'<n-i/\m'=n-j/\j<=n/\Pv j ys H) λys H p'=>{n-(i+1),B,Z,Xx,p'}
 .let e:i=n:=J;subst e;show .inl {XI _,J,hd ys H p}
end
def Rc{α:Type}{l:List α}(h:l.Nodup){i j:Nat}{x:α}(a:l[i]?=some x)(b:l[j]?=some x):i=j:=by let(h1,e1):=Xv.R a;let(h2,e2):=Xv.R b;show(List.getElem_inj h).R (e1.l e2.symm)
def VV{α:Type}{l:List α}{x d:α}(h:l[i]?=some x):l.Q i d=x:=by simp_all
def o6{α:Type}{l:List α}{x:α}(h:l.Nodup)(hx:x∉l):(l++[x]).Nodup:=by grind
def aI{g:TG}{tb:TS}{tB:Ends}(Pv:Nat->St->Hp->Prop)(h0:Pv 0 σ H)(hl:∀i σ H,i<=xs.f->Pv i σ H->SqL K H a xs)
  (hs:∀(i:Nat) x σ H (p:Addr),H p=none->xs[i]?=some x->Pv i σ H->g ↑p σ (upd H p<|.tup [.int i,x]) λσ2 H2=>tb {tB with nx:=Pv<|i+1,ct:=Pv<|i+1,bk:=tB.nx} σ2 H2)(hd:∀σ H,Pv xs.f σ H->tB.nx σ H):
  ∃W:Nat->Nat->St->Hp->Prop,(∃m,W 0 m σ H)/\∀i m σ H,W i m σ H->
   ((LC K a).stop i H/\tB.nx σ H)\/((LC K a).go i H/\∃N:St->Hp->Prop,(∀σ' H',N σ' H'->∃m',m'<m/\W (i+1) m' σ' H')/\∀x H',(LC K a).yld i H x H'->g x σ H' λσ2 H2=>tb {tB with nx:=N,ct:=N,bk:=tB.nx} σ2 H2):=by
 exists λi m σ H=>m=xs.f-i/\i<=xs.f/\Pv i σ H,{xs.f,Fe,Yc _,h0},?_;rintro i m σ H ⟨rfl,hi,p⟩;let q:=hl i σ H hi p
 cases Xx:i<xs.f
 .show .inr {{xs,xs[i],q,by simp[Xx]},Pv<|i+1,λσ' H' p'=>{xs.f-(i+1),B,Z,Xx,p'},λx H' zz=>?_};let(T,y,hT,ex,eH,hy):=zz;subst ex eH;show hs i y σ H T hT (hy xs q) p
 .let e:i=xs.f:=J;subst e;show .inl {{xs,q,XI _},hd σ H p}
def o5{i:Int}(h0:0<=i)(h1:i.j<=xs.f):XG xs (some i) none=xs.drop i.j:=by
 let e:HT.UB xs.f 0 (some i)=i.j:=by change(if i<0 then (i+xs⁻¹).j else min i.j xs.f)=i.j;rw[Yh (by simp_all)];lia
 unfold XG;rw[e,HT.VD];show Yv (by simp_all)
def o4{i:Int}(h0:0<=i)(h1:i.j<=xs.f):XG xs none (some i)=xs.M i.j:=by
 let e:HT.UB xs.f xs.f (some i)=i.j:=by change(if i<0 then (i+xs⁻¹).j else min i.j xs.f)=i.j;rw[Yh (by simp_all)];grind
 unfold XG;rw[e,HT.VD,PZ,wK]
end My
namespace L2
open PySem PySem.Spec PyProof.Rows
section
variable{X:Cx}{a o e:Expr}{es:List Expr}{ta to:TE}{t:TA}{pos:Pos}
def Ze(K:Ad)(h:autoParam (X.K=K) D1._auto_1):GR X (rIxL K):=h▸qA
def ZC(K:Ad)(h:autoParam (X.K=K) D1._auto_1):GR X (rIxT K):=h▸qz
def ZU(K:Ad)(h:autoParam (X.K=K) D1._auto_1):vY X (rSlL K):=h▸qw
def DH(K:Ad)(h:autoParam (X.K=K) D1._auto_1):Wy X (compareOp .In) (λx y H Q=>∃p xs,y=.ref p/\(SqL K H p xs\/SqT K H p xs)/\SK x=true/\xs.all SK=true/\Q (.bl<|GQ x xs) H):=h▸Zs9
def Jy(K:Ad)(h:autoParam (X.K=K) D1._auto_1):Wy X (compareOp .NotIn) (λx y H Q=>∃p xs,y=.ref p/\(SqL K H p xs\/SqT K H p xs)/\SK x=true/\xs.all SK=true/\Q (.bl<|!GQ x xs) H):=h▸ZT4
def DG(K:Ad)(hu:X.A.units+8<cLine)(h:autoParam (X.K=K) D1._auto_1):Wy X (compareOp .Eq) (rEqD K false):=h▸DP hu
def o3(K:Ad)(hu:X.A.units+8<cLine)(h:autoParam (X.K=K) D1._auto_1):Wy X (compareOp .NotEq) (rEqD K true):=h▸DO hu
def oZ(K:Ad)(h:autoParam (X.K=K) D1._auto_1):Wy X (binaryOp .Add) (Er K):=h▸qE
def Zj(K:Ad)(he:PE X e ta)(hb:attributeBase e f X.X (eval e X.X)=eval e X.X)(h:autoParam (X.K=K) D1._auto_1):PE X (.Attribute e f pos) (EB K ta f):=h▸EA he hb
def Zf(K:Ad)(h:autoParam (X.K=K) D1._auto_1):VF X (.builtin "len") (yR0 K):=h▸Zf5
def GO(K:Ad)(h:autoParam (X.K=K) D1._auto_1):VF X (.type "list") (λxs H Q=>∃p ys,xs=[.ref p]/\(SqL K H p ys\/SqT K H p ys)/\∀l,H l=none->Q ↑l (upd H l<|.lst ys)):=h▸Zd5
def ZI(K:Ad)(h:autoParam (X.K=K) D1._auto_1):VF X (.type "tuple") (λxs H Q=>∃p ys,xs=[.ref p]/\((SqL K H p ys/\∀l,H l=none->Q ↑l (upd H l<|.tup ys))\/(SqT K H p ys/\Q ↑p H))):=h▸Zt4
def aH(K:Ad)(hc:X.calm=true)(h:autoParam (X.K=K) D1._auto_1):VF X (.builtin "sum") (λxs H Q=>∃(p:Addr)(ns:Ac),xs=[.ref p]/\SqL K H p (ns.H V.int)/\Q (.int ns.sum) H):=h▸Zu4 hc
def DF(K:Ad)(hc:X.calm=true)(h:autoParam (X.K=K) D1._auto_1):VF X (.type "set") (λxs H Q=>∃p ns,xs=[.ref p]/\SqL K H p (ns.H V.int)/\ns.f+1<scanBound/\
  ∀l,H l=none->Q ↑l (upd H l (.set (λk=>(seen ns).any (· == k)) (seen ns).f))):=h▸Zw4 hc
def ZD(K:Ad)(hl:PE X l tl)(h:autoParam (X.K=K) D1._auto_1):PI X tg l (ER K tl):=h▸EN hl
def vN(K:Ad)(hl:PE X l tl)(h:autoParam (X.K=K) D1._auto_1):PI X tg l (EO K tl):=h▸rd hl
def UA(K:Ad)(hl:PE X l tl)(h:autoParam (X.K=K) D1._auto_1):PI X tg l (My.DK K tl):=h▸My.JA hl
def GN(K:Ad){elts:List Expr}{x1:Nat}{Sv:Pos}{a:Expr}{ta:TA}{p pos:Pos}(hg:Gl X "enumerate")(hm:X.mg "enumerate"=none)(ha:PA X [a] ta)(hs:autoParam (starEach [a] X.X=[(false,eval a X.X)]) D1._auto_1)(h:autoParam (X.K=K) D1._auto_1):
  PI X (.Tuple elts x1 Sv) (.Call (.Name "enumerate" p) [a] [] pos) (DR K ta):=h▸DQ hg hm ha hs
def Pl(K:Ad){es:List Expr}{k:Nat}{t:JY}{n:Nat}(hc:X.calm=true)(ht:EX X es t)
  (hn:autoParam ((assignEach es X.X).f=n) D1._auto_1)(Wr:autoParam ((assignEach es X.X).findIdx? (·.1)=none) D1._auto_1)(h:autoParam (X.K=K) D1._auto_1):PG X (.Tuple es k pos) (gTup K n t):=h▸EW hc ht hn Wr
def Uq(K:Ad){name:Str}{apos Xb:Pos}{T id:String}{r:V->List V->Hp->VK->Prop}(pa:PlainAttrs T)(slot:Slot T name id)(JL:typeOf (.builtin id)=pure (.type "method_descriptor"))(hm:vX X id r)(ho:PE X o to)(ha:PA X (e::es) t)
  (UX:autoParam (attributeBase o name X.X (eval o X.X)=eval o X.X) D1._auto_1)
  (JK:autoParam (((backTo Xb<|starEach (e::es) X.X).all (λx=>!x.1)&&(backToKw Xb<|keywordEach [] X.X).all (λx=>x.1.isSome)
   && decide ((e::es).f+([]:List Keyword).f+(if ([]:List Keyword).isEmpty then 0 else 1)<30))=true) D1._auto_1)
  (UW:autoParam ((apos.endLine == Xb.line)=true) D1._auto_1)(hs:autoParam (starEach (e::es) X.X=(false,eval e X.X)::starEach es X.X) D1._auto_1)(Pw:autoParam ((backTo Xb<|starEach es X.X).any (·.1)=false) D1._auto_1)(h:autoParam (X.K=K) D1._auto_1):
  PE X (.Call (.Attribute o name apos) (e::es) [] Xb) (aW K T r to t):=h▸qu pa slot JL hm ho ha UX JK UW hs Pw
def DE(K:Ad){name:Str}{apos Xb:Pos}{T id:String}{r:V->List V->Hp->VK->Prop}(pa:PlainAttrs T)(slot:Slot T name id)(JL:typeOf (.builtin id)=pure (.type "method_descriptor"))(hm:vX X id r)(ho:PE X o to)
  (UX:autoParam (attributeBase o name X.X (eval o X.X)=eval o X.X) D1._auto_1)(UW:autoParam ((apos.endLine == Xb.line)=true) D1._auto_1)(h:autoParam (X.K=K) D1._auto_1):PE X (.Call (.Attribute o name apos) [] [] Xb) (Ej K T r to):=h▸Ei pa slot JL hm ho UX UW
end
end L2
namespace My
abbrev mk(m:Ac)(i:Nat):Int:=m.Q i 0
def pm(m:Ac)(a b:Nat):(Ac):=
 if min (mk m a) (mk m b)<max (mk m a) (mk m b) then m.H (λk=>if k=max (mk m a) (mk m b) then min (mk m a) (mk m b) else k) else m
def lm(m:Ac)(a b:Nat):(Ac):=
 if mk m a≠mk m b then m.H (λk=>if k=mk m b then mk m a else k) else m
def SameP(m l:Ac):(Prop):=m.f=l.f/\∀i j,i<m.f->j<m.f->(mk m i=mk m j↔mk l i=mk l j)
def vM(m:Ac)(f:Int->Int)(h:i<m.f):mk (m.H f) i=f (mk m i):=by
 simp_all
def DD(m:Ac)(a b:Nat):(pm m a b).f=m.f:=by unfold pm;split<;>simp
def vL(m:Ac)(a b:Nat):(lm m a b).f=m.f:=by unfold lm;grind
def GL(m:Ac)(a b i j:Nat):(Prop):=mk m i=mk m j\/((mk m i=mk m a\/mk m i=mk m b)/\(mk m j=mk m a\/mk m j=mk m b))
def Jx{x y p q:Int}:((if x=q then p else x)=(if y=q then p else y))↔(x=y\/((x=p\/x=q)/\(y=p\/y=q))):=by grind
def DC{x y p:Int}:x=y↔(x=y\/((x=p\/x=p)/\(y=p\/y=p))):={.inl,λh=>h.elim id λh=>(h.1.elim id id).l (h.2.elim id id).symm}
def oY(hi:i<m.f)(hj:j<m.f):mk (pm m a b) i=mk (pm m a b) j↔GL m a b i j:=by
 unfold pm GL;split
 .rw[vM _ _ hi,vM _ _ hj];cases vK:mk m a<mk m b
  .rw[su (Rt vK),Int.max_eq_right (Rt vK)];show Jx
  .rw[Int.min_eq_right (Hc.R vK),Int.max_eq_left<|Hc.R vK,Or.comm (a:=mk m i=mk m a),Or.comm (a:=mk m j=mk m a)];show Jx
 .rename_i h;let hh:=Hc.R h
  rw[show mk m a=mk m b from Int.le_antisymm (Fp (Int.le_max_left _ _)<|Fp hh<|Int.min_le_right _ _) (Fp (Int.le_max_right _ _)<|Fp hh<|Int.min_le_left _ _)];show DC
def DB(hi:i<m.f)(hj:j<m.f):mk (lm m a b) i=mk (lm m a b) j↔GL m a b i j:=by
 unfold lm GL;split
 .rw[vM _ _ hi,vM _ _ hj];show Jx
 .simp_all
def SameP.step{m l:Ac}(s:SameP m l){a b:Nat}(ha:a<m.f)(hb:b<m.f):SameP (pm m a b) (lm l a b):=by let(hl,h):=s;show{by rw[DD,vL,hl],λi j hi hj=>?_};rw[DD]at hi hj;rw[oY hi hj,DB (by simp_all) (by simp_all)];unfold GL;rw[h i j hi hj,h i a hi ha,h i b hi hb,h j a hj ha,h j b hj hb]
def Xr(n:Nat)(es:List (Nat×Nat)):(Ac):=es.foldl (λm e=>pm m e.1 e.2) ((List.range n).H λ(i:Nat)=>(i:Int))
def WY(n:Nat)(es:List (Nat×Nat)):(Ac):=es.foldl (λm e=>lm m e.1 e.2) ((List.range n).H λ(i:Nat)=>(i:Int))
def ZF(n:Nat)(es:List (Nat×Nat)):(Xr n es).f=n:=by
 have:∀(es:List (Nat×Nat))(m:Ac),(es.foldl (λm e=>pm m e.1 e.2) m).f=m.f:=by
  intro es
  induction es with
  |nil=>intro m;rfl
  |cons e es ih=>intro m;rw[Hj,ih,DD]
 unfold Xr;simp_all
def ZG(n:Nat)(es:List (Nat×Nat)):(WY n es).f=n:=by
 have:∀(es:List (Nat×Nat))(m:Ac),(es.foldl (λm e=>lm m e.1 e.2) m).f=m.f:=by
  intro es
  induction es with
  |nil=>intro m;rfl
  |cons e es ih=>intro m;rw[Hj,ih,vL]
 unfold WY;simp_all
def oX(n:Nat)(es:List (Nat×Nat))(e:Nat×Nat):Xr n (es++[e])=pm (Xr n es) e.1 e.2:=by unfold Xr;simp_all
def Nf(n:Nat)(es:List (Nat×Nat))(e:Nat×Nat):WY n (es++[e])=lm (WY n es) e.1 e.2:=by unfold WY;simp_all
def vJ:∀{es:List (Nat×Nat)},(∀e∈es,e.1<n/\e.2<n)->SameP (Xr n es) (WY n es):=by
 intro es;let key:∀(es:List (Nat×Nat))(m l:Ac),SameP m l->m.f=n->(∀e∈es,e.1<n/\e.2<n)->SameP (es.foldl (λm e=>pm m e.1 e.2) m) (es.foldl (λm e=>lm m e.1 e.2) l):=by
  intro es
  induction es with
  |nil=>intro m l s _ _;show s
  |cons e es ih=>
   intro m l s hm he;let h1:=he e Ya
   show ih _ _ (s.step (by simp_all)<|by simp_all) (by rwa[DD]) λx hx=>he x (Yf _ hx)
 show key es _ _ {Z,λi j _ _=>Iff.rfl} Fe
def RP(g:List (Int×Ac))(place k:Int):(List (Int×Ac)):=
 if k∈g.H (·.1) then g.H (λkv=>if kv.1=k then (kv.1,kv.2++[place]) else kv) else g++[(k,[place])]
def Xq(M:Ac):(Nat->List (Int×Ac))
 |0=>[]
 |i+1=>RP (Xq M i) (i:Int) (mk M i)
def Jw(M:Ac):(List (Int×Ac)):=Xq M M.f
def vH(g:List (Int×Ac))(p k:Int):(RP g p k).H (·.1)=if k∈g.H (·.1) then g.H (·.1) else g.H (·.1)++[k]:=by
 unfold RP;split
 .rw[Ov];show YQ λkv _=>?_;lia
 .simp
def ZK6(h:(g.H (·.1)).Nodup):((RP g p k).H (·.1)).Nodup:=by rw[vH];grind
def Jv(M:Ac):∀i,((Xq M i).H (·.1)).Nodup
 |0=>by simp[Xq]
 |i+1=>ZK6 (Jv M i)
def aG(M:Ac):∀i j,j<i->mk M j∈(Xq M i).H (·.1)
 |0,j,h=>absurd h (VX j)
 |i+1,j,h=>by
  change mk M j∈(RP (Xq M i) (i:Int)<|mk M i).H (·.1);rw[vH];cases hj:j<i
  .have:=aG M i j hj
   grind
  grind
def vG(h:j<i):mk M j∈(Xq M i).H (·.1):=aG M i j h
def Nd(M:Ac):∀i k,k∈(Xq M i).H (·.1)->∃j,j<i/\mk M j=k
 |0,k,h=>by simp[Xq]at h
 |i+1,k,h=>by
  let h:k∈(RP (Xq M i) (i:Int)<|mk M i).H (·.1):=h;rw[vH]at h;let old:k∈(Xq M i).H (·.1)->∃j,j<i+1/\mk M j=k:=λq=>by let(j,hj,e):=Nd M i k q;exists j,J,e
  grind
def DA(hM:1<=M.f):(Jw M).f=1↔∀i j,i<M.f->j<M.f->mk M i=mk M j:=by
 unfold Jw;constructor
 .intro h i j hi hj;let(kv,e):=bW.R h;let h1:=vG (M:=M) hi
  let h2:=vG (M:=M) hj;grind
 .intro h;let nd:=Jv M M.f
  let h0:=vG (M:=M) (i:=M.f) (j:=0) J;generalize hg:(Xq M M.f)=g at *
  match g,hg with
  |[],_=>simp at h0
  |[kv],_=>rfl
  |a::b::r,hg=>
   exfalso;let(i,hi,e1):=Nd M M.f a.1 B
   let(j,hj,e2):=Nd M M.f b.1 B;grind
def SameP.one(s:SameP m l):(∀i j,i<m.f->j<m.f->mk m i=mk m j)↔(∀i j,i<l.f->j<l.f->mk l i=mk l j):=by
 let(hl,h):=s;rw[<-hl];constructor
 .intro q i j hi hj;show(h i j hi hj).R (q i j hi hj)
 .intro q i j hi hj;show(h i j hi hj).mpr (q i j hi hj)
def Ju:∀{i:Nat}{kv:Int×Ac},kv∈Xq M i->kv.2.f<=i
 |0,kv,h=>by simp[Xq]at h
 |i+1,kv,h=>by
  unfold Xq RP at h;split at h
  .let⟨kv0,h0,e⟩:=Yz.R h;let ih:=Ju h0
   grind
  .rcases Xk.R h with h0|h0
   .let ih:=Ju h0;lia
   simp_all
end My
namespace My
open PySem L2 PyProof.Rows
def oW(val:Nat->Int):∀i,(firstMet val i).Nodup
 |0=>List.nodup_nil
 |i+1=>by
  rw[PX];unfold step_dedup;split
  .show oW val i
  .rename_i h;show o6 (oW val i) λz=>h ?_
   simp_all
def Dz(val:Nat->Int):∀i (k:Int),k∈firstMet val i↔∃j,j<i/\val j=k
 |0,k=>by
  rw[firstMet_zero]
  simp_all
 |i+1,k=>by
  rw[PX];let ih:=Dz val i k
  unfold step_dedup;grind
def oV(h:1<=ns.f):(L2.seen ns).f=1↔∀i j,i<ns.f->j<ns.f->mk ns i=mk ns j:=by
 let nd:=oW (λi=>ns.Q i 0) ns.f;let mm:=Dz (λi=>ns.Q i 0) ns.f
 unfold L2.seen;generalize firstMet (λi=>ns.Q i 0) ns.f=l at *;constructor
 .intro h1 i j hi hj;let(x,e):=bW.R h1;let a:=(mm<|ns.Q i 0).mpr ⟨i,hi,Z⟩
  let b:=(mm<|ns.Q j 0).mpr ⟨j,hj,Z⟩;grind
 .intro q;let h0:=(mm<|ns.Q 0 0).mpr ⟨0,J,Z⟩
  match l,nd,mm,h0 with
  |[],_,_,h0=>cases h0
  |[x],_,_,_=>rfl
  |x::y::r,nd,mm,_=>
   exfalso;let(i,hi,e1):=(mm x).R Fe
   let(j,hj,e2):=(mm y).R Fe;grind
def Vh(z:Int)(l:Ac):GQ (.int z) (IL l)=decide (z∈l):=by
 unfold GQ;rw[List.any_map];rw[Tp,xa,Qg];constructor
 .rintro⟨y,hy,e⟩;let e':y=z:=eq_of_beq e
  simp_all
 .intro h;exists z,h,xf z
def ZT(l:Ac):(IL l).all SK=true:=by rw[List.all_map,NO];intro x _;rfl
def ZH:decide (V.int a=V.int b)=decide (a=b):=by
 simp_all
end My
namespace My
open PySem L2
def IsSet(m:Nat)(ns:Ac):(Prop):=∀i z,ns[i]?=some z->0<=z/\z<(m:Int)/\∀y,i≠0->ns[i-1]?=some y->y<z
def XQ(ps:Aa)(ns:Ac):(List (Nat×Nat)):=ns.H λz=>((ps.Q z.j (0,0)).1.j,(ps.Q z.j (0,0)).2.j)
def aE{ns:Ac}{z:Int}(h:ns[i]?=some z):XQ ps (ns.M (i+1))=XQ ps (ns.M i)++[((ps.Q z.j (0,0)).1.j,(ps.Q z.j (0,0)).2.j)]:=by unfold XQ;rw[YA,h];simp
def Rb(h:i<m.f):m[i]?=some (mk m i):=by
 simp_all
def aB(n:Int):Wx 0 n=(List.range n.j).H λ(i:Nat)=>(i:Int):=by
 unfold Wx
 simp_all
def Uz(g:List (Int×Ac))(as:List Addr):(List (Key×V)):=List.zipWith (λkv a=>((Sum.inl kv.1:Key),V.ref a)) g as
def Ze8(h:as.f=g.f):(Uz g as).f=g.f:=by unfold Uz;simp_all
def Dy:∀{g:List (Int×Ac)}{as:List Addr},as.f=g.f->(Uz g as).H (·.2)=as.H V.ref
 |[],[],_=>rfl
 |[],_::_,h=>by simp at h
 |_::_,[],h=>by simp at h
 |kv::g,a::as,h=>by change V.ref a::(Uz g as).H (·.2)=V.ref a::as.H V.ref;rw[Dy (NI h)]
def az:∀{g g':List (Int×Ac)}{as:List Addr},g.H (·.1)=g'.H (·.1)->Uz g as=Uz g' as
 |[],[],_,_=>rfl
 |[],_::_,_,h=>by simp at h
 |_::_,[],_,h=>by simp at h
 |kv::g,vE::g',[],_=>rfl
 |kv::g,vE::g',a::as,h=>by
  rw[SR,SR,List.cons.injEq]at h;change((Sum.inl kv.1:Key),V.ref a)::Uz g as=((Sum.inl vE.1:Key),V.ref a)::Uz g' as
  rw[h.1,az h.2]
def aw:∀{g:List (Int×Ac)}{as:List Addr}{kv:Int×Ac}{a:Addr},as.f=g.f->Uz (g++[kv]) (as++[a])=Uz g as++[((Sum.inl kv.1:Key),V.ref a)]
 |[],[],_,_,_=>rfl
 |[],_::_,_,_,h=>by simp at h
 |_::_,[],_,_,h=>by simp at h
 |x::g,y::as,kv,a,h=>by change _::Uz (g++[kv]) (as++[a])=_::(Uz g as++_);rw[aw (NI h)]
def oU:∀{g:List (Int×Ac)}{as:List Addr}{k:Int},as.f=g.f->
  (Wi (Uz g as) (Sum.inl k:Key)=none/\k∉g.H (·.1))\/∃(j:Nat)(kv:Int×Ac)(a:Addr),g[j]?=some kv/\as[j]?=some a/\kv.1=k/\Wi (Uz g as) (Sum.inl k:Key)=some ↑a
 |[],[],k,_=>.inl ⟨Z,Fe⟩
 |[],_::_,_,h=>by simp at h
 |_::_,[],_,h=>by simp at h
 |kv::g,a::as,k,h=>by
  cases e:kv.1=k
  .show .inr {0,kv,a,Z,Z,e,?_};change Wi (((Sum.inl kv.1:Key),V.ref a)::Uz g as) _=_
   rw[qi (by rw[e])]
  .let e':¬((Sum.inl kv.1:Key)=Sum.inl k):=λz=>e (Sum.inl.inj z);let ev:Wi (Uz (kv::g)<|a::as) (Sum.inl k:Key)=Wi (Uz g as) (Sum.inl k:Key):=qh (p:=((Sum.inl kv.1:Key),V.ref a)) e'
   rcases oU (g:=g) (as:=as) (k:=k) (NI h) with ⟨h1,h2⟩|⟨j,vE,a',h1,h2,h3,h4⟩
   .grind
   .show .inr {j+1,vE,a',by simpa using h1,by simpa using h2,h3,by rwa[ev]}
structure GrpAt(H0 H:Hp)(g:List (Int×Ac))(as:List Addr):Prop where
 len:as.f=g.f
 nd:as.Nodup
 at_:∀(i:Nat)(kv:Int×Ac)(a:Addr),g[i]?=some kv->as[i]?=some a->H a=some (.lst<|IL kv.2)
 new:∀a∈as,H0 a=none
def GrpAt.same(s:Same H H')(h:GrpAt H0 H g as):GrpAt H0 H' g as:={h.len,h.nd,λi kv a e1 e2=>s _ _<|h.at_ i kv a e1 e2,h.new}
def GrpAt.mem(h:GrpAt H0 H g as){a:Addr}(ha:a∈as):∃l,H a=some (.lst l):=by
 let(i,hi,e):=FF ha;let hg:i<g.f:=by rwa[<-h.len]
 exists _,h.at_ i g[i] a (Xw hg)<|by simp_all
def IsSet.all(h:IsSet m ns):∀z∈ns,0<=z/\z<(m:Int):=λz hz=>by let(i,hi,e):=FF hz;let(a,b,_):=h i z (by simp_all);exists a,b
def IsSet.nil(m:Nat):IsSet m []:=λi z e=>by simp at e
def IsSet.up(h:IsSet m ns):IsSet (m+1) ns:=λi z e=>by let(a,b,c):=h i z e;exists a,rO,c
def IsSet.snoc(h:IsSet m ns):IsSet (m+1) (ns++[(m:Int)]):=λi z e=>by
 cases hi:i<ns.f
 .rw[YG hi]at e;let(a,b,c):=h i z e;grind
 .let hl:i=ns.f:=by
   have:=(Xv.R e).1
   rw[Xe,YK]at this;lia
  subst hl;rw[YD (XI _),UE]at e;let e:(m:Int)=z:=Ym e
  subst e;show{by simp_all,J,λy h0 ey=>?_};rw[YG J]at ey;show(h _ y ey).2.1
def IsSet.len:∀{ns:Ac},IsSet m ns->ns.f<=m:=λ{ns} h=>by
 let key:∀(i:Nat)(z:Int),ns[i]?=some z->(i:Int)<=z:=by
  intro i
  induction i with
  |zero=>intro z e;show(h 0 z e).1
  |succ i ih=>
   intro z e;let hi:i<ns.f:=by have:=(Xv.R e).1;lia
   let e2:ns[i]?=some ns[i]:=Xw hi
   have:=ih _ e2
   have:=(h (i+1) z e).2.2 ns[i] J (by simp_all)
   lia
 cases h0:ns.f=0
 .simp_all
 .let e:ns[ns.f-1]?=some (ns[ns.f-1]'(by lia)):=Xw _;let a:=key _ _ e
  let b:=(h _ _ e).2.1;lia
end My
namespace L2
open PySem PySem.Spec PyProof.Rows
section
variable{X:Cx}
def oS(K:Ad):(V->List V->Hp->VK->Prop):=λx vs H Q=>∃(p:Addr)(ns:Ac)(z:Int)(j:Nat),x=.ref p/\vs=[.int z]/\SqL K H p (ns.H V.int)/\ns[j]?=some z/\(∀i,i<j->ns[i]?≠some z)/\Q (.int j) H
def Zx9(K:Ad)(h:autoParam (X.K=K) D1._auto_1):Nq X "list.index" (oS K):=by
 subst h;intro pins s σ H x vs v us Q I rx rv h;let(p,ns,z,j,rfl,rfl,hq,hj,Up,q):=h;cases rx;let(u,rfl,t,rfl):=rv.one;let(XS,r,(o,n,e,hc,hd,oR),hz):=I.list hq;let hl:XS.f=ns.f:=by rw[<-r.f,Yb]
 let Qu:j<ns.f:=(Xv.R hj).1;let hsz:sizeLine=16777216:=RU
 rw[Yb]at hz;let(oc,od,odat,TB):=o;subst hc oR;let at_:∀(i:Nat)(hi:i<XS.f),∃tk,XS[i]=.int (ns[i]'(by simp_all)) tk:=λi hi=>by
  let(x,ex,rx):=r.at hi;rw[Yn,Xw J]at ex;let ex:V.int (ns[i]'(by lia))=x:=Ym ex
  subst ex;show rx
 show NG F.slot_list_index {_,e,Z} F.entry_list_index (F.args_list_index_2 _ _) (SeqAt.list_indexAt p XS.C n od TB (.int z t) (λy=>SJ (.int z) y) j (by simp_all) J ?_ ?_) {e,λy hy=>?_,?_}
 .let⟨tk,e1⟩:=at_ j (by simp_all);let e2:ns[j]'(by simp_all)=z:=by rw[Xw Qu]at hj;show Ym hj
  let e3:XS.C[j]'(by simp_all)=.int z tk:=by rw[<-e2];simpa using e1
  rw[e3];show xf z
 .intro m hm hmj;let GK:m<XS.f:=by rwa[YR]at hm
  let(tk,e1):=at_ m GK;let e3:XS.C[m]'hm=.int (ns[m]'(by omega)) tk:=by simpa using e1
  rw[e3];let XJ:=Up m hmj
  rw[Xw rO]at XJ;let Pk:ns[m]'(by omega)≠z:=λw=>XJ (YF some w)
  show beq_false_of_ne Pk
 .show El (x:=.int z) ⟨t,Z⟩ Z r ?_ y (by simpa using hy);rw[List.all_map,NO];intro _ _;rfl
 .exists .int j,H,I.tok _,{_,Z},q
def Zx6{XS:Array Value}{bs:List Bool}(h:∀(i:Nat)(v:Value),XS[i]?=some v->∃b,bs[i]?=some b/\v=.bool b):TruthOf prog w A (λi v=>XS[i]?=some v) (λi=>bs.Q i false):=by
 intro i v s Q E hP hQ;let(b,eb,rfl):=h i v hP;let hQ:Q (bs.Q i false) s:=hQ
 rw[We,eb]at hQ;show Qf hQ
def oQ(bs:List Bool):(List.range bs.f).any (λi=>bs.Q i false)=bs.any id:=by
 rw[Tp,xa,xa];constructor
 .rintro⟨i,hi,e⟩;let hi:=YY.R hi
  rw[We,Xw hi]at e;exists _,Hm hi,e
 .rintro⟨b,hb,e⟩;let(i,hi,ei):=FF hb;exists i,YY.mpr hi,?_
  simp_all
def oP{bs:List Bool}(r:Vals (bs.H V.bl) XS):∀(i:Nat)(v:Value),XS.C[i]?=some v->∃b,bs[i]?=some b/\v=.bool b:=λi v e=>by
 let e:XS[i]?=some v:=by simpa using e
 let hi:i<XS.f:=(Xv.R e).1;let(x,ex,rx):=r.at hi;rw[Yn]at ex;cases eb:bs[i]? with
 |none=>simp_all
 |some b=>
  rw[eb]at ex;let ex:V.bl b=x:=Ym ex
  subst ex;rw[Xw hi]at e;let e:XS[i]=v:=Ym e
  rw[e]at rx;exists b,Z,rx
def av(K:Ad)(hc:X.calm=true)(h:autoParam (X.K=K) D1._auto_1):VF X (.builtin "any") (λxs H Q=>∃(p:Addr)(bs:List Bool),xs=[.ref p]/\SqL K H p (bs.H V.bl)/\Q (.bl<|bs.any id) H):=by
 subst h;intro pins s σ H xs us Q I r h;let(p,bs,rfl,hq,q):=h;let(u,rfl,ru):=Vi r;let rfl:u=Value.ref p:=ru;let(XS,rv,pl,hz):=I.list hq;let hl:XS.C.o=bs.f:=by rw[YR,<-rv.f,Yb]
 let XJ:p≠(~~~s):=Yw (by let(_,_,e,_):=pl;show Yk e);show call_any_walk (wX pl.isList {(~~~s),_,_,_,_,_,_,Z,Walks.list (A:=X.A.in1) (I.ok.hd hc) (~~~s) p XJ XS.C,{{_,Qd _ Z,Z,Z},pl.isList.push _},Zx6<|oP rv,λh' tk hk=>?_});rw[hl,oQ];exists .bl<|bs.any id,H,I.kept λb o e=>hk b o ?_<|Xl _ e,Z,q;intro z;rw[Xc.R z]at e;show absurd (Yk e) (RX _)
end
end L2
namespace My
open PySem L2
section
variable{K:Ad}{H:Hp}{α:Type}[DecidableEq α]
def Bears(R:V->α->Prop)(xs:List V)(l:List α):(Prop):=xs.f=l.f/\∀(i:Nat)(a:α),l[i]?=some a->∃x,xs[i]?=some x/\R x a
def Bears.at{R:V->α->Prop}(h:Bears R xs l){i:Nat}{x:V}(e:xs[i]?=some x):∃a,l[i]?=some a/\R x a:=by
 let hi:i<xs.f:=(Xv.R e).1;let hl:i<l.f:=by rwa[<-h.1]
 let(x',e1,q):=h.2 i l[i] (Xw hl)
 simp_all
def Lz{l m:List α}(h:l.f=m.f):(List.range l.f).all (λi=>decide (l[i]?=m[i]?))=decide (l=m):=by
 rw[Tp,NO,Qg];constructor
 .intro q;show LP λi=>?_;grind
 lia
def Dx{R:V->α->Prop}(hp:SqL K H p xs)(hq:SqL K H q ys)(h1:Bears R xs l)(h2:Bears R ys m)(hR:∀x y a b,R x a->R y b->EqD K H n x y (decide (a=b))):EqD K H (n+1) ↑p ↑q (decide (l=m)):=by
 cases hl:xs.f=ys.f
 .let e:=Lz (l:=l) (m:=m) (by rw[<-h1.1,<-h2.1,hl]);rw[<-e,<-h1.1];show EqD.lsts hp hq hl λi x y ex ey=>?_;let(a,ea,ra):=h1.at ex;let(b,eb,rb):=h2.at ey
  simp_all
 .let e:decide (l=m)=false:=Fw λz=>hl (by rw[h1.1,h2.1,z]);rw[e];show EqD.lens hp hq hl
def oO{R:V->α->Prop}(hp:SqT K H p xs)(hq:SqT K H q ys)(h1:Bears R xs l)(h2:Bears R ys m)(hR:∀x y a b,R x a->R y b->EqD K H n x y (decide (a=b))):EqD K H (n+1) ↑p ↑q (decide (l=m)):=by
 let key:=EqD.tups (e:=λi=>decide<|l[i]?=m[i]?) hp hq λi x y ex ey=>by let(a,ea,ra):=h1.at ex;let(b,eb,rb):=h2.at ey;rw[ea,eb,show decide (some a=some b)=decide (a=b) by simp];show hR x y a b ra rb
 cases hl:xs.f=ys.f
 .let e:=Lz (l:=l) (m:=m) (by rw[<-h1.1,<-h2.1,hl]);rwa[<-hl,Nat.min_self,h1.1,e,show(l.f == l.f)=true by simp,Bool.and_true]at key
 .let e:decide (l=m)=false:=Fw λz=>hl (by rw[h1.1,h2.1,z]);lia
def vD(ns:Ac):Bears (λx (z:Int)=>x=.int z) (IL ns) ns:={Xh ns,λi z e=>{_,WK e,Z}}
def Dw{a b:Int}(hx:x=.int a)(hy:y=.int b):EqD K H n x y (decide (a=b)):=by subst hx hy;show EqD.flat Z rfl
def au(hp:SqL K H p (IL ns))(hq:SqL K H q (IL ms)):EqD K H 1 ↑p ↑q (decide (ns=ms)):=
 Dx hp hq (vD ns) (vD ms) λ_ _ _ _=>Dw
def Dv(hp:SqT K H p (IL ns))(hq:SqT K H q (IL ms)):EqD K H 1 ↑p ↑q (decide (ns=ms)):=
 oO hp hq (vD ns) (vD ms) λ_ _ _ _=>Dw
def RO(H:Hp)(v:V)(l:Ac):(Prop):=∃a,v=.ref a/\H a=some (.lst<|IL l)
end
end My
namespace My
def VU(M:Ac)(p:Nat):(Bool):=(List.range p).all λi=>decide (mk M i≠mk M p)
def So(M:Ac)(k:Int)(i:Nat):(Ac):=((List.range i).filter λj=>decide<|mk M j=k).H λ(j:Nat)=>(j:Int)
def Uy(M:Ac)(i:Nat):(List Nat):=(List.range i).filter (VU M)
def XE:VU M p=true↔∀i,i<p->mk M i≠mk M p:=by
 unfold VU
 simp_all
def oN(M:Ac)(k:Int)(i:Nat):So M k (i+1)=So M k i++(if mk M i=k then [(i:Int)] else []):=by unfold So;rw[NN,VI,YB];grind
def aq(M:Ac)(i:Nat):Uy M (i+1)=Uy M i++(if VU M i=true then [i] else []):=by unfold Uy;rw[NN,VI];grind
def Du(M:Ac):∀i,Xq M i=(Uy M i).H λp=>(mk M p,So M (mk M p) i)
 |0=>rfl
 |i+1=>by
  let ih:=Du M i;change RP (Xq M i) (i:Int) (mk M i)=_
  let hk:(mk M i∈(Xq M i).H (·.1))↔VU M i≠true:=by
   constructor
   .intro h q;let(j,hj,e):=Nd M i _ h;show XE.R q j hj e
   .intro h;cases q:∃j,j<i/\mk M j=mk M i
    .let⟨j,hj,e⟩:=q;rw[<-e];show vG hj
    .show absurd (XE.mpr λj hj e=>q ⟨j,hj,e⟩) h
  unfold RP;cases h:mk M i∈(Xq M i).H (·.1)
  .let hf:=hk.R h;rw[Yi h,aq,Yh hf,YS,ih,Ov];show YQ λp _=>?_;rw[oN];grind
  .let hf:VU M i=true:=by
    cases q:VU M i with
    |true=>rfl
    |false=>lia
   rw[Yh h,aq,Yi hf,YB,ih];congr 1
   .show YQ λp hp=>?_;let Pj:p<i:=YY.R (Yr.R hp).1
    rw[oN,Yh λz=>XE.R hf p Pj z.symm,YS]
   .change [(mk M i,[(i:Int)])]=[(mk M i,So M (mk M i)<|i+1)];rw[oN,Yi Z];let e0:So M (mk M i) i=[]:=by unfold So;rw[bV.mpr λj hj=>by simpa using XE.mp hf j (YY.mp hj)];rfl
    rw[e0];rfl
end My
namespace My
open PySem L2
def Bears.snoc{α:Type}[DecidableEq α]{R:V->α->Prop}{xs:List V}{l:List α}{x:V}{a:α}(h:Bears R xs l)(hx:R x a):Bears R (xs++[x]) (l++[a]):=by
 show{by rw[Xe,Xe,h.1];rfl,λi b e=>?_};cases hi:i<l.f
 .rw[YG hi]at e;rw[YG (by rwa[h.1])];show h.2 i b e
 .let hl:i=l.f:=by
   have:=(Xv.R e).1
   rw[Xe,YK]at this;lia
  subst hl;rw[YD (by rw[h.1];simp_all),h.1,UE]
  simp_all
def Bears.imp{α:Type}[DecidableEq α]{R R':V->α->Prop}{xs:List V}{l:List α}(h:Bears R xs l)(f:∀x a,R x a->R' x a):Bears R' xs l:={h.1,λi a e=>by let(x,e1,r):=h.2 i a e;exists x,e1,f x a r}
end My
namespace L2
open PySem PySem.Spec PyProof.Rows
def ZD9{a:Int}(h1:-(10^70)<a)(h2:a<10^70):a.natAbs.log2<1920:=by
 let h:a.natAbs<10^70:=J;cases h0:a.natAbs=0
 .simp_all
 .show(Nat.log2_lt h0).mpr (Nat.lt_trans h AP)
end L2
namespace My
open PySem L2
def oM{p1 p2:Addr}(h1:H p1=some (.lst (IL l1)))(h2:H p2=some (.lst (IL l2)))(hl:l1.f+l2.f<=1000000)(k:∀r,H r=none->Q ↑r (upd H r (.lst (IL (l1++l2))))):rCat ↑p1 ↑p2 H Q:=by
 exists p1,p2,_,_,Z,Z,h1,h2,?_,λr hr=>?_
 .rw[Xh,Xh];show Sq hl
 simp_all
end My
namespace L2
open PySem PySem.Spec PyProof.Rows
def Dt:∀{us:Ag}{ns:Ac},IntsAre us ns->Vals (ns.H V.int) us
 |[],[],_=>.nil
 |_::_,[],h=>by cases h
 |[],_::_,h=>by cases h
 |u::us,n::ns,h=>by
  cases h with
  |cons _ _ t=>show .cons {_,Z} (Dt t)
def Vals.rev{xs:List V}{us:Ag}(h:Vals xs us):Vals xs.reverse us.reverse:=by
 induction h with
 |nil=>show .nil
 |cons r t ih=>
  rw[List.reverse_cons,List.reverse_cons];show ih.append (.cons r .nil)
section
variable{X:Cx}
inductive yR2(K:Ad)(xs:List V)(H:Hp)(Q:VK):Prop
 |mk (p ns:_) (_:xs=[.ref p]) (_:SqL K H p (ns.H V.int)) (_:ns.f<64) (_:∀ms:Ac,ms.Perm ns->ms.G (·<=·)->∀l,H l=none->Q ↑l (upd H l<|.lst<|ms.H V.int))
def oK(K:Ad)(hk:autoParam (X.K=K) D1._auto_1):VF X (.builtin "sorted") (yR2 K):=by
 subst hk;intro pins s σ H xs us Q I r h;let(p,ns,rfl,hq,hn,q):=h;let(u,rfl,ru):=Vi r;let rfl:u=Value.ref p:=ru;let(XS,rv,pl,hz):=I.list hq;let hi:=Zu rv
 let hl:XS.f=ns.f:=by rw[<-rv.f,Yb]
 show sorted_ints pl.isList hi (by simp_all) λout ms h1 h2 h3=>?_;let(e,he):=sortedAll_at s.r XS out;let Ds:ms.f=ns.f:=h2.length_eq
 exists .ref<|(~~~s)+1,_,I.laid (t':=s.toks) (o:=.lst<|ms.H V.int) (λb o g=>sortedAll_old g) (Ts _) {?_,out.m,e,Dt h1,?_},Z,q ms h2 h3 _<|I.hok.fresh<|Ts _
 .simp_all
 .show he
def oJ:typeLookup (.type "list_reverseiterator") "__length_hint__"=pure (some (.builtin "list_reverseiterator.__length_hint__")):=by kernel_rfl
def Zt9:typeLookup (.type "list_reverseiterator") "__len__"=pure none:=by kernel_rfl
def oI{E:Ae}{s:Shared}{r:Addr}{Q:Bool->Shared->Prop}(hT:s.TypeIs ↑r "list_reverseiterator")(h:Q false s):wpAny (model prog w) A (Builtin.List.listLengthHint ↑r) Q E s:=by show XT (He hT Zt9 ?_);show XT (He hT oJ ?_);generalize oH:("list_reverseiterator.__length_hint__":String)=id0;subst oH;show XT (Hi (T:="list_reverseiterator") (b:=true) hT rP ?_);show Ye h
section
variable{prog:Program}{w:World}{A:Around}{E:Ae}{s:Shared}{it a:Addr}{items:Array Value}
def ZU7{R:Result->Shared->Prop}(hh:A.handled=none)(hi:s.r.IsRevIter it a ((items.o:Int)-1))(hl:s.r.IsList a items)(XJ:a≠it){S:Addr}(h1:S≠it)(h2:S≠a){c0:Nat}
  (hS:s.r.E S=some {cls:=.type "list",data:=.seq #[] c0})(hz:items.o<=sizeLine)
  (k:∀h' tk acc c,(∀b o,b≠S->b≠it->s.r.E b=some o->h'.E b=some o)->h'.E S=some {cls:=.type "list",dict:=none,data:=.seq acc c,slots:=#[]}->ItemsOf (λi v=>items[items.o-1-i]?=some v) acc items.o->R (.ok<|.ret res) {s with heap:=h',toks:=tk}):
  wpAny (model prog w) A.in1 (Builtin.List.listExtendWith ↑S ↑it res)
   (λfin s'=>match fin with | .done f=>R (.ok f) s' | .again c'=>c'.quiet=true/\codeAny (model prog w) A c' R s') (λe s'=>R (.error e) s') s:=by
 let W:=Walks.listRev (prog:=prog) (w:=w) (A:=A.in1) hh it a XJ items;let Sn:S∉[it,a]:=by simp only[Yo,Kg,or_false,not_or];exists h1,h2
 let GJ:(0<=items.o/\s.r.IsRevIter it a ((items.o:Int)-1-((0:Nat):Int))/\s.r.IsList a items):={Yc _,by simp_all,hl};let hT:s.TypeIs ↑it "list_reverseiterator":=hi.typeIs
 let key:codeAny (model prog w) A (.builtin "list.extend.loop" ⟨[.ref S,.ref it,res],[]⟩) R s:=by
  show codeAny_extend_loopS W.toS hz S Sn res items.o 0 _ #[] c0 Z (Yc _) GJ hS (ItemsOf.nil _) λs' acc c hm Ux VC=>?_;rw[Moved.eq_with hm];show k s'.r s'.toks acc c (λb o hb hbi e=>hm.r b o (λhmem=>?_) e) Ux VC;rcases Yo.R hmem with e'|hmem
  .lia
  .grind
 show XT (Fn (T:="list_reverseiterator") hT ?_);let e1:Builtin.List.listSameRef ↑S ↑it=false:=by simp[Builtin.List.listSameRef,h1]
 rw[Yh (by rw[e1];decide)];show XT (sL hi ?_);show XT (SQ<|oI hT ?_);show Ye {NJ cv _,key}
def oG{Q:Ae}(hh:A.handled=none)(hi:s.r.IsRevIter it a ((items.o:Int)-1))(hl:s.r.IsList a items)(XJ:a≠it)(hz:items.o<=sizeLine)
  (k:∀h' tk acc c,(∀b o,b≠it->s.r.E b=some o->h'.E b=some o)->h'.E (~~~s)=some {cls:=.type "list",dict:=none,data:=.seq acc c,slots:=#[]}->ItemsOf (λi v=>items[items.o-1-i]?=some v) acc items.o->
   Q (.ref (~~~s)) {s with heap:=h',toks:=tk}):wpAny (model prog w) A (call (.type "list") [.ref it]) Q E s:=by
 let(oi,hoi,_):=id hi;let(ol,Nj,_):=id hl;let n1:(~~~s)≠it:=RA (Yk hoi)
 let n2:(~~~s)≠a:=RA (Yk Nj);show callType_codes (Q₁:=λob s₁=>ob=.ref (~~~s)/\s₁={s with heap:=s.r.push {cls:=.type "list",data:=.seq #[]} }) PySem.F.called_list (PySem.F.typeCall_list_1 _) PySem.F.entry_list_init (code_list_new _ ⟨Z,Z⟩) λob s₁ z=>?_;let(rfl,rfl):=z;let GI:(s.r.push {cls:=.type "list",data:=.seq #[]}).E (~~~s)=some {cls:=.type "list",data:=.seq #[]}:=Qd _ rfl
 exists {_,GI,Z},PySem.F.args_list_init_2 _ _,?_;show XT ?_;show XT (Kq GI Z<|Ye ?_);show XT (wQ (a:=(~~~s)) GI Z ?_);let Dr:=YZ (Obj.mapSeq λ_=>(#[]:Array Value)) GI rfl
 let Jt:∀b o,b≠(~~~s)->s.r.E b=some o->((s.r.push {cls:=.type "list",data:=.seq #[]}).update (~~~s) (Obj.mapSeq λ_=>(#[]:Array Value))).E b=some o:=
  λb o hb e=>(YJ _ _<|XH hb).l (Xl _ e)
 show XT (Hb ?_);show ZU7 (A:=A.in1) (items:=items) hh (hi.at λo e=>Jt it o (XH n1) e) (hl.at λo e=>Jt a o (XH n2) e) XJ n1 n2 Dr hz λh' tk acc c hk Ux VC=>?_;exists Z,k h' tk acc c (λb o hb e=>hk b o (Yw<|Yk e) hb<|Jt b o (Yw<|Yk e) e) Ux VC
end
end
section
variable{X:Cx}{p p2 pos TZ:Pos}{e:Expr}{t:TA}
def oF(K:Ad)(t:TA):(TE):=λσ H Q=>t σ H λvs H1=>∃a ys,vs=[.ref a]/\SqL K H1 a ys/\∀l,H1 l=none->Q ↑l (upd H1 l<|.lst ys.reverse)
def Dq(K:Ad)(hc:X.calm=true)(g1:Gl X "list")(m1:X.mg "list"=none)(g2:Gl X "reversed")(m2:X.mg "reversed"=none)(ha:PA X [e] t)(hk:autoParam (X.K=K) D1._auto_1)
  (he:autoParam (starEach [e] X.X=[(false,eval e X.X)]) D1._auto_1)
  (JD:autoParam (starEach [.Call (.Name "reversed" p2) [e] [] TZ] X.X=[(false,eval (.Call (.Name "reversed" p2) [e] [] TZ) X.X)]) D1._auto_1):
  PE X (.Call (.Name "list" p) [.Call (.Name "reversed" p2) [e] [] TZ] [] pos) (oF K t):=by
 subst hk;intro pins s σ H Q I h;show OA (Rp I g1 m1 Boot.«list» ?_);show Uj ?_ rN rfl;show sr ?_;show OA (Rp I g2 m2 Boot.«reversed» ?_);show Uj (thn (ha TZ pins s σ H _ I h) λus s1 zz=>?_) (by rw[he];rfl) rfl;let(vs,H1,I1,r1,q1):=zz;let(a,ys,rfl,hq,q):=q1;let(u,rfl,ru):=Vi r1;let rfl:u=Value.ref a:=ru;let(XS,rv,pl,hz):=I1.list hq;show call_reversed_list pl.isList ?_;show sf ?_;let el:XS.C.o=ys.f:=by rw[YR,<-rv.f]
 let hit:(s1.r.push<|revObj a<|(XS.C.o:Int)-1).IsRevIter (~~~s1) a ((XS.C.o:Int)-1):={_,Qd _ Z,Z,Z};let XJ:a≠(~~~s1):=Yw (by let(_,_,e,_):=pl;show Yk e)
 show oG (I.ok.hd hc) hit (pl.isList.push _) XJ (by rwa[el]) λh' tk acc c hk hS vC=>?_;let ea:acc.m=XS.reverse:=by
  show LP λi=>?_;let h1:=vC.1
  cases hi:i<XS.f
  .obtain⟨v,ev⟩:∃v,acc[i]?=some v:={_,Ui<|by simp_all};let h2:=vC.2 i v ev
   grind
  .simp_all
 rw[size_push']at hS ⊢;exists .ref<|(~~~s1)+1,_,I1.laid (o:=.lst ys.reverse) (h':=h') (t':=tk) (λb o e=>hk b o (Yw<|Yk e)<|Xl _ e) (Ts _) ⟨?_,acc.m,c,?_,?_⟩,Z,q _<|I1.hok.fresh<|Ts _
 .rw[LS];show hz
 .rw[ea];show rv.rev
 .rw[hS]
end
end L2
namespace My
open PySem L2
def XU:IsSet m ns↔(∀z∈ns,0<=z/\z<(m:Int))/\ns.G (·<·):=by
 constructor
 .intro h;exists h.all,?_;rw[UH];intro i j hi hj WB
  induction j with
  |zero=>simp_all
  |succ j ih=>
   let Nc:j<ns.f:=B;let key:=(h (j+1) ns[j+1]<|Xw hj).2.2 ns[j] J (by simp_all)
   grind
 .rintro⟨ha,hp⟩ i z hz;let(hi,ei):=Xv.R hz;let hm:=ha z (Xf hz)
  exists hm.1,hm.2,λy h0 hy=>?_;let(Ww,ei'):=Xv.R hy
  have:=UH.R hp (i-1) i Ww hi J
  simp_all
def Sm{ns:Ac}(h:ns.G (·<·)):ns.Nodup:=h.imp λVq e=>by simp_all
def IsSet.nodup(h:IsSet m ns):ns.Nodup:=Sm (XU.R h).2
end My
namespace My
def Nb{α:Type}{P:List α->Prop}(h0:P [])(h1:∀l x,P l->P (l++[x])):∀l,P l:=by
 intro l;rw[<-List.reverse_reverse l]
 induction l.reverse with
 |nil=>show h0
 |cons x r ih=>
  simp_all
inductive Conn(es:List (Nat×Nat)):Nat->Nat->Prop
 |refl (i:Nat):Conn es i i
 |edge {a b:Nat} (h:(a,b)∈es):Conn es a b
 |symm {i j:Nat}:Conn es i j->Conn es j i
 |trans {i j k:Nat}:Conn es i j->Conn es j k->Conn es i k
def Conn.mono(h:∀e∈es,e∈fs)(c:Conn es i j):Conn fs i j:=by
 induction c with
 |refl i=>show .refl i
 |edge q=>show .edge (h _ q)
 |symm _ ih=>show .symm ih
 |trans _ _ i1 i2=>show .trans i1 i2
def vB{n i:Nat}(h:i<n):mk ((List.range n).H λ(i:Nat)=>(i:Int)) i=(i:Int):=by rw[mk_map' h]
where
 mk_map' {n i:Nat} (h:i<n):mk ((List.range n).H λ(i:Nat)=>(i:Int)) i=(i:Int):=by
  simp_all
def InN(n:Nat)(es:List (Nat×Nat)):(Prop):=∀e∈es,e.1<n/\e.2<n
def InN.snoc{e:Nat×Nat}(h:InN n (es++[e])):InN n es/\e.1<n/\e.2<n:={λx hx=>h x<|Yj _ hx,h e Fe}
def oE:∀es:List (Nat×Nat),InN n es->∀e∈es,mk (WY n es) e.1=mk (WY n es) e.2:=by
 show Nb (λ_ e h=>by cases h) λes x ih hn e he=>?_;let(h1,h2,h3):=hn.snoc;let hl:=ZG n es
 let hx:=hn e he;rw[Nf];show(DB (by simp_all)<|by simp_all).mpr ?_;rcases Xk.R he with q|q
 .show .inl (ih h1 e q)
 .rw[Xc.R q];show .inr {.inl Z,.inr Z}
def Dn:∀es:List (Nat×Nat),InN n es->∀i j,i<n->j<n->mk (WY n es) i=mk (WY n es) j->Conn es i j:=by
 show Nb (λ_ i j hi hj h=>?_) λes x ih hn i j hi hj h=>?_
 .let h:mk ((List.range n).H λ(i:Nat)=>(i:Int)) i=mk ((List.range n).H λ(i:Nat)=>(i:Int)) j:=h;rw[vB hi,vB hj]at h
  have:i=j:=J
  subst this;show .refl i
 .let⟨h1,h2,h3⟩:=hn.snoc;let hl:=ZG n es
  let up:∀{i j:Nat},Conn es i j->Conn (es++[x]) i j:=λc=>c.mono λe he=>Yj _ he;let ex:Conn (es++[x]) x.1 x.2:=.edge Fe
  rw[Nf]at h;rcases(DB (by simp_all)<|by simp_all).R h with q|⟨q1,q2⟩
  .show up (ih h1 i j hi hj q)
  .let ci:Conn (es++[x]) i x.1:=by
    rcases q1 with q|q
    .show up (ih h1 i _ hi h2 q)
    .show(up<|ih h1 i _ hi h3 q).l ex.symm
   let cj:Conn (es++[x]) j x.1:=by
    rcases q2 with q|q
    .show up (ih h1 j _ hj h2 q)
    .show(up<|ih h1 j _ hj h3 q).l ex.symm
   show ci.l cj.symm
def oB(hn:InN n es)(c:Conn es i j):i=j\/(i<n/\j<n/\mk (WY n es) i=mk (WY n es) j):=by
 induction c with
 |refl i=>show .inl rfl
 |edge q=>show .inr {(hn _ q).1,(hn _ q).2,oE es hn _ q}
 |symm _ ih=>
  rcases ih with e|⟨a,b,c⟩
  .show .inl e.symm
  .show .inr ⟨b,a,c.symm⟩
 |trans _ _ i1 i2=>
  rcases i1 with e|⟨a,b,c⟩
  .rw[e];show i2
  .rcases i2 with e|⟨a',b',c'⟩
   .rw[<-e];show .inr ⟨a,b,c⟩
   .show .inr {a,b',c.l c'}
def VT(hn:InN n es)(hi:i<n)(hj:j<n):mk (WY n es) i=mk (WY n es) j↔Conn es i j:=by
 constructor
 .show Dn es hn i j hi hj
 .intro c;rcases oB hn c with e|⟨_,_,e⟩
  .rw[e]
  .show e
def Ra(hn:InN n es)(hi:i<n)(hj:j<n):mk (Xr n es) i=mk (Xr n es) j↔Conn es i j:=by
 rw[<-VT hn hi hj];let s:=vJ (n:=n) (es:=es) hn
 show s.2 i j (by rwa[ZF]) (by rwa[ZF])
def cnt(M:Ac):(Nat):=(Uy M M.f).f
def vA(M:Ac):∃p,p<=i/\mk M p=mk M i/\VU M p=true:=by
 induction i using Nat.strongRecOn with
 |ind i ih=>
  cases h:VU M i=true
  .grind
  .have:∃j,j<i/\mk M j=mk M i:=by
    cases q:∃j,j<i/\mk M j=mk M i
    .show q
    .show absurd (XE.mpr λj hj e=>q ⟨j,hj,e⟩) h
   grind
def ZC8{p q:Nat->Bool}{x n:Nat}(hx:x<n)(hpx:p x=true)(h:∀y,y<n->q y=(p y && !decide (y=x))):((List.range n).filter q).f+1=((List.range n).filter p).f:=by
 induction n with
 |zero=>simp_all
 |succ n ih=>
  rw[NN,VI,VI,Xe,Xe];cases e:x=n
  .subst e;let e1:(List.range x).filter q=(List.range x).filter p:=Fz λy hy=>by let hy:=YY.R hy;rw[h y J,show decide (y=x)=false from Fw J];simp
   simp_all
  grind
def vy(hp:VU M p=true)(hq:VU M q=true)(e:mk M p=mk M q):p=q:=by
 rcases Nat.lt_trichotomy p q with h|h|h
 .show absurd e (XE.R hq p h)
 .show h
 .show absurd e.symm (XE.R hp q h)
def Jr(ha:a<m.f)(hb:b<m.f)(XJ:mk m a≠mk m b):cnt (lm m a b)+1=cnt m:=by
 let(A,Ly,RN,Dm):=vA m (i:=a);let(rH,ao,Jq,ak):=vA m (i:=b);let hAB:A≠rH:=λe=>XJ J
 unfold cnt Uy;rw[vL];show ZC8 (x:=max A rH) B ?_ λy hy=>?_
 .lia
 .rw[Tp,wY,XE,XE];let key:∀i,i<y->(mk (lm m a b) i=mk (lm m a b) y↔GL m a b i y):=λi hi=>DB J hy
  let oz:(!decide (y=max A rH))=true↔y≠max A rH:=Fe;rw[oz];constructor
  .intro q;exists λi hi e=>q i hi<|(key i hi).mpr (.inl e),λe=>?_;rcases Nat.lt_or_gt_of_ne hAB with h|h
   .let ey:y=rH:=J;subst ey;show q A h ((key A h).mpr (.inr {.inl RN,.inr Jq}))
   .let ey:y=A:=B;subst ey;show q rH h ((key rH h).mpr (.inr {.inr Jq,.inl RN}))
  .rintro⟨q1,q2⟩ i hi e;rcases(key i hi).R e with e|⟨e1,e2⟩
   .show q1 i hi e
   .let fy:VU m y=true:=XE.mpr q1;rcases e2 with e2|e2
    .let ey:y=A:=vy fy Dm (e2.l RN.symm);rcases e1 with e1|e1
     .grind
     .let⟨p,p1,p2,p3⟩:=vA m (i:=i)
      have:p=rH:=vy p3 ak J
      grind
    .let ey:y=rH:=vy fy ak (e2.l Jq.symm);rcases e1 with e1|e1
     .let⟨p,p1,p2,p3⟩:=vA m (i:=i)
      have:p=A:=vy p3 Dm J
      grind
     grind
def aj(n:Nat):cnt ((List.range n).H λ(i:Nat)=>(i:Int))=n:=by
 unfold cnt Uy;let e:(List.range n).filter (VU<|(List.range n).H λ(i:Nat)=>(i:Int))=List.range n:=by
  show sP.mpr λp hp=>XE.mpr λi hi e=>?_;let hp:=YY.R hp
  rw[vB J,vB hp]at e;lia
 grind
def ou(hM:1<=M.f):cnt M=1↔∀i j,i<M.f->j<M.f->mk M i=mk M j:=by
 let e:cnt M=(Jw M).f:=by unfold cnt Jw;rw[Du,Yb]
 rw[e];show DA hM
end My
namespace My
open PySem L2
def Ph{i:Int}{n:Nat}(h0:0<=i)(h1:i<(n:Int)):seqIndex? i n=some i.j:=by
 let e:(if i<0 then i+(n:Int) else i)=i:=Yh (by simp_all);unfold seqIndex?
 simp_all
def Zg(n:Int)(ps:Aa)(ns:Ac):(Prop):=IsSet ps.f ns/\ns⁻¹=n-1/\∀i j,i<n.j->j<n.j->Conn (XQ ps ns) i j
def ZO(g:GoodW n ps)(h:∀z∈ns,0<=z/\z<ps⁻¹):InN n.j (XQ ps ns):=λe he=>by
 let(z,hz,rfl):=Yz.R he;let hp:ps[z.j]?=some (ps[z.j]'(by simp_all)):=Xw _
 rw[VV hp];let(b1,b2,b3,b4):=g.2.2.2 _ (Xf hp);lia
def Vg(h:∀z∈ns,z∈ms):∀e∈XQ ps ns,e∈XQ ps ms:=λe he=>by let(z,hz,rfl):=Yz.R he;show Yz.mpr {z,h z hz,Z}
def oq(h:InN n es):(∀i j,i<(WY n es).f->j<(WY n es).f->mk (WY n es) i=mk (WY n es) j)↔∀i j,i<n->j<n->Conn es i j:=by
 rw[ZG];constructor
 .intro q i j hi hj;show(VT h hi hj).R (q i j hi hj)
 .intro q i j hi hj;show(VT h hi hj).mpr (q i j hi hj)
def oo(hn:1<=n)(h:InN n es):(Jw (Xr n es)).f=1↔∀i j,i<n->j<n->Conn es i j:=by rw[DA (by rwa[ZF]),(vJ h).one];show oq h
def ai(hn:1<=n)(h:InN n es):(L2.seen (WY n es)).f=1↔∀i j,i<n->j<n->Conn es i j:=by rw[oV (by rwa[ZG])];show oq h
def Lx(h:∀z,z∈ns↔z∈ms):Conn (XQ ps ns) i j↔Conn (XQ ps ms) i j:=
 {λc=>c.mono<|Vg λz hz=>(h z).R hz,λc=>c.mono<|Vg λz hz=>(h z).mpr hz}
section
variable{K:Ad}{a:Addr}{xs:List V}{g:TG}{tt:TT}{te:TE}{o:Nat}{fr:List Nat}{σ:St}{H:Hp}{Q:VK}
def vw(Pv:Nat->List V->Hp->Prop)(h0:Pv 0 [] H)(hz:xs.f<sizeLine)(hl:∀i ys H,i<=xs.f->Pv i ys H->SqL K H a xs/\ys.f<=i)
  (hs:∀(i:Nat) x ys H (p:Addr),H p=none->xs[i]?=some x->Pv i ys H->Jz Pv g tt te o fr σ i ↑p ys (upd H p<|.tup [.int i,x]))(hd:∀ys H,Pv xs.f ys H->∀p,H p=none->Q ↑p (upd H p<|.lst ys)):Nm (LC K a) g tt te o fr σ H Q:=by
 exists λi m ys H=>m=xs.f-i/\i<=xs.f/\Pv i ys H,{xs.f,Fe,Yc _,h0},?_;rintro i m ys H ⟨rfl,hi,p⟩;let(q,hy):=hl i ys H hi p;cases Xx:i<xs.f
 .show .inr {{xs,xs[i],q,by simp[Xx]},J,λx H' zz=>?_};let(T,y,hT,ex,eH,hyy):=zz;subst ex eH;show hs i y ys H T hT (hyy xs q) p (λj ys H=>∃m',m'<xs.f-i/\m'=xs.f-j/\j<=xs.f/\Pv j ys H) λys H p'=>{xs.f-(i+1),B,Z,Xx,p'}
 .let e:i=xs.f:=J;subst e;show .inl {{xs,q,XI _},J,hd ys H p}
end
def unlike(M:Ac)(ps:Aa)(i:Nat):(Ac):=((List.range i).filter λk=>decide<|mk M (ps.Q k (0,0)).1.j≠mk M (ps.Q k (0,0)).2.j).H λ(k:Nat)=>(k:Int)
def ah(M:Ac)(ps:Aa)(i:Nat):unlike M ps (i+1)=unlike M ps i++(if mk M (ps.Q i (0,0)).1.j≠mk M (ps.Q i (0,0)).2.j then [(i:Int)] else []):=by unfold unlike;rw[NN,VI,YB];grind
def om(M:Ac)(ps:Aa)(i:Nat):(unlike M ps i).f<=i:=by unfold unlike;grind
def wo(ns:Ac)(z:Int):(Ac):=ns.filter λy=>decide (y≠z)
def Xj{z y:Int}:y∈wo ns z↔y∈ns/\y≠z:=by unfold wo;simp
def Lw(ns:Ac)(z:Int):(wo ns z).f<=ns.f:=YL _ _
def ag{ns:Ac}{y z:Int}(h:ns[i]?=some y):wo (ns.M (i+1)) z=wo (ns.M i) z++(if y≠z then [y] else []):=by unfold wo;rw[YA,h,VI];grind
def Zw6(g:GoodW n ps)(hM:M.f=n.j)(s:SameP M L):unlike M ps ps.f=unlike L ps ps.f:=by
 unfold unlike;congr 1;show Fz λk hk=>?_;let hk:=YY.R hk
 let hp:ps[k]?=some ps[k]:=Xw hk;rw[VV hp];let(b1,b2,b3,b4):=g.2.2.2 _ (Xf hp)
 have:=s.2 ps[k].1.j ps[k].2.j B B
 lia
def SH(n:Int)(ps:Aa)(ns:Ac)(z:Int)(l:Ac):(Ac):=l.filter λy=>decide (z∈unlike (WY n.j<|XQ ps<|wo ns y) ps ps.f)
def Dl{l:Ac}{y:Int}(h:l[i]?=some y):
  SH n ps ns z (l.M<|i+1)=SH n ps ns z (l.M i)++(if z∈unlike (WY n.j<|XQ ps<|wo ns y) ps ps.f then [y] else []):=by unfold SH;rw[YA,h,VI];grind
def GH(n:Int)(ps:Aa)(ns:Ac)(z:Int)(l:Ac):(SH n ps ns z l).f<=l.f:=YL _ _
def oj{z:Int}(h0:0<=z)(h1:z<ps⁻¹):z∈unlike M ps ps.f↔mk M (ps.Q z.j (0,0)).1.j≠mk M (ps.Q z.j (0,0)).2.j:=by
 unfold unlike;rw[Yz];constructor
 .rintro⟨k,hk,rfl⟩
  have:=YO (Yr.R hk).2
  show this
 .intro h;exists z.j,Yr.mpr {YY.mpr (by simp_all),YE h},J
def vt{a b:Ac}(h:a.Perm b)(h1:a.G (·<=·))(h2:b.G (·<=·)):a=b:=by
 induction a generalizing b with
 |nil=>simp_all
 |cons x a ih=>
  cases b with
  |nil=>simp_all
  |cons y b=>
   let(hx,ha):=YN.R h1;let(hy,hb):=YN.R h2;let e:x=y:=by
    let m1:y∈x::a:=h.mem_iff.mpr Ya;let m2:x∈y::b:=h.mem_iff.R Ya
    rcases Yo.R m1 with e1|e1
    .lia
    .grind
   subst e;rw[ih (List.Perm.cons_inv h) ha hb]
end My
namespace L2
open PySem PySem.Spec PyProof.Rows
section
variable{prog:Program}{w:World}{A:Around}{E:Ae}{s:Shared}
def ZO6{tp:Addr}{vs:Ag}{Q:List Value->Shared->Prop}{ot:Obj}(ht:s.r.E tp=some ot)(hc:ot.cls=.type "tuple")(hd:ot.data=.seq vs.C m)(hz:vs.f<=sizeLine)
  (k:Q vs {s with heap:=(s.r.push<|seqObj "list" #[] 0).update (~~~s) (Obj.mapSeq (·++vs.C))}):wpAny (model prog w) A (collect<|.ref tp) Q E s:=by
 let af:(s.r.push<|seqObj "list" #[] 0).E tp=some ot:=Xl _ ht;let Jp:(s.r.push<|seqObj "list" #[] 0).E (~~~s)=some (seqObj "list" #[] 0):=Qd _ rfl
 show XT (wM<|RY sd ?_);show XT (NL<|Ye ⟨wZ _ D,RY entry_list_iadd' ?_⟩);change wpAny _ _ (Builtin.List.listExtendWith (.ref (~~~s)) ↑tp<|.ref (~~~s)) _ _ {s with heap:=s.r.push (seqObj "list" #[] 0)}
 show XT (Fn (T:="tuple") ⟨ot,af,hc⟩ ?_);rw[Yi (by simp_all)];show XT (Fl af hd ?_);show XT (Fl (xs:=#[]) (n:=0) Jp Z ?_);show XT (Ou (xs:=#[]) (n:=0) Jp Z ?_ (Yc _) B);show Ye ?_;show XT (Fj (Fo Jp _) ?_);change wpAny _ _ (pure ((#[]:Array Value)++vs.C).m) Q E _
 rw[show((#[]:Array Value)++vs.C).m=vs by simp];show Ye k
def Zy6{tp:Addr}{Q:Ae}{ot:Obj}(ht:s.r.E tp=some ot)(hc:ot.cls=.type "tuple")(hd:ot.data=.seq vs.C m)(hI:IntsAre vs ns)(Qt:vs.f<64)
  (k:∀out ms,IntsAre out.m ms->ms.Perm ns->ms.G (·<=·)->Q (.ref<|(~~~s)+1) {s with heap:=sortedAll s.r vs out}):
  wpAny (model prog w) A (call (.builtin "sorted") [.ref tp]) Q E s:=by
 let Jo:sizeLine=16777216:=RU;let hsz:((s.r.push<|seqObj "list" #[] 0).update (~~~s) (Obj.mapSeq (·++vs.C))).objs.o=(~~~s)+1:=by rw[rZ,size_push']
 let Oq:(((s.r.push<|seqObj "list" #[] 0).update (~~~s) (Obj.mapSeq (·++vs.C))).push (seqObj "list" vs.C 0)).E ((~~~s)+1)=some (seqObj "list" vs.C 0):=by rw[<-hsz];show Qd _ rfl
 show sU kind_sorted plain_sorted entry_sorted (args_sorted1 _) ?_;show XT (m:=checkCount "sorted" 1 1 _) (Ye ?_);show XT (ZO6 ht hc hd J ?_);show XT (NL ?_);rw[hsz];show XT (SQ<|QB wD ⟨_,Oq,Z⟩ wG (list_sort_tree Oq hI Qt λout ms b1 b2 b3=>{_,Z,?_})<|args_list_sort _);show Ye {_,Z,k out ms b1 b2 b3}
end
section
variable{X:Cx}
def Zc5(K:Ad)(hk:autoParam (X.K=K) D1._auto_1):VF X (.builtin "sorted") (λxs H Q=>∃p ns,xs=[.ref p]/\SqT K H p (ns.H V.int)/\ns.f<64/\
  ∀ms:Ac,ms.Perm ns->ms.G (·<=·)->∀l,H l=none->Q ↑l (upd H l<|.lst<|ms.H V.int)):=by
 subst hk;intro pins s σ H xs us Q I r h;let(p,ns,rfl,hq,hn,q):=h;let(u,rfl,ru):=Vi r;let rfl:u=Value.ref p:=ru;let(XS,rv,(ot,h1,h2,m,h3),hz):=I.tuple hq;let hi:=Zu rv
 let hl:XS.f=ns.f:=by rw[<-rv.f,Yb]
 show Zy6 h1 h2 h3 hi (by simp_all) λout ms b1 b2 b3=>?_;let(e,he):=sortedAll_at s.r XS out;let Ds:ms.f=ns.f:=b2.length_eq
 exists .ref<|(~~~s)+1,_,I.laid (t':=s.toks) (o:=.lst<|ms.H V.int) (λb o g=>sortedAll_old g) (Ts _) {?_,out.m,e,Dt b1,he},Z,q ms b2 b3 _<|I.hok.fresh<|Ts _
 simp_all
def Na(K:Ad):(R2):=λx y H Q=>∃a b xs ys,x=.ref a/\y=.ref b/\SqT K H a xs/\SqT K H b ys/\xs.f+ys.f<=sizeLine/\
 (xs=[]->Q ↑b H)/\(xs≠[]->ys=[]->Q ↑a H)/\(xs≠[]->ys≠[]->∀p,H p=none->Q ↑p (upd H p<|.tup<|xs++ys))
def Pg(K:Ad)(hk:autoParam (X.K=K) D1._auto_1):Wy X (binaryOp .Add) (Na K):=by
 intro pins s σ H x y v u Q I rx ry h;let(a,b,xs,ys,e1,e2,ha,hb,hz,q0,q1,q2):=id h;cases hx:xs=[]
 .subst hk e1 e2;cases rx;cases ry;let(XS,r1,p1,_):=I.tuple ha;let(Vs,r2,p2,_):=I.tuple hb;let hi:XS=[]:=r1.nil_iff.mpr hx
  let((cls,dd,data,sl),ho,hc,n,hd):=id p1;let((qG,wa,data2,vZ),Ub,Vn,n2,hd2):=id p2;subst hc hd Vn hd2;show concat_meets {_,ho,Z} {_,Ub,Z} r9 seq_tuple_add sX Kj (tf _ _)
   (tuple_addW0 a b XS.C Vs.C n n2 dd wa sl vZ<|by simp[hi]) {ho,Ub,{.ref b,H,I,Z,q0 hx}}
 .show oZ K hk pins s σ H x y v u Q I rx ry {a,b,xs,ys,e1,e2,ha,hb,hx,hz,q1 hx,q2 hx}
end
end L2
namespace My
open PySem L2
def Dk(h:mk m a=mk m b):lm m a b=m:=by unfold lm;lia
def ae(ha:a<m.f)(hb:b<m.f):cnt m<=cnt (lm m a b)+1:=by
 cases e:mk m a=mk m b
 .rw[Dk e];simp_all
 .have:=Jr ha hb e;simp_all
def Dj:∀es:List (Nat×Nat),InN n es->n<=cnt (WY n es)+es.f:=by
 show Nb (λ_=>?_) λes x ih hn=>?_
 .have:cnt (WY n [])=n:=aj n
  simp_all
 .let⟨h1,h2,h3⟩:=hn.snoc;let hl:=ZG n es
  have:=ae (m:=WY n es) (a:=x.1) (b:=x.2) (by simp_all) (by simp_all)
  rw[Nf,Xe,YW,List.length_nil];lia
def oh(h:1<=M.f):1<=cnt M:=by show List.length_pos_of_mem (a:=0) (Yr.mpr {YY.mpr J,XE.mpr λi hi=>absurd hi<|VX i})
def MZ(hn:1<=n)(h:InN n es):cnt (WY n es)=1↔∀i j,i<n->j<n->Conn es i j:=by rw[ou (by rwa[ZG])];show oq h
def ab(hn:ts.Nodup)(ho:o∈ts):(wo ts o).f+1=ts.f:=by
 induction ts with
 |nil=>cases ho
 |cons x r ih=>
  let(h1,h2):=QA.R hn;unfold wo;rw[xb];cases e:x=o
  .subst e;rw[Yh Fe]
   have:r.filter (λy=>decide<|y≠x)=r:=sP.mpr λy hy=>YE λe=>h1 (e▸hy)
   rw[this];rfl
  .have:=ih h2 ((Yo.R ho).resolve_left λz=>e z.symm)
   unfold wo at this
   simp_all
def Zz(ps:Aa)(z:Int):(Nat×Nat):=((ps.Q z.j (0,0)).1.j,(ps.Q z.j (0,0)).2.j)
def Lv(ps:Aa)(ns:Ac)(z:Int):XQ ps (ns++[z])=XQ ps ns++[Zz ps z]:=by unfold XQ Zz;grind
def Tg(g:GoodW n ps)(z0:0<=z)(z1:z<ps⁻¹):(Zz ps z).1<n.j/\(Zz ps z).2<n.j:=by
 have:=ZO (ns:=[z]) g (λy hy=>by simp_all)
 show this (Zz ps z) (by unfold XQ Zz;simp)
def Di(hT:Zg n ps ts):∀y∈wo ts o,0<=y/\y<ps⁻¹:=λy hy=>hT.1.all y (Xj.R hy).1
def Jn(g:GoodW n ps)(hT:Zg n ps ts)(ho:o∈ts)(z0:0<=z)(z1:z<ps⁻¹):
  (∀i j,i<n.j->j<n.j->Conn (XQ ps<|wo ts o++[z]) i j)↔¬Conn (XQ ps<|wo ts o) (Zz ps z).1 (Zz ps z).2:=by
 let hn:1<=n.j:=by have:=g.1;lia
 let hw:=ab hT.1.nodup ho;let hl:ts⁻¹=n-1:=hT.2.1
 let i0:InN n.j (XQ ps<|wo ts o):=ZO g (Di hT);let hz:=Tg g z0 z1
 let ob:=hT.1.all o ho;let GG:=Tg g ob.1 ob.2
 let i1:InN n.j (XQ ps (wo ts o)++[Zz ps z]):=λe he=>(Xk.R he).elim (i0 e) λq=>by rwa[Xc.R q]
 let i2:InN n.j (XQ ps (wo ts o)++[Zz ps o]):=λe he=>(Xk.R he).elim (i0 e) λq=>by rwa[Xc.R q]
 let hL:=ZG n.j (XQ ps<|wo ts o);let le:(XQ ps<|wo ts o).f=(wo ts o).f:=by unfold XQ;rw[Yb]
 rw[Lv];constructor
 .intro hc c;let h1:cnt (WY n.j<|XQ ps (wo ts o)++[Zz ps z])=1:=(MZ hn i1).mpr hc
  rw[Nf,Dk ((VT i0 hz.1 hz.2).mpr c)]at h1
  have:=Dj _ i0
  lia
 .intro hc;let h2:cnt (WY n.j<|XQ ps (wo ts o)++[Zz ps o])=1:=by
   show(MZ hn i2).mpr λi j hi hj=>?_;rw[<-Lv];show(Lx λy=>?_).R (hT.2.2 i j hi hj);rw[Xk,Xj,Xc];constructor
   .lia
   .lia
  rw[Nf]at h2;let h3:=ae (m:=WY n.j<|XQ ps<|wo ts o) (a:=(Zz ps o).1) (b:=(Zz ps o).2) (by simp_all) (by simp_all)
  let h4:=Jr (m:=WY n.j<|XQ ps<|wo ts o) (a:=(Zz ps z).1) (b:=(Zz ps z).2) (by simp_all) (by simp_all) λe=>hc ((VT i0 hz.1 hz.2).R e);let h5:=oh (M:=lm (WY n.j<|XQ ps<|wo ts o) (Zz ps z).1 (Zz ps z).2) (by rw[vL];simp_all)
  show(MZ hn i1).R ?_;rw[Nf];lia
def Tf(n:Int)(ps:Aa)(ts:Ac)(o:Int):(Ac):=unlike (WY n.j<|XQ ps<|wo ts o) ps ps.f
def og{z:Int}(h:z∈unlike M ps i):0<=z/\z<(i:Int):=by unfold unlike at h;grind
def Of(g:GoodW n ps)(hT:Zg n ps ts)(z0:0<=z)(z1:z<ps⁻¹):z∈Tf n ps ts o↔¬Conn (XQ ps (wo ts o)) (Zz ps z).1 (Zz ps z).2:=by let hz:=Tg g z0 z1;unfold Tf;rw[oj z0 z1];show not_congr (VT (ZO g<|Di hT) hz.1 hz.2)
def exg(n:Int)(ps:Aa)(ts:Ac)(o z:Int):(Prop):=o∈ts/\z≠o/\z∈Tf n ps ts o
instance (n:Int) (ps:Aa) (ts:Ac) (o z:Int):Decidable (exg n ps ts o z):=by unfold exg;infer_instance
def MY(g:GoodW n ps)(hT:Zg n ps ts):
  exg n ps ts o z↔o∈ts/\z∉ts/\0<=z/\z<ps⁻¹/\∀i j,i<n.j->j<n.j->Conn (XQ ps<|wo ts o++[z]) i j:=by
 constructor
 .rintro⟨h1,h2,h3⟩;let(z0,z1):=og h3;let hc:=(Of g hT z0 z1).R h3
  exists h1,λhz=>hc ?_,z0,z1,(Jn g hT h1 z0 z1).mpr hc;show .edge ?_;show Yz.mpr {z,Xj.mpr ⟨hz,h2⟩,Z}
 .rintro⟨h1,h2,z0,z1,hc⟩;exists h1,λe=>h2<|e▸h1,(Of g hT z0 z1).mpr ((Jn g hT h1 z0 z1).R hc)
end My
namespace L2
open PySem PySem.Spec PyProof.Rows
def Dh:mroOf (.type "reversed")=pure [.type "reversed",.type "object"]:=by kernel_rfl
def oe:PySem.Slot "reversed" "__init__" "object.__init__":=
 .of (owner:="object") (n:="__init__") rP D D D
  (by first|show .inl D|show .inr D) rP
def Zj9:TypeCalled "reversed" "reversed.__new__" "object.__init__":=
 {D,D,{_,_,Dh},madeBy_type Dh PySem.F.lookup_reversed_new D,D,rP,oe}
def VA:PySem.Slot "reversed" "__next__" "reversed.__next__":=
 .of (owner:="reversed") (n:="__next__") rP D D D
  (by first|show .inl D|show .inr D) rP
def aa:entryFor table "reversed.__next__"=some Builtin.«reversed.__next__»:=entryFor_of_tree rP
def Zp7(a:Value):argsOk "reversed.__next__" {[a],[]}:=by kernel_rfl
def Dg:PySem.Slot "reversed" "__iter__" "reversed.__iter__":=
 .of (owner:="reversed") (n:="__iter__") rP D D D
  (by first|show .inl D|show .inr D) rP
def n9(a:Value):argsOk "reversed.__iter__" {[a],[]}:=by kernel_rfl
def n8:entryFor table "reversed.__iter__"=some Builtin.«dict_keyiterator.__iter__»:=
 entryFor_alias (id':="dict_keyiterator.__iter__") rP (by first|rfl|decide +kernel|(unfold String.splitOn;simp +decide [String.splitOnAux])) D rP
def n6:typeLookup (.type "tuple") "__reversed__"=pure none:=by kernel_rfl
def Zi9:isSubtype (.type "tuple") (.type "dict")=pure false:=by kernel_rfl
def n4(l:Addr)(items:Array Value)(n:Nat)(dd:Option Addr)(sl:Array (Option Value)):
  Meets (Builtin.«reversed.__new__» {[.type "reversed",.ref l],[]}) (λ_ R s=>s.r.E l=some {cls:=.type "tuple",dict:=dd,data:=.seq items n,slots:=sl}/\¬(items.o:Int) >= 2^63/\
   ∀tk,R (.ok<|.ret<|.ref (~~~s)) {s with heap:=s.r.push {cls:=.type "reversed",data:=.fields #[.ref l,rawInt ((items.o:Int)-1)]},toks:=tk}):=
 .of_wp λprog w A R s h=>by
  let(hl,hf,h):=h;let hT:s.TypeIs ↑l "tuple":={_,hl,Z}
  let f1:=n6;let f2:=Zi9
  let f3:=Fm.S;show XT (SO (newClass_reversed _) ?_);show XT (SO (a:=()) (by first|rfl|kernel_rfl) ?_)
  show XT (SO (a:=()) (by first|rfl|kernel_rfl) ?_)
  show XT (He hT f1 ?_);show XT ?_;show XT (Hi (T:="tuple") (b:=false) hT f2 ?_);show XT (He hT f3 ?_);show Ye ?_;show XT (len_tuple {_,hl,Z,n,Z} (by simp_all) ?_);show XT (SO (a:=some (items.o:Int)) Z ?_);show XT ?_;unfold Builtin.SmallTypes.newRecord;show QC ?_ (by size_fits);show Ye {_,Z,h _}
def IsRv(h:Heap)(r l:Addr)(i:Int):(Prop):=∃o,h.E r=some o/\o.cls=.type "reversed"/\o.data=.fields #[.ref l,rawInt i]
def IsRv.ty{s:Shared}(x:IsRv s.r r l i):s.TypeIs ↑r "reversed":=by let(o,a,b,_):=x;exists o,a,b
def IsRv.keep(x:IsRv h r l i)(e:∀o,h.E r=some o->h'.E r=some o):IsRv h' r l i:=by let(o,a,b):=x;exists o,e _ a,b
section
variable{prog:Program}{w:World}{A:Around}{E:Ae}{s:Shared}
def nZ{Q:Ae}(hl:IsTup s.r l items)(hf:(items.o:Int)<2^63)
  (k:∀tk h',IsRv h' (~~~s) l ((items.o:Int)-1)->(∀b o,s.r.E b=some o->h'.E b=some o)->h'.objs.o=(~~~s)+1->Q (.ref (~~~s)) {s with heap:=h',toks:=tk}):
  wpAny (model prog w) A (call (.type "reversed") [.ref l]) Q E s:=by
 let((cls,dd,data,sl),ho,hc,n,hd):=id hl;subst hc hd;show callType_new Zj9 AP (PySem.F.typeCall_reversed_1 _) (PySem.F.newCall_reversed_1 _) (λobj=>PySem.F.args_object_init_2 obj _) PySem.F.entry_reversed_new (n4 l items n dd sl) {ho,by simp_all,λtk=>?_};let e:=Qd s.r (o:={cls:=.type "reversed",data:=.fields #[.ref l,rawInt ((items.o:Int)-1)]}) rfl
 exists {_,e,Z},k tk _ {_,e,Z,Z} (λb o g=>Xl _ g)<|Ox ..
def nY{i:Nat}{x:Value}{Q:Option Value->Shared->Prop}(hr:IsRv s.r r l (i:Int))(hl:IsTup s.r l items)(hx:items[i]?=some x)(Lu:(i:Int)<2^63)
  (hQ:∀h' tk,IsRv h' r l ((i:Int)-1)->Heap.SameBut r s.r h'->Q (some x) {s with heap:=h',toks:=tk}):wpAny (model prog w) A (pyNext<|.ref r) Q E s:=by
 let(o,ho,hc,hd):=id hr;let hi:i<items.o:=(cx.R hx).1
 show XT (NK<|Hs (name:=Str.ofString "__next__") hr.ty VA<|QB VA hr.ty aa ?_<|Zp7 _);show XT (SO (a:=(Value.ref r,[])) Z ?_);show XT (PV ho hd (x:=.ref l) Z ?_);show XT (PV ho hd (x:=rawInt (i:Int)) Z ?_);show XT (He hl.typeIs Fm.S ?_);show XT (wpAny_mkInt ?_);show XT (NK<|getItem_tuple (j:=i) hl (by simp_all) Lu (My.Ph (by simp_all)<|by simp_all) hx ?_);show XT (PV ho hd (x:=rawInt (i:Int)) Z ?_);show XT (Ug ho hd Fe ?_);show Ye {x,Z,Ye<|hQ _ _ ⟨_,YZ _ ho<|Rx<|VH hd _,(wW ..).l hc,?_⟩<|Qh ..};rw[VH hd];simp
def nX{Q:Option Value->Shared->Prop}(hh:A.handled=none)(hr:IsRv s.r r l (-1))(hQ:∀h',Heap.ExtBut r s.r h'->Q none {s with heap:=h'}):wpAny (model prog w) A (pyNext<|.ref r) Q E s:=by
 let(o,ho,hc,hd):=id hr;show XT (NK<|Hs (name:=Str.ofString "__next__") hr.ty VA<|QB VA hr.ty aa ?_<|Zp7 _);show XT (SO (a:=(Value.ref r,[])) Z ?_);show XT (PV ho hd (x:=.ref l) Z ?_);show XT (PV ho hd (x:=rawInt (-1)) Z ?_);show XT (Rv ?_);show XT ?_;show XT (Ug ho hd Fe ?_);let Ub:=YZ (Obj.mapFields λvs=>vs.setIfInBounds 1<|rawInt (-1)) ho (Rx<|VH hd _)
 show Ug Ub (VH hd _) Fe ?_;show XT ?_;show XT ?_;show XT (QC ?_<|by size_fits);show XT (m:=firstArgMember _ _) (SO (a:=Value.none) (by first|rfl|(simp only[firstArgMember];rfl)) ?_)
 show QC ?_ (by size_fits);show XT (wpAny_handled ?_);rw[show A.in1.handled=none from hh];show XT (Ye<|wpAny_throw ?_);show XT (Hi (T:="StopIteration") (b:=true) {_,Qd _ Z,Z} isSubtype_stop ?_);show Ye (hQ _<|((((Qh ..).l (Qh ..)).extBut).push _).push _)
def Df{Q:Ae}(hr:IsRv s.r r l i)(h:Q ↑r s):wpAny (model prog w) A (pyIter ↑r) Q E s:=by show sq hr.ty Dg (QB Dg hr.ty n8 ?_<|n9 _);show Ye {_,Z,"reversed",_,hr.ty,VA.S,h}
end
end L2
namespace My
open PySem L2
def De{o y:Int}(g:GoodW n ps)(hT:Zg n ps ts)(ho:o∈ts)(hy:y∈ts):y∈Tf n ps ts o↔y=o:=by
 let yb:=hT.1.all y hy;rw[Of g hT yb.1 yb.2];constructor
 .intro h;cases e:y=o
  .show e
  .show absurd (.edge<|Yz.mpr {y,Xj.mpr ⟨hy,e⟩,Z}) h
 .rintro rfl;show(Jn g hT hy yb.1 yb.2).R λi j hi hj=>(Lx λz=>?_).R (hT.2.2 i j hi hj);rw[Xk,Xj,Xc];lia
def Vp:y∈SH n ps ts z l↔y∈l/\z∈Tf n ps ts y:=by unfold SH;rw[Yr,Qg];show Iff.rfl
def Jm(g:GoodW n ps)(hT:Zg n ps ts)(hx:exg n ps ts o z)(TY:ms.Perm (wo ts o++[z]))(MX:ms.G (·<=·)):Zg n ps ms:=by
 let(ho,hz,z0,z1,hc):=(MY g hT).R hx;let nd:(wo ts o++[z]).Nodup:=o6 (hT.1.nodup.sublist List.filter_sublist) λh=>hz (Xj.R h).1
 let ndm:ms.Nodup:=TY.nodup_iff.mpr nd;let hl:=ab hT.1.nodup ho
 let SI:=TY.length_eq;rw[Xe,YK]at SI;show{XU.mpr {λy hy=>?_,(List.pairwise_and_iff.mpr ⟨MX,ndm⟩).imp λ{x y} h=>J},by rw[SI,hl];show hT.2.1,λi j hi hj=>(Lx λy=>TY.mem_iff).mpr (hc i j hi hj)};rcases Xk.R (TY.mem_iff.R hy) with h|h
 .show hT.1.all y (Xj.R h).1
 simp_all
section
variable{n:Int}{ps:Aa}{ts ms:Ac}{o z:Int}(g:GoodW n ps)(hT:Zg n ps ts)(hx:exg n ps ts o z)(TY:ms.Perm (wo ts o++[z]))(MX:ms.G (·<=·))
include g hT hx TY MX
def MW{y:Int}:y∈ms↔(y∈ts/\y≠o)\/y=z:=by rw[TY.mem_iff,Xk,Xj,Xc]
end
def nW:∀{a b:Ac},a.f=b.f->HT.lexLt a b=true->∃p x y r s,a=p++x::r/\b=p++y::s/\x<y
 |[],[],_,h=>by cases h
 |[],_::_,e,_=>by simp at e
 |_::_,[],e,_=>by simp at e
 |x::xs,y::ys,e,h=>by
  rw[HT.Xu]at h;cases q:x=y
  .subst q;rw[Yi Z]at h;let(p,u,v,r,s,e1,e2,e3):=nW (by simpa using e) h;exists x::p,u,v,r,s,by rw[e1];rfl,by rw[e2];rfl,e3
  .rw[Yh q]at h;exists [],x,y,xs,ys,Z,Z,YO h
def WJ:∀{a b:Ac},HT.lexLt a b=false->HT.lexLt b a=false->a=b
 |[],[],_,_=>rfl
 |[],_::_,h,_=>by cases h
 |_::_,[],_,h=>by cases h
 |x::xs,y::ys,h1,h2=>by
  rw[HT.Xu]at h1 h2;cases q:x=y
  .subst q;rw[Yi Z]at h1 h2;rw[WJ h1 h2]
  lia
def WM:∀{a b c:Ac},HT.lexLt a b=true->HT.lexLt b c=true->HT.lexLt a c=true
 |[],[],_,h,_=>by cases h
 |[],_::_,[],_,h=>by cases h
 |[],_::_,_::_,_,_=>rfl
 |_::_,[],_,h,_=>by cases h
 |_::_,_::_,[],_,h=>by cases h
 |x::xs,y::ys,z::zs,h1,h2=>by
  rw[HT.Xu]at h1 h2 ⊢;cases e1:x=y
  .subst e1;rw[Yi Z]at h1;cases e2:x=z
   .subst e2;rw[Yi Z]at h2 ⊢;show WM h1 h2
   simp_all
  grind
def Xg:∀a:Ac,HT.lexLt a a=false
 |[]=>rfl
 |x::xs=>by rw[HT.Xu,Yi Z];show Xg xs
def RM(bt:Nat->Nat->Bool):∀j,argBest bt j<=j
 |0=>XI _
 |j+1=>by
  unfold argBest;split
  .show XI _
  .have:=RM bt j;lia
def WA(H:Hp)(v:V)(l:Ac):(Prop):=∃a,v=.ref a/\H a=some (.tup<|IL l)
def TupsV(H:Hp)(xs:List V)(L:Ab):(Prop):=xs.f=L.f/\∀(i:Nat)(l:Ac),L[i]?=some l->∃v,xs[i]?=some v/\WA H v l
def TupsV.same(s:Same H H')(h:TupsV H xs L):TupsV H' xs L:={h.1,λi l e=>by let(v,e1,a,e2,e3):=h.2 i l e;exists v,e1,a,e2,s _ _ e3}
def TupsV.at(h:TupsV H xs L){i:Nat}{v:V}(e:xs[i]?=some v):∃l,L[i]?=some l/\WA H v l:=by
 let hi:i<xs.f:=(Xv.R e).1;let hp:i<L.f:=by rwa[<-h.1]
 let(v',e1,q):=h.2 i L[i] (Xw hp)
 simp_all
def TupsV.nil:TupsV H [] []:={Z,λi p e=>by simp at e}
def TupsV.app(h:TupsV H xs L)(h2:TupsV H ys M):TupsV H (xs++ys) (L++M):=by
 show{by rw[Xe,Xe,h.1,h2.1],λi l e=>?_};cases hi:i<L.f
 .rw[YG hi]at e;let(v,e1,q):=h.2 i l e;exists v,B,q
 .rw[YD (by simp_all)]at e;let(v,e1,q):=h2.2 _ l e;exists v,by rw[YD (by rw[h.1];simp_all),h.1];show e1,q
def TupsV.one(q:WA H v l):TupsV H [v] [l]:=⟨Z,λi m e=>by
 grind⟩
def TupsV.snoc(h:TupsV H xs L)(q:WA H v l):TupsV H (xs++[v]) (L++[l]):=h.app (.one q)
def TupsV.mut{d:Addr}{ys zs xs:List V}(hP:TupsV H xs L)(hl:H d=some (.lst ys)):TupsV (upd H d (.lst zs)) xs L:=by exists hP.1,λj p e=>?_;let(v,e1,tt,e2,e3):=hP.2 j p e;exists v,e1,tt,e2,by rwa[Zb (PR e3 hl (λz=>nomatch z))]
def nV(hx:WA H x a)(hy:WA H y b):EqD K H 1 x y (decide (a=b)):=by let(t,rfl,ht):=hx;let(u,rfl,hu):=hy;show Dv (SqT.of ht) (SqT.of hu)
def Dc(hp:SqL K H p xs)(hq:SqL K H q ys)(h1:TupsV H xs L)(h2:TupsV H ys M):EqD K H 2 ↑p ↑q (decide (L=M)):=
 Dx (R:=WA H) hp hq h1 h2 λ_ _ _ _=>nV
def UK(s:Ac):(Int):=match s.getLast? with|none=>0|some x=>x+1
def VS(m:Int)(s:Ac):(Ab):=(List.range (m-UK s).j).H λ(i:Nat)=>s++[UK s+(i:Int)]
def Uo(m:Int):(Nat->Ab)
 |0=>[[]]
 |k+1=>(Uo m k).flatMap (VS m)
def nU(s:Ac)(x:Int):UK (s++[x])=x+1:=by unfold UK;simp_all
def Wb{s l:Ac}:l∈VS m s↔∃t,UK s<=t/\t<m/\l=s++[t]:=by
 unfold VS;rw[Yz];constructor
 .grind
 .rintro⟨t,h1,h2,rfl⟩;exists (t-UK s).j,YY.mpr J,B
def Te{t:Int}:IsSet m (s++[t])↔IsSet m s/\UK s<=t/\0<=t/\t<(m:Int):=by
 rw[XU,XU,NQ];let last:(∀a∈s,∀b∈[t],a<b)/\s.G (·<·)->UK s<=t\/t<0:=by
  rintro⟨h,_⟩;unfold UK;cases e:s.getLast? with
  |none=>lia
  |some x=>have:=h x (FG e) t Fe;lia
 constructor
 .rintro⟨h1,h2,_,h3⟩;let ht:=h1 t Fe
  exists {λz hz=>h1 z<|Yj _ hz,h2},?_,ht;rcases last ⟨h3,h2⟩ with h|h
  .show h
  .omega
 .rintro⟨⟨h1,h2⟩,h3,h4,h5⟩;exists λz hz=>?_,h2,xg ..,λa ha b hb=>?_
  .rcases Xk.R hz with h|h
   .show h1 z h
   .rw[Xc.R h];exists h4,h5
  .rw[Xc.R hb];let key:∀{s:Ac}{a:Int},s.G (·<·)->a∈s->a<UK s:=by
    show λ{s}=>Nb (P:=λs=>∀{a:Int},s.G (·<·)->a∈s->a<UK s) (λ{a} _ h=>by cases h) (λl x ih {a} hp h=>?_) s;rw[nU];rw[NQ]at hp;rcases Xk.R h with h|h
    .have:=hp.2.2 a h x Fe;lia
    .rw[Xc.R h];lia
   have:=key h2 ha
   lia
def WX{m:Nat}:∀{k:Nat}{l:Ac},l∈Uo (m:Int) k↔l.f=k/\IsSet m l
 |0,l=>by
  change l∈[[]]↔_;rw[Xc];constructor
  .rintro rfl;exists Z,λi z e=>by simp at e
  simp_all
 |k+1,l=>by
  change l∈(Uo (m:Int) k).flatMap (VS m)↔_;rw[List.mem_flatMap];constructor
  .rintro⟨s,hs,hl⟩;let(t,h1,h2,rfl):=Wb.R hl;let(e,hI):=WX.R hs;let n0:0<=UK s:=by
    unfold UK;cases q:s.getLast? with
    |none=>simp_all
    |some x=>have:=(hI.all x<|FG q).1;lia
   exists by simp_all,Te.mpr ⟨hI,h1,J,h2⟩
  .rintro⟨e,hI⟩;let XJ:l≠[]:=λz=>by simp_all
   obtain⟨s,t,rfl⟩:∃s t,l=s++[t]:={l.dropLast,l.getLast XJ,(tu XJ).symm};let(h1,h2,h3,h4):=Te.R hI;exists s,WX.mpr {by simpa using e,h1},Wb.mpr ⟨t,h2,h4,Z⟩
def nS(h:IsSet m s):(VS (m:Int) s).f<=m:=by
 unfold VS;rw[Yb,NP];let n0:0<=UK s:=by
  unfold UK;cases q:s.getLast? with
  |none=>lia
  |some x=>have:=(h.all x<|FG q).1;lia
 grind
def vq:∀L:Ab,(∀s∈L,IsSet m s)->(L.flatMap (VS (m:Int))).f<=m*L.f
 |[],_=>Yc _
 |s::L,h=>by
  have:=vq L λx hx=>h x (Yf _ hx)
  have:=nS (h s Ya)
  rw[List.flatMap_cons,Xe,YW,Nat.mul_succ];lia
def Ls{m:Nat}(hm:m<=9):∀k,(Uo (m:Int) k).f<=9^k
 |0=>XI 1
 |k+1=>by
  let h1:=vq (m:=m) (Uo (m:Int) k) λs hs=>(WX.R hs).2;let h2:=Ls hm k
  let h3:m*(Uo (m:Int) k).f<=9*9^k:=Qc hm h2;rw[Nat.pow_succ,Fs];show Yl h1 h3
def CZ{α β:Type}{l:List α}{f:α->List β}{y:α}(h:l[i]?=some y):(l.M (i+1)).flatMap f=(l.M i).flatMap f++f y:=by
 rw[YA,h,List.flatMap_append]
 simp_all
def Zo4{α:Type}{l:List α}{f:α->Bool}{y:α}(h:l[i]?=some y):(l.M (i+1)).filter f=(l.M i).filter f++(if f y=true then [y] else []):=by rw[YA,h,VI];grind
def CY:∀{w t:Ac},t.G (·<·)->w.G (·<·)->(∀z∈t,z∈w)->t.Sublist w
 |[],[],_,_,_=>List.Sublist.slnil
 |[],x::t,_,_,h=>absurd (h x Ya) Fe
 |y::w,[],_,_,_=>List.nil_sublist _
 |y::w,x::t,ht,hw,h=>by
  let(h1,h2):=YN.R ht;let(h3,h4):=YN.R hw;cases e:x=y
  .subst e;show List.Sublist.cons₂ _ (CY h2 h4 λz hz=>?_);grind
  .let hx:x∈w:=(Yo.R<|h x Ya).resolve_left e;show List.Sublist.cons _ (CY ht h4 λz hz=>?_);grind
def Oe(M:Ac)(es:List (Nat×Nat)):(Ac):=es.foldl (λm e=>pm m e.1 e.2) M
def nR(M:Ac)(es:List (Nat×Nat))(e:Nat×Nat):Oe M (es++[e])=pm (Oe M es) e.1 e.2:=by unfold Oe;simp_all
def Zw7(M:Ac):∀es:List (Nat×Nat),(Oe M es).f=M.f:=by
 intro es;unfold Oe
 induction es generalizing M with
 |nil=>rfl
 |cons e l ih=>rw[Hj,ih,DD]
def Yz8{i:Int}(h0:0<=i):XG xs none (some i)=xs.M i.j:=by
 let e:HT.UB xs.f xs.f (some i)=min i.j xs.f:=by change(if i<0 then (i+xs⁻¹).j else min i.j xs.f)=_;rw[Yh (by simp_all)]
 unfold XG;rw[e,HT.VD,PZ,wK]
 simp_all
def Wj(m:Nat):(Ac):=(List.range m).H λ(i:Nat)=>(i:Int)
def Xp{z:Int}:z∈Wj m↔0<=z/\z<(m:Int):=by
 unfold Wj;rw[Yz];constructor
 .grind
 .intro h;exists z.j,YY.mpr (by simp_all),J
def Zy(m:Nat):(Wj m).f=m:=by unfold Wj;simp
def vp(m:Nat):(Wj m).G (·<·):=by unfold Wj;rw[LQ];show FK.imp λh=>by simp_all
def Pf(m:Nat):IsSet m (Wj m):=XU.mpr {λz hz=>Xp.R hz,vp m}
def nQ(m:Nat):Wx 0 (m:Int)=Wj m:=by
 unfold Wx Wj
 simp_all
end My
namespace L2
open PySem PySem.Spec PyProof.Rows
section
variable{prog:Program}{w:World}{A:Around}{E:Ae}{s:Shared}
def ZQ6{r:Addr}{a b c:Int}{t u v:Tok}{n:Nat}{Q:List Value->Shared->Prop}(hh:A.handled=none)(hr:IsRange s.r r a b c t u v)(hm:Builtin.Range.small a b c=true)(hn:Builtin.Range.rangeSize a b c=n)(hl:n<=2^24)
  (k:∀h' tk acc,(∀b o,s.r.E b=some o->h'.E b=some o)->ItemsOf (λi v=>∃t,v=.int (a+i*c) t) acc n->Q acc.m {s with heap:=h',toks:=tk}):wpAny (model prog w) A (collect<|.ref r) Q E s:=by
 let Jp:(s.r.push<|seqObj "list" #[] 0).E (~~~s)=some (seqObj "list" #[] 0):=Qd _ rfl;show XT (wM<|RY sd ?_);show XT (NL<|Ye ⟨wZ _ D,RY entry_list_iadd' ?_⟩);show Tq (wpAny_extend_range (A:=A) (R:=λx s'=>∃h' tk acc c',x=.ok (.ret<|.ref (~~~s))/\s'={s with heap:=h',toks:=tk}/\(∀b o,s.r.E b=some o->h'.E b=some o)/\
   h'.E (~~~s)=some {cls:=.type "list",dict:=none,data:=.seq acc c',slots:=#[]}/\ItemsOf (λi v=>∃t,v=.int (a+i*c) t) acc n)
  (s:={s with heap:=s.r.push (seqObj "list" #[] 0)}) hh (Xl _ hr) hm hn hl _ _ 0 Jp λh' tk acc c' k1 k2 k3=>{h',tk,acc,c',Z,Z,λb o e=>k1 b o (Yw<|Yk e)<|Xl _ e,k2,k3}) (λfin s' z=>?_) (λe s' z=>?_)
 .cases fin with
  |done f=>
   let(h',tk,acc,c',e,rfl,k1,k2,k3):=z;cases e;show XT (Fj k2 ?_);show Ye (k h' tk acc k1 k3)
  |again c'=>
   exists z.1,LO z.2 λx s2 z=>?_;let(h',tk,acc,c',rfl,rfl,k1,k2,k3):=z;show XT (Fj k2 ?_);show Ye (k h' tk acc k1 k3)
 simp_all
def Zd4{r:Addr}{a b c:Int}{t u v:Tok}{n:Nat}(hm:Builtin.Range.small a b c=true)(hn:Builtin.Range.rangeSize a b c=n)(hl:n<=2^24):
  Meets (Builtin.«tuple.__new__» {[.type "tuple",.ref r],[]}) (λA R s=>A.handled=none/\IsRange s.r r a b c t u v/\∀(h':Heap)(tk:Nat)(acc:Array Value),(∀b o,s.r.E b=some o->h'.E b=some o)->ItemsOf (λi v=>∃t,v=.int (a+i*c) t) acc n->
   R (.ok<|.ret<|.ref h'.objs.o) {s with heap:=h'.push<|seqObj "tuple" acc 0,toks:=tk}):=
 .of_wp λprog w A R s h=>by
  let(hh,hr,h):=h;let e1:=sub_tuple_self
  let e2:=init_tuple_lookup;let e3:=madeHere_tuple
  let CW:A.in1.handled=none:=hh
  wp_walk using Fn hT,ZQ6 CW hr hm hn hl
  intro h' tk acc hk VC;change wpAny _ _ (Builtin.Tuple.tupleExact acc.m.C >>= ret) _ _ _
  show XT (QC ?_<|by change acc.o<=sizeLine;rwa[VC.1,RU]);show Ye {_,Z,h h' tk acc hk VC}
def nP{r:Addr}{a b c:Int}{t u v:Tok}{n:Nat}{Q:Ae}(hh:A.handled=none)(hr:IsRange s.r r a b c t u v)(hm:Builtin.Range.small a b c=true)(hn:Builtin.Range.rangeSize a b c=n)(hl:n<=2^24)
  (k:∀(h':Heap)(tk:Nat)(acc:Array Value),(∀b o,s.r.E b=some o->h'.E b=some o)->ItemsOf (λi v=>∃t,v=.int (a+i*c) t) acc n->Q (.ref h'.objs.o) {s with heap:=h'.push<|seqObj "tuple" acc 0,toks:=tk}):wpAny (model prog w) A (call (.type "tuple") [.ref r]) Q E s:=
 callType_new F.called_tuple AP (F.typeCall_tuple_1 _) (F.newCall_tuple_1 _) (λo=>F.args_object_init_2 o _) F.entry_tuple_new (Zd4 (t:=t) (u:=u) (v:=v) hm hn hl)
  {hh,hr,λh' tk acc hk VC=>{{_,Qd _ Z,Z},k h' tk acc hk VC}}
end
section
variable{X:Cx}
def ZN3(hc:X.calm=true):VF X (.type "tuple") (λxs H Q=>∃p lo hi,xs=[.ref p]/\H p=some (.rng lo hi)/\(-(2^62)<=lo/\lo<2^62/\-(2^62)<=hi/\hi<2^62)/\(hi-lo).j<=16777216/\
  ∀l,H l=none->Q ↑l (upd H l<|.tup<|(Wx lo hi).H V.int)):=by
 intro pins s σ H xs us Q I r h;let(p,lo,hi,rfl,hp,(b1,b2,b3,b4),hz,q):=h;let(u,rfl,ru):=Vi r;let rfl:u=Value.ref p:=ru;let(t,u,v,e):=(show ObjOk X.prog X.w H s.r p (.rng lo hi) from I.hok p _ hp);let hn:Builtin.Range.rangeSize lo hi 1=(((hi-lo).j:Nat):Int):=by rw[rangeSize_one];split<;>grind
 show nP (I.ok.hd hc) (t:=t) (u:=u) (v:=v) e (small_one b1 b2 b3 b4) hn hz λh' tk acc hk ha=>?_;let hl:acc.m.f=(hi-lo).j:=by rw[YI];show ha.1
 let rv:Vals ((Wx lo hi).H V.int) acc.m:=DS (lo:=lo) hl λj w ew=>by let(t,e):=ha.2 j w (by simpa using ew);grind
 let I1:Inv X pins σ H {s with heap:=h',toks:=tk}:=I.kept (t':=tk) hk;let GF:((Wx lo hi).H V.int).f<=sizeLine:=by
  rw[Yb,aL]
  have:sizeLine=16777216:=RU
  simp_all
 let I2:Inv X pins σ (upd H h'.objs.o<|.tup<|(Wx lo hi).H V.int) {s with heap:=h'.push<|seqObj "tuple" acc.m.C 0,toks:=tk}:=
  I1.laid (t':=tk) (λb o e=>Xl _ e) (XI _) (show ObjOk X.prog X.w _ _ _ (.tup<|(Wx lo hi).H V.int) from{GF,acc.m,rv,IsTup.new _ _})
 exists .ref h'.objs.o,_,I2,Z,q _<|I1.hok.fresh<|XI _
end
end L2
namespace My
open PySem L2
def QZ(n:Nat)(ps:Aa)(G:Ac)(z:Int):(Ac):=if mk (WY n<|XQ ps G) (Zz ps z).1=mk (WY n<|XQ ps G) (Zz ps z).2 then G else G++[z]
def WI(n:Nat)(ps:Aa)(zs:Ac):(Ac):=zs.foldl (QZ n ps) []
def Lr(n:Nat)(ps:Aa)(zs:Ac)(z:Int):WI n ps (zs++[z])=QZ n ps (WI n ps zs) z:=by unfold WI;simp_all
def vo(n:Nat)(ps:Aa)(zs:Ac):∀ys,∃us,WI n ps (zs++ys)=WI n ps zs++us/\us.Sublist ys:=by
 show Nb {[],Fe} λys y ih=>?_;let(us,e,s):=ih;rw[<-YV,Lr,e];unfold QZ;split
 .simp_all
 simp_all
def vn(n:Nat)(ps:Aa)(zs:Ac):(WI n ps zs).Sublist zs:=by let(us,e,s):=vo n ps [] zs;rw[Ks]at e;rwa[e]
def nO(h:∀z∈zs,0<=z/\z<ps⁻¹):∀z∈WI n ps zs,0<=z/\z<ps⁻¹:=λz hz=>h z ((vn n ps zs).subset hz)
def GD(g:GoodW n ps)(h:∀z∈zs,0<=z/\z<ps⁻¹):InN n.j (XQ ps (WI n.j ps zs)):=ZO g (nO h)
def vm(g:GoodW n ps):∀zs:Ac,(∀z∈zs,0<=z/\z<ps⁻¹)->cnt (WY n.j (XQ ps (WI n.j ps zs)))+(WI n.j ps zs).f=n.j:=by
 show Nb (λ_=>aj n.j) λzs z ih h=>?_;let h1:∀z∈zs,0<=z/\z<ps⁻¹:=λy hy=>h y (Yj _ hy)
 let ih:=ih h1;let(z0,z1):=h z (Yg _<|Xc.mpr Z);let he:=Tg (z:=z) g z0 z1
 let hl:=ZG n.j (XQ ps<|WI n.j ps zs);rw[Lr];unfold QZ;split
 .show ih
 .rename_i h;rw[Lv,Nf,Xe,YK]
  have:=Jr (m:=WY n.j<|XQ ps<|WI n.j ps zs) (by simp_all) (by simp_all) h
  grind
def CV(g:GoodW n ps)(h:∀z∈zs,0<=z/\z<ps⁻¹):(WI n.j ps zs).f<=14:=by
 have:=vm g zs h
 have:=g.2.1
 lia
def nN(g:GoodW n ps):∀zs:Ac,(∀z∈zs,0<=z/\z<ps⁻¹)->∀{i j:Nat},Conn (XQ ps zs) i j->Conn (XQ ps (WI n.j ps zs)) i j:=by
 show Nb (λ_ _ _ c=>c) λzs z IH h i j c=>?_;let h1:∀z∈zs,0<=z/\z<ps⁻¹:=λy hy=>h y (Yj _ hy)
 let(z0,z1):=h z (Yg _<|Xc.mpr Z);let he:=Tg (z:=z) g z0 z1
 let up:∀{a b:Nat},Conn (XQ ps<|WI n.j ps zs) a b->Conn (XQ ps<|WI n.j ps<|zs++[z]) a b:=λc=>by
  rw[Lr];unfold QZ;split
  .show c
  .show c.mono (Vg λy hy=>Yj _ hy)
 let own:Conn (XQ ps<|WI n.j ps<|zs++[z]) (Zz ps z).1 (Zz ps z).2:=by
  rw[Lr];unfold QZ;split
  .rename_i e;show(VT (GD g h1) he.1 he.2).R e
  .rw[Lv];show .edge (Yg _<|Xc.mpr Z)
 induction c with
 |refl i=>show .refl i
 |symm _ ih=>show .symm ih
 |trans _ _ i1 i2=>show .trans i1 i2
 |@edge a b e=>
  rw[Lv]at e;rcases Xk.R e with e|e
  .show up (IH h1<|.edge e)
  grind
end My
namespace PyProof.Rows
open PySem
def CU:(Bool->Keyed->Array Keyed->Nat->Nat->Nat->StateT SortSt Sem (Option Nat)):=sortPriv% PySem.Builtin.gallop
def ZN7:(Array Keyed->Array Keyed->StateT SortSt Sem (Array Keyed)):=sortPriv% PySem.Builtin.mergeLo
def ZO7:(Array Keyed->Array Keyed->StateT SortSt Sem (Array Keyed)):=sortPriv% PySem.Builtin.mergeHi
def UR(M:Model)(A:Around)(E:Ae)(s:Shared)(O:KeyOrd)(key:Keyed->O.α)(kd:SortKind)(S:Keyed->Prop):(Prop):=
 ∀x y st Q,S x->S y->kindOf st=kd->Q (some<|O.blt (key x)<|key y) st->wpS M A E s (lt' x y) Q st
abbrev dK:Keyed:=(Value.none,Value.none)
section
variable{M:Model}{A:Around}{E:Ae}{s:Shared}{O:KeyOrd}{key:Keyed->O.α}{kd:SortKind}{S:Keyed->Prop}
def ke(key:Keyed->O.α)(arr:Array Keyed)(i:Nat):(O.α):=key (arr.Q i dK)
def Xi{p:Keyed}(h:arr[i]?=some p):ke key arr i=key p:=by unfold ke;simp_all
def Zw{p:Keyed}{Q:Keyed->SortSt->Prop}{st:SortSt}(h:arr[i]?=some p)(q:Q p st):wpS M A E s (elem' arr i) Q st:=by rw[elem'_eq,h];show YU q
def beyB(O:KeyOrd)(key:Keyed->O.α)(left:Bool)(kx:Keyed)(arr:Array Keyed)(j:Nat):(Bool):=if left then O.blt (ke key arr j) (key kx) else !O.blt (key kx) (ke key arr j)
def nM(h:O.kle (ke key arr i) (ke key arr j))(hb:beyB O key left kx arr j=true):beyB O key left kx arr i=true:=by
 unfold beyB at *;cases left with
 |true=>
  show KeyOrd.klt_of_kle_of_klt h hb
 |false=>
  simp only[FE,if_false,Bool.not_eq_true']at *;show Oy h hb
def GC(L:UR M A E s O key kd S){st:SortSt}{Q:Option Nat->SortSt->Prop}(hk:kindOf st=kd)(hS:S kx)(hA:∀i,i<n->∃p,arr[base+i]?=some p/\S p)(hh:hint<n)
  (hm:∀i j,i<=j->j<n->O.kle (ke key arr<|base+i) (ke key arr<|base+j))
  (h:∀k,k<=n->(∀i,i<k->beyB O key left kx arr (base+i)=true)->(∀i,k<=i->i<n->beyB O key left kx arr (base+i)=false)->Q (some k) st):wpS M A E s (CU left kx arr base n hint) Q st:=by
 let CT:∀i,i<n->∀Q,Q (some<|beyB O key left kx arr<|base+i) st->
   wpS M A E s (do let x <-elem' arr (base+i);if left=true then lt' x kx else do let r <-lt' kx x;pure (Option.H (λx=>!x) r)) Q st:=λi hi Q q=>by
  let(p,e,hp):=hA i hi;show Ys (Zw e ?_);unfold beyB at q;rw[Xi e]at q;cases left with
  |true=>
   show L _ _ _ _ hp hS hk q
  |false=>
   show Ys (L _ _ _ _ hS hp hk<|YU q)
 let dn:∀{i j:Nat},i<=j->j<n->beyB O key left kx arr (base+j)=true->beyB O key left kx arr (base+i)=true:=λWB hj hb=>nM (hm _ _ WB hj) hb;let up:∀{i j:Nat},i<=j->j<n->beyB O key left kx arr (base+i)=false->beyB O key left kx arr (base+j)=false:=λ{i j} WB hj hb=>by grind
 generalize hB:(λj=>beyB O key left kx arr<|base+j)=rH at *;let eB:∀j,beyB O key left kx arr (base+j)=rH j:=λj=>congrFun hB j
 simp only[eB]at CT dn up h;let last:∀lo hi,lo<=hi->hi<=n->(∀i,i<lo->rH i=true)->(∀i,hi<=i->i<n->rH i=false)->∀f,(∀lo hi,f (none,lo,hi)=pure (some hi))->
   wpS M A E s (forIn [0:n] ((none,lo,hi):Option (Option Nat)×Nat×Nat) (λ_ r=>if r.2.1 >= r.2.2 then pure (ForInStep.done (none,r.2.1,r.2.2)) else do
    let x <-(do let x <-elem' arr (base+(r.2.1+(r.2.2-r.2.1)/2));if left=true then lt' x kx else do let r <-lt' kx x;pure (Option.H (λx=>!x) r))
    match x with
    |some more=>if more=true then pure (ForInStep.yield (none,r.2.1+(r.2.2-r.2.1)/2+1,r.2.2)) else pure (ForInStep.yield (none,r.2.1,r.2.1+(r.2.2-r.2.1)/2))
    |_=>pure<|ForInStep.done (some none,r.2.1,r.2.2)) >>= f) Q st:=by
  intro lo hi h1 h2 h3 h4 f hf;show Ys (Sw (Vt (I:=λx c XR=>XR=st/\∃l r,c=(none,l,r)/\l<=r/\r<=n/\r-l<=n-x/\(∀i,i<l->rH i=true)/\(∀i,r<=i->i<n->rH i=false))
   (Q:=λc XR=>XR=st/\∃r,c=(none,r,r)/\r<=n/\(∀i,i<r->rH i=true)/\(∀i,r<=i->i<n->rH i=false)) ?_ ?_ ⟨Z,lo,hi,Z,h1,h2,B,h3,h4⟩) ?_)
  .rintro x c XR _ hx ⟨rfl,l,r,rfl,a1,a2,a3,a4,a5⟩;dsimp only;cases hc:l >= r
   .rw[Yi hc]
    have:l=r:=J
    subst this;show YU ⟨Z,l,Z,a2,a4,a5⟩
   .rw[Yh hc];show Ys (CT _ B _ ?_);cases e:rH (l+(r-l)/2) with
    |true=>
     show YU {Z,_,_,Z,B,a2,B,λi hi=>dn (j:=l+(r-l)/2) J B e,a5}
    |false=>
     show YU {Z,_,_,Z,J,B,B,a4,λi hi Wt=>up (i:=l+(r-l)/2) hi Wt e}
  .rintro c XR ⟨rfl,l,r,rfl,a1,a2,a3,a4,a5⟩
   have:l=r:=B
   subst this;exists Z,l,Z,a2,a4,a5
  .rintro c XR ⟨rfl,r,rfl,a2,a4,a5⟩;rw[hf];show YU (h r a2 a4 a5)
 show Ys (CT hint hh _ ?_);cases e0:rH hint with
 |true=>
  show Ys (Sw (Vt (I:=λx c XR=>XR=st/\∃l o,c=(none,l,o)/\l<o/\hint+l<n/\x+1<=o/\rH (hint+l)=true)
   (Q:=λc XR=>XR=st/\∃l o,c=(none,l,o)/\l<o/\hint+l<n/\rH (hint+l)=true/\(n-hint<=o\/rH (hint+o)=false)) ?_ ?_ ⟨Z,0,1,Z,J,J,J,e0⟩) ?_)
  .rintro x c XR _ hx ⟨rfl,l,o,rfl,a1,a2,a3,a4⟩;cases hc:o >= n-hint
   .rw[Yi hc];show YU {Z,l,o,Z,a1,a2,a4,.inl hc}
   .rw[Yh hc];show Ys (CT _ J _ ?_);cases e:rH (hint+o) with
    |false=>
     show YU {Z,l,o,Z,a1,a2,a4,.inr e}
    |true=>
     show YU {Z,o,2*o+1,Z,J,B,J,e}
  .rintro c XR ⟨rfl,l,o,rfl,a1,a2,a3,a4⟩;exists Z,l,o,Z,a1,a2,a4,.inl J
  .rintro c XR ⟨rfl,l,o,rfl,a1,a2,a4,a5⟩;dsimp only;show last _ _ J J (λi hi=>dn (j:=hint+l) J a2 a4) (λi hi Wt=>?_) _ λ_ _=>rfl;rcases a5 with a5|a5
   .lia
   .cases h9:n-hint<=o
    .lia
    .show up (i:=hint+o) B Wt a5
 |false=>
  show Ys (Sw (Vt (I:=λx c XR=>XR=st/\∃l o,c=(none,l,o)/\l<o/\l<=hint/\x+1<=o/\rH (hint-l)=false)
   (Q:=λc XR=>XR=st/\∃l o,c=(none,l,o)/\l<o/\l<=hint/\rH (hint-l)=false/\(hint+1<=o\/(o<=hint/\rH (hint-o)=true))) ?_ ?_ ⟨Z,0,1,Z,rO,J,J,e0⟩) ?_)
  .rintro x c XR _ hx ⟨rfl,l,o,rfl,a1,a2,a3,a4⟩;cases hc:o >= hint+1
   .rw[Yi hc];show YU {Z,l,o,Z,a1,a2,a4,.inl hc}
   .rw[Yh hc];show Ys (CT _ B _ ?_);cases e:rH (hint-o) with
    |true=>
     show YU {Z,l,o,Z,a1,a2,a4,.inr ⟨J,e⟩}
    |false=>
     show YU {Z,o,2*o+1,Z,J,J,J,e}
  .rintro c XR ⟨rfl,l,o,rfl,a1,a2,a3,a4⟩;exists Z,l,o,Z,a1,a2,a4,.inl J
  .rintro c XR ⟨rfl,l,o,rfl,a1,a2,a4,a5⟩;dsimp only;show last _ _ rO B (λi hi=>?_) (λi hi Wt=>up (i:=hint-l) J Wt a4) _ λ_ _=>rfl;rcases a5 with a5|⟨a5,a6⟩
   .lia
   grind
def RK(O:KeyOrd)(key:Keyed->O.α)(x y:Keyed):(Prop):=O.kle (key x) (key y)
def Tz(a:Array Keyed)(i:Nat):(a.Y i a.o).m=a.m.drop i:=by rw[Ry,Ht];show Yv Fe
def CS(a:Array Keyed)(i k:Nat):(a.Y i (i+k)).m=(a.m.drop i).M k:=by
 simp_all
def Pe{a:Array Keyed}{p:Keyed}(h:a[i]?=some p):(a.m.drop i).M 1=[p]:=by
 let h':a.m[i]?=some p:=by simpa using h
 let(hi,e):=Xv.R h';rw[FL hi,e];rfl
def CQ{a:Array Keyed}{i k:Nat}{x:Keyed}(h:x∈(a.m.drop i).M k):∃j,j<k/\a[i+j]?=some x:=by let(j,hj):=Yx h;grind
def nL{a:Array Keyed}{x:Keyed}(h:x∈a.m.drop i):∃j,i<=j/\j<a.o/\a[j]?=some x:=by
 let(j,hj):=Yx h;rw[LR]at hj;let Qu:=(Xv.R hj).1
 exists i+j,by simp_all,by simpa using Qu,by simpa using hj
def Pd:(Nat->StateT SortSt Sem Unit):=sortPriv% PySem.Builtin.setMinGallop
def vk{E:Ae}{st:SortSt}{Q:Unit->SortSt->Prop}(h:Q () (SortSt.mk' (kindOf st) (arrOf st) (pendingOf st) g (failedOf st))):wpS M A E s (Pd g) Q st:=LL h
abbrev Lq:=Option (Array Keyed)×Array Keyed×Nat×Nat×Nat×Nat×Nat
def Jl(a b out:Array Keyed)(ia ib g ac bc:Nat):(StateT SortSt Sem (ForInStep Lq)):=elem' a ia >>= λx=>
 if (ia+1+1 == a.o)=true then pure (.done (some<|out.push x++b.Y ib b.o++a.Y (ia+1) a.o,out.push x,ia+1,ib,g,ac,bc))
 else if (decide (ac<7)&&decide (bc<7))=true then pure (.done (none,out.push x,ia+1,ib,g,ac,bc)) else pure (.yield (none,out.push x,ia+1,ib,g,ac,bc))
def Jk(a b out:Array Keyed)(ia ib g ac bc:Nat):(StateT SortSt Sem (ForInStep Lq)):=elem' b ib >>= λx=>
 if (ib+1 == b.o)=true then pure (.done (some<|out.push x++a.Y ia a.o++b.Y (ib+1) b.o,out.push x,ia,ib+1,g,ac,bc))
 else elem' a ia >>= λy=>CU true y b (ib+1) (b.o-(ib+1)) 0 >>= λr=>match r with
  |some k=>if k>0 then
    if (ib+1+k == b.o)=true then pure (.done (some<|out.push x++b.Y (ib+1) (ib+1+k)++a.Y ia a.o++b.Y (ib+1+k) b.o,out.push x++b.Y (ib+1) (ib+1+k),ia,ib+1+k,g,ac,k))
    else Jl a b (out.push x++b.Y (ib+1) (ib+1+k)) ia (ib+1+k) g ac k
   else Jl a b (out.push x) ia (ib+1) g ac k
  |_=>pure (.done (some<|out.push x++a.Y ia a.o++b.Y (ib+1) b.o,out.push x,ia,ib+1,g,ac,bc))
def Jj(a b out:Array Keyed)(ia ib g ac bc:Nat):(StateT SortSt Sem (ForInStep Lq)):=Pd g >>= λ_=>elem' b ib >>= λx=>CU false x a ia (a.o-ia) 0 >>= λr=>match r with
 |some k=>if k>0 then
   if (ia+k+1 == a.o)=true then pure (.done (some<|out++a.Y ia (ia+k)++b.Y ib b.o++a.Y (ia+k) a.o,out++a.Y ia (ia+k),ia+k,ib,g,k,bc))
   else if (ia+k == a.o)=true then pure (.done (some<|out++a.Y ia (ia+k)++a.Y (ia+k) a.o++b.Y ib b.o,out++a.Y ia (ia+k),ia+k,ib,g,k,bc))
   else Jk a b (out++a.Y ia (ia+k)) (ia+k) ib g k bc
  else Jk a b out ia ib g k bc
 |_=>pure (.done (some<|out++a.Y ia a.o++b.Y ib b.o,out,ia,ib,g,ac,bc))
def ZK{α σ:Type}{c:Prop}[Decidable c]{x y:StateT σ Sem α}{Q:α->σ->Prop}{st:σ}(hc:c)(h:wpS M A E s x Q st):wpS M A E s (if c then x else y) Q st:=by simp_all
def WO{α σ:Type}{c:Prop}[Decidable c]{x y:StateT σ Sem α}{Q:α->σ->Prop}{st:σ}(hc:¬c)(h:wpS M A E s y Q st):wpS M A E s (if c then x else y) Q st:=by simp_all
abbrev GB:=Option (Array Keyed)×Array Keyed×Nat×Nat×Nat×Nat
def loB1(a b:Array Keyed)(g:Nat)(c:GB):(StateT SortSt Sem (ForInStep GB)):=elem' b c.2.2.2.1 >>= λy=>elem' a c.2.2.1 >>= λx=>lt' y x >>= λr=>match r with
 |some t=>if t=true then elem' b c.2.2.2.1 >>= λy=>
    if (c.2.2.2.1+1 == b.o)=true then pure (.done (some<|c.2.1.push y++a.Y c.2.2.1 a.o++b.Y (c.2.2.2.1+1) b.o,c.2.1.push y,c.2.2.1,c.2.2.2.1+1,0,c.2.2.2.2.2+1))
    else if c.2.2.2.2.2+1 >= g then pure (.done (none,c.2.1.push y,c.2.2.1,c.2.2.2.1+1,0,c.2.2.2.2.2+1)) else pure (.yield (none,c.2.1.push y,c.2.2.1,c.2.2.2.1+1,0,c.2.2.2.2.2+1))
   else elem' a c.2.2.1 >>= λx=>
    if (c.2.2.1+1+1 == a.o)=true then pure (.done (some<|c.2.1.push x++b.Y c.2.2.2.1 b.o++a.Y (c.2.2.1+1) a.o,c.2.1.push x,c.2.2.1+1,c.2.2.2.1,c.2.2.2.2.1+1,0))
    else if c.2.2.2.2.1+1 >= g then pure (.done (none,c.2.1.push x,c.2.2.1+1,c.2.2.2.1,c.2.2.2.2.1+1,0)) else pure (.yield (none,c.2.1.push x,c.2.2.1+1,c.2.2.2.1,c.2.2.2.2.1+1,0))
 |_=>pure (.done (some<|c.2.1++a.Y c.2.2.1 a.o++b.Y c.2.2.2.1 b.o,c.2.1,c.2.2.1,c.2.2.2.1,c.2.2.2.2.1,c.2.2.2.2.2))
abbrev GA:=Option (Array Keyed)×Array Keyed×Nat×Nat×Nat
def CO(a b:Array Keyed)(c:Lq):(StateT SortSt Sem (ForInStep Lq)):=if c.2.2.2.2.1>1 then Jj a b c.2.1 c.2.2.1 c.2.2.2.1 (c.2.2.2.2.1-1) c.2.2.2.2.2.1 c.2.2.2.2.2.2 else Jj a b c.2.1 c.2.2.1 c.2.2.2.1 c.2.2.2.2.1 c.2.2.2.2.2.1 c.2.2.2.2.2.2
def nK(c:Lq):(StateT SortSt Sem (ForInStep GA)):=match c.1 with
 |some r=>pure (.done (some r,c.2.1,c.2.2.1,c.2.2.2.1,c.2.2.2.2.1))
 |none=>Pd (c.2.2.2.2.1+1) >>= λ_=>pure (.yield (none,c.2.1,c.2.2.1,c.2.2.2.1,c.2.2.2.2.1+1))
def nJ(a b:Array Keyed)(g:Nat)(c:GB):(StateT SortSt Sem (ForInStep GA)):=match c.1 with
 |some r=>pure (.done (some r,c.2.1,c.2.2.1,c.2.2.2.1,g))
 |none=>liftM (rule "list.sort.gallop") >>= λ_=>forIn [0:a.o+b.o] ((none,c.2.1,c.2.2.1,c.2.2.2.1,g+1,c.2.2.2.2.1,c.2.2.2.2.2):Lq) (λ_ s=>CO a b s) >>= nK
def nI(a b:Array Keyed)(c:GA):(StateT SortSt Sem (ForInStep GA)):=forIn [0:a.o+b.o] ((none,c.2.1,c.2.2.1,c.2.2.2.1,0,0):GB) (λ_ s=>loB1 a b c.2.2.2.2 s) >>= nJ a b c.2.2.2.2
def nH(c:GA):(StateT SortSt Sem (Array Keyed)):=match c.1 with
 |some r=>pure r
 |none=>liftM (unsupported "internal:list.sort.merge-bound":Sem (Array Keyed))
def nG(a b:Array Keyed):(StateT SortSt Sem (Array Keyed)):=liftM (rule "list.sort.merge-lo") >>= λ_=>elem' b 0 >>= λx=>
 if (1 == b.o)=true then pure (#[x]++a.Y 0 a.o++b.Y 1 b.o) else if (0+1 == a.o)=true then pure (#[x]++b.Y 1 b.o++a.Y 0 a.o)
 else get >>= λst=>forIn [0:a.o+b.o] ((none,#[x],0,1,gallopOf st):GA) (λ_ c=>nI a b c) >>= nH
def Um{α β γ:Type _}(f:α->β->γ){a a':α}{b b':β}(h:a=a')(k:b=b'):f a b=f a' b':=by subst h k;rfl
def Gz{α:Type _}{c:Prop}[Decidable c]{a a' b b':α}(h:a=a')(k:b=b'):(if c then a else b)=if c then a' else b':=by subst h k;rfl
def nF(a b:Array Keyed):ZN7 a b=nG a b:=by
 show YF (Bind.bind _) (funext λ_=>YF (Bind.bind _)<|funext λx=>?_);show Gz Z (Gz Z<|YF (Bind.bind _)<|funext λst=>?_);show Um Bind.bind (YF (forIn _ _)<|funext λ_=>funext λc=>?_) ?_
 .show Um Bind.bind (YF (forIn _ _)<|funext λ_=>funext λc=>?_) ?_
  .show YF (Bind.bind _) (funext λ_=>YF (Bind.bind _)<|funext λ_=>YF (Bind.bind _)<|funext λr=>?_);cases r with
   |none=>rfl
   |some r=>rfl
  .funext c
   let(c1,c2):=c;cases c1 with
   |some r=>rfl
   |none=>
    show YF (Bind.bind _) (funext λ_=>Um Bind.bind (YF (forIn _ _)<|funext λ_=>funext λc=>?_) ?_)
    .show Gz ?_ ?_
     .show YF (Bind.bind _) (funext λ_=>YF (Bind.bind _)<|funext λ_=>YF (Bind.bind _)<|funext λr=>?_);cases r with
      |none=>rfl
      |some r=>rfl
     .rfl
    .funext c
     let(c1,c2):=c;cases c1<;>rfl
 .funext c
  let(c1,c2):=c;cases c1<;>rfl
section
variable{st:SortSt}
def WH(st XR:SortSt):(Prop):=kindOf XR=kindOf st/\arrOf XR=arrOf st/\pendingOf XR=pendingOf st/\failedOf XR=failedOf st
end
end
section
variable{M:Model}{A:Around}{E:Ae}{s:Shared}{O:KeyOrd}{key:Keyed->O.α}{kd:SortKind}{S:Keyed->Prop}
def CN{la:List Keyed}(hi:i<=n):la.M n=la.M i++(la.M n).drop i:=by let e:=(Hr i<|la.M n).symm;grind
def MV(a:Array Keyed)(n:Nat):(a.Y 0 n).m=a.m.M n:=by
 simp_all
def CM(a:Array Keyed)(i n:Nat):((a.Y i n).reverse).m=((a.m.M n).drop i).reverse:=by rw[sR,Ry,Ht,sj]
def QY{a:Array Keyed}{i n:Nat}{p:Keyed}(hn:n=i+1)(h:a[i]?=some p):((a.m.M n).drop i).reverse=[p]:=by
 subst hn;let h':a.m[i]?=some p:=by simpa using h
 rw[sj,b8];let(hi,e):=Xv.R h';rw[FL hi,e];rfl
def nE{a:Array Keyed}{x:Keyed}(h:x∈a.m.M n):∃j,j<n/\j<a.o/\a[j]?=some x:=by let(j,hj):=Yx h;grind
def CL{a:Array Keyed}{i n:Nat}{x:Keyed}(h:x∈(a.m.M n).drop i):∃j,i<=j/\j<n/\j<a.o/\a[j]?=some x:=by let(j,hj):=Yx h;grind
abbrev Lp:=Option (Array Keyed)×Nat×Nat×Array Keyed×Nat×Nat×Nat
def Ji(a b out:Array Keyed)(na nb g ac bc:Nat):(StateT SortSt Sem (ForInStep Lp)):=elem' a (na-1) >>= λx=>
 if (na-1 == 0)=true then pure (.done (some<|a.Y 0 (na-1)++b.Y 0 nb++(out.push x).reverse,na-1,nb,out.push x,g,ac,bc))
 else if (decide (ac<7)&&decide (bc<7))=true then pure (.done (none,na-1,nb,out.push x,g,ac,bc)) else pure (.yield (none,na-1,nb,out.push x,g,ac,bc))
def Jh(a b out:Array Keyed)(na nb g ac bc:Nat):(StateT SortSt Sem (ForInStep Lp)):=elem' b (nb-1) >>= λx=>
 if (nb-1 == 1)=true then pure (.done (some<|b.Y 0 (nb-1)++a.Y 0 na++(out.push x).reverse,na,nb-1,out.push x,g,ac,bc))
 else elem' a (na-1) >>= λy=>CU true y b 0 (nb-1) (nb-1-1) >>= λr=>match r with
  |some k=>if nb-1-k>0 then
    if (k == 1)=true then pure (.done (some<|b.Y 0 k++a.Y 0 na++(out.push x++(b.Y k<|nb-1).reverse).reverse,na,k,out.push x++(b.Y k<|nb-1).reverse,g,ac,nb-1-k))
    else if (k == 0)=true then pure (.done (some<|a.Y 0 na++b.Y 0 k++(out.push x++(b.Y k<|nb-1).reverse).reverse,na,k,out.push x++(b.Y k<|nb-1).reverse,g,ac,nb-1-k))
    else Ji a b (out.push x++(b.Y k<|nb-1).reverse) na k g ac (nb-1-k)
   else Ji a b (out.push x) na (nb-1) g ac (nb-1-k)
  |_=>pure (.done (some<|a.Y 0 na++b.Y 0 (nb-1)++(out.push x).reverse,na,nb-1,out.push x,g,ac,bc))
def Jg(a b out:Array Keyed)(na nb g ac bc:Nat):(StateT SortSt Sem (ForInStep Lp)):=Pd g >>= λ_=>elem' b (nb-1) >>= λx=>CU false x a 0 na (na-1) >>= λr=>match r with
 |some k=>if na-k>0 then
   if (k == 0)=true then pure (.done (some<|a.Y 0 k++b.Y 0 nb++(out++(a.Y k na).reverse).reverse,k,nb,out++(a.Y k na).reverse,g,na-k,bc))
   else Jh a b (out++(a.Y k na).reverse) k nb g (na-k) bc
  else Jh a b out na nb g (na-k) bc
 |_=>pure (.done (some<|a.Y 0 na++b.Y 0 nb++out.reverse,na,nb,out,g,ac,bc))
abbrev Gy:=Option (Array Keyed)×Nat×Nat×Array Keyed×Nat×Nat
def hiB1(a b:Array Keyed)(g:Nat)(c:Gy):(StateT SortSt Sem (ForInStep Gy)):=elem' b (c.2.2.1-1) >>= λy=>elem' a (c.2.1-1) >>= λx=>lt' y x >>= λr=>match r with
 |some t=>if t=true then elem' a (c.2.1-1) >>= λx=>
    if (c.2.1-1 == 0)=true then pure (.done (some<|a.Y 0 (c.2.1-1)++b.Y 0 c.2.2.1++(c.2.2.2.1.push x).reverse,c.2.1-1,c.2.2.1,c.2.2.2.1.push x,c.2.2.2.2.1+1,0))
    else if c.2.2.2.2.1+1 >= g then pure (.done (none,c.2.1-1,c.2.2.1,c.2.2.2.1.push x,c.2.2.2.2.1+1,0)) else pure (.yield (none,c.2.1-1,c.2.2.1,c.2.2.2.1.push x,c.2.2.2.2.1+1,0))
   else elem' b (c.2.2.1-1) >>= λy=>
    if (c.2.2.1-1 == 1)=true then pure (.done (some<|b.Y 0 (c.2.2.1-1)++a.Y 0 c.2.1++(c.2.2.2.1.push y).reverse,c.2.1,c.2.2.1-1,c.2.2.2.1.push y,0,c.2.2.2.2.2+1))
    else if c.2.2.2.2.2+1 >= g then pure (.done (none,c.2.1,c.2.2.1-1,c.2.2.2.1.push y,0,c.2.2.2.2.2+1)) else pure (.yield (none,c.2.1,c.2.2.1-1,c.2.2.2.1.push y,0,c.2.2.2.2.2+1))
 |_=>pure (.done (some<|a.Y 0 c.2.1++b.Y 0 c.2.2.1++c.2.2.2.1.reverse,c.2.1,c.2.2.1,c.2.2.2.1,c.2.2.2.2.1,c.2.2.2.2.2))
abbrev Gx:=Option (Array Keyed)×Nat×Nat×Array Keyed×Nat
def CK(a b:Array Keyed)(c:Lp):(StateT SortSt Sem (ForInStep Lp)):=if c.2.2.2.2.1>1 then Jg a b c.2.2.2.1 c.2.1 c.2.2.1 (c.2.2.2.2.1-1) c.2.2.2.2.2.1 c.2.2.2.2.2.2 else Jg a b c.2.2.2.1 c.2.1 c.2.2.1 c.2.2.2.2.1 c.2.2.2.2.2.1 c.2.2.2.2.2.2
def nB(c:Lp):(StateT SortSt Sem (ForInStep Gx)):=match c.1 with
 |some r=>pure (.done (some r,c.2.1,c.2.2.1,c.2.2.2.1,c.2.2.2.2.1))
 |none=>Pd (c.2.2.2.2.1+1) >>= λ_=>pure (.yield (none,c.2.1,c.2.2.1,c.2.2.2.1,c.2.2.2.2.1+1))
def nz(a b:Array Keyed)(g:Nat)(c:Gy):(StateT SortSt Sem (ForInStep Gx)):=match c.1 with
 |some r=>pure (.done (some r,c.2.1,c.2.2.1,c.2.2.2.1,g))
 |none=>liftM (rule "list.sort.gallop") >>= λ_=>forIn [0:a.o+b.o] ((none,c.2.1,c.2.2.1,c.2.2.2.1,g+1,c.2.2.2.2.1,c.2.2.2.2.2):Lp) (λ_ s=>CK a b s) >>= nB
def nu(a b:Array Keyed)(c:Gx):(StateT SortSt Sem (ForInStep Gx)):=forIn [0:a.o+b.o] ((none,c.2.1,c.2.2.1,c.2.2.2.1,0,0):Gy) (λ_ s=>hiB1 a b c.2.2.2.2 s) >>= nz a b c.2.2.2.2
def nt(c:Gx):(StateT SortSt Sem (Array Keyed)):=match c.1 with
 |some r=>pure r
 |none=>liftM (unsupported "internal:list.sort.merge-bound":Sem (Array Keyed))
def nr(a b:Array Keyed):(StateT SortSt Sem (Array Keyed)):=liftM (rule "list.sort.merge-hi") >>= λ_=>elem' a (a.o-1) >>= λx=>
 if (a.o-1 == 0)=true then pure (a.Y 0 (a.o-1)++b.Y 0 b.o++(#[x]:Array Keyed).reverse) else if (b.o == 1)=true then pure (b.Y 0 b.o++a.Y 0 (a.o-1)++(#[x]:Array Keyed).reverse)
 else get >>= λst=>forIn [0:a.o+b.o] ((none,a.o-1,b.o,#[x],gallopOf st):Gx) (λ_ c=>nu a b c) >>= nt
def nq(a b:Array Keyed):ZO7 a b=nr a b:=by
 show YF (Bind.bind _) (funext λ_=>YF (Bind.bind _)<|funext λx=>?_);show Gz Z (Gz Z<|YF (Bind.bind _)<|funext λst=>?_);show Um Bind.bind (YF (forIn _ _)<|funext λ_=>funext λc=>?_) ?_
 .show Um Bind.bind (YF (forIn _ _)<|funext λ_=>funext λc=>?_) ?_
  .show YF (Bind.bind _) (funext λ_=>YF (Bind.bind _)<|funext λ_=>YF (Bind.bind _)<|funext λr=>?_);cases r with
   |none=>rfl
   |some r=>rfl
  .funext c
   let(c1,c2):=c;cases c1 with
   |some r=>rfl
   |none=>
    show YF (Bind.bind _) (funext λ_=>Um Bind.bind (YF (forIn _ _)<|funext λ_=>funext λc=>?_) ?_)
    .show Gz ?_ ?_
     .show YF (Bind.bind _) (funext λ_=>YF (Bind.bind _)<|funext λ_=>YF (Bind.bind _)<|funext λr=>?_);cases r with
      |none=>rfl
      |some r=>rfl
     .rfl
    .funext c
     let(c1,c2):=c;cases c1<;>rfl
 .funext c
  let(c1,c2):=c;cases c1<;>rfl
def CJ{σ:Type}{st x:σ}{Q:PUnit->σ->Prop}(h:Q ⟨⟩ x):wpS M A E s (set x:StateT σ Sem PUnit) Q st:=by show Ye ⟨Z,h⟩
def Zl8:∀(r:List Keyed)(o k:Nat)(arr:Array Keyed),o+k+r.f<=arr.o->
  ((r.zipIdx k).foldl (λa x=>match x with|(p,j)=>a.setIfInBounds (o+j) p) arr).m=arr.m.M (o+k)++r++arr.m.drop (o+k+r.f)
 |[],o,k,arr,h=>Fe
 |p::r,o,k,arr,h=>by
  rw[YW]at h;let ih:=Zl8 r o (k+1) (arr.setIfInBounds (o+k) p) B
  show ih.l ?_;rw[Array.toList_setIfInBounds,YW];let hl:o+k<arr.m.f:=by simp;lia
  rw[List.drop_set_of_lt J,show o+(k+1)=o+k+1 by lia,List.take_set,List.take_succ_eq_append_getElem hl,bQ _ _ B];simp[show o+k+1+r.length=o+k+(r.length+1) by lia,Kc (by simpa using Ow hl:o+k<=arr.size)]
def Stp(lo:Nat)(st XR:SortSt):(Prop):=kindOf XR=kindOf st/\failedOf XR=failedOf st/\pendingOf XR=pendingOf st/\(arrOf XR).Perm (arrOf st)/\∀i,i<lo->(arrOf XR)[i]?=(arrOf st)[i]?
def Stp.refl(lo:Nat)(st:SortSt):Stp lo st st:={Z,Z,Z,Fv _,λ_ _=>rfl}
def Stp.trans{lo:Nat}{a b c:SortSt}(h:Stp lo a b)(k:Stp lo b c):Stp lo a c:={k.1.l h.1,k.2.1.l h.2.1,k.2.2.1.l h.2.2.1,k.2.2.2.1.l h.2.2.2.1,λi hi=>(k.2.2.2.2 i hi).l (h.2.2.2.2 i hi)}
def Stp.size{lo:Nat}{a b:SortSt}(h:Stp lo a b):(arrOf b).o=(arrOf a).o:=h.2.2.2.1.size_eq
def Stp.all{lo:Nat}{a b:SortSt}(h:Stp lo a b)(hS:∀x∈(arrOf a).m,S x):∀x∈(arrOf b).m,S x:=λx hx=>hS x ((LW.R h.2.2.2.1).mem_iff.R hx)
def Stp.mirror{lo i j:Nat}{st:SortSt}(hi:lo<=i)(hj:j<=(arrOf st).o):Stp lo st (setArr st (PyProof.Rows.mirror (arrOf st) i j ((j-i)/2))):=
 {Z,Z,Z,mirror_perm _ _ _ _,λk hk=>by rw[rY hj,Yh J]}
def Stp.bubble{lo src d:Nat}{st:SortSt}(hs:src<(arrOf st).o)(hd:d<=src)(Ol:lo<=src-d):Stp lo st (setArr st (PyProof.Rows.bubble (arrOf st) src d)):=
 {Z,Z,Z,bubble_perm _ _ _,λk hk=>by rw[getElem?_bubble hs d hd,Yh J,Yh J]}
def Lo(h:xs[i]?=ys[j]?):ke key xs i=ke key ys j:=by unfold ke;simp_all
def MU(hj:j<=xs.o)(k:Nat):ke key (mirror xs i j ((j-i)/2)) k=if i<=k/\k<j then ke key xs (i+j-1-k) else ke key xs k:=by
 let e:=rY (i:=i) hj k;split
 .rename_i h;rw[Yi h]at e;show Lo e
 .rename_i h;rw[Yh h]at e;show Lo e
def ZO5(hs:src<xs.o)(hd:d<=src)(k:Nat):ke key (bubble xs src d) k=if k=src-d then ke key xs src else if src-d<k/\k<=src then ke key xs (k-1) else ke key xs k:=by
 let e:=getElem?_bubble hs d hd k;split
 .rename_i h;rw[Yi h]at e;show Lo e
 .rename_i h;rw[Yh h]at e;split
  .rename_i h;rw[Yi h]at e;show Lo e
  .rename_i h;rw[Yh h]at e;show Lo e
def CI(L:UR M A E s O key kd S){st:SortSt}{Q:Option Bool->SortSt->Prop}(hk:kindOf st=kd)(hS:∀x∈(arrOf st).m,S x)(hi:i<(arrOf st).o)(hj:j<(arrOf st).o)
  (h:Q (some<|O.blt (ke key (arrOf st) i)<|ke key (arrOf st) j) st):wpS M A E s (ltAt' i j) Q st:=by
 let e1:=RC (arrOf st) i hi;let e2:=RC (arrOf st) j hj
 rw[Xi e1,Xi e2]at h;show Ys (PU ?_);show Ys (Zw e1<|Ys<|Zw e2 ?_);show L _ _ _ _ (hS _ Fe) (hS _ Fe) hk h
def Ln{st:SortSt}{Q:Unit->SortSt->Prop}(h:Q () (setArr st (mirror (arrOf st) i j ((j-i)/2)))):wpS M A E s (reverseSlice' i j) Q st:=by show LL h
def Vz(O:KeyOrd)(key:Keyed->O.α)(arr:Array Keyed)(lo k:Nat):(Prop):=∀i j,i<=j->j<k->O.kle (ke key arr<|lo+i) (ke key arr<|lo+j)
def Vf(O:KeyOrd)(key:Keyed->O.α)(arr:Array Keyed)(lo k:Nat):(Prop):=∀i j,i<=j->j<k->O.kle (ke key arr<|lo+j) (ke key arr<|lo+i)
def nj(lo a WG:Nat):(StateT SortSt Sem (Option (Option Nat)×Nat)):=forIn [a:WG] ((none,a):Option (Option Nat)×Nat) λ_ r=>do
 let x <-ltAt' (lo+r.2) (lo+r.2-1)
 match x with
 |some b=>if b=true then pure (.done (none,r.2)) else pure (.yield (none,r.2+1))
 |_=>pure (.done (some none,r.2))
def CH(L:UR M A E s O key kd S){st:SortSt}{lo a WG:Nat}{Q:Option (Option Nat)×Nat->SortSt->Prop}(hk:kindOf st=kd)(hS:∀x∈(arrOf st).m,S x)(hn:lo+WG<=(arrOf st).o)(ha:1<=a)(han:a<=WG)(hs:Vz O key (arrOf st) lo a)
  (h:∀n,a<=n->n<=WG->Vz O key (arrOf st) lo n->(n=WG\/O.klt (ke key (arrOf st)<|lo+n) (ke key (arrOf st)<|lo+n-1))->Q (none,n) st):wpS M A E s (nj lo a WG) Q st:=by
 show Vt (I:=λx c XR=>XR=st/\c=(none,x)/\Vz O key (arrOf st) lo x) ?_ ?_ ⟨Z,Z,hs⟩
 .rintro x c XR ni hxn ⟨rfl,rfl,VL⟩;show Ys (CI L hk hS J J ?_);cases e:O.blt (ke key (arrOf XR)<|lo+x) (ke key (arrOf XR)<|lo+x-1) with
  |true=>
   show YU (h x ni J VL<|.inr e)
  |false=>
   show YU {Z,Z,λi j WB hj=>?_};cases CG:j<x
   .show VL i j WB CG
   .let Nc:j=x:=J;subst Nc;cases Ww:i=j
    .subst Ww;show Uh _
    .have:=VL i (j-1) J J
     rw[show lo+(j-1)=lo+j-1 by lia]at this;show Oy this e
 simp_all
def CF(lo n WG:Nat):(StateT SortSt Sem (Option (Option Nat)×Nat×Nat)):=forIn [n:WG] ((none,n,0):Option (Option Nat)×Nat×Nat) λ_ r=>do
 let x <-ltAt' (lo+r.2.1) (lo+r.2.1-1)
 match x with
 |some b=>
  if b=true then
   if r.2.2>0 then do
    reverseSlice' (lo+r.2.1-(r.2.2+1)) (lo+r.2.1)
    pure (.yield (none,r.2.1+1,0))
   else pure (.yield (none,r.2.1+1,0))
  else do
   let y <-ltAt' (lo+r.2.1-1) (lo+r.2.1)
   match y with
   |some c=>if c=true then pure (.done (none,r.2.1,r.2.2)) else pure (.yield (none,r.2.1+1,r.2.2+1))
   |_=>pure (.done (some none,r.2.1,r.2.2))
 |_=>pure (.done (some none,r.2.1,r.2.2))
def ZE(hj:j<=xs.o)(he:∀k,i<=k->k<j->ke key xs k=ke key xs (j-1))(k:Nat):ke key (mirror xs i j ((j-i)/2)) k=ke key xs k:=by rw[MU hj];grind
def Zj5(L:UR M A E s O key kd S){st:SortSt}{lo n WG:Nat}{Q:Option (Option Nat)×Nat×Nat->SortSt->Prop}(hk:kindOf st=kd)(hS:∀x∈(arrOf st).m,S x)(hn:lo+WG<=(arrOf st).o)(h1:1<=n)(hnn:n<=WG)(hs:Vf O key (arrOf st) lo n)
  (h:∀m Vy XR,Stp lo st XR->n<=m->m<=WG->Vf O key (arrOf XR) lo m->Vy+1<=m->(∀i,lo+m-(Vy+1)<=i->i<lo+m->ke key (arrOf XR) i=ke key (arrOf XR) (lo+m-1))->Q (none,m,Vy) XR):wpS M A E s (CF lo n WG) Q st:=by
 unfold CF;show Vt (I:=λx c XR=>∃Vy,c=(none,x,Vy)/\Stp lo st XR/\Vf O key (arrOf XR) lo x/\Vy+1<=x/\(∀i,lo+x-(Vy+1)<=i->i<lo+x->ke key (arrOf XR) i=ke key (arrOf XR) (lo+x-1))) ?_ ?_ {0,Z,Stp.refl _ _,hs,J,λi h1 h2=>B}
 .rintro x c XR ni hxn ⟨Vy,rfl,Wr,VL,hq,he⟩;let Wa:=Wr.1.l hk
  let Ux:=Wr.all hS;let hz:=Wr.o
  show Ys (CI L Wa Ux J J ?_);dsimp only;cases e:O.blt (ke key (arrOf XR)<|lo+x) (ke key (arrOf XR)<|lo+x-1) with
  |true=>
   let non:∀ar,(∀k,k<=lo+x->ke key ar k=ke key (arrOf XR) k)->Vf O key ar lo (x+1):=λar hke i j WB hj=>by
    rw[hke _ J,hke _ J];cases CG:j<x
    .show VL i j WB CG
    .let Nc:j=x:=J;subst Nc;cases Ww:i=j
     .subst Ww;show Uh _
     .have:=VL i (j-1) J J
      rw[show lo+(j-1)=lo+j-1 by lia]at this;show Oy (Hf e) this
   cases c:Vy>0
   .rw[Yi c];show Ys (Ln<|YU ⟨0,Z,Wr.l<|Stp.mirror J J,?_,J,λi h1 h2=>B⟩);show non _ λk hk=>ZE J he k
   .rw[Yh c];show YU {0,Z,Wr,non _ λ_ _=>rfl,J,λi h1 h2=>B}
  |false=>
   show Ys (CI L Wa Ux J J ?_);dsimp only;cases e2:O.blt (ke key (arrOf XR)<|lo+x-1) (ke key (arrOf XR)<|lo+x) with
   |true=>
    show YU (h x Vy XR Wr ni J VL hq he)
   |false=>
    let eq:ke key (arrOf XR) (lo+x-1)=ke key (arrOf XR) (lo+x):=O.total _ _ e2 e;show YU {Vy+1,Z,Wr,λi j WB hj=>?_,J,λi h1 h2=>?_}
    .cases CG:j<x
     .show VL i j WB CG
     .let Nc:j=x:=rO;subst Nc;cases Ww:i=j
      .subst Ww;show Uh _
      .have:=VL i (j-1) J J
       grind
    grind
 .rintro c XR ⟨Vy,rfl,Wr,VL,hq,he⟩;rw[show max n WG=WG by lia]at *;show h WG Vy XR Wr hnn (XI _) VL hq he
def nh(L:UR M A E s O key kd S){st:SortSt}{lo WG:Nat}{Q:Option Nat->SortSt->Prop}(hk:kindOf st=kd)(hS:∀x∈(arrOf st).m,S x)(hn:lo+WG<=(arrOf st).o)(h1:1<=WG)
  (h:∀m XR,Stp lo st XR->1<=m->m<=WG->Vz O key (arrOf XR) lo m->Q (some m) XR):wpS M A E s (countRun' lo WG) Q st:=by
 let one:Vz O key (arrOf st) lo 1:=λi j WB hj=>by
  have:i=j:=J
  subst this;show Uh _
 show Ys (CH L hk hS hn (XI _) h1 one λn Od RS hs hx=>?_);dsimp only;cases c1:n=WG
 .rw[Yi (by simp_all)];show YU (h n st (Stp.refl _ _) Od RS hs)
 rw[Yh (by simpa using c1)];let Xx:O.klt (ke key (arrOf st)<|lo+n) (ke key (arrOf st)<|lo+n-1):=hx.resolve_left c1
 cases c2:n>1
 .rw[Yi c2];show Ys (CI L hk hS J J ?_);cases e:O.blt (ke key (arrOf st) lo) (ke key (arrOf st)<|lo+n-1) with
  |true=>
   show YU (h n st (Stp.refl _ _) Od RS hs)
  |false=>
   show Ys (Ln ?_);let t1:Stp lo st (setArr st<|mirror (arrOf st) lo (lo+n)<|(lo+n-lo)/2):=Stp.mirror (XI _) J
   let eqs:∀k,lo<=k->k<lo+n->ke key (arrOf st) k=ke key (arrOf st) (lo+n-1):=λk k1 k2=>by
    let a1:=hs (k-lo) (n-1) B J;let a2:=hs 0 (k-lo) (by simp_all) B
    rw[show lo+(k-lo)=k by simp_all,show lo+(n-1)=lo+n-1 by lia]at a1;rw[show lo+(k-lo)=k by lia,ND]at a2;show KeyOrd.kle_antisymm a1 (Oy e a2)
   let Sl:Vf O key (mirror (arrOf st) lo (lo+n)<|(lo+n-lo)/2) lo (n+1):=λi j WB hj=>by
    rw[ZE J eqs,ZE J eqs];cases hjn:j<n
    .rw[eqs (lo+i) J J,eqs (lo+j) J (by simp_all)];show Uh _
    .let Nc:j=n:=J;subst Nc;cases Ww:i=j
     .subst Ww;show Uh _
     .rw[eqs (lo+i) J J];show Hf Xx
   obtain⟨Vc,e1⟩:∃Vc,Vc=setArr st (mirror (arrOf st) lo (lo+n)<|(lo+n-lo)/2):={_,Z};let Sl:Vf O key (arrOf Vc) lo (n+1):=by rwa[e1]
   rw[<-e1]at t1 ⊢;show Ys (wpS_lift<|Rv ⟨Z,?_⟩);show Ys (Zj5 L (t1.1.l hk) (t1.all hS) (by have:=t1.o;simp_all) (by simp_all) J Sl λm Vy WW ng SG WL Pc nc heq=>?_);dsimp only;let t2:=t1.l ng
   cases c3:Vy>0
   .rw[Yi c3];show Ys (Ln ?_);let t3:Stp lo st (setArr WW<|mirror (arrOf WW) (lo+m-(Vy+1)) (lo+m)<|(lo+m-(lo+m-(Vy+1)))/2):=t2.l (Stp.mirror J (by have:=t2.o;lia))
    let Vo:Vf O key (mirror (arrOf WW) (lo+m-(Vy+1)) (lo+m)<|(lo+m-(lo+m-(Vy+1)))/2) lo m:=λi j WB hj=>by rw[ZE (by have:=t2.o;lia) heq,ZE (by have:=t2.o;lia) heq];show Pc i j WB hj
    obtain⟨VO,e3⟩:∃VO,VO=setArr WW (mirror (arrOf WW) (lo+m-(Vy+1)) (lo+m)<|(lo+m-(lo+m-(Vy+1)))/2):={_,Z};let Vo:Vf O key (arrOf VO) lo m:=by rwa[e3]
    rw[<-e3]at t3 ⊢;show Ys (Ln ?_);let t4:Stp lo st (setArr VO<|mirror (arrOf VO) lo (lo+m)<|(lo+m-lo)/2):=t3.l (Stp.mirror (XI _) (by have:=t3.o;lia))
    show Ys (CH L (t4.1.l hk) (t4.all hS) (by have:=t4.o;lia) J WL ?_ λq Gw SF Pb _=>?_)
    .intro i j WB hj;rw[MU (by have:=t3.o;lia),MU (by have:=t3.o;lia),Yi J,Yi (by simp_all),show lo+(lo+m)-1-(lo+i)=lo+(m-1-i) by lia,show lo+(lo+m)-1-(lo+j)=lo+(m-1-j) by lia];show Vo _ _ B B
    .show YU (h q _ t4 J SF Pb)
   .rw[Yh c3];let t3:=t2
    let Vo:=Pc;obtain⟨VO,e3⟩:∃VO,VO=WW:={_,Z};rw[<-e3]at t3 Vo ⊢;show Ys (Ln ?_);let t4:Stp lo st (setArr VO<|mirror (arrOf VO) lo (lo+m)<|(lo+m-lo)/2):=t3.l (Stp.mirror (XI _) (by have:=t3.o;lia))
    show Ys (CH L (t4.1.l hk) (t4.all hS) (by have:=t4.o;lia) J WL ?_ λq Gw SF Pb _=>?_)
    .intro i j WB hj;rw[MU (by have:=t3.o;lia),MU (by have:=t3.o;lia),Yi J,Yi J,show lo+(lo+m)-1-(lo+i)=lo+(m-1-i) by lia,show lo+(lo+m)-1-(lo+j)=lo+(m-1-j) by lia];show Vo _ _ J B
    .show YU (h q _ t4 J SF Pb)
 .rw[Yh c2];let t1:=Stp.refl lo st
  let Sl:Vf O key (arrOf st) lo (n+1):=λi j WB hj=>by
   cases Ww:i=j
   .subst Ww;show Uh _
   .let h3:i=0:=J;let h4:j=n:=J
    subst h3 h4;rw[show lo+0=lo+j-1 by lia];show Hf Xx
  obtain⟨Vc,e1⟩:∃Vc,Vc=st:={_,Z};let Sl:Vf O key (arrOf Vc) lo (n+1):=by rwa[e1]
  let t1:Stp lo st Vc:=by rwa[e1]
  rw[<-e1];show Ys (wpS_lift<|Rv ⟨Z,?_⟩);show Ys (Zj5 L (t1.1.l hk) (t1.all hS) (by simp_all) J J Sl λm Vy WW ng SG WL Pc nc heq=>?_);dsimp only;let t2:=t1.l ng
  cases c3:Vy>0
  .rw[Yi c3];show Ys (Ln ?_);let t3:Stp lo st (setArr WW<|mirror (arrOf WW) (lo+m-(Vy+1)) (lo+m)<|(lo+m-(lo+m-(Vy+1)))/2):=t2.l (Stp.mirror J (by have:=t2.o;lia))
   let Vo:Vf O key (mirror (arrOf WW) (lo+m-(Vy+1)) (lo+m)<|(lo+m-(lo+m-(Vy+1)))/2) lo m:=λi j WB hj=>by rw[ZE (by have:=t2.o;lia) heq,ZE (by have:=t2.o;lia) heq];show Pc i j WB hj
   obtain⟨VO,e3⟩:∃VO,VO=setArr WW (mirror (arrOf WW) (lo+m-(Vy+1)) (lo+m)<|(lo+m-(lo+m-(Vy+1)))/2):={_,Z};let Vo:Vf O key (arrOf VO) lo m:=by rwa[e3]
   rw[<-e3]at t3 ⊢;show Ys (Ln ?_);let t4:Stp lo st (setArr VO<|mirror (arrOf VO) lo (lo+m)<|(lo+m-lo)/2):=t3.l (Stp.mirror (XI _) (by have:=t3.o;lia))
   show Ys (CH L (t4.1.l hk) (t4.all hS) (by have:=t4.o;lia) J WL ?_ λq Gw SF Pb _=>?_)
   .intro i j WB hj;rw[MU (by have:=t3.o;lia),MU (by have:=t3.o;lia),Yi J,Yi J,show lo+(lo+m)-1-(lo+i)=lo+(m-1-i) by grind,show lo+(lo+m)-1-(lo+j)=lo+(m-1-j) by grind];show Vo _ _ J B
   .show YU (h q _ t4 J SF Pb)
  .rw[Yh c3];let t3:=t2
   let Vo:=Pc;obtain⟨VO,e3⟩:∃VO,VO=WW:={_,Z};rw[<-e3]at t3 Vo ⊢;show Ys (Ln ?_);let t4:Stp lo st (setArr VO<|mirror (arrOf VO) lo (lo+m)<|(lo+m-lo)/2):=t3.l (Stp.mirror (XI _) (by have:=t3.o;lia))
   show Ys (CH L (t4.1.l hk) (t4.all hS) (by have:=t4.o;lia) J WL ?_ λq Gw SF Pb _=>?_)
   .intro i j WB hj;rw[MU (by have:=t3.o;lia),MU (by have:=t3.o;lia),Yi J,Yi J,show lo+(lo+m)-1-(lo+i)=lo+(m-1-i) by grind,show lo+(lo+m)-1-(lo+j)=lo+(m-1-j) by grind];show Vo _ _ J B
   .show YU (h q _ t4 J SF Pb)
def Zv6(L:UR M A E s O key kd S){st:SortSt}{lo n ok:Nat}{Q:Bool->SortSt->Prop}(hk:kindOf st=kd)(hS:∀x∈(arrOf st).m,S x)(hn:lo+n<=(arrOf st).o)(hok:ok<=n)(hs:Vz O key (arrOf st) lo ok)
  (h:∀XR,Stp lo st XR->Vz O key (arrOf XR) lo n->Q true XR):wpS M A E s (binarySort' lo n ok) Q st:=by
 rw[binarySort'_eq];show Ys (Sw (Vt (I:=λk c XR=>c=(none,())/\Stp lo st XR/\Vz O key (arrOf XR) lo (min k n))
  (Q:=λc XR=>c=(none,())/\Stp lo st XR/\Vz O key (arrOf XR) lo n) ?_ ?_ ?_) ?_)
 .rintro k c XR Oc m9 ⟨rfl,Wr,VL⟩;rw[show min k n=k by lia]at VL;let hz:=Wr.o
  let Wa:=Wr.1.l hk;let Ux:=Wr.all hS
  show Ys (Sw (Vt (I:=λx c TX=>TX=XR/\∃l r,c=(none,l,r)/\l<=r/\r<=k/\r-l<=k-x/\
    (∀i,i<l->O.kle (ke key (arrOf XR)<|lo+i) (ke key (arrOf XR)<|lo+k))/\(∀i,r<=i->i<k->O.klt (ke key (arrOf XR)<|lo+k) (ke key (arrOf XR)<|lo+i)))
   (Q:=λc TX=>TX=XR/\∃l r,c=(none,l,r)/\l<=k/\
    (∀i,i<l->O.kle (ke key (arrOf XR)<|lo+i) (ke key (arrOf XR)<|lo+k))/\(∀i,l<=i->i<k->O.klt (ke key (arrOf XR)<|lo+k) (ke key (arrOf XR)<|lo+i))) ?_ ?_ {Z,0,k,Z,J,by simp_all,by simp_all,λi hi=>by simp_all,λi h1 h2=>J}) ?_)
  .rintro x c TX _ hxk ⟨rfl,l,r,rfl,hlr,m8,hm,Ol,Gv⟩;cases Td:l >= r
   .rw[Yi Td]
    have:l=r:=J
    subst this;show YU ⟨Z,l,l,Z,m8,Ol,Gv⟩
   .rw[Yh Td];show Ys (CI L Wa Ux J J ?_);dsimp only;cases Lm:O.blt (ke key (arrOf TX)<|lo+k) (ke key (arrOf TX)<|lo+(l+r)/2) with
    |true=>
     show YU {Z,l,(l+r)/2,Z,J,J,B,Ol,λi h1 h2=>?_};show KeyOrd.klt_of_klt_of_kle Lm (VL _ _ h1 h2)
    |false=>
     show YU {Z,(l+r)/2+1,r,Z,J,by simp_all,B,λi h1=>?_,Gv};show Oy (VL i ((l+r)/2) J J) (show O.kle _ _ from Lm)
  .rintro c TX ⟨rfl,l,r,rfl,hlr,m8,hm,Ol,Gv⟩
   have:l=r:=B
   subst this;exists Z,l,l,Z,m8,Ol,Gv
  .rintro c TX ⟨rfl,l,r,rfl,hlk,Ol,Gv⟩;dsimp only;rw[moveDown'_eq];show Ys (LL<|YU ⟨Z,Wr.l (Stp.bubble J (by simp_all) J),?_⟩);rw[show min (k+1) n=k+1 by lia];let hks:lo+k<(arrOf TX).o:=rO
   intro i j WB hj;rw[ZO5 hks B,ZO5 hks B,show lo+k-(lo+k-(lo+l))=lo+l by grind];let CD:∀i,l<i->lo+i-1=lo+(i-1):=λi hi=>J
   repeat' split
   all_goals first
    | (exfalso;lia)
    |show Uh _
    |show Ol _ J
    |show VL _ _ rO J
    | (rw[CD j (by simp_all)];show Hf<|Gv _ J J)
    | (rw[CD j (by simp_all)];show VL _ _ J J)
    | (rw[CD i B,CD j (by simp_all)];show VL _ _ J J)
    | (rw[CD i rO];show VL _ _ rO rO)
 .grind
 .exists Z,Stp.refl _ _,λi j WB hj=>?_;cases h1:ok=0
  .have:i=j:=J
   subst this;show Uh _
  .show hs i j WB J
 .rintro c XR ⟨rfl,Wr,VL⟩;show YU (h XR Wr VL)
def CC:(List (List Keyed)->Nat->List (Nat×Nat))
 |[],_=>[]
 |g::gs,o=>(o,g.f)::CC gs (o+g.f)
structure PI(O:KeyOrd)(key:Keyed->O.α)(kd:SortKind)(a₀:Array Keyed)(st:SortSt)(Jf:List (List Keyed))(rest:List Keyed):Prop where
 kind:kindOf st=kd
 fail:failedOf st=none
 perm:(arrOf st).Perm a₀
 arr:(arrOf st).m=Jf.flatten++rest
 CB:∀g∈Jf,1<=g.f/\g.G (RK O key)
 pend:(pendingOf st).m.H (λp=>(p.1,p.2.1))=CC Jf 0
def m7{arr:Array Keyed}{lo n:Nat}(h:Vz O key arr lo n):((arr.m.drop lo).M n).G (RK O key):=by
 rw[UH];intro i j hi hj WB;rw[Yu,RZ]at hi hj;let a1:arr[lo+i]?=some ((arr.m.drop lo).M n)[i]:=by rw[<-YM];simp
 let a2:arr[lo+j]?=some ((arr.m.drop lo).M n)[j]:=by rw[<-YM];simp
 have:=h i j J B
 rwa[Xi a1,Xi a2]at this
end
end PyProof.Rows
namespace L2
open PySem PySem.Spec PyProof.Rows
section
variable{prog:Program}{w:World}{A:Around}{s:Shared}
def m6{α:Type}{R:α->α->Prop}:∀{l:List α},l.f<2->l.G R
 |[],_=>List.G.nil
 |[_],_=>xg ..
 |_::_::_,h=>absurd h Fe
def sameBut(a:Addr)(h h':Heap):(Prop):=∀b o,b≠a->h.E b=some o->h'.E b=some o
def m5:(KeyOrd) where
 α:=Ac
 blt:=HT.lexLt
 irrefl:=My.Xg
 trans a b c:=My.WM
 negTrans a b c h:=by
  cases e:HT.lexLt a b with
  |true=>show .inl rfl
  |false=>
   show .inr ?_;cases e2:HT.lexLt b a with
   |true=>show My.WM e2 h
   |false=>
    have:=My.WJ e e2
    lia
 total a b h1 h2:=My.WJ h1 h2
def CA{Q:Bool->Shared->Prop}:∀{vs ws:Ag}{ns ms:Ac}(i:Nat),IntsAre vs ns->IntsAre ws ms->(fin=true↔vs.f<ws.f)->Q (HT.lexLt ns ms) s->W.KatLex prog w A b fin Q (vs.zip ws) i s
 |_,_,_,_,i,.nil,.nil,hf,h=>by
  have:fin=false:=by cases fin with|false=>rfl|true=>simp_all
  subst this;show W.kat_nil h
 |_,_,_,_,i,.nil,.cons c u hw,hf,h=>by
  have:fin=true:=hf.mpr Fe
  subst this;show W.kat_nil h
 |_,_,_,_,i,.cons a t hv,.nil,hf,h=>by
  have:fin=false:=by cases fin with|false=>rfl|true=>simp_all
  subst this;show W.kat_nil h
 |_,_,_,_,i,.cons a t hv,.cons c u hw,hf,h=>by
  rw[HT.Xu]at h;show W.kat_cons (wpAny_eqBool_int<|W.kat_go (λe=>?_) λe=>?_)
  .rw[Yi (eq_of_beq e)]at h;show W.kat_yes (CA (i+1) hv hw (by simp_all) h)
  .rw[Yh λq=>J]at h;show W.kat_no ?_;cases (b&&i == 0) with
   |true=>show oneLt_int h
   |false=>show W.kat_one _ _ (lt_int h)
end
end L2
namespace L2
open PySem PySem.Spec PyProof.Rows My
def ZP5:∀{vs:Ag}{ns ms:Ac},IntsAre vs ns->IntsAre vs ms->ns=ms
 |_,_,_,.nil,.nil=>rfl
 |_,_,_,.cons n t h,.cons _ _ k=>by rw[ZP5 h k]
def Zq2{f:Value->Ac}:∀{vs:Ag},(∀v∈vs,∃a o xs n,v=.ref a/\h.E a=some o/\o.cls=.type "tuple"/\o.data=.seq xs n/\IntsAre xs.m (f v)/\f v≠[])->∃fs,W.KatTups h vs fs/\fs.f=vs.f/\∀v∈fs,∃n t,v=Value.int n t
 |[],_=>{[],W.KatTups.nil,Z,λ_ h=>(by cases h)}
 |v::vs,H=>by
  let(a,o,xs,n,e,h1,h2,h3,h4,h5):=H v Ya;let(fs,t,l,k):=Zq2 (vs:=vs) λy hy=>H y (Yf _ hy);obtain⟨z,u,hz⟩:∃z u,xs[0]?=some (Value.int z u):=by
   cases hx:xs.m with
   |nil=>
    rw[hx]at h4;generalize f v=g at h4 h5;cases h4;lia
   |cons x r=>
    rw[hx]at h4;generalize f v=g at h4 h5;cases h4 with
    |cons z u _=>exists z,u,by rw[<-YM,hx];rfl
  subst e;show{.int z u::fs,W.KatTups.cons h1 h2 h3 hz t,by simp[l],λy hy=>?_};grind
end L2
namespace My
open PySem L2
abbrev WV(a b:Ac):Prop:=HT.lexLt a b=true
def mZ:∀p a b,HT.lexLt (p++a) (p++b)=HT.lexLt a b
 |[],a,b=>rfl
 |x::p,a,b=>by rw[Kt,Kt,HT.Xu,Yi Z,mZ p]
def Cz:∀{s t:Ac}(a b:Ac),s.f=t.f->HT.lexLt s t=true->HT.lexLt (s++a) (t++b)=true
 |[],[],a,b,_,h=>by cases h
 |[],_::_,a,b,e,_=>by simp at e
 |_::_,[],a,b,e,_=>by simp at e
 |x::s,y::t,a,b,e,h=>by
  rw[HT.Xu]at h;rw[Kt,Kt,HT.Xu];split
  .rename_i q;rw[Yi q]at h;show Cz a b (by simpa using e) h
  simp_all
def Cy(h:WV a b):a≠b:=λe=>by have:=Xg a;lia
def mY(h:WV a b)(k:WV b a):False:=Cy (WM h k) rfl
def ZI5:∀{a b:Ab},a.G WV->b.G WV->(∀z,z∈a↔z∈b)->a=b
 |[],[],_,_,_=>rfl
 |[],y::b,_,_,h=>absurd ((h y).mpr Ya) Fe
 |x::a,[],_,_,h=>absurd ((h x).R Ya) Fe
 |x::a,y::b,ha,hb,h=>by
  let(h1,h2):=YN.R ha;let(h3,h4):=YN.R hb;let e:x=y:=by
   rcases Yo.R ((h x).R Ya) with e|hx
   .show e
   .rcases Yo.R ((h y).mpr Ya) with e|hy
    .lia
    .show(mY (h3 x hx)<|h1 y hy).elim
  subst e;rw[ZI5 h2 h4 λz=>?_];constructor
  .intro hz;show(Yo.R<|(h z).R (Yf _ hz)).resolve_left λe=>Cy (h1 z hz) e.symm
  .intro hz;show(Yo.R<|(h z).mpr (Yf _ hz)).resolve_left λe=>Cy (h3 z hz) e.symm
def mX{a:Ab}(h:a.G λx y=>HT.lexLt y x=false)(hn:a.Nodup):a.G WV:=by
 show(h.and hn).imp ?_;rintro x y ⟨h1,h2⟩;change HT.lexLt x y=true
 cases e:HT.lexLt x y with
 |true=>rfl
 |false=>show absurd (WJ e h1) h2
def Je{a:Ab}(h:a.G WV):a.Nodup:=h.imp λh=>Cy h
def Jd(m:Int):∀k,∀l∈Uo m k,l.f=k
 |0,l,h=>by rw[Xc.R h];rfl
 |k+1,l,h=>by let(s,hs,hl):=List.mem_flatMap.R h;let(t,_,_,rfl):=Wb.R hl;rw[Xe,Jd m k s hs];rfl
def mW(m:Int):∀k,(Uo m k).G WV
 |0=>xg ..
 |k+1=>by
  change((Uo m k).flatMap (VS m)).G WV;rw[List.pairwise_flatMap];exists λs _=>?_,Kk (λ{s t} hs ht Wr=>?_)<|mW m k
  .unfold VS;rw[LQ];show FK.imp λ{i j} WB=>?_;change HT.lexLt _ _=true
   rw[mZ,HT.Xu,Yh J]
   simp_all
  .intro x hx y hy;let(u,_,_,rfl):=Wb.R hx;let(v,_,_,rfl):=Wb.R hy;show Cz _ _ (by rw[Jd m k s hs,Jd m k t ht]) Wr
def Gu{α:Type}[DecidableEq α]:∀{l m:List α},l.Nodup->(∀x∈l,x∈m)->l.f<=m.f
 |[],m,_,_=>Yc _
 |x::l,m,h,hs=>by
  let(h1,h2):=QA.R h
  have:=Gu (l:=l) (m:=m.erase x) h2 λy hy=>(List.mem_erase_of_ne λ(e:y=x)=>h1<|e▸hy).mpr (hs y<|Yf _ hy)
  grind
def Zw5(g:GoodW n ps)(hT:Zg n ps T)(z0:0<=z)(z1:z<ps⁻¹):Conn (XQ ps (SH n ps T z T)) (Zz ps z).1 (Zz ps z).2:=by
 let he:=Tg (z:=z) g z0 z1;let key:∀tB:Ac,(∀o∈tB,o∈T/\z∉Tf n ps T o)->Conn (XQ ps<|T.filter λy=>decide<|y∉tB) (Zz ps z).1 (Zz ps z).2:=by
  intro tB
  induction tB with
  |nil=>
   intro _;let e:(T.filter λy=>decide<|y∉([]:Ac))=T:=sP.mpr λy _=>Fe
   rw[e];show hT.2.2 _ _ he.1 he.2
  |cons o tB ih=>
   intro hD;let c:=ih λy hy=>hD y (Yf _ hy)
   let(mV,rJ):=hD o Ya;cases bp:o∈tB
   .grind
   .show Yt λUp=>?_;let Cw:∀y,y∈(T.filter λy=>decide<|y∉o::tB)->y∈wo T o:=λy hy=>by
     let(h1,h2):=Yr.R hy;let h2:=YO h2
     show Xj.mpr {h1,λe=>h2 B}
    let c2:Conn (XQ ps<|(T.filter λy=>decide<|y∉o::tB)++[o]) (Zz ps z).1 (Zz ps z).2:=(Lx λy=>by
     grind).R c
    let Ua:∀y∈(T.filter λy=>decide<|y∉o::tB),0<=y/\y<ps⁻¹:=λy hy=>hT.1.all y (Yr.R hy).1;let(o0,o1):=hT.1.all o mV;let Wt:InN n.j (XQ ps<|T.filter λy=>decide<|y∉o::tB):=ZO g Ua
    let mU:InN n.j (XQ ps<|(T.filter λy=>decide<|y∉o::tB)++[o]):=ZO g λy hy=>by
     rcases Xk.R hy with h|h
     .show Ua y h
     .rw[Xc.R h];exists o0,o1
    let GG:=Tg (z:=o) g o0 o1;let hl:=ZG n.j (XQ ps<|T.filter λy=>decide<|y∉o::tB)
    let own:¬Conn (XQ ps<|wo T o) (Zz ps o).1 (Zz ps o).2:=(Of g hT o0 o1).R ((De g hT mV mV).mpr Z);let cw:Conn (XQ ps<|wo T o) (Zz ps z).1 (Zz ps z).2:=Yt λh=>rJ ((Of g hT z0 z1).mpr h)
    let up:∀{i j:Nat},i<n.j->j<n.j->mk (WY n.j<|XQ ps<|T.filter λy=>decide<|y∉o::tB) i=mk (WY n.j<|XQ ps<|T.filter λy=>decide<|y∉o::tB) j->Conn (XQ ps<|wo T o) i j:=λhi hj e=>((VT Wt hi hj).R e).mono (Vg Cw);let m:=(VT mU he.1 he.2).mpr c2
    rw[Lv,Nf,DB (by simp_all) (by simp_all)]at m;rcases m with m|⟨m1,m2⟩
    .show Up ((VT Wt he.1 he.2).R m)
    .rcases m1 with m1|m1<;>rcases m2 with m2|m2
     .show Up ((VT Wt he.1 he.2).R (m1.l m2.symm))
     .show own (((up he.1 GG.1 m1).symm.l cw).l (up he.2 GG.2 m2))
     .show own (((up he.2 GG.1 m2).symm.l cw.symm).l (up he.1 GG.2 m1))
     .show Up ((VT Wt he.1 he.2).R (m1.l m2.symm))
 let c:=key (T.filter λy=>decide<|z∉Tf n ps T y) λo ho=>by
  simp_all
 show c.mono (Vg λy hy=>?_);let(h1,h2):=Yr.R hy;let h2:=YO h2
 show Vp.mpr {h1,Yt λh=>h2<|Yr.mpr {h1,YE h}}
def Cv{a b:Ac}(ha:a.G (·<·))(hb:b.G (·<·))(h:∀z,z∈a↔z∈b):a=b:=
 (CY ha hb λz hz=>(h z).R hz).eq_of_length (Kb (CY ha hb λz hz=>(h z).R hz).length_le (CY hb ha λz hz=>(h z).mpr hz).length_le)
end My
namespace L2
open PySem PySem.Spec PyProof.Rows
section
variable{prog:Program}{w:World}{A:Around}{E:Ae}{s:Shared}{l:Addr}{xs:Array (Int×Tok)}
def Zj3{Q:Ae}(hl:s.r.IsTuple l (intItems xs))
  (h:∀s₂:Shared,s₂={s with heap:=s.r.push {cls:=.type "tuple_iterator",data:=.fields #[.ref l,.int 0 0]} }->
   (s₂.r.IsTupleIter (~~~s) l 0/\s₂.r.IsTuple l (intItems xs))->(∀b∈[(~~~s),l],b<(~~~s₂))->l≠(~~~s)->Q (.ref (~~~s)) s₂):
  wpAny (model prog w) A (pyIter<|.ref l) Q E s:=by
 let Xx:l<(~~~s):=by let(_,e,_):=hl;show Yk e
 show Kf hl (h _ Z {{_,Qd _ Z,Z,Z},hl.push _} (λb hb=>?_)<|Yw Xx);rw[Ox];grind
def ZF5{h':Heap}(hk:∀b o,b∉[(~~~s)]->(s.r.push {cls:=.type "tuple_iterator",data:=.fields #[.ref l,.int 0 0]}).E b=some o->h'.E b=some o):
  ∀b o,s.r.E b=some o->h'.E b=some o:=λb o e=>by
 show hk b o (λhm=>?_) (Xl _ e);rcases Yo.R hm with e1|hm
 .show absurd (e1▸Yk e) (RX _)
 grind
def ZP7{Q:Ae}(hh:A.handled=none)(hl:s.r.IsTuple l (intItems xs))(XJ:0<xs.o)
  (h:∀v h' tk,(intItems xs)[argBest (λi j=>decide<|numAt xs i>numAt xs j) (xs.o-1)]?=some v->(∀b o,s.r.E b=some o->h'.E b=some o)->Q v {s with heap:=h',toks:=tk}):
  wpAny (model prog w) A (call (.builtin "max") [.ref l]) Q E s:=by show call_max_walk (Zj3 hl λs₂ e st Ll Cu=>?_);subst e;show{_,_,_,_,_,_,_,Z,Walks.tuple (A:=A.in1) hh _ l Cu<|intItems xs,st,Ll,by simpa[intItems] using XJ,CmpOf.ints_gt (numAt xs) λ_ _=>Kh,λv h' tk hP hk=>?_};show h v h' tk (by simpa[intItems] using hP) (ZF5 hk)
def ZL7{Q:Ae}(hh:A.handled=none)(hl:s.r.IsTuple l (intItems xs))(XJ:0<xs.o)
  (h:∀v h' tk,(intItems xs)[argBest (λi j=>decide<|numAt xs i<numAt xs j) (xs.o-1)]?=some v->(∀b o,s.r.E b=some o->h'.E b=some o)->Q v {s with heap:=h',toks:=tk}):
  wpAny (model prog w) A (call (.builtin "min") [.ref l]) Q E s:=by show call_min_walk (Zj3 hl λs₂ e st Ll Cu=>?_);subst e;show{_,_,_,_,_,_,_,Z,Walks.tuple (A:=A.in1) hh _ l Cu<|intItems xs,st,Ll,by simpa[intItems] using XJ,CmpOf.ints_lt (numAt xs) λ_ _=>Kh,λv h' tk hP hk=>?_};show h v h' tk (by simpa[intItems] using hP) (ZF5 hk)
end
section
variable{X:Cx}
def ZQ8(K:Ad)(hc:X.calm=true)(hk:autoParam (X.K=K) D1._auto_1):VF X (.builtin "min") (λxs H Q=>∃(p:Addr)(ns:Ac),xs=[.ref p]/\SqT K H p (ns.H V.int)/\0<ns.f/\∀m:Int,m∈ns->(∀a∈ns,m<=a)->Q (.int m) H):=by
 subst hk;intro pins s σ H xs us Q I r h;let(p,ns,rfl,hq,hn,q):=h;let(u,rfl,ru):=Vi r;let rfl:u=Value.ref p:=ru;let(XS,rv,pl,hz):=I.tuple hq;let hi:=Zu rv
 let(xs,e):=hi.allInts.items;let Uw:ns=xs.m.H (·.1):=by rw[<-hi.numsOf,<-wJ,<-e]
 let hsz:0<xs.o:=by rwa[Uw,Yb,YI]at hn
 let hl:s.r.IsTuple p XS.C:=pl;rw[e]at hl;show ZL7 (I.ok.hd hc) hl hsz λv h' tk hv hk=>?_;let(t,rfl):=Kh hv;let(h1,h2):=argBest_lt (numAt xs) (xs.o-1);exists .int _,H,I.kept (t':=tk) hk,⟨t,Z⟩,q _ ?_ λa ha=>?_
 .rw[Uw,numAt_eq];grind
 .rw[Uw]at ha;let(j,hj,rfl):=mem_getD ha;rw[Yb,YI]at hj;rw[<-numAt_eq];show h2 j B
def ZR8(K:Ad)(hc:X.calm=true)(hk:autoParam (X.K=K) D1._auto_1):VF X (.builtin "max") (λxs H Q=>∃(p:Addr)(ns:Ac),xs=[.ref p]/\SqT K H p (ns.H V.int)/\0<ns.f/\∀m:Int,m∈ns->(∀a∈ns,a<=m)->Q (.int m) H):=by
 subst hk;intro pins s σ H xs us Q I r h;let(p,ns,rfl,hq,hn,q):=h;let(u,rfl,ru):=Vi r;let rfl:u=Value.ref p:=ru;let(XS,rv,pl,hz):=I.tuple hq;let hi:=Zu rv
 let(xs,e):=hi.allInts.items;let Uw:ns=xs.m.H (·.1):=by rw[<-hi.numsOf,<-wJ,<-e]
 let hsz:0<xs.o:=by rwa[Uw,Yb,YI]at hn
 let hl:s.r.IsTuple p XS.C:=pl;rw[e]at hl;show ZP7 (I.ok.hd hc) hl hsz λv h' tk hv hk=>?_;let(t,rfl):=Kh hv;let(h1,h2):=argBest_gt (numAt xs) (xs.o-1);exists .int _,H,I.kept (t':=tk) hk,⟨t,Z⟩,q _ ?_ λa ha=>?_
 .rw[Uw,numAt_eq];grind
 .rw[Uw]at ha;let(j,hj,rfl):=mem_getD ha;rw[<-numAt_eq];grind
end
end L2
namespace My
open PySem L2
def vj{i:Int}(h0:0<=i):XG xs (some i) none=xs.drop i.j:=by
 let e:HT.UB xs.f 0 (some i)=min i.j xs.f:=by change(if i<0 then (i+xs⁻¹).j else min i.j xs.f)=_;rw[Yh (by simp_all)]
 unfold XG;rw[e,HT.VD,Yv (by simp_all)]
 simp_all
def cutz{α:Type}(l:List α)(z:Int):(List α):=l.M z.j++l.drop (z.j+1)
def Jc{z:Int}(h0:0<=z):XG xs none (some z)++XG xs (some (z+1)) none=cutz xs z:=by rw[Yz8 h0,vj J,show(z+1).j=z.j+1 by lia];rfl
def PairsV.cutz(h:PairsV H xs ps)(z:Int):PairsV H (cutz xs z) (cutz ps z):=(h.M _).app (h.drop _)
def Zy8{α:Type}(l:List α)(z:Int):(cutz l z).f<=l.f:=by unfold cutz;rw[Xe,Yu,RZ];grind
def mS{α:Type}{l:List α}{z:Int}{x:α}(h:x∈cutz l z):x∈l:=by
 rcases Xk.R h with h|h
 .grind
 grind
def GoodW.cutz(g:GoodW n ps)(z:Int):GoodW n (cutz ps z):={g.1,g.2.1,Yl (Zy8 _ _) g.2.2.1,λp hp=>g.2.2.2 p<|mS hp}
def dn(lo hi i:Int):(Int):=if i=hi then lo else if i<hi then i else i-1
def Qs(lo hi:Int)(p:Int×Int):(Int×Int):=(dn lo hi p.1,dn lo hi p.2)
def Ct{lo hi n i:Int}(h0:0<=lo)(h1:lo<hi)(h2:hi<n)(h3:0<=i)(h4:i<n):0<=dn lo hi i/\dn lo hi i<n-1:=by unfold dn;grind
def Cs(g:GoodW n ps)(h0:0<=lo)(h1:lo<hi)(h2:hi<n):GoodW (n-1) (ps.H (Qs lo hi)):=by
 let(g1,g2,g3,g4):=g;show{J,J,by simp_all,λq hq=>?_};let(p,hp,rfl):=Yz.R hq;let(e1,e2,e3,e4):=g4 p hp;let a:=Ct h0 h1 h2 e1 e2
 let b:=Ct h0 h1 h2 e3 e4;exists a.1,a.2,b.1,b.2
def mR{n i:Nat}(h:i<n):(Wj n)[i]?=some (i:Int):=by
 unfold Wj
 simp_all
def mQ(i:Nat):Wj (i+1)=Wj i++[(i:Int)]:=by unfold Wj;rw[NN,YB];rfl
def mP(h0:0<=hi):((Wj n).H λi=>if i<hi then i else i-1).set hi.j lo=(Wj n).H (dn lo hi):=by
 show LP λi=>?_;rw[Hq];cases hn:i<n
 .rw[Yn,Yn,mR hn,Yb,Zy];cases e:hi.j=i
  .rw[Yi e,Yi (by simp_all)];show YF some ?_;unfold dn;rw[Yi J]
  .rw[Yh e];show YF some ?_;unfold dn;rw[Yh (show ¬(i:Int)=hi by lia)]
 .let z1:((Wj n).H λi=>if i<hi then i else i-1)[i]?=none:=FI (by rw[Yb,Zy];simp_all)
  simp_all
def Cr{n:Nat}{lo hi z:Int}(h0:0<=z)(h1:z<(n:Int)):((Wj n).H (dn lo hi))[z.j]?=some (dn lo hi z):=by rw[Yn,mR (by simp_all)];grind
end My
namespace L2
open PySem PySem.Spec PyProof.Rows
def Qr{N a b:St->Hp->Prop}{r:VK}{σ:St}{H:Hp}(h:N σ H):Ends.nx {nx:=N,rt:=r,bk:=a,ct:=b} σ H:=h
end L2
namespace My
def Cq{α:Type}{l:List α}(h:l.f=1):∃a,l=[a]:=by
 cases l with
 |nil=>cases h
 |cons a l=>cases l with
  |nil=>exists a,Z
  |cons b l=>simp at h
def Cp{α:Type}{l:List α}(h:l.f=2):∃a b,l=[a,b]:=by
 cases l with
 |nil=>cases h
 |cons a l=>
  let(b,rfl):=Cq (NI h);exists a,b,Z
def Co{α:Type}{l:List α}(h:l.f=3):∃a b c,l=[a,b,c]:=by
 cases l with
 |nil=>cases h
 |cons a l=>
  let(b,c,rfl):=Cp (NI h);exists a,b,c,Z
def Cn{α:Type}{l:List α}(h:l.f=4):∃a b c d,l=[a,b,c,d]:=by
 cases l with
 |nil=>cases h
 |cons a l=>
  let(b,c,d,rfl):=Co (NI h);exists a,b,c,d,Z
end My
namespace My
open PySem L2
def Jb{l:Ac}{f:Int->Bool}{y:Int}(h:l[i]?=some y):(l.M (i+1)).filter f=(l.M i).filter f++(if f y=true then [y] else []):=by rw[YA,h,VI];grind
end My
namespace L2
open PySem PySem.Spec PyProof.Rows
section
variable{X:Cx}
def mO:(R2):=λx y H Q=>∃a b xs ys,x=.ref a/\y=.ref b/\H a=some (.tup xs)/\H b=some (.tup ys)/\xs.f+ys.f<=sizeLine/\∀r H',Same H H'->H' r=some (.tup<|xs++ys)->Q ↑r H'
def mN(K:Ad)(hk:autoParam (X.K=K) D1._auto_1):Wy X (binaryOp .Add) mO:=by
 intro pins s σ H x y v u Q I rx ry h;let(a,b,xs,ys,e1,e2,ha,hb,hz,q):=h;show Pg K hk pins s σ H x y v u Q I rx ry {a,b,xs,ys,e1,e2,SqT.of ha,SqT.of hb,hz,λhx=>?_,λ_ hy=>?_,λ_ _ p hp=>q p _ (My.XY hp) XZ}
 .subst hx;show q b H (Same.refl H) hb
 .subst hy;show q a H (Same.refl H) (by simp_all)
end
end L2
namespace My
open PySem L2
def Conn.lift(h:∀e∈es,Conn fs e.1 e.2)(c:Conn es i j):Conn fs i j:=by
 induction c with
 |refl i=>show .refl i
 |edge e=>show h _ e
 |symm _ ih=>show ih.symm
 |trans _ _ Ob RL=>show Ob.l RL
def Za4(g:GoodW n ps)(hT:Zg n ps T)(hW:Zg n ps W)(hz:z∈T)(hzW:z∉W):∃y,exg n ps T z y/\exg n ps W y z:=by
 let(z0,z1):=hT.1.all z hz;show Yt λUp=>?_;show(Of g hT z0 z1).R ((De g hT hz hz).mpr Z) ((Zw5 g hW z0 z1).lift λe he=>?_);let(y,hy,rfl):=Yz.R he;let(mM,hyc):=Vp.R hy;let(y0,y1):=hW.1.all y mM;let hyz:y≠z:=λe=>hzW (e▸mM)
 have:=(Of (o:=z) g hT y0 y1)
 show Yt λh=>Up {y,{hz,hyz,this.mpr h},{mM,XH hyz,hyc}}
def mL(l:Ac):∃m:Ac,m.Perm l/\m.G (·<=·):=by
 induction l with
 |nil=>simp_all
 |cons x l ih=>
  let(m,h1,h2):=ih;let key:∀m:Ac,m.G (·<=·)->∃k:Ac,k.Perm (x::m)/\k.G (·<=·):=by
   intro m
   induction m with
   |nil=>simp_all
   |cons y m RL=>
    intro hp;let(hy,hm):=YN.R hp;cases Lk:x<=y
    .exists x::y::m,.refl _,YN.mpr {λz hz=>?_,hp};grind
    .let⟨k,k1,k2⟩:=RL hm;exists y::k,(k1.cons y).l (List.Perm.swap x y m),YN.mpr {λz hz=>?_,k2};grind
  let(k,k1,k2):=key m h2;exists k,k1.l<|h1.cons x,k2
def mK(s:SameP M N):cnt M=cnt N:=by
 unfold cnt Uy;rw[<-s.1];show YF List.f (Fz λp hp=>?_);let hp:=YY.R hp
 rw[Tp,XE,XE];constructor
 .intro h i hi e;show h i hi ((s.2 i p J hp).mpr e)
 .intro h i hi e;show h i hi ((s.2 i p J hp).R e)
def Zk4(g:GoodW n ps)(hU:Zg n ps U):∀V:Ac,V.Nodup->(∀z∈V,z∈U)->WI n.j ps V=V:=by
 show Nb (λ_ _=>rfl) λV z ih hn hs=>?_;let Ot:=VG.R hn
 let hV:∀y∈V,y∈U:=λy hy=>hs y (Yj _ hy);let hz:z∈U:=hs z (Yg _<|Xc.mpr Z)
 let hzV:z∉V:=λh=>Ot.2.2 z h z (Xc.mpr Z) rfl;let(z0,z1):=hU.1.all z hz;let he:=Tg (z:=z) g z0 z1
 rw[Lr,ih Ot.1 hV];unfold QZ;rw[Yh];intro e;let c:=(VT (ZO g λy hy=>hU.1.all y<|hV y hy) he.1 he.2).R e
 show(Of g hU z0 z1).R ((De g hU hz hz).mpr Z) (c.mono<|Vg λy hy=>Xj.mpr {hV y hy,λe'=>hzV<|by simp_all})
def mJ{as bs:Ac}(g:GoodW n ps)(h:∀y∈as,0<=y/\y<ps⁻¹)(z0:0<=z)(z1:z<ps⁻¹)(hz:z∉WI n.j ps (as++z::bs)):Conn (XQ ps (WI n.j ps as)) (Zz ps z).1 (Zz ps z).2:=by
 let(us,e,_):=vo n.j ps (as++[z]) bs;rw[YV]at e;let e:WI n.j ps (as++z::bs)=WI n.j ps (as++[z])++us:=e
 rw[e,Lr]at hz;let he:=Tg (z:=z) g z0 z1
 show(VT (GD g h) he.1 he.2).R (Yt λXJ=>hz ?_);unfold QZ;grind
def mI{as bs:Ac}{y:Int}(h:y∈WI n ps as):y∈WI n ps (as++bs):=by
 let(us,e,_):=vo n ps as bs
 simp_all
def Fr(n:Nat)(ps:Aa)(l:Ac):(Bool):=decide (WI n ps l=l)
def TJ(n:Nat)(ps:Aa)(k:Nat):(Ab):=(Uo ps⁻¹ k).filter (Fr n ps)
def mH(g:GoodW n ps):l∈TJ n.j ps (n-1).j↔Zg n ps l:=by
 unfold TJ;rw[Yr,WX];let g1:=g.1
 constructor
 .rintro⟨⟨h1,h2⟩,h3⟩;let e:WI n.j ps l=l:=YO h3
  let c:=vm g l h2.all;exists h2,J,(MZ B<|ZO g h2.all).R B
 .intro h;exists {by have:=h.2.1;lia,h.1},YE<|Zk4 g h l h.1.nodup λz hz=>hz
def MT(hT:Zg n ps T):T.G (·<·):=(XU.R hT.1).2
def UQ{a:Ac}(h:a.G (·<=·))(hn:a.Nodup):a.G (·<·):=(h.and hn).imp λh=>J
def ZP9(g:GoodW n ps):∀zs:Ac,(∀z∈zs,0<=z/\z<ps⁻¹)->(WI n.j ps zs).Nodup:=by
 show Nb (λ_=>List.G.nil) λzs z ih hb=>?_;let Pp:∀y∈zs,0<=y/\y<ps⁻¹:=λy hy=>hb y (Yj _ hy)
 let(z0,z1):=hb z (Yg _<|Xc.mpr Z);let he:=Tg (z:=z) g z0 z1
 rw[Lr];unfold QZ;split
 .show ih Pp
 .next XJ=>
  show VG.mpr {ih Pp,Fe,λa ha b mG e=>?_};rw[Xc.R mG]at e;subst e;show XJ ((VT (GD g Pp) he.1 he.2).mpr (.edge ?_));show Yz.mpr ⟨a,ha,Z⟩
def ZL6(g:GoodW n ps)(hb:∀z∈zs,0<=z/\z<ps⁻¹)(hl:¬((WI n.j ps zs).f:Int)<n-1)(TY:ms.Perm (WI n.j ps zs))(MX:ms.G (·<=·)):Zg n ps ms:=by
 let g1:=g.1;let h2:=vm g zs hb
 let h3:=oh (M:=WY n.j<|XQ ps<|WI n.j ps zs) (by rw[ZG];grind);let Sk:=(MZ B<|GD g hb).R B
 show{XU.mpr {λz hz=>hb z<|(vn _ _ _).subset (TY.mem_iff.R hz),UQ MX<|TY.nodup_iff.mpr<|ZP9 g zs hb},by rw[TY.length_eq];grind,λi j hi hj=>?_};show(Lx λy=>TY.mem_iff).mpr (Sk i j hi hj)
def mF{I os U:Ac}(g:GoodW n ps)(hU:Zg n ps U)(hI:I.Nodup)(mE:∀z∈I,z∈U)(mD:∀z∈U,z∈I++os)(hb:∀z∈I++os,0<=z/\z<ps⁻¹):(WI n.j ps (I++os)).M I.f=I/\¬((WI n.j ps (I++os)).f:Int)<n-1:=by
 let g1:=g.1;let(us,e,_):=vo n.j ps I os;rw[Zk4 g hU I hI mE]at e;show{by simp_all,?_};let Sk:∀i j,i<n.j->j<n.j->Conn (XQ ps<|WI n.j ps<|I++os) i j:=λi j hi hj=>nN g _ hb ((hU.2.2 i j hi hj).mono (Vg mD))
 let h1:=(MZ J<|GD g hb).mpr Sk;let h2:=vm g (I++os) hb
 grind
def vi{p r:Ac}{x:Int}(h:(p++x::r).G (·<·)):(∀z∈p,z<x)/\∀z∈x::r,x<=z:=by
 let a:=NQ.R h;exists λz hz=>a.2.2 z hz x Ya,λz hz=>?_;rcases Yo.R hz with h|h
 .rw[h];show Ko _
 .show Rt ((YN.R a.2.1).1 z h)
def Zb8{I os U F:Ac}(g:GoodW n ps)(hU:Zg n ps U)(mE:∀z∈I,z∈U)(mD:∀z∈U,z∈I++os)(hb:∀z∈I++os,0<=z/\z<ps⁻¹)(ho:os.G (·<·))(hF:Zg n ps F)(hf:F.Perm (WI n.j ps (I++os)))(hIF:∀z∈I,z∈F):HT.lexLt U F=false:=by
 cases TV:HT.lexLt U F with
 |false=>rfl
 |true=>
  exfalso;let(p,x,y,r,s,eU,ef,Lk):=nW (by have:=hF.2.1;have:=hU.2.1;lia) TV
  let Ja:x∈U:=by rw[eU];show Yg _ Ya
  let(x0,x1):=hU.1.all x Ja;let aU:=vi (eU▸MT hU)
  let aF:=vi (ef▸MT hF);let mC:x∉F:=λh=>by grind
  let hxI:x∉I:=λh=>mC (hIF x h);let hxo:x∈os:=(Xk.R<|mD x Ja).resolve_left hxI
  let(as,bs,eo):=List.append_of_mem hxo;let Pp:∀z∈I++as,0<=z/\z<ps⁻¹:=λz hz=>hb z ((Xk.R hz).elim (λh=>Yj _ h) λh=>Yg _<|by simp_all)
  let hxG:x∉WI n.j ps ((I++as)++x::bs):=by rw[YV,<-eo];show λh=>mC (hf.mem_iff.mpr h)
  let c:=mJ g Pp x0 x1 hxG;show(Of g hU x0 x1).R ((De g hU Ja Ja).mpr Z) (c.mono<|Vg λz hz=>?_);let vh:z∈F:=hf.mem_iff.mpr (by
   have:=mI (bs:=x::bs) hz
   simp_all)
  let hzx:z≠x:=λe=>mC (e▸vh);show Xj.mpr {?_,hzx};rcases Xk.R ((vn _ _ _).subset hz) with h|h
  .show mE z h
  grind
def With(n:Int)(ps:Aa)(I O U:Ac):(Prop):=Zg n ps U/\(∀z∈I,z∈U)/\∀z∈O,z∉U
def With.sub{I O U os:Ac}(h:With n ps I O U)(ho:∀z,z∈os↔(0<=z/\z<ps⁻¹)/\z∉O):∀z∈U,z∈I++os:=λz hz=>Yg _ ((ho z).mpr {h.1.1.all z hz,λh2=>h.2.2 z h2 hz})
end My
namespace L2
open PySem PySem.Spec PyProof.Rows
def Pa(K:Ad)(a:Addr)(m:Nat):(It):=
 {λi H=>i<m/\∃xs x,SqL K H a xs/\xs[m-1-i]?=some x,λi H x H'=>H'=H/\∀xs,SqL K H a xs->xs[m-1-i]?=some x,λi _=>i=m}
def OZ(K:Ad)(a:Addr)(m:Nat):(It):=
 {λi H=>i<m/\m<2^62/\∃xs x,SqT K H a xs/\xs[m-1-i]?=some x,λi H x H'=>H'=H/\∀xs,SqT K H a xs->xs[m-1-i]?=some x,λi _=>i=m}
def mB{P:Program}{w:World}{K:Ad}{tg:Expr}(a it:Addr)(m:Nat):Turn P w K tg (Pa K a m) [it] it (λi h=>h.IsRevIter it a ((m:Int)-1-(i:Int))) where
 mem:=Fe
 obj:=λi h st b hb=>by
  let e:b=it:=by simpa using hb
  subst e;let(o,e,c,d):=st;exists o,e,λv z=>by simp_all
 keep:=λi h h' st k=>st.at λo e=>k it Fe o e
 item:=by
  intro X hP hw hK hc i pins s σ H E I hf st hg;subst hP hw hK;let(him,xs,x,hq,hx):=hg;let(XS,rv,p,hz):=I.list hq;let(u,hu,ru):=rv.get hx;let(f0,f1,f2,f3,f4,f5):=hf it Fe;rw[show(m:Int)-1-(i:Int)=((m-1-i:Nat):Int) by grind]at st;show wpAny_pyNext_rev_item st p.isList (x:=u) (by simpa using hu) λh' XR sb=>?_;rw[show((m-1-i:Nat):Int)-1=(m:Int)-1-((i+1:Nat):Int) by grind]at XR;let I1:Inv X pins σ H {s with heap:=h'}:=I.turned (t':=s.toks) (λb o hb e=>(sb.2 b hb).l e) f0 f1 f3 f4 f5
  let(o,e,c,d):=id XR;exists u,Z,Ro (s:={s with heap:=h'}) e c d AP {x,H,I1,ru,{Z,λys hy=>by rwa[I.list_inj hy hq]},XR,λb hb=>(hf b hb).1}
 done:=by intro X hP hw hK hc i pins s σ H E I hf st hg;let rfl:i=m:=hg;rw[show(i:Int)-1-(i:Int)=-1 by lia]at st;let(f0,f1,f2,f3,f4,f5):=hf it Fe;show wpAny_pyNext_rev_end (I.ok.hd hc) st λh' eb=>{Z,I.turned (t':=s.toks) (λb o hb e=>eb b o hb e) f0 f1 f3 f4 f5}
 self:=λ_ _ _ _ _ st h=>sL st h
def mz{P:Program}{w:World}{K:Ad}{tg:Expr}(a it:Addr)(m:Nat):Turn P w K tg (OZ K a m) [it] it (λi h=>IsRv h it a ((m:Int)-1-(i:Int))) where
 mem:=Fe
 obj:=λi h st b hb=>by
  let e:b=it:=by simpa using hb
  subst e;let(o,e,c,d):=st;exists o,e,λv z=>by simp_all
 keep:=λi h h' st k=>st.keep λo e=>k it Fe o e
 item:=by
  intro X hP hw hK hc i pins s σ H E I hf st hg;subst hP hw hK;let(him,hm62,xs,x,hq,hx):=hg;let(XS,rv,p,hz):=I.tuple hq;let(u,hu,ru):=rv.get hx;let(f0,f1,f2,f3,f4,f5):=hf it Fe;rw[show(m:Int)-1-(i:Int)=((m-1-i:Nat):Int) by grind]at st;show nY st p (x:=u) (by simpa using hu) rO λh' tk XR sb=>?_;rw[show((m-1-i:Nat):Int)-1=(m:Int)-1-((i+1:Nat):Int) by grind]at XR;let I1:Inv X pins σ H {s with heap:=h',toks:=tk}:=I.turned (t':=tk) (λb o hb e=>(sb.2 b hb).l e) f0 f1 f3 f4 f5
  let(o,e,c,d):=id XR;exists u,Z,Ro (s:={s with heap:=h',toks:=tk}) e c d AP {x,H,I1,ru,{Z,λys hy=>by rwa[I.tuple_inj hy hq]},XR,λb hb=>(hf b hb).1}
 done:=by intro X hP hw hK hc i pins s σ H E I hf st hg;let rfl:i=m:=hg;rw[show(i:Int)-1-(i:Int)=-1 by grind]at st;let(f0,f1,f2,f3,f4,f5):=hf it Fe;show nX (I.ok.hd hc) st λh' eb=>{Z,I.turned (t':=s.toks) (λb o hb e=>eb b o hb e) f0 f1 f3 f4 f5}
 self:=λ_ _ _ _ _ st h=>Df st h
def my(K:Ad)(ta:TA):(TI):=λσ H R=>ta σ H λvs H1=>∃a,vs=[.ref a]/\((∃xs,SqL K H1 a xs/\R (Pa K a xs.f) H1)\/∃xs,SqT K H1 a xs/\R (OZ K a xs.f) H1)
section
variable{X:Cx}
def Cm(K:Ad){p pos:Pos}(hg:Gl X "reversed")(hm:X.mg "reversed"=none)(ha:PA X [a] ta)(hs:autoParam (starEach [a] X.X=[(false,eval a X.X)]) D1._auto_1)(hk:autoParam (X.K=K) D1._auto_1):
  PI X tg (.Call (.Name "reversed" p) [a] [] pos) (my K ta):=by
 subst hk;intro pins s σ H R I h;show Call_ (Rp I hg hm Boot.«reversed»<|Uj (thn (ha pos pins s σ H _ I h) λus s1 XB=>?_) hs Z);let(vs,H1,I1,r1,q1):=XB;let(b,e,q):=q1;subst e;let(u,rfl,ru):=Vi r1;let rfl:u=Value.ref b:=ru;rcases q with ⟨xs,hq,q⟩|⟨xs,hq,q⟩
 .let⟨XS,rv,pl,hz⟩:=I1.list hq;let el:XS.C.o=xs.f:=by rw[YR,<-rv.f]
  show call_reversed_list pl.isList ?_;let hit:(s1.r.push<|revObj b<|(XS.C.o:Int)-1).IsRevIter (~~~s1) b ((XS.C.o:Int)-1):={_,Qd _ Z,Z,Z}
  show sL (s:={s1 with heap:=s1.r.push (revObj b<|(XS.C.o:Int)-1)}) hit ?_;exists (~~~s1),[(~~~s1)],_,_,H1,Z,I1.kept (t':=s1.toks) λb o e=>Xl _ e,mB b _ xs.f,?_,λc hc=>?_,q
  .simp_all
  .let e:c=(~~~s1):=by simpa using hc
   subst e;show I1.fpOk (XI _) (I1.hok.fresh<|XI _)
 .let⟨XS,rv,pl,hz⟩:=I1.tuple hq;let el:XS.C.o=xs.f:=by rw[YR,<-rv.f]
  let Ck:sizeLine=16777216:=RU;show nZ pl J λtk1 h1 hit VS hz1=>?_;show Df (s:={s1 with heap:=h1,toks:=tk1}) hit ?_;exists (~~~s1),[(~~~s1)],_,_,H1,Z,I1.kept (t':=tk1) VS,mz b _ xs.f,?_,λc hc=>?_,q
  .simp_all
  .let e:c=(~~~s1):=by simpa using hc
   subst e;show I1.fpOk (XI _) (I1.hok.fresh<|XI _)
end
end L2
namespace My
open PySem L2
def mx{g:TG}{tb:TS}{tB:Ends}(h62:xs.f<2^62)(Pv:Nat->St->Hp->Prop)(h0:Pv 0 σ H)(hl:∀i σ H,i<=xs.f->Pv i σ H->SqK k K H a xs)
  (hs:∀i x σ H,xs[xs.f-1-i]?=some x->i<xs.f->Pv i σ H->g x σ H λσ2 H2=>tb {tB with nx:=Pv<|i+1,ct:=Pv<|i+1,bk:=tB.nx} σ2 H2)(hd:∀σ H,Pv xs.f σ H->tB.nx σ H):(∃xs,SqL K H a xs/\∃W:Nat->Nat->St->Hp->Prop,(∃m,W 0 m σ H)/\∀i m σ H,W i m σ H->
   ((Pa K a xs.f).stop i H/\tB.nx σ H)\/((Pa K a xs.f).go i H/\∃N:St->Hp->Prop,(∀σ' H',N σ' H'->∃m',m'<m/\W (i+1) m' σ' H')/\∀x H',(Pa K a xs.f).yld i H x H'->g x σ H' λσ2 H2=>tb {tB with nx:=N,ct:=N,bk:=tB.nx} σ2 H2))\/
  (∃xs,SqT K H a xs/\∃W:Nat->Nat->St->Hp->Prop,(∃m,W 0 m σ H)/\∀i m σ H,W i m σ H->
   ((OZ K a xs.f).stop i H/\tB.nx σ H)\/((OZ K a xs.f).go i H/\∃N:St->Hp->Prop,(∀σ' H',N σ' H'->∃m',m'<m/\W (i+1) m' σ' H')/\∀x H',(OZ K a xs.f).yld i H x H'->g x σ H' λσ2 H2=>tb {tB with nx:=N,ct:=N,bk:=tB.nx} σ2 H2)):=by
 cases k with
 |false=>
  show .inl {xs,hl 0 σ H (Yc _) h0,λi m σ H=>m=xs.f-i/\i<=xs.f/\Pv i σ H,{xs.f,Fe,Yc _,h0},?_};rintro i m σ H ⟨rfl,hi,p⟩;let q:SqL K H a xs:=hl i σ H hi p
  cases Xx:i<xs.f
  .let hx:xs[xs.f-1-i]?=some (xs[xs.f-1-i]'(by omega)):=Xw rO;show .inr {{Xx,xs,_,q,hx},Pv<|i+1,λσ' H' p'=>{xs.f-(i+1),B,Z,Xx,p'},λx H' zz=>?_};let(eH,hy):=zz;subst eH;show hs i x σ H' (hy xs q) Xx p
  .let e:i=xs.f:=J;subst e;show .inl {Z,hd σ H p}
 |true=>
  show .inr {xs,hl 0 σ H (Yc _) h0,λi m σ H=>m=xs.f-i/\i<=xs.f/\Pv i σ H,{xs.f,Fe,Yc _,h0},?_};rintro i m σ H ⟨rfl,hi,p⟩;let q:SqT K H a xs:=hl i σ H hi p
  cases Xx:i<xs.f
  .let hx:xs[xs.f-1-i]?=some (xs[xs.f-1-i]'(by omega)):=Xw rO;show .inr {{Xx,h62,xs,_,q,hx},Pv<|i+1,λσ' H' p'=>{xs.f-(i+1),B,Z,Xx,p'},λx H' zz=>?_};let(eH,hy):=zz;subst eH;show hs i x σ H' (hy xs q) Xx p
  .let e:i=xs.f:=B;subst e;show .inl {Z,hd σ H p}
def Dp(t:Int)(T U:Ac):(Prop):=t∈T/\t∉U/\∀z,z<t->(z∈T↔z∈U)
def Zr6{T:Ac}(h:T.G (·<·))(t:Int):T=T.filter (λz=>decide (z<t))++T.filter (λz=>decide (t<=z)):=by
 induction T with
 |nil=>rfl
 |cons x T ih=>
  let(h1,h2):=YN.R h;cases hx:x<t
  .grind
  .let e1:T.filter (λz=>decide<|z<t)=[]:=bV.mpr λz hz=>B;grind
def Cj(hT:Zg n ps T)(hU:Zg n ps U)(h:Dp t T U):WV T U:=by
 let(h1,h2,h3):=h;let aT:=MT hT
 let aU:=MT hU;let eT:=Zr6 aT t
 let eU:=Zr6 aU t;let e0:T.filter (λz=>decide<|z<t)=U.filter (λz=>decide<|z<t):=Cv (aT.filter _) (aU.filter _) λz=>by
  constructor
  .grind
  grind
 let mT:t∈T.filter (λz=>decide<|t<=z):=Yr.mpr ⟨h1,Fe⟩;let hlen:T.f=U.f:=by have:=hT.2.1;have:=hU.2.1;lia
 rw[e0]at eT;let SI:(T.filter λz=>decide<|t<=z).f=(U.filter λz=>decide<|t<=z).f:=by
  let a:=YF List.f eT;let b:=YF List.f eU
  rw[Xe]at a b;lia
 let aT2:=aT.filter λz=>decide (t<=z);let mT2:∀z∈T.filter λz=>decide<|t<=z,t<=z:=λz hz=>YO (Yr.R hz).2
 let mU2:∀z∈U.filter λz=>decide<|t<=z,t<z:=λz hz=>by grind
 let key:HT.lexLt (U.filter (λz=>decide<|z<t)++T.filter λz=>decide<|t<=z) (U.filter (λz=>decide<|z<t)++U.filter λz=>decide<|t<=z)=true:=by
  rw[mZ];clear eT eU e0;generalize T.filter (λz=>decide<|t<=z)=A at *;generalize U.filter (λz=>decide<|t<=z)=rH at *;cases A with
  |nil=>cases mT
  |cons x A=>
   cases rH with
   |nil=>cases SI
   |cons y rH=>
    let hx:x=t:=by
     rcases Yo.R mT with e|e
     .show e.symm
     .have:=(YN.R aT2).1 t e
      have:=mT2 x Ya
      grind
    let hy:=mU2 y Ya
    have:x<y:=by simp_all
    simp[HT.lexLt,this,Int.ne_of_lt this]
 rwa[<-eT,<-eU]at key
def Ci(hT:Zg n ps T)(hU:Zg n ps U)(h:WV T U):∃t,Dp t T U:=by
 let(p,x,y,r,s,eT,eU,Lk):=nW (by have:=hT.2.1;have:=hU.2.1;grind) h;let aT:=vi (eT▸MT hT)
 let aU:=vi (eU▸MT hU);exists x,by rw[eT];simp,λhx=>?_,λz hz=>?_
 .grind
 grind
def Uv(l:Ac)(t:Int):(Ac):=l.filter λz=>decide (z<t)
def Wq{t z:Int}:z∈Uv l t↔z∈l/\z<t:=by unfold Uv;simp_all
def mw(hT:Zg n ps T)(hD:∀z,z∈tB↔(0<=z/\z<ps⁻¹)/\z∉T)(ht:t∈T):With n ps (Uv T t) (Uv tB t++[t]) U↔Zg n ps U/\Dp t T U:=by
 constructor
 .rintro⟨a,b,c⟩;exists a,ht,c t Fe,λz hz=>{λh=>b z<|Wq.mpr ⟨h,hz⟩,λh=>?_};cases GF:z∈T
  .show GF
  .show absurd h (c z<|Yj _<|Wq.mpr {(hD z).mpr {a.1.all z h,GF},hz})
 .rintro⟨a,_,b,c⟩;exists a,λz hz=>?_,λz hz h=>?_
  .have:=Wq.R hz
   show(c z this.2).R this.1
  .rcases Xk.R hz with e|e
   .have:=Wq.R e
    show((hD z).R this.1).2 ((c z this.2).mpr h)
   simp_all
def mv(n:Int)(ps:Aa)(T F:Ac):(Prop):=Zg n ps F/\WV T F/\∀U,Zg n ps U->WV T U->HT.lexLt U F=false
def Zh4(h:WV a b):HT.lexLt b a=false:=by
 cases e:HT.lexLt b a with
 |false=>rfl
 |true=>show(mY h e).elim
def mq(hT:Zg n ps T)(hD:∀z,z∈tB↔(0<=z/\z<ps⁻¹)/\z∉T)(ht:t∈T)(Up:∀t'∈T,t<t'->∀U,Zg n ps U->¬Dp t' T U)
  (hF:With n ps (Uv T t) (Uv tB t++[t]) F)(hl:∀U,With n ps (Uv T t) (Uv tB t++[t]) U->HT.lexLt U F=false):mv n ps T F:=by
 let Sj:=(mw hT hD ht).R hF;exists Sj.1,Cj hT Sj.1 Sj.2,λU hU TV=>?_;let(t',hd):=Ci hT hU TV;rcases(by lia:t<t'\/t'=t\/t'<t) with e|e|e
 .show(Up t' hd.1 e U hU hd).elim
 .show hl U ((mw hT hD ht).mpr {hU,e▸hd})
 .show Zh4 (Cj (t:=t') Sj.1 hU {(Sj.2.2.2 t' e).R hd.1,hd.2.1,λz hz=>?_});rw[<-Sj.2.2.2 z J];show hd.2.2 z hz
def ml(hT:Zg n ps T)(Up:∀t'∈T,∀U,Zg n ps U->¬Dp t' T U):∀U,Zg n ps U->¬WV T U:=λU hU h=>by let(t,hd):=Ci hT hU h;show Up t hd.1 U hU hd
def vg{L:Ab}(h:L.G WV){i j:Nat}{a b:Ac}(hi:L[i]?=some a)(hj:L[j]?=some b)(WB:i<j):WV a b:=by
 let(h1,e1):=Xv.R hi;let(h2,e2):=Xv.R hj
 have:=UH.R h i j h1 h2 WB
 lia
def mj{L:Ab}{T F:Ac}{i:Nat}(hm:∀l,l∈L↔Zg n ps l)(h:L.G WV)(hi:L[i]?=some T)(hF:mv n ps T F):L[i+1]?=some F:=by
 let(j,hj):=Yx ((hm F).mpr hF.1);rcases(by lia:j<i\/j=i\/j=i+1\/i+1<j) with e|e|e|e
 .show(mY hF.2.1<|vg h hj hi e).elim
 .rw[e,hi]at hj;show(Cy hF.2.1<|Ym hj).elim
 .lia
 .let Xx:=(Xv.R hj).1;obtain⟨U,hU⟩:∃U,L[i+1]?=some U:={_,Xw J};let h1:=hF.2.2 U ((hm U).R (Xf hU)) (vg h hi hU<|by simp_all)
  let h2:=vg h hU hj e
  simp_all
def mi{L:Ab}{T:Ac}{i:Nat}(hm:∀l,l∈L↔Zg n ps l)(h:L.G WV)(hi:L[i]?=some T)(hF:∀U,Zg n ps U->¬WV T U):L[i+1]?=none:=by
 cases e:L[i+1]? with
 |none=>rfl
 |some U=>show(hF U ((hm U).R (Xf e))<|vg h hi e<|by simp_all).elim
def Cg(H:Hp)(v:V)(o:Option Ac):(Prop):=match o with|none=>v=.non|some l=>WA H v l
def mh(n:Int)(ps:Aa)(T:Ac)(o:Option Ac):(Prop):=match o with|none=>∀U,Zg n ps U->¬WV T U|some F=>mv n ps T F
def TC(n:Int)(ps:Aa)(c:Nat):(Prop):=∃L:Ab,L.Nodup/\(∀l,l∈L↔Zg n ps l)/\L.f=c
def TC.uniq(h1:TC n ps c)(h2:TC n ps d):c=d:=by let(L,a1,a2,rfl):=h1;let(M,b1,b2,rfl):=h2;show((Kz a1 b1).mpr λl=>by rw[a2,b2]).length_eq
def mf:TC 1 [] 1:=by
 exists [[]],Fe,λl=>?_,Z;rw[Xc];constructor
 .rintro rfl;show⟨IsSet.nil _,Fe,λi j hi hj=>by
   have:i=j:=by simp_all
   rw[this];show .refl j⟩
 .intro h
  have:=h.1.len
  simp_all
def me(h:n≠1):TC n [] 0:=by
 exists [],.nil,λl=>{λz=>(by cases z),λz=>?_},Z;let h1:=z.1.len
 let h2:=z.2.1;grind
def OY:IsSet (m+1) (T++[(m:Int)])↔IsSet m T:=by
 constructor
 .intro h;let a:=XU.R h
  let b:=NQ.R a.2;show XU.mpr {λz hz=>?_,b.1}
  simp_all
 .show λh=>h.snoc
def Cf(h:IsSet (m+1) T):IsSet m T\/∃T',T=T'++[(m:Int)]/\IsSet m T':=by
 let a:=XU.R h;cases hm:(m:Int)∈T
 .let⟨p,r,e⟩:=List.append_of_mem hm;cases r with
  |nil=>show .inr {p,e,OY.R<|e▸h}
  |cons y r=>
   let h1:=a.1 y (by rw[e];simp);let h2:=(YN.R (NQ.R<|e▸a.2).2.1).1 y Ya
   omega
 .show .inl (XU.mpr {λz hz=>?_,a.2});grind
def Ce{p:Int×Int}(h:IsSet qs.f T):XQ (qs++[p]) T=XQ qs T:=by
 show YQ λz hz=>?_;let a:=h.all z hz
 grind
def md(qs:Aa)(p:Int×Int):Zz (qs++[p]) qs⁻¹=(p.1.j,p.2.j):=by
 unfold Zz
 simp_all
def vf{p:Int×Int}(h:IsSet qs.f T):Zg n (qs++[p]) T↔Zg n qs T:=by
 let e:=Ce (p:=p) h;let h2:IsSet (qs++[p]).f T:=by rw[Xe];show h.up
 constructor
 .rintro⟨_,a,b⟩;exists h,a,e▸b
 .rintro⟨_,a,b⟩;exists h2,a,e▸b
def Zp5{p:Int×Int}(h:IsSet qs.f T):Zg n (qs++[p]) (T++[qs⁻¹])↔(T⁻¹=n-2/\∀i j,i<n.j->j<n.j->Conn (XQ qs T++[(p.1.j,p.2.j)]) i j):=by
 let e:XQ (qs++[p]) (T++[qs⁻¹])=XQ qs T++[(p.1.j,p.2.j)]:=by rw[Lv,Ce h,md]
 let h2:IsSet (qs++[p]).f (T++[qs⁻¹]):=by rw[Xe];show h.snoc
 constructor
 .rintro⟨_,a,b⟩;exists ?_,e▸b;rw[Xe,YK]at a;lia
 .rintro⟨a,b⟩;exists h2,?_,e▸b;rw[Xe,YK];lia
def dN(lo hi i:Nat):(Nat):=if i=hi then lo else if i<hi then i else i-1
def uN(hi i:Nat):(Nat):=if i<hi then i else i+1
def MS(i:Nat):dN lo hi (uN hi i)=i:=by
 let h:uN hi i=if i<hi then i else i+1:=rfl
 unfold dN;lia
def l9(h:lo<hi)(e:dN lo hi i=dN lo hi j):i=j\/(i=lo/\j=hi)\/(i=hi/\j=lo):=by unfold dN at e;split at e<;>split at e<;>(try split at e)<;>(try split at e)<;>lia
def Cd{es:List (Nat×Nat)}{i j:Nat}(h:lo<hi)(c:Conn (es++[(lo,hi)]) i j):Conn (es.H λe=>(dN lo hi e.1,dN lo hi e.2)) (dN lo hi i) (dN lo hi j):=by
 induction c with
 |refl i=>show .refl _
 |edge q=>
  rcases Xk.R q with q|q
  .show .edge (Yz.mpr {_,q,Z})
  .let e:=Xc.R q;injection e with e1 e2
   let e3:dN lo hi lo=lo:=by unfold dN;rw[Yh J,Yi h]
   let e4:dN lo hi hi=lo:=by unfold dN;rw[Yi Z]
   rw[e1,e2,e3,e4];show .refl _
 |symm _ ih=>show .symm ih
 |trans _ _ a b=>show .trans a b
def Cc{es:List (Nat×Nat)}{u v:Nat}(h:lo<hi)(c:Conn (es.H λe=>(dN lo hi e.1,dN lo hi e.2)) u v):∀i j,dN lo hi i=u->dN lo hi j=v->Conn (es++[(lo,hi)]) i j:=by
 let he:Conn (es++[(lo,hi)]) lo hi:=.edge Fe;let same:∀i j,dN lo hi i=dN lo hi j->Conn (es++[(lo,hi)]) i j:=λi j e=>by
  rcases l9 h e with e|⟨e1,e2⟩|⟨e1,e2⟩
  .rw[e];show .refl _
  .simp_all
  .rw[e1,e2];show he.symm
 induction c with
 |refl u=>simp_all
 |edge q=>
  intro i j e1 e2;let((a,b),Vq,e):=Yz.R q;injection e with x1 x2
  show(same i a<|e1.l x1.symm).l (.trans (.edge<|Yj _ Vq)<|same b j<|x2.l e2.symm)
 |symm _ ih=>show λi j e1 e2=>(ih j i e2 e1).symm
 |@trans x y z _ _ Ob RL=>show λi j e1 e2=>(Ob i (uN hi y) e1<|MS y).l (RL (uN hi y) j (MS y) e2)
def ZG8{lo hi n:Nat}{es:List (Nat×Nat)}(h:lo<hi)(hn:hi<n):(∀i j,i<n->j<n->Conn (es++[(lo,hi)]) i j)↔∀i j,i<n-1->j<n-1->Conn (es.H λe=>(dN lo hi e.1,dN lo hi e.2)) i j:=by
 let dlt:∀i,i<n->dN lo hi i<n-1:=λi Ww=>by unfold dN;grind
 let ult:∀i,i<n-1->uN hi i<n:=λi Ww=>by unfold uN;grind
 constructor
 .intro c i j h1 h2
  have:=Cd h (c (uN hi i) (uN hi j) (ult i h1)<|ult j h2)
  rwa[MS,MS]at this
 .show λc i j h1 h2=>Cc h (c _ _ (dlt i h1)<|dlt j h2) i j Z rfl
def ve{es:List (Nat×Nat)}{a b i j:Nat}(c:Conn (es++[(a,b)]) i j):Conn (es++[(b,a)]) i j:=c.lift λe he=>by
 rcases Xk.R he with q|q
 .show .edge (Yj _ q)
 .rw[Xc.R q];show .symm (.edge Fe)
def l8{n lo hi:Int}(g:∀p∈qs,0<=p.1/\p.1<n/\0<=p.2/\p.2<n)(l0:0<=lo)(l1:lo<hi)(h:IsSet qs.f T):XQ (qs.H (Qs lo hi)) T=(XQ qs T).H λe=>(dN lo.j hi.j e.1,dN lo.j hi.j e.2):=by
 unfold XQ;rw[Ov];show YQ λz hz=>?_;let a:=h.all z hz
 obtain⟨p,hp⟩:∃p,qs[z.j]?=some p:={_,Xw<|by simp_all};let(e1,e2,e3,e4):=g p (Xf hp);let key:∀x:Int,0<=x->(dn lo hi x).j=dN lo.j hi.j x.j:=λx hx=>by
  let e:dn lo hi x=if x=hi then lo else if x<hi then x else x-1:=rfl
  let f:dN lo.j hi.j x.j=if x.j=hi.j then lo.j else if x.j<hi.j then x.j else x.j-1:=rfl
  cases c:x=hi
  .simp_all
  .rw[Yh c]at e;rw[Yh (show ¬x.j=hi.j by lia)]at f;cases d:x<hi
   .rw[Yi d]at e;grind
   .rw[Yh B]at f
    simp_all
 simp only[Function.comp,We,Yn,hp,Option.map_some,Option.getD_some];unfold Qs
 simp_all
def Cb{qs:Aa}{p:Int×Int}(g:GoodW n (qs++[p]))(l0:0<=lo)(l1:lo<hi)(h1:hi<n)(hp:(lo=p.1/\hi=p.2)\/(lo=p.2/\hi=p.1))(h:IsSet qs.f T):
  Zg n (qs++[p]) (T++[qs⁻¹])↔Zg (n-1) (qs.H<|Qs lo hi) T:=by
 let g4:∀p∈qs,0<=p.1/\p.1<n/\0<=p.2/\p.2<n:=λq hq=>g.2.2.2 q (Yj _ hq);let hc:(∀i j,i<n.j->j<n.j->Conn (XQ qs T++[(p.1.j,p.2.j)]) i j)↔∀i j,i<n.j->j<n.j->Conn (XQ qs T++[(lo.j,hi.j)]) i j:=by
  rcases hp with ⟨e1,e2⟩|⟨e1,e2⟩
  .rw[e1,e2]
  .rw[e1,e2];exists λc i j a b=>ve<|c i j a b,λc i j a b=>ve<|c i j a b
 rw[Zp5 h,hc,ZG8 rO B,<-l8 g4 l0 l1 h];let hl:(qs.H<|Qs lo hi).f=qs.f:=Yb ..
 constructor
 .rintro⟨a,b⟩;exists hl▸h,J,λi j x y=>b i j (by simp_all)<|by simp_all
 .rintro⟨_,a,b⟩;grind
def l7{qs:Aa}{p:Int×Int}(g:GoodW n (qs++[p]))(hp:p.1=p.2)(h:IsSet qs.f T):¬Zg n (qs++[p]) (T++[qs⁻¹]):=λht=>by
 let g1:=g.1;let a:=(Zp5 h).R ht
 let g4:GoodW n qs:={g.1,g.2.1,by have:=g.2.2.1;grind,λq hq=>g.2.2.2 q<|Yj _ hq};let Sk:∀i j,i<n.j->j<n.j->Conn (XQ qs T) i j:=λi j x y=>(a.2 i j x y).lift λe he=>by
  rcases Xk.R he with q|q
  .show .edge q
  .rw[Xc.R q,hp];show .refl _
 let Wt:=ZO (ns:=T) g4 h.all;let h2:=(MZ B Wt).mpr Sk
 let h3:=Dj _ Wt;rw[show(XQ qs T).f=T.f from Yb ..]at h3;grind
def l6{p:Int×Int}(g:GoodW n (qs++[p]))(hp:p.1=p.2)(h:TC n qs c):TC n (qs++[p]) c:=by
 let(L,a1,a2,a3):=h;exists L,a1,λl=>?_,a3;rw[a2];constructor
 .show λh=>(vf h.1).mpr h
 .intro h;let hs:=h.1
  rw[Xe]at hs;rcases Cf hs with e|⟨T',e,e2⟩
  .show(vf e).R h
  .show absurd (e▸h) (l7 g hp e2)
def lZ{p:Int×Int}{c d:Nat}(g:GoodW n (qs++[p]))(l0:0<=lo)(l1:lo<hi)(h1:hi<n)(hp:(lo=p.1/\hi=p.2)\/(lo=p.2/\hi=p.1))(hc:TC n qs c)(hd:TC (n-1) (qs.H (Qs lo hi)) d):TC n (qs++[p]) (c+d):=by
 let(L,a1,a2,rfl):=hc;let(M,b1,b2,rfl):=hd;let hl:(qs.H<|Qs lo hi).f=qs.f:=Yb ..
 exists L++M.H (·++[qs⁻¹]),VG.mpr {a1,?_,λx hx y hy e=>?_},λl=>?_,by simp_all
 .show List.G.H _ (λa b h e=>h<|cf e) b1
 .let⟨z,hz,e2⟩:=Yz.R hy;let h1:=((a2 x).R hx).1.all qs⁻¹ B
  simp_all
 .rw[Xk,a2,Yz];constructor
  .rintro(h|⟨T,hT,rfl⟩)
   .show(vf h.1).mpr h
   .have:=(b2 T).R hT
    show(Cb g l0 l1 h1 hp<|hl▸this.1).mpr this
  .intro h;let hs:=h.1
   rw[Xe]at hs;rcases Cf hs with e|⟨T',e,e2⟩
   .show .inl ((vf e).R h)
   .show .inr {T',(b2 T').mpr ((Cb g l0 l1 h1 hp e2).R (e▸h)),e.symm}
end My
namespace L2
open PySem PySem.Spec PyProof.Rows
def Gs(K:Ad)(a b:Addr):(It):=
 ⟨λi H=>∃xs ys x y,SqL K H a xs/\SqL K H b ys/\xs[i]?=some x/\ys[i]?=some y,λi H v H'=>∃T x y,H T=none/\v=.ref T/\H'=upd H T (.tup [x,y])/\(∀xs,SqL K H a xs->xs[i]?=some x)/\∀ys,SqL K H b ys->ys[i]?=some y,
  λi H=>∃xs ys,SqL K H a xs/\SqL K H b ys/\(xs.f<=i\/ys.f<=i)⟩
def lY{P:Program}{w:World}{K:Ad}{elts:List Expr}{x1:Nat}{pos:Pos}(a b z TI TO i1 i2:Addr)(tB:ZipApart z TI TO i1 i2 a b):
  Turn P w K (.Tuple elts x1 pos) (Gs K a b) [z,TI,TO,i1,i2] z (λi h=>IsZip h z TI TO .none/\IsPair h TI ↑i1 ↑i2/\(∃c d,IsPair h TO c d)/\h.IsListIter i1 a i/\h.IsListIter i2 b i) where
 mem:=Fe
 obj:=λi h st c hc=>by let(hz,Oa,(u,v,MR),(o1,e1,_,d1),(o2,e2,_,d2)):=st;grind
 keep:=λi h h' st k=>by let(hz,Oa,(u,v,MR),h1,h2):=st;exists k z Fe _ hz,k TI Fe _ Oa,{u,v,k TO Fe _ MR},h1.at λo e=>k i1 Fe o e,h2.at λo e=>k i2 Fe o e
 item:=by
  intro X hP hw hK hc i pins s σ H E I hf st hg;subst hP hw hK;let(xs,ys,x,y,hq,SF,hx,hy):=hg;let(hz,Oa,(u0,v0,MR),h1,h2):=st;let(XS,rv,p,_):=I.list hq;let(u,hu,ru):=rv.get hx;let(Vs,vd,p2,_):=I.list SF;let(v,hv,lX):=vd.get hy;let fz:=hf z Fe
  let QX:=hf TO Fe;let QW:=hf i1 Fe
  let QV:=hf i2 Fe;let vQ:H (~~~s)=none:=I.hok.fresh (XI _)
  show wpAny_pyNext_zip_item tB hz Oa MR h1 h2 p.isList p2.isList (x:=u) (y:=v) (by simpa using hu) (by simpa using hv) λh' a1 a2 a3 a4 a5 hsz hk=>?_;let Oh:∀b ob,s.r.E b=some ob->b≠(~~~s):=λb ob z=>Yw (Yk z)
  let Po:∀b ob,H b=some ob->b≠(~~~s):=λb ob z=>Yw (I.hok.lt z);let nof:∀c ob,H c=some ob->c≠z/\c≠TO/\c≠i1/\c≠i2:=λc ob q=>{λe=>(by rw[e,fz.1]at q;cases q),λe=>(by rw[e,QX.1]at q;cases q),λe=>(by rw[e,QW.1]at q;cases q),λe=>(by rw[e,QV.1]at q;cases q)}
  let Lj:∀c o,c∉[z,TO,i1,i2]->s.r.E c=some o->h'.E c=some o:=λc o VQ q=>hk c o (λe=>VQ<|by simp[e]) (λe=>VQ<|by simp[e]) (λe=>VQ<|by simp[e]) (λe=>VQ<|by simp[e]) q;let I1:Inv X pins σ (upd H (~~~s)<|.tup [x,y]) {s with heap:=h'}:=by
   show I.step (g':=s.gens) (d':=s.drawn) (t':=s.toks) (ch:=[z,TO,i1,i2]) (λc hb=>?_) (λc o _ _ VQ q _=>Lj c o VQ q) (λc o _ _ VQ q _=>{o.slots,Lj c o VQ q})
    (λc o _ q n=>by rwa[Zb (Oh c o q)]) (λc o VQ q=>{o,Lj c o VQ q}) (λc ys q=>by rwa[Zb (Po c _ q)]) (λc o v q=>by rwa[Zb (Po c _ q)])
    (λc ps q=>{#[],by rw[Zb (Po c _ q),q];simp}) (λm hm=>?_) (λc v' q=>?_) I.bare
   .let Vj:c=z\/c=TO\/c=i1\/c=i2:=by simpa using hb
    rcases Vj with rfl|rfl|rfl|rfl
    .exists fz.2.2.2.1,fz.2.1,fz.2.2.2.2.1,fz.2.2.2.2.2
    .exists QX.2.2.2.1,QX.2.1,QX.2.2.2.2.1,QX.2.2.2.2.2
    .exists QW.2.2.2.1,QW.2.1,QW.2.2.2.2.1,QW.2.2.2.2.2
    .exists QV.2.2.2.1,QV.2.1,QV.2.2.2.2.1,QV.2.2.2.2.2
   .let⟨o,es,ep,TH,r⟩:=hm;exists o,es,ep,hk _ o (XH fz.2.1) (XH QX.2.1) (XH QW.2.1) (XH QV.2.1) TH,r
   .cases hb:c=(~~~s)
    .subst hb;rw[XZ]at q;cases q;exists by change 2<=sizeLine;decide,[u,v],.cons ru<|.cons lX .nil,{_,a5,Z,_,Z}
    .rw[Zb hb]at q;show(I.hok c v' q).stay (λe w' Vj q'=>?_) (λe q=>by rwa[Zb (Po e _ q)]) λe ys q=>by rwa[Zb (Po e _ q)]
     grind
  exists _,Z,wpAny_letOwnedTupleGo_zip a1 λh2 GF UC=>?_;let fT:z≠(~~~s):=Oh z _ hz
  let I2:Inv X pins σ (upd H (~~~s)<|.tup [x,y]) {s with heap:=h2}:=Inv.turned (s:={s with heap:=h'}) (h':=h2) (t':=s.toks) (it:=z) I1 (λb o hb q=>UC.extBut b o hb q) (by rw[Zb fT];show fz.1) fz.2.1 fz.2.2.2.1 fz.2.2.2.2.1 fz.2.2.2.2.2;show⟨.ref (~~~s),_,I2,Z,{_,x,y,vQ,Z,Z,λys lW=>by rw[I.list_inj lW hq];show hx,λys lW=>by rwa[I.list_inj lW SF]},
   {GF,UC.extBut _ _ tB.TIz (Lj _ _ (by have:=tB.TIz;have:=tB.TITO;have:=tB.TIi1;have:=tB.TIi2;grind) Oa),⟨u,v,UC.extBut _ _ tB.TOz a2⟩,a3.at λo q=>UC.extBut i1 o tB.i1z q,a4.at λo q=>UC.extBut i2 o tB.i2z q},λc hc=>?_⟩
  let Vj:c=z\/c=TI\/c=TO\/c=i1\/c=i2:=by simpa using hc
  let hn:=(hf c hc).1;rcases Vj with rfl|rfl|rfl|rfl|rfl
  .rw[Zb fT];show hn
  .rw[Zb (Oh _ _ Oa)];show hn
  .rw[Zb (Oh _ _ MR)];show hn
  .let⟨o,eo,_⟩:=h1;rwa[Zb (Oh _ o eo)]
  .let⟨o,eo,_⟩:=h2;rwa[Zb (Oh _ o eo)]
 done:=by
  intro X hP hw hK hc i pins s σ H E I hf st hg;subst hP hw hK;let(xs,ys,hq,SF,hend):=hg;let(hz,Oa,(u0,v0,MR),h1,h2):=st;let(XS,rv,p,_):=I.list hq;let(Vs,vd,p2,_):=I.list SF;let l1:=rv.f
  let l2:=vd.f;let fz:=hf z Fe
  let QX:=hf TO Fe;let QW:=hf i1 Fe
  let QV:=hf i2 Fe;show wpAny_pyNext_zip_end (I.ok.hd hc) tB hz Oa MR h1 h2 p.isList p2.isList (by
   simp_all) λh' hk=>{Z,?_}
  let Lj:∀c o,c∉[z,TO,i1,i2]->s.r.E c=some o->h'.E c=some o:=λc o VQ q=>hk c o (λe=>VQ<|by simp[e]) (λe=>VQ<|by simp[e]) (λe=>VQ<|by simp[e]) (λe=>VQ<|by simp[e]) q;let nof:∀c ob,H c=some ob->c≠z/\c≠TO/\c≠i1/\c≠i2:=λc ob q=>{λe=>(by rw[e,fz.1]at q;cases q),λe=>(by rw[e,QX.1]at q;cases q),λe=>(by rw[e,QW.1]at q;cases q),λe=>(by rw[e,QV.1]at q;cases q)}
  show I.step (g':=s.gens) (d':=s.drawn) (t':=s.toks) (ch:=[z,TO,i1,i2]) (λc hb=>?_) (λc o _ _ VQ q _=>Lj c o VQ q) (λc o _ _ VQ q _=>{o.slots,Lj c o VQ q})
   (λc o _ q n=>n) (λc o VQ q=>{o,Lj c o VQ q}) (λc ys q=>q) (λc o v q=>q)
   (λc ps q=>{#[],by rw[q];simp}) (λm hm=>?_) (λc v' q=>?_) I.bare
  .let Vj:c=z\/c=TO\/c=i1\/c=i2:=by simpa using hb
   rcases Vj with rfl|rfl|rfl|rfl
   .exists fz.2.2.2.1,fz.2.1,fz.2.2.2.2.1,fz.2.2.2.2.2
   .exists QX.2.2.2.1,QX.2.1,QX.2.2.2.2.1,QX.2.2.2.2.2
   .exists QW.2.2.2.1,QW.2.1,QW.2.2.2.2.1,QW.2.2.2.2.2
   .exists QV.2.2.2.1,QV.2.1,QV.2.2.2.2.1,QV.2.2.2.2.2
  .let⟨o,es,ep,TH,r⟩:=hm;exists o,es,ep,hk _ o (XH fz.2.1) (XH QX.2.1) (XH QW.2.1) (XH QV.2.1) TH,r
  .show(I.hok c v' q).stay (λe w' Vj q'=>?_) (λe q=>q) λe ys q=>q;grind
 self:=λ_ _ _ _ _ st h=>wpAny_pyIter_zip st.1 h
def lV(K:Ad)(ta:TA):(TI):=λσ H R=>ta σ H λvs H1=>∃a b,vs=[.ref a,.ref b]/\(∃xs ys,SqL K H1 a xs/\SqL K H1 b ys)/\R (Gs K a b) H1
section
variable{X:Cx}
def Li(K:Ad){elts:List Expr}{x1:Nat}{Sv:Pos}{e f:Expr}{ta:TA}{p pos:Pos}(hg:Gl X "zip")(hm:X.mg "zip"=none)(ha:PA X [e,f] ta)(hs:autoParam (starEach [e,f] X.X=(false,eval e X.X)::starEach [f] X.X) D1._auto_1)(Us:autoParam ((backTo pos<|starEach [f] X.X).any (·.1)=false) D1._auto_1)(hk:autoParam (X.K=K) D1._auto_1):
  PI X (.Tuple elts x1 Sv) (.Call (.Name "zip" p) [e,f] [] pos) (lV K ta):=by
 subst hk;intro pins s σ H R I h;show Call_ (Rp I hg hm Boot.«zip»<|Uj (thn (ha pos pins s σ H _ I h) λus s1 XB=>?_) hs Us);let(vs,H1,I1,r1,q1):=XB;let(a,b,ev,(xs,ys,hq,SF),q):=q1;subst ev;let(u,u',rfl,ru,ru'):=JR r1;let rfl:u=Value.ref a:=ru;let rfl:u'=Value.ref b:=ru';let(XS,rv,pl,_):=I1.list hq;let(Vs,vd,pl2,_):=I1.list SF;let lt1:a<(~~~s1):=by let(_,_,e,_):=pl;show Yk e
 let lt2:b<(~~~s1):=by let(_,_,e,_):=pl2;show Yk e
 let tB:ZipApart ((~~~s1)+4) ((~~~s1)+2) ((~~~s1)+3) (~~~s1) ((~~~s1)+1) a b:=by
  let key:∀n x y:Nat,x<n->y<n->ZipApart (n+4) (n+2) (n+3) n (n+1) x y:=λn x y h1 h2=>by constructor<;>(lia)
  show key _ _ _ lt1 lt2
 show call_zip_2 pl.isList pl2.isList λh' hz Oa MR lU Ws hsz hk=>?_;show wpAny_pyIter_zip (s:={s1 with heap:=h'}) hz ?_;exists (~~~s1)+4,[(~~~s1)+4,(~~~s1)+2,(~~~s1)+3,(~~~s1),(~~~s1)+1],_,_,H1,Z,I1.kept (t':=s1.toks) hk,lY a b _ _ _ _ _ tB,{hz,Oa,{_,_,MR},lU,Ws},λc hc=>?_,q;let hle:(~~~s1)<=c:=by
  let Vj:c=(~~~s1)+4\/c=(~~~s1)+2\/c=(~~~s1)+3\/c=(~~~s1)\/c=(~~~s1)+1:=by simpa using hc
  rcases Vj with e|e|e|e|e<;>rw[e]<;>first|simp_all|lia
 show I1.fpOk hle (I1.hok.fresh hle)
end
end L2
namespace My
open PySem L2
section
variable{K:Ad}{a b:Addr}{xs ys:List V}{g:TG}{tt:TT}{te:TE}{o:Nat}{fr:List Nat}{σ:St}{H:Hp}{Q:VK}
def lT(Pv:Nat->List V->Hp->Prop)(h0:Pv 0 [] H)(Lk:xs.f=ys.f)(hz:xs.f<sizeLine)(hl:∀i zs H,i<=xs.f->Pv i zs H->SqL K H a xs/\SqL K H b ys/\zs.f<=i)
  (hs:∀(i:Nat) x y zs H (p:Addr),H p=none->xs[i]?=some x->ys[i]?=some y->Pv i zs H->Jz Pv g tt te o fr σ i ↑p zs (upd H p<|.tup [x,y]))(hd:∀zs H,Pv xs.f zs H->∀p,H p=none->Q ↑p (upd H p<|.lst zs)):Nm (Gs K a b) g tt te o fr σ H Q:=by
 exists λi m zs H=>m=xs.f-i/\i<=xs.f/\Pv i zs H,{xs.f,Fe,Yc _,h0},?_;rintro i m zs H ⟨rfl,hi,p⟩;let(q,q2,hy):=hl i zs H hi p;cases Xx:i<xs.f
 .show .inr {{xs,ys,xs[i],ys[i]'(by simp_all),q,q2,by simp_all,Xw<|by simp_all},J,λx H' ⟨T,u,v,hT,ex,eH,hu,hv⟩=>?_};subst ex eH;show hs i u v zs H T hT (hu xs q) (hv ys q2) p (λj zs H=>∃m',m'<xs.f-i/\m'=xs.f-j/\j<=xs.f/\Pv j zs H) λzs H p'=>{xs.f-(i+1),B,Z,Xx,p'}
 .let e:i=xs.f:=J;subst e;show .inl {{xs,ys,q,q2,.inl<|XI _},J,hd zs H p}
end
end My
namespace My
abbrev Mx:=Nat->Nat->Int
def sm:(Nat->(Nat->Int)->Int)
 |0,_=>0
 |n+1,f=>sm n f+f n
def ZJ{f g:Nat->Int}:∀{n:Nat},(∀i,i<n->f i=g i)->sm n f=sm n g
 |0,_=>rfl
 |n+1,h=>by change sm n f+f n=sm n g+g n;rw[ZJ λi hi=>h i J,h n J]
def IZ{f g:Nat->Int}:∀{n:Nat},sm n (λi=>f i+g i)=sm n f+sm n g
 |0=>rfl
 |n+1=>by change sm n (λi=>f i+g i)+(f n+g n)=sm n f+f n+(sm n g+g n);rw[IZ];lia
def Gr{c:Int}{f:Nat->Int}:∀{n:Nat},sm n (λi=>c*f i)=c*sm n f
 |0=>(RV c).symm
 |n+1=>by change sm n (λi=>c*f i)+c*f n=c*(sm n f+f n);rw[Gr,LM]
def TU:∀{n:Nat},sm n (λ_=>0)=0
 |0=>rfl
 |n+1=>by change sm n (λ_=>0)+0=0;rw[TU];rfl
def IY{f:Nat->Int}(h:∀i,i<n->f i=0):sm n f=0:=by rw[ZJ h];show TU
def Ca{f:Nat->Int}:∀{n:Nat},sm (n+1) f=f 0+sm n (λi=>f (i+1))
 |0=>by change 0+f 0=f 0+0;lia
 |n+1=>by change sm (n+1) f+f (n+1)=f 0+(sm n (λi=>f<|i+1)+f (n+1));rw[Ca];lia
def lS{f:Nat->Nat->Int}:∀{n:Nat},sm n (λi=>sm m (f i))=sm m (λj=>sm n λi=>f i j)
 |0=>TU.symm
 |n+1=>by change sm n (λi=>sm m<|f i)+sm m (f n)=sm m λj=>sm n (λi=>f i j)+f n j;rw[lS,IZ]
def sk(j k:Nat):(Nat):=if k<j then k else k+1
def mn(A:Mx)(j:Nat):(Mx):=λi k=>A (i+1) (sk j k)
def sg(j:Nat):(Int):=if j%2=0 then 1 else -1
def vc(j:Nat):sg (j+1)=- sg j:=by
 unfold sg;cases h:j%2=0
 .rw[Yi h,Yh rO]
 .rw[Yh h,Yi J];rfl
def det:(Nat->Mx->Int)
 |0,_=>1
 |n+1,A=>sm (n+1) λj=>sg j*A 0 j*det n (mn A j)
def OX{j k n:Nat}(h:k<n):sk j k<n+1:=by unfold sk;split<;>lia
def Zn:∀{n:Nat}{A rH:Mx},(∀i j,i<n->j<n->A i j=rH i j)->det n A=det n rH
 |0,_,_,_=>rfl
 |n+1,A,rH,h=>ZJ λj hj=>by rw[h 0 j J hj,Zn (A:=mn A j) (rH:=mn rH j) λi k hi hk=>h (i+1) (sk j k) J (OX hk)]
def Si:∀{n:Nat}{A rH C:Mx}{c:Int}{i:Nat},i<n->(∀r j,r<n->j<n->r≠i->A r j=rH r j/\A r j=C r j)->(∀j,j<n->A i j=c*rH i j+C i j)->det n A=c*det n rH+det n C
 |0,_,_,_,_,_,hi,_,_=>absurd hi (VX _)
 |n+1,A,rH,C,c,i,hi,h1,h2=>by
  change sm (n+1) (λj=>sg j*A 0 j*det n (mn A j))=c*sm (n+1) (λj=>sg j*rH 0 j*det n (mn rH j))+sm (n+1) λj=>sg j*C 0 j*det n (mn C j);rw[<-Gr,<-IZ];show ZJ λj hj=>?_;cases i with
  |zero=>
   let e1:det n (mn rH j)=det n (mn A j):=Zn λr k hr hk=>(h1 (r+1) (sk j k) rO (OX hk) J).1.symm;let e2:det n (mn C j)=det n (mn A j):=Zn λr k hr hk=>(h1 (r+1) (sk j k) J (OX hk) J).2.symm
   rw[e1,e2,h2 j hj];generalize det n (mn A j)=d;generalize sg j=s;rw[LM,wH,<-RW s c,Qz s c,RW c s,RW c]
  |succ i=>
   let e:=Si (n:=n) (A:=mn A j) (rH:=mn rH j) (C:=mn C j) (c:=c) (i:=i) J (λr k hr hk XJ=>h1 (r+1) (sk j k) J (OX hk) J) λk hk=>h2 (sk j k) (OX hk);let e0:=h1 0 j J hj J
   rw[e,<-e0.1,<-e0.2];generalize det n (mn rH j)=d;generalize det n (mn C j)=d';generalize sg j*A 0 j=s;rw[LM,<-RW,<-RW,Qz s c]
def lR(h:j<=k):mn (mn A j) k i l=mn (mn A (k+1)) j i l:=by
 change A (i+1+1) (sk j<|sk k l)=A (i+1+1) (sk (k+1)<|sk j l);show YF _ ?_;unfold sk;cases h1:l<j
 .rw[Yi (show l<k by lia),Yi h1,Yi (show l<k+1 by lia)]
 .rw[Yh h1];cases h2:l<k
  .rw[Yi h2,Yh h1,Yi (show l+1<k+1 by lia)]
  .rw[Yh h2,Yh (show ¬l+1<j by lia),Yh (show ¬l+1<k+1 by lia)]
def IX:∀{n:Nat}{A:Mx}{i:Nat},i+1<n->(∀j,j<n->A i j=A (i+1) j)->det n A=0
 |0,_,_,hi,_=>absurd hi (VX _)
 |n+1,A,i+1,hi,h=>IY λj hj=>by rw[IX (A:=mn A j) (i:=i) J λk hk=>h (sk j k)<|OX hk,RV]
 |1,_,0,hi,_=>absurd hi rO
 |n+2,A,0,_,h=>by
  obtain⟨t,ht⟩:∃t:Nat->Nat->Int,t=λj k=>sg j*A 0 j*(sg k*A 1 (sk j k)*det n (mn (mn A j) k)):={_,Z};let e1:det (n+2) A=sm (n+2) λj=>sm (n+1) (t j):=ZJ λj hj=>by rw[ht,Gr];rfl
  let e2:∀j k,j<=k->k<n+1->t (k+1) j=- t j k:=λj k hjk hk=>by
   rw[ht];change sg (k+1)*A 0 (k+1)*(sg j*A 1 (sk (k+1) j)*det n (mn (mn A<|k+1) j))=- (sg j*A 0 j*(sg k*A 1 (sk j k)*det n (mn (mn A j) k)))
   let f1:sk (k+1) j=j:=by unfold sk;rw[Yi J]
   let f2:sk j k=k+1:=by unfold sk;rw[Yh J]
   let f3:det n (mn (mn A<|k+1) j)=det n (mn (mn A j) k):=Zn λi l _ _=>(lR hjk).symm;rw[f1,f2,f3,vc,<-h j J,<-h (k+1) J];generalize det n (mn (mn A j) k)=d;generalize A 0 j=x;generalize A 0 (k+1)=y;generalize sg j=s;generalize sg k=u;simp only[wI,Int.neg_inj];simp only[Qz,NF,RW]
  let e3:sm (n+2) (λj=>sm (n+1)<|t j)=sm (n+2) (λj=>sm (n+1) λk=>if k<j then t j k else 0)+sm (n+2) (λj=>sm (n+1) λk=>if k<j then 0 else t j k):=by rw[<-IZ];show ZJ λj _=>?_;rw[<-IZ];show ZJ λk _=>?_;split<;>lia
  let e4:sm (n+2) (λj=>sm (n+1) λk=>if k<j then t j k else 0)=sm (n+1) (λk=>sm (n+1) λj=>if k<=j then t (j+1) k else 0):=by
   rw[lS];show ZJ λk _=>?_;rw[Ca,Yh J,NH];show ZJ λj _=>?_;cases c:k<=j
   .rw[Yi c,Yi rO]
   .rw[Yh c,Yh J]
  let e5:sm (n+2) (λj=>sm (n+1) λk=>if k<j then 0 else t j k)=sm (n+1) (λj=>sm (n+1) λk=>if j<=k then t j k else 0):=by
   change sm (n+1) (λj=>sm (n+1) λk=>if k<j then 0 else t j k)+sm (n+1) (λk=>if k<n+1 then 0 else t (n+1) k)=_;rw[IY (f:=λk=>if k<n+1 then 0 else t (n+1) k) λk hk=>Yi hk,Rz];show ZJ λj _=>ZJ λk _=>?_;cases c:j<=k
   .rw[Yi c,Yh J]
   .rw[Yh c,Yi J]
  rw[e1,e3,e4,e5,<-IZ];show IY λj hj=>?_;rw[<-IZ];show IY λk hk=>?_;cases c:j<=k
  .rw[Yi c,Yi c,e2 j k c hk];lia
  .rw[Yh c,Yh c];rfl
def put2(A:Mx)(i:Nat)(x y:Nat->Int):(Mx):=λr=>if r=i then x else if r=i+1 then y else A r
def lQ{x x' y:Nat->Int}(hi:i+1<n):det n (put2 A i (λj=>x j+x' j) y)=det n (put2 A i x y)+det n (put2 A i x' y):=by
 have:=Si (n:=n) (A:=put2 A i (λj=>x j+x' j) y) (rH:=put2 A i x y) (C:=put2 A i x' y) (c:=1) (i:=i) J (λr j _ _ XJ=>by unfold put2;rw[Yh XJ,Yh XJ,Yh XJ];exists Z,Z) (λj _=>by unfold put2;rw[Yi Z,Yi Z,Yi Z,Sx])
 rw[this,Sx]
def BZ{x y y':Nat->Int}(hi:i+1<n):det n (put2 A i x λj=>y j+y' j)=det n (put2 A i x y)+det n (put2 A i x y'):=by
 let ne:¬i+1=i:=J
 have:=Si (n:=n) (A:=put2 A i x λj=>y j+y' j) (rH:=put2 A i x y) (C:=put2 A i x y') (c:=1) (i:=i+1) J (λr j _ _ XJ=>by unfold put2;rw[Yh XJ,Yh XJ,Yh XJ];exists Z,Z) (λj _=>by unfold put2;rw[Yh ne,Yh ne,Yh ne,Yi Z,Yi Z,Yi Z,Sx])
 rw[this,Sx]
def IW{x:Nat->Int}(hi:i+1<n):det n (put2 A i x x)=0:=IX hi λj _=>by unfold put2;rw[Yi Z,Yh J,Yi Z]
def lP{x y:Nat->Int}(hi:i+1<n):det n (put2 A i y x)=- det n (put2 A i x y):=by let h:=IW (A:=A) (x:=λj=>x j+y j) hi;rw[lQ hi,BZ hi,BZ hi,IW hi,IW hi]at h;lia
def lO:put2 A i (A i) (A (i+1))=A:=by
 funext r
 unfold put2;cases h:r=i
 .rw[Yi h,h]
 .rw[Yh h];cases h2:r=i+1
  .rw[Yi h2,h2]
  .rw[Yh h2]
def Zp8(hi:i+1<n):det n (put2 A i (A (i+1)) (A i))=- det n A:=by
 have:=lP (A:=A) (x:=A i) (y:=A<|i+1) hi
 rwa[lO]at this
def va:∀{d:Nat}{A:Mx},a+d+1<n->(∀j,j<n->A a j=A (a+d+1) j)->det n A=0
 |0,A,hn,h=>IX hn h
 |d+1,A,hn,h=>by
  let e:=Zp8 (n:=n) (A:=A) (i:=a+d+1) J;let z:det n (put2 A (a+d+1) (A<|a+d+1+1)<|A<|a+d+1)=0:=by show va (a:=a) (d:=d) J λj hj=>?_;unfold put2;rw[Yh J,Yh J,Yi Z];show h j hj
  lia
def rotN(k t i:Nat):(Nat):=if i<k then i else if i=k then k+t else if i<=k+t then i-1 else i
def Zk9(k i:Nat):rotN k 0 i=i:=by
 unfold rotN;cases h:i<k
 .rw[Yi h]
 .rw[Yh h];cases h2:i=k
  .rw[Yi h2,h2];rfl
  .rw[Yh h2,Yh J]
def lN:∀{t:Nat}{A:Mx},k+t<n->det n (λi=>A (rotN k t i))=sg t*det n A
 |0,A,_=>by rw[show sg 0=1 from Z,Sx];show Zn λi j _ _=>by rw[Zk9]
 |t+1,A,h=>by
  let e:=lN (n:=n) (k:=k) (t:=t) (A:=put2 A (k+t) (A<|k+t+1)<|A<|k+t) J;rw[Zp8 J]at e;let f:det n (λi=>A<|rotN k (t+1) i)=det n (λi=>put2 A (k+t) (A<|k+t+1) (A<|k+t)<|rotN k t i):=Zn λi j _ _=>by
   show congrFun ?_ j;let r1:rotN k (t+1) i=if i<k then i else if i=k then k+(t+1) else if i<=k+(t+1) then i-1 else i:=rfl
   let r2:rotN k t i=if i<k then i else if i=k then k+t else if i<=k+t then i-1 else i:=rfl
   unfold put2;cases h1:i<k
   .rw[Yi h1]at r1 r2;rw[r1,r2,Yh J,Yh J]
   .rw[Yh h1]at r1 r2;cases h2:i=k
    .rw[Yi h2]at r1 r2;rw[r1,r2,Yi Z];rfl
    .rw[Yh h2]at r1 r2;cases h3:i<=k+t
     .rw[Yi J]at r1;rw[Yi h3]at r2;rw[r1,r2,Yh J,Yh J]
     .rw[Yh h3]at r2;cases h4:i=k+t+1
      .rw[Yi J]at r1;rw[r1,r2,Yh J,Yi h4];show YF A J
      .rw[Yh J]at r1;rw[r1,r2,Yh J,Yh h4]
  rw[f,e,vc,Int.mul_neg,wI]
def IV:∀{n:Nat}{A:Mx},(∀i,i<n+1->A i 0=0)->det (n+1) A=0
 |0,A,h=>by change 0+sg 0*A 0 0*1=0;rw[h 0 rO,RV];rfl
 |n+1,A,h=>IY λj hj=>by
  cases j with
  |zero=>rw[h 0 J,RV,Fq]
  |succ j=>
   rw[IV (A:=mn A<|j+1) λi hi=>?_,RV];change A (i+1) (sk (j+1) 0)=0
   rw[show sk (j+1) 0=0 from Z];show h (i+1) J
def ZZ9(h:∀i,i<n->A (i+1) 0=0):det (n+1) A=A 0 0*det n (λi j=>A (i+1) (j+1)):=by
 change sm (n+1) (λj=>sg j*A 0 j*det n (mn A j))=_;rw[Ca,IY λj hj=>?_]
 .rw[Rz,show sg 0=1 from Z,Sx];show YF (A 0 0 * ·) (Zn λi j _ _=>?_);rfl
 .cases n with
  |zero=>show absurd hj (VX _)
  |succ n=>
   rw[IV (A:=mn A<|j+1) λi hi=>?_,RV];show h i hi
def Zq8{i:Nat}(hi:i<n)(h:∀j,j<n->A i j=0):det n A=0:=by
 have:=Si (A:=A) (rH:=A) (C:=A) (c:=1) hi (λr j _ _ _=>⟨Z,Z⟩) (λj hj=>by rw[h j hj];rfl)
 lia
def BY{c:Int}:∀{n:Nat}{A:Mx},det n (λi j=>c*A i j)=c^n*det n A
 |0,_=>by change(1:Int)=c^0*1;rw[Kp];rfl
 |n+1,A=>by
  change sm (n+1) (λj=>sg j*(c*A 0 j)*det n (mn (λi j=>c*A i j) j))=c^(n+1)*sm (n+1) λj=>sg j*A 0 j*det n (mn A j);rw[<-Gr];show ZJ λj _=>?_;let e:det n (mn (λi j=>c*A i j) j)=c^n*det n (mn A j):=BY (A:=mn A j)
  rw[e,Ru];generalize det n (mn A j)=d;generalize c^n=p;generalize sg j=s;generalize A 0 j=x;simp only[Qz,NF,RW]
def offN(R:Mx):(Mx):=λi j=>R 0 0*R (i+1) (j+1)-R (i+1) 0*R 0 (j+1)
def WD(R:Mx)(k:Nat):(Mx):=λr j=>if r=0 then R 0 j else if r<=k then R 0 0*R r j-R r 0*R 0 j else R r j
def Zu8{m:Nat}:∀{k:Nat},k<m+1->det (m+1) (WD R k)=R 0 0^k*det (m+1) R
 |0,_=>by
  rw[Kp,Sx];show Zn λi j _ _=>?_;unfold WD;cases h:i=0
  .rw[Yi h,h]
  .rw[Yh h,Yh J]
 |k+1,hk=>by
  let ih:=Zu8 (m:=m) (R:=R) (k:=k) J;obtain⟨C,hC⟩:∃C:Mx,C=λr j=>if r=k+1 then-R (k+1) 0*R 0 j else WD R k r j:={_,Z}
  obtain⟨rH,hB⟩:∃rH:Mx,rH=λr j=>if r=k+1 then R 0 j else WD R k r j:={_,Z}
  obtain⟨Fd,hZ⟩:∃Fd:Mx,Fd=λr j=>if r=k+1 then 0 else WD R k r j:={_,Z}
  let hBz:det (m+1) rH=0:=va (n:=m+1) (a:=0) (d:=k) J λj hj=>by
   rw[hB];change(if 0=k+1 then _ else WD R k 0 j)=if 0+k+1=k+1 then _ else _
   rw[Yh J,Yi J];rfl
  let hZz:det (m+1) Fd=0:=Zq8 (i:=k+1) hk λj hj=>by rw[hZ];show Yi rfl
  let hCz:det (m+1) C=0:=by
   have:=Si (A:=C) (rH:=rH) (C:=Fd) (c:=- R (k+1) 0) hk (λr j _ _ XJ=>by
    rw[hC,hB,hZ];change(if r=k+1 then _ else WD R k r j)=(if r=k+1 then _ else WD R k r j)/\(if r=k+1 then _ else WD R k r j)=(if r=k+1 then _ else WD R k r j)
    rw[Yh XJ,Yh XJ,Yh XJ];exists Z,Z) (λj _=>by
    rw[hC,hB,hZ];change(if k+1=k+1 then _ else _)=_*(if k+1=k+1 then _ else _)+(if k+1=k+1 then _ else _)
    rw[Yi Z,Yi Z,Yi Z,Rz])
   rw[this,hBz,hZz,RV];rfl
  have:=Si (A:=WD R<|k+1) (rH:=WD R k) (C:=C) (c:=R 0 0) hk (λr j _ _ XJ=>by
   let e1:WD R (k+1) r j=WD R k r j:=by
    unfold WD;cases h0:r=0
    .rw[Yi h0,Yi h0]
    .rw[Yh h0,Yh h0];cases h1:r<=k
     .rw[Yi h1,Yi J]
     .rw[Yh h1,Yh J]
   exists e1,?_;rw[hC,e1];change _=if r=k+1 then _ else _
   rw[Yh XJ]) (λj _=>by
   let e1:WD R (k+1) (k+1) j=R 0 0*R (k+1) j-R (k+1) 0*R 0 j:=by unfold WD;rw[Yh J,Yi J]
   let e2:WD R k (k+1) j=R (k+1) j:=by unfold WD;rw[Yh rO,Yh J]
   rw[e1,e2,hC];change _=_+(if k+1=k+1 then-R (k+1) 0*R 0 j else _)
   rw[Yi Z,wI]
   rfl)
  rw[this,hCz,ih,Rz,Ru];rw[<-RW,Qz (R 0 0)]
def BX:R 0 0*det m (offN R)=R 0 0^m*det (m+1) R:=by
 rw[<-Zu8 (k:=m) J,ZZ9 λi hi=>?_]
 .let e0:WD R m 0 0=R 0 0:=Yi rfl;rw[e0];show YF (R 0 0 * ·) (Zn λi j hi hj=>?_);unfold WD offN;rw[Yh J,Yi J]
 .unfold WD;rw[Yh J,Yi J,Qz];lia
def ex(k:Nat)(r:Nat->Nat)(i:Nat):(Nat):=if i<k then i else k+r (i-k)
def RJ(A:Mx)(k M:Nat)(R:Mx)(last:Int):(Prop):=last≠0/\∀m r c,(∀i,i<m+1->r i<M/\c i<M)->
 det (m+1) (λi j=>R (r i)<|c j)=det (k+m+1) (λi j=>A (ex k r i)<|ex k c j)*last^m
def BW(A:Mx)(n:Nat):RJ A 0 n A 1:={AP,λm r c _=>by rw[Int.one_pow,Hd,RB];show Zn λi j _ _=>?_;unfold ex;rw[Yh (VX _),Yh<|VX _,RB,RB,wK,wK]}
def IU{p:Int}(h:p≠0):∀n:Nat,p^n≠0
 |0=>by rw[Kp];decide
 |n+1=>by rw[Ru];show Int.mul_ne_zero (IU h n) h
def OW(r:Nat->Nat):(Nat->Nat)
 |0=>0
 |i+1=>r i+1
def BV(k:Nat)(r:Nat->Nat)(i:Nat):ex k (OW r) i=ex (k+1) r i:=by
 unfold ex;cases h:i<k
 .rw[Yi h,Yi J]
 .rw[Yh h];cases h2:i=k
  .rw[Yi J,h2,UE];rfl
  .rw[Yh J];obtain⟨d,rfl⟩:∃d,i=k+d+1:={i-k-1,B};rw[show k+d+1-k=d+1 by lia,show k+d+1-(k+1)=d by lia];change k+(r d+1)=k+1+r d
   lia
def Lh{k M:Nat}(h:RJ A k (M+1) R last)(hp:R 0 0≠0){m:Nat}{r c:Nat->Nat}(hb:∀i,i<m+1->r i<M/\c i<M):
  det (m+1) (λi j=>offN R (r i)<|c j)=R 0 0^m*(last^(m+1)*det (k+1+m+1) λi j=>A (ex (k+1) r i)<|ex (k+1) c j):=by
 let e1:=BX (m:=m+1) (R:=λi j=>R (OW r i)<|OW c j);let e2:=h.2 (m+1) (OW r) (OW c) λi hi=>by
  cases i with
  |zero=>exists Nat.succ_pos _,Nat.succ_pos _
  |succ i=>have:=hb i J;exists Nat.succ_lt_succ this.1,Nat.succ_lt_succ this.2
 let e3:det (m+1) (offN λi j=>R (OW r i)<|OW c j)=det (m+1) (λi j=>offN R (r i)<|c j):=rfl;let e4:det (k+(m+1)+1) (λi j=>A (ex k (OW r) i)<|ex k (OW c) j)=det (k+1+m+1) (λi j=>A (ex (k+1) r i)<|ex (k+1) c j):=by rw[show k+(m+1)+1=k+1+m+1 by lia];show Zn λi j _ _=>by rw[BV,BV]
 rw[e3]at e1;rw[e4]at e2;let e5:R (OW r 0) (OW c 0)=R 0 0:=rfl
 rw[e5,e2]at e1;generalize det (m+1) (λi j=>offN R (r i)<|c j)=x at *;generalize det (k+1+m+1) (λi j=>A (ex (k+1) r i)<|ex (k+1) c j)=y at *;rw[Ru]at e1;show cq hp ?_;rw[e1,Qz y,Qz<|R 0 0^m,RW]
def lM(A:Mx):det 1 A=A 0 0:=by change 0+sg 0*A 0 0*1=A 0 0;rw[show sg 0=1 from Z];lia
def lK{k M:Nat}(h:RJ A k (M+1) R last)(hp:R 0 0≠0)(hi:i<M)(hj:j<M):
  offN R i j=last*det (k+2) (λa b=>A (ex (k+1) (λ_=>i) a)<|ex (k+1) (λ_=>j) b):=by
 have:=Lh h hp (m:=0) (r:=λ_=>i) (c:=λ_=>j) λ_ _=>⟨hi,hj⟩
 rwa[lM,Kp,Sx,Ru,Kp,Sx]at this
def lJ(h:RJ A k (M+1) R last)(hp:R 0 0≠0)(hR:∀i j,i<M->j<M->R' i j=(offN R i j).fdiv last):RJ A (k+1) M R' (R 0 0):=by
 exists hp,λm r c hb=>?_;let lI:∀i j,i<M->j<M->offN R i j=last*R' i j:=λi j hi hj=>by rw[hR i j hi hj,lK h hp hi hj,Int.mul_fdiv_cancel_left _ h.1]
 let e1:=Lh h hp hb;let e2:det (m+1) (λi j=>offN R (r i)<|c j)=last^(m+1)*det (m+1) (λi j=>R' (r i)<|c j):=by rw[<-BY];show Zn λi j hi hj=>lI _ _ (hb i hi).1 (hb j hj).2
 rw[e2]at e1;show cq (IU h.1<|m+1) ?_;rw[e1];generalize det (k+1+m+1) (λi j=>A (ex (k+1) r i)<|ex (k+1) c j)=y;rw[NF,Qz y]
def lH(h:RJ A k M R last)(ht:t<M):RJ (λi=>A (rotN k t i)) k M (λi=>R (rotN 0 t i)) last:=by
 exists h.1,λm r c hb=>?_;let e:=h.2 m (λi=>rotN 0 t<|r i) c λi hi=>⟨by
  have:=(hb i hi).1
  unfold rotN;rw[Yh J];split
  .lia
  .split<;>lia,(hb i hi).2⟩
 rw[e];show YF (· * last^m) (Zn λi j _ _=>?_);show YF (λa=>A a<|ex k c j) ?_;unfold ex;cases hi:i<k
 .rw[Yi hi,Yi hi];unfold rotN;rw[Yi hi]
 .rw[Yh hi,Yh hi];change k+rotN 0 t (r<|i-k)=rotN k t (k+r (i-k))
  generalize r (i-k)=a;let r1:rotN 0 t a=if a<0 then a else if a=0 then 0+t else if a<=0+t then a-1 else a:=rfl
  let r2:rotN k t (k+a)=if k+a<k then k+a else if k+a=k then k+t else if k+a<=k+t then k+a-1 else k+a:=rfl
  rw[Yh J]at r1 r2;cases h1:a=0
  .rw[Yi h1]at r1;rw[Yi J]at r2;rw[r1,r2];lia
  .rw[Yh h1]at r1;rw[Yh J]at r2;cases h2:a<=t
   .rw[Yi J]at r1;rw[Yi J]at r2;rw[r1,r2];lia
   .rw[Yh J]at r1;rw[Yh J]at r2;rw[r1,r2]
def MQ(k i:Nat):ex k (λi=>i) i=i:=by
 unfold ex;cases h:i<k
 .rw[Yi h]
 .rw[Yh h];change k+(i-k)=i
  grind
def lG{k M:Nat}(h:RJ A k (M+1) R last)(h0:∀i,i<M+1->R i 0=0):det (k+M+1) A=0:=by
 let e:=h.2 M (λi=>i) (λi=>i) λi hi=>⟨hi,hi⟩;rw[IV (A:=λi j=>R i j) h0]at e;let e2:det (k+M+1) (λi j=>A (ex k (λi=>i) i)<|ex k (λi=>i) j)=det (k+M+1) A:=Zn λi j _ _=>by rw[MQ,MQ]
 rw[e2]at e;rcases Int.mul_eq_zero.R e.symm with z|z
 .show z
 .show absurd z (IU h.1 M)
def lF(h:RJ A k 1 R last):R 0 0=det (k+1) A:=by
 let e:=h.2 0 (λi=>i) (λi=>i) λi hi=>⟨J,rO⟩;rw[lM,Kp,Hd]at e;let e2:det (k+0+1) (λi j=>A (ex k (λi=>i) i)<|ex k (λi=>i) j)=det (k+1) A:=Zn λi j _ _=>by rw[MQ,MQ]
 rwa[e2]at e
end My
namespace L2
open PySem PySem.Spec PyProof.Rows
def lE(i j:Int):(Prop):=i.natAbs<2^9000/\j.natAbs<2^9000
def lD(i j:Int):(Prop):=j≠0/\j.natAbs<2^9000
def Zj6(h:a.natAbs<2^9000):Builtin.Int.intBits a<=9000:=PySem.intBits_le_iff.mpr h
section
variable{X:Cx}
def lC:Wy X (binaryOp .Mult) (rI lE λi j=>.int (i*j)):=GV λ_ _ _ _ _ _ _ hc q=>mul_int q (.of_bits (Yl (Zj6 hc.1) AP)<|Yl (Zj6 hc.2) AP)
def ZC7:Wy X (binaryOp .FloorDiv) (rI lD λi j=>.int (i.fdiv j)):=GV λ_ _ _ _ _ _ _ hc q=>floordiv_int hc.1 q (.inl<|PyProof.noPylong_of_log2<|(Nat.log2_lt (by have:=hc.1;simp_all)).mpr hc.2)
end
end L2
namespace My
def fnL(L:Ab):(Mx):=λi j=>(L.Q i []).Q j 0
def Qq{l:Ac}{x:Int}(h:L[i]?=some l)(h2:l[j]?=some x):fnL L i j=x:=by
 let e:L.Q i []=l:=by rw[We,h];rfl
 unfold fnL;rw[e,We,h2];rfl
def uZ(rH:Nat):(Nat->Nat)
 |0=>1
 |n+1=>(n+1)*(rH*uZ rH n)
def BU{f:Nat->Int}{C:Nat}:∀{n:Nat},(∀i,i<n->(f i).natAbs<=C)->(sm n f).natAbs<=n*C
 |0,_=>by change(0:Int).natAbs<=0*C;rw[Nat.zero_mul];show XI 0
 |n+1,h=>by
  let h1:=BU (n:=n) λi hi=>h i J;let h2:=h n J
  let h3:(sm n f+f n).natAbs<=(sm n f).natAbs+(f n).natAbs:=sF ..;change(sm n f+f n).natAbs<=(n+1)*C
  rw[Nat.succ_mul];lia
def Lg:∀{n:Nat}{A:Mx},(∀i j,i<n->j<n->(A i j).natAbs<=rH)->(det n A).natAbs<=uZ rH n
 |0,_,_=>XI 1
 |n+1,A,h=>by
  show BU λj hj=>?_;let e:(sg j).natAbs=1:=by unfold sg;split<;>rfl
  rw[PY,PY,e,Nat.one_mul];show Qc (h 0 j J hj) (Lg λi k hi hk=>h (i+1) (sk j k) J<|OX hk)
def BS{b:Nat}:∀{n:Nat},n<=16->uZ (2^b) n<=2^((b+4)*n)
 |0,_=>by change 1<=2^((b+4)*0);rw[Nat.mul_zero];show XI 1
 |n+1,h=>by
  let ih:=BS (b:=b) (n:=n) J;let e:2^((b+4)*(n+1))=16*(2^b*2^((b+4)*n)):=by rw[Nat.mul_succ,Nat.pow_add,Nat.pow_add,Fs<|2^((b+4)*n),Fs (2^b)<|2^4,Nat.mul_assoc]
  rw[e];change(n+1)*(2^b*uZ (2^b) n)<=_
  show Qc h (Qc (XI _) ih)
def BR(hn:n<=16)(h:∀i j,i<n->j<n->(A i j).natAbs<=2^400):(det n A).natAbs<2^9000:=by
 let h1:=Lg h;let h2:=BS (b:=400) hn
 let h3:2^((400+4)*n)<=2^(404*16):=FH AP (Qc (XI _) hn);let h4:2^(404*16)<2^9000:=Nat.pow_lt_pow_right AP AP
 show Kw (Yl h1<|Yl h2 h3) h4
def lB(h:RJ A k M R last){i j:Nat}(hi:i<M)(hj:j<M):R i j=det (k+1) (λa b=>A (ex k (λ_=>i) a) (ex k (λ_=>j) b)):=by
 have:=h.2 0 (λ_=>i) (λ_=>j) λ_ _=>⟨hi,hj⟩
 rwa[lM,Kp,Hd]at this
def BQ{k M n:Nat}(h:RJ A k M R last)(hn:k+M=n)(hn16:n<=16)(hA:∀i j,i<n->j<n->(A i j).natAbs<=2^400){i j:Nat}(hi:i<M)(hj:j<M):(R i j).natAbs<2^9000:=by
 rw[lB h hi hj];show BR J λa b ha hb=>hA _ _ ?_ ?_
 .let e:ex k (λ_=>i) a=if a<k then a else k+i:=rfl
  rw[e];split<;>lia
 .let e:ex k (λ_=>j) b=if b<k then b else k+j:=rfl
  rw[e];split<;>lia
def lz{L:Ab}{l:Ac}(h:L[t]?=some l)(i:Nat):(l::L.eraseIdx t)[i]?=L[rotN 0 t i]?:=by
 let ht:=(Xv.R h).1;let r:rotN 0 t i=if i<0 then i else if i=0 then 0+t else if i<=0+t then i-1 else i:=rfl
 rw[Yh J]at r;cases i with
 |zero=>
  rw[Yi Z,RB]at r;rw[r,h];rfl
 |succ i=>
  rw[Yh J,RB]at r;rw[r,List.getElem?_cons_succ,sV];cases c:i+1<=t
  .rw[Yi c,Yi J];rfl
  .rw[Yh c,Yh J]
def lu{l:Ac}(h:L[t]?=some l):fnL (l::L.eraseIdx t)=λi=>fnL L (rotN 0 t i):=by
 funext i j
 change((l::L.eraseIdx t).Q i []).Q j 0=(L.Q (rotN 0 t i) []).Q j 0;show YF (λr:Ac=>r.Q j 0) ?_;rw[We,We,lz h]
def OV(y:Int)(p:Ac)(last:Int)(l:Ac):(Ac):=List.zipWith (λown other=>(y*own-l.headD 0*other).fdiv last) l.tail p
def BP(h:l.f=p.f+1):(OV y p last l).f=p.f:=by unfold OV;rw[Kx,List.length_tail];lia
def lr{L:Ab}{M:Nat}(hp:p.f=M)(hL:L.f=M)(hl:∀l∈L,l.f=M+1){i j:Nat}(hi:i<M)(hj:j<M):
  fnL (L.H<|OV y p last) i j=(offN (fnL<|(y::p)::L) i j).fdiv last:=by
 obtain⟨l,Lf⟩:∃l,L[i]?=some l:={_,Xw J};let Ve:=hl l (Xf Lf)
 obtain⟨x,l',rfl⟩:∃x l',l=x::l':=by
  cases l with
  |nil=>cases Ve
  |cons x l'=>exists x,l',Z
 let PQ:l'.f=M:=by rw[YW]at Ve;lia
 obtain⟨u,hu⟩:∃u,l'[j]?=some u:={_,Xw J};obtain⟨v,hv⟩:∃v,p[j]?=some v:={_,Xw J};let e1:fnL (L.H<|OV y p last) i j=(y*u-x*v).fdiv last:=Qq (l:=OV y p last<|x::l') (by rw[Yn,Lf];rfl) (by
  change(List.zipWith _ l' p)[j]?=_;rw[LV,hu,hv]
  rfl)
 let e2:fnL ((y::p)::L) 0 0=y:=rfl;let e3:fnL ((y::p)::L) (i+1) (j+1)=u:=Qq (l:=x::l') Lf hu
 let e4:fnL ((y::p)::L) (i+1) 0=x:=Qq (l:=x::l') Lf rfl;let e5:fnL ((y::p)::L) 0 (j+1)=v:=Qq (l:=y::p) Z hv
 rw[e1];unfold offN;rw[e2,e3,e4,e5]
end My
namespace My
open PySem L2
def BO(K:Ad)(H:Hp)(v:V)(l:Ac):(Prop):=∃r k,v=.ref r/\SqK k K H r (IL l)
def LiV(d:Addr)(H:Hp)(v:V)(l:Ac):(Prop):=∃r,v=.ref r/\H r=some (.lst<|IL l)/\r≠d
def LiV.same(s:Same H H')(h:LiV d H v l):LiV d H' v l:=by let(r,e,h,n):=h;exists r,e,s _ _ h,n
def LiV.mut(h:LiV d H v l):LiV d (upd H d o) v l:=by let(r,e,h,n):=h;exists r,e,by rw[Zb n];show h,n
def LiV.list(h:LiV d H v l):RO H v l:=by let(r,e,h,_):=h;exists r,e,h
def Bears.erase{α:Type}[DecidableEq α]{R:V->α->Prop}{xs:List V}{l:List α}(h:Bears R xs l)(t:Nat):Bears R (xs.eraseIdx t) (l.eraseIdx t):=by
 let hl:=h.1;show{by rw[sS,sS,hl],λi a e=>?_};rw[sV]at e;rw[sV];split at e
 .next c=>rw[Yi c];show h.2 _ _ e
 .next c=>rw[Yh c];show h.2 _ _ e
def ZA8(x:Int)(l:Ac):XG (IL (x::l)) (some 1) none=IL l:=by rw[vj AP];rfl
def lq(t:Nat):sg t*sg t=1:=by unfold sg;split<;>rfl
end My
namespace My
def lp{f:Nat->Nat->Int}:sm n (λi=>sm m λj=>f i j)=sm m (λj=>sm n λi=>f i j):=lS
def Le:∀{n:Nat}{A:Mx},det (n+1) A=sm (n+1) λi=>sg i*A i 0*det n (λr c=>A (sk i r) (c+1))
 |0,A=>rfl
 |n+1,A=>by
  let e1:det (n+2) A=sg 0*A 0 0*det (n+1) (mn A 0)+sm (n+1) λj=>sg (j+1)*A 0 (j+1)*det (n+1) (mn A<|j+1):=Ca;let e2:sm (n+2) (λi=>sg i*A i 0*det (n+1) λr c=>A (sk i r)<|c+1)=sg 0*A 0 0*det (n+1) (λr c=>A (sk 0 r)<|c+1)+sm (n+1) λi=>sg (i+1)*A (i+1) 0*det (n+1) (λr c=>A (sk (i+1) r)<|c+1):=Ca
  rw[e1,e2];let e3:det (n+1) (mn A 0)=det (n+1) (λr c=>A (sk 0 r)<|c+1):=Zn λr c _ _=>rfl
  rw[e3];show YF (λz:Int=>sg 0*A 0 0*det (n+1) (λr c=>A (sk 0 r)<|c+1)+z) ?_;obtain⟨tB,hD⟩:∃tB:Nat->Nat->Int,tB=λi j=>det n (λr c=>A (sk i r+1)<|sk (j+1)<|c+1):={_,Z};let e4:∀j,j<n+1->det (n+1) (mn A<|j+1)=sm (n+1) λi=>sg i*A (i+1) 0*tB i j:=λj _=>by rw[Le,hD];rfl
  let e5:∀i,i<n+1->det (n+1) (λr c=>A (sk (i+1) r)<|c+1)=sm (n+1) λj=>sg j*A 0 (j+1)*tB i j:=λi hi=>by
   change sm (n+1) (λj=>sg j*A (sk (i+1) 0) (j+1)*det n (mn (λr c=>A (sk (i+1) r)<|c+1) j))=_;show ZJ λj _=>?_;rw[hD];change sg j*A (sk (i+1) 0) (j+1)*det n (mn (λr c=>A (sk (i+1) r)<|c+1) j)=sg j*A 0 (j+1)*det n (λr c=>A (sk i r+1)<|sk (j+1)<|c+1)
   rw[show sk (i+1) 0=0 from Z];show YF (sg j*A 0 (j+1) * ·) (Zn λr c _ _=>?_);change A (sk (i+1)<|r+1) (sk j c+1)=A (sk i r+1) (sk (j+1)<|c+1)
   let f1:sk (i+1) (r+1)=sk i r+1:=by
    unfold sk;cases h:r<i
    .rw[Yi h,Yi J]
    .rw[Yh h,Yh J]
   let f2:sk j c+1=sk (j+1) (c+1):=by
    unfold sk;cases h:c<j
    .rw[Yi h,Yi J]
    .rw[Yh h,Yh J]
   rw[f1,f2]
  let e6:sm (n+1) (λj=>sg (j+1)*A 0 (j+1)*det (n+1) (mn A<|j+1))=sm (n+1) λj=>sm (n+1) λi=>sg (j+1)*A 0 (j+1)*(sg i*A (i+1) 0*tB i j):=ZJ λj hj=>by rw[e4 j hj,Gr]
  let e7:sm (n+1) (λi=>sg (i+1)*A (i+1) 0*det (n+1) λr c=>A (sk (i+1) r)<|c+1)=sm (n+1) λi=>sm (n+1) λj=>sg (i+1)*A (i+1) 0*(sg j*A 0 (j+1)*tB i j):=ZJ λi hi=>by rw[e5 i hi,Gr]
  rw[e6,e7,lp];show ZJ λi _=>ZJ λj _=>?_;rw[vc,vc];generalize tB i j=d;generalize A 0 (j+1)=x;generalize A (i+1) 0=y;generalize sg i=s;generalize sg j=u;simp only[wI,Int.neg_inj];simp only[Qz,NF,RW]
def OU:∀{n:Nat}{A:Mx},det n (λi j=>A j i)=det n A
 |0,_=>rfl
 |n+1,A=>by
  rw[Le (A:=A)];show ZJ λj _=>?_;change sg j*A j 0*det n (λi k=>A (sk j k)<|i+1)=sg j*A j 0*det n (λr c=>A (sk j r)<|c+1)
  rw[<-OU (A:=λr c=>A (sk j r)<|c+1)]
def BN{n a b:Nat}(ha:a<n)(hb:b<n)(XJ:a≠b)(h:∀j,j<n->A a j=A b j):det n A=0:=by
 rcases Nat.lt_or_gt_of_ne XJ with c|c
 .obtain⟨d,rfl⟩:∃d,b=a+d+1:={b-a-1,B};show va hb h
 .obtain⟨d,rfl⟩:∃d,a=b+d+1:={a-b-1,B};show va ha λj hj=>(h j hj).symm
def putr(A:Mx)(i:Nat)(x:Nat->Int):(Mx):=λr=>if r=i then x else A r
def Zs8{c:Int}{x y:Nat->Int}(hi:i<n):det n (putr A i λj=>c*x j+y j)=c*det n (putr A i x)+det n (putr A i y):=
 Si hi (λr j _ _ XJ=>by unfold putr;rw[Yh XJ,Yh XJ,Yh XJ];exists Z,Z) (λj _=>by unfold putr;rw[Yi Z,Yi Z,Yi Z])
def Zu7:putr A i (A i)=A:=by
 funext r
 unfold putr;cases h:r=i
 .rw[Yi h,h]
 .rw[Yh h]
def Zw8{n a b:Nat}{c:Int}(ha:a<n)(hb:b<n)(XJ:a≠b):det n (putr A a λj=>A a j+c*A b j)=det n A:=by
 let e:(λj=>A a j+c*A b j)=λj=>c*A b j+A a j:=by funext j;lia
 rw[e,Zs8 ha,Zu7,BN ha hb XJ (A:=putr A a<|A b) λj _=>?_,RV,NH];unfold putr;rw[Yi Z,Yh (XH XJ)]
def lj(a i:Nat):rotN 0 a (i+1)=sk a i:=by
 let r:rotN 0 a (i+1)=if i+1<0 then i+1 else if i+1=0 then 0+a else if i+1<=0+a then i+1-1 else i+1:=rfl
 rw[Yh J,Yh J]at r;rw[r];unfold sk;cases h:i<a
 .rw[Yi h,Yi J];lia
 .rw[Yh h,Yh J]
def BM{f:Nat->Int}{a:Nat}:∀{n:Nat},a<n->(∀j,j<n->j≠a->f j=0)->sm n f=f a
 |0,h,_=>absurd h (VX _)
 |n+1,h,h0=>by
  change sm n f+f n=f a;cases c:a=n
  .rw[IY λi hi=>h0 i B J,c,NH]
  .rw[BM (n:=n) J λj hj XJ=>h0 j J XJ,h0 n J J,Rz]
def lg(ha:a<n+1):det (n+1) (putr A a λj=>if j=a then 1 else 0)=det n (λi j=>A (sk a i) (sk a j)):=by
 let e:=lN (n:=n+1) (k:=0) (t:=a) (A:=putr A a λj=>if j=a then 1 else 0) J;let r0:rotN 0 a 0=a:=by change(if 0<0 then 0 else if 0=0 then 0+a else _)=a;rw[Yh J,Yi Z,RB]
 let top:det (n+1) (λi=>putr A a (λj=>if j=a then 1 else 0)<|rotN 0 a i)=sg a*det n (λi j=>A (sk a i)<|sk a j):=by
  change sm (n+1) (λj=>sg j*putr A a (λj=>if j=a then 1 else 0) (rotN 0 a 0) j*det n (mn (λi=>putr A a (λj=>if j=a then 1 else 0)<|rotN 0 a i) j))=_;rw[BM ha λj _ XJ=>?_]
  .rw[r0];let e1:putr A a (λj=>if j=a then 1 else 0) a a=1:=by unfold putr;rw[Yi Z,Yi Z]
   rw[e1,Hd];show YF (sg a * ·) (Zn λi j _ _=>?_);change putr A a (λj=>if j=a then 1 else 0) (rotN 0 a<|i+1) (sk a j)=A (sk a i) (sk a j)
   rw[lj];unfold putr;rw[Yh (by unfold sk;split<;>lia)]
  .rw[r0];let e1:putr A a (λj=>if j=a then 1 else 0) a j=0:=by unfold putr;rw[Yi Z,Yh XJ]
   rw[e1,RV,Fq]
 rw[top]at e;let h:=YF (sg a * ·) e
 simp only[<-RW]at h;rw[show sg a*sg a=1 by unfold sg;split<;>rfl,Sx,Sx]at h
 show h.symm
def Zv8{w:Int}(ha:a<n+1):det (n+1) (λi j=>A i j+w*((if i=a then 1 else 0)*(if j=a then 1 else 0)))=det (n+1) A+w*det n (λi j=>A (sk a i) (sk a j)):=by
 let e:det (n+1) (λi j=>A i j+w*((if i=a then 1 else 0)*(if j=a then 1 else 0)))=det (n+1) (putr A a λj=>w*(λj=>if j=a then 1 else 0) j+A a j):=Zn λi j _ _=>by
  unfold putr;cases h:i=a
  .subst h;rw[Yi Z,Yi Z,Sx];change A i j+w*(if j=i then 1 else 0)=w*(if j=i then 1 else 0)+A i j
   show Int.add_comm ..
  .rw[Yh h,Yh h,Fq,RV,Rz]
 rw[e,Zs8 ha,Zu7,lg ha];lia
def ind(u v i:Nat):(Int):=(if i=u then 1 else 0)-(if i=v then 1 else 0)
def Qp(A:Mx)(a b:Nat):(Mx):=λi j=>(A i j+(if i=b then A a j else 0))+(if j=b then A i a+(if i=b then A a a else 0) else 0)
def BK(ha:a<n)(hb:b<n)(XJ:a≠b):det n (Qp A a b)=det n A:=by
 let e1:det n A=det n (putr A b λj=>A b j+1*A a j):=(Zw8 hb ha<|XH XJ).symm;obtain⟨R,hR⟩:∃R:Mx,R=putr A b (λj=>A b j+1*A a j):={_,Z};let e2:det n R=det n (putr (λi j=>R j i) b λj=>(λi j=>R j i) b j+1*(λi j=>R j i) a j):=by rw[Zw8 (A:=λi j=>R j i) hb ha (XH XJ)];show OU.symm
 rw[e1,<-hR,e2,<-OU (A:=putr (λi j=>R j i) b λj=>(λi j=>R j i) b j+1*(λi j=>R j i) a j)];show Zn λi j _ _=>?_;let rv:∀r c,R r c=A r c+(if r=b then A a c else 0):=λr c=>by
  rw[hR];unfold putr;cases h:r=b
  .rw[Yi h,Yi h,h];lia
  .rw[Yh h,Yh h];lia
 unfold Qp;change _=(putr (λi j=>R j i) b λj=>R j b+1*R j a) j i
 unfold putr;cases h:j=b
 .rw[Yi h,Yi h,rv,rv,h];cases h2:i=b
  .rw[Yi h2,Yi h2];lia
  .rw[Yh h2,Yh h2];lia
 .rw[Yh h,Yh h];change _=R i j
  rw[rv];lia
def BJ{w:Int}(ha:a<n+1)(hb:b<n+1)(XJ:a≠b):det (n+1) (λi j=>A i j+w*(ind a b i*ind a b j))=det (n+1) A+w*det n (λi j=>Qp A a b (sk a i) (sk a j)):=by
 let e1:=BK (A:=λi j=>A i j+w*(ind a b i*ind a b j)) ha hb XJ;let e2:det (n+1) (Qp (λi j=>A i j+w*(ind a b i*ind a b j)) a b)=det (n+1) (λi j=>Qp A a b i j+w*((if i=a then 1 else 0)*(if j=a then 1 else 0))):=Zn λi j _ _=>by
  let na:¬a=b:=XJ;let nb:¬b=a:=XH XJ
  unfold Qp ind;cases hi:i=b
  .subst hi;cases hj:j=i
   .subst hj;simp[na,nb];lia
   .cases RI:j=a
    .subst RI;simp[na,nb,hj];lia
    .simp[na,nb,hj,RI]
  .cases Ws:i=a
   .subst Ws;cases hj:j=b
    .subst hj;simp[na,nb];lia
    .cases RI:j=i
     .subst RI;simp[na,nb]
     .simp[na,nb,hj,RI]
   .cases hj:j=b
    .subst hj;simp[na,nb,hi,Ws]
    .cases RI:j=a
     .subst RI;simp[na,nb,hi,Ws]
     .simp[na,nb,hi,Ws,hj,RI]
 rw[<-e1,e2,Zv8 ha,BK ha hb XJ]
end My
namespace My
open PySem L2
abbrev Ed:=Nat×Nat×Int
def lapE:(List Ed->Mx)
 |[]=>λ_ _=>0
 |e::E=>λi j=>e.2.2*(ind e.1 e.2.1 i*ind e.1 e.2.1 j)+lapE E i j
def lb(E:List Ed)(e:Ed)(i j:Nat):lapE (E++[e]) i j=lapE E i j+e.2.2*(ind e.1 e.2.1 i*ind e.1 e.2.1 j):=by
 induction E with
 |nil=>show _+0=0+_;lia
 |cons f E ih=>
  change _+lapE (E++[e]) i j=_+lapE E i j+_;rw[ih];lia
def Tx(E:List Ed)(z:Int):(Nat×Nat):=((E.Q z.j (0,0,0)).1,(E.Q z.j (0,0,0)).2.1)
def UP(E:List Ed):(Ac->Int)
 |[]=>1
 |z::T=>(E.Q z.j (0,0,0)).2.2*UP E T
def BI(E:List Ed)(S T:Ac):UP E (S++T)=UP E S*UP E T:=by
 induction S with
 |nil=>show _=1*_;rw[Sx];rfl
 |cons z S ih=>show _*UP E (S++T)=_*_*_;rw[ih,RW]
def IsT(k:Nat)(E:List Ed)(T:Ac):(Prop):=IsSet E.f T/\T.f=k/\∀i j,i<k+1->j<k+1->Conn (T.H<|Tx E) i j
def TW(k:Nat)(E:List Ed)(s:Int):(Prop):=∃L:Ab,L.Nodup/\(∀T,T∈L↔IsT k E T)/\(L.H<|UP E).sum=s
def BH{E:List Ed}{e:Ed}{z:Int}(h0:0<=z)(h1:z<E⁻¹):(E++[e]).Q z.j (0,0,0)=E.Q z.j (0,0,0):=by rw[We,We,YG J]
def ZX5(E:List Ed)(e:Ed):(E++[e]).Q (E.f:Int).j (0,0,0)=e:=by rw[We,YX,YD<|XI _,UE];rfl
def IT{e:Ed}(h:IsSet E.f T):T.H (Tx (E++[e]))=T.H (Tx E):=YQ λz hz=>by
 have:=h.all z hz
 unfold Tx;rw[BH this.1 this.2]
def IS{e:Ed}(h:∀z∈T,0<=z/\z<E⁻¹):UP (E++[e]) T=UP E T:=by
 induction T with
 |nil=>rfl
 |cons z T ih=>
  let hz:=h z Ya;change _*UP (E++[e]) T=_*UP E T
  rw[BH hz.1 hz.2,ih λy hy=>h y (Yf _ hy)]
def uY{e:Ed}(h:IsSet E.f T):IsT k (E++[e]) T↔IsT k E T:=by
 let h2:IsSet (E++[e]).f T:=by rw[Xe];show h.up
 constructor
 .rintro⟨_,a,b⟩;exists h,a,by rwa[IT h]at b
 .rintro⟨_,a,b⟩;exists h2,a,by rwa[IT h]
def ZQ7{e:Ed}(h:IsSet E.f T):(T++[E⁻¹]).H (Tx (E++[e]))=T.H (Tx E)++[(e.1,e.2.1)]:=by
 rw[YB,IT h];change _++[Tx (E++[e]) E⁻¹]=_
 unfold Tx;rw[ZX5]
def sh(a x:Nat):(Nat):=if x<a then x else x-1
def dl(a b x:Nat):(Nat):=if x=a then sh a b else sh a x
def IQ(a y:Nat):sh a (sk a y)=y:=by
 unfold sk;cases h:y<a
 .rw[Yi h];unfold sh;rw[Yi h]
 .rw[Yh h];unfold sh;rw[Yh J];lia
def BG(a y:Nat):sk a y≠a:=by unfold sk;split<;>lia
def MP(h:x≠a):sk a (sh a x)=x:=by
 unfold sh;cases c:x<a
 .rw[Yi c];unfold sk;rw[Yi c]
 .rw[Yh c];unfold sk;rw[Yh J];lia
def MO(a b y:Nat):dl a b (sk a y)=y:=by unfold dl;rw[Yh (BG a y),IQ]
def IP(hx:x≠a)(hy:y≠a)(h:sh a x=sh a y):x=y:=by
 have:=YF (sk a) h
 rwa[MP hx,MP hy]at this
def k9(XJ:b≠a)(h:dl a b x=dl a b y):x=y\/(x=a/\y=b)\/(x=b/\y=a):=by
 unfold dl at h;cases hx:x=a
 .rw[Yi hx]at h;cases hy:y=a
  .show .inl (hx.l hy.symm)
  .rw[Yh hy]at h;show .inr (.inl {hx,(IP XJ hy h).symm})
 .rw[Yh hx]at h;cases hy:y=a
  .rw[Yi hy]at h;show .inr (.inr {IP hx XJ h,hy})
  .rw[Yh hy]at h;show .inl (IP hx hy h)
def k8(a b:Nat)(XJ:b≠a):dl a b a=dl a b b:=by unfold dl;rw[Yi Z,Yh XJ]
def k7{es:List (Nat×Nat)}{i j:Nat}(XJ:b≠a)(c:Conn (es++[(a,b)]) i j):Conn (es.H λe=>(dl a b e.1,dl a b e.2)) (dl a b i) (dl a b j):=by
 induction c with
 |refl i=>show .refl _
 |edge q=>
  rcases Xk.R q with q|q
  .show .edge (Yz.mpr {_,q,Z})
  .let e:=Xc.R q;injection e with e1 e2
   rw[e1,e2,k8 a b XJ];show .refl _
 |symm _ ih=>show .symm ih
 |trans _ _ a b=>show .trans a b
def k6{es:List (Nat×Nat)}{u v:Nat}(XJ:b≠a)(c:Conn (es.H λe=>(dl a b e.1,dl a b e.2)) u v):∀i j,dl a b i=u->dl a b j=v->Conn (es++[(a,b)]) i j:=by
 let he:Conn (es++[(a,b)]) a b:=.edge Fe;let same:∀i j,dl a b i=dl a b j->Conn (es++[(a,b)]) i j:=λi j e=>by
  rcases k9 XJ e with e|⟨e1,e2⟩|⟨e1,e2⟩
  .rw[e];show .refl _
  .rw[e1,e2];show he
  .rw[e1,e2];show he.symm
 induction c with
 |refl u=>show λi j e1 e2=>same i j (e1.l e2.symm)
 |edge q=>
  intro i j e1 e2;let((x,y),Lk,e):=Yz.R q;injection e with x1 x2
  show(same i x<|e1.l x1.symm).l (.trans (.edge<|Yj _ Lk)<|same y j<|x2.l e2.symm)
 |symm _ ih=>show λi j e1 e2=>(ih j i e2 e1).symm
 |@trans x y z _ _ Ob RL=>show λi j e1 e2=>(Ob i (sk a y) e1<|MO a b y).l (RL (sk a y) j (MO a b y) e2)
def MN{a b x k:Nat}(ha:a<k+1)(hb:b<k+2)(XJ:b≠a)(hx:x<k+2):dl a b x<k+1:=by
 unfold dl sh;cases h:x=a
 .rw[Yi h];split<;>lia
 .rw[Yh h];split<;>lia
def cdl{a b k:Nat}{es:List (Nat×Nat)}(ha:a<k+1)(hb:b<k+2)(XJ:b≠a):(∀i j,i<k+2->j<k+2->Conn (es++[(a,b)]) i j)↔∀i j,i<k+1->j<k+1->Conn (es.H λe=>(dl a b e.1,dl a b e.2)) i j:=by
 constructor
 .intro c i j h1 h2
  have:=k7 XJ (c (sk a i) (sk a j) (OX h1)<|OX h2)
  rwa[MO,MO]at this
 .show λc i j h1 h2=>k6 XJ (c _ _ (MN ha hb XJ h1)<|MN ha hb XJ h2) i j Z rfl
def SE(a b:Nat)(E:List Ed):(List Ed):=E.H λe=>(dl a b e.1,dl a b e.2.1,e.2.2)
def BF{z:Int}(h0:0<=z)(h1:z<E⁻¹):(SE a b E).Q z.j (0,0,0)=(dl a b (E.Q z.j (0,0,0)).1,dl a b (E.Q z.j (0,0,0)).2.1,(E.Q z.j (0,0,0)).2.2):=by unfold SE;rw[We,We,Yn,Xw rO];rfl
def BE(h:IsSet E.f T):T.H (Tx (SE a b E))=(T.H (Tx E)).H λe=>(dl a b e.1,dl a b e.2):=by
 rw[Ov];show YQ λz hz=>?_
 have:=h.all z hz
 unfold Tx;rw[BF this.1 this.2];rfl
def kZ(h:∀z∈T,0<=z/\z<E⁻¹):UP (SE a b E) T=UP E T:=by
 induction T with
 |nil=>rfl
 |cons z T ih=>
  let hz:=h z Ya;change _*UP (SE a b E) T=_*UP E T
  rw[BF hz.1 hz.2,ih λy hy=>h y (Yf _ hy)]
def BD{e:Ed}(ha:a<k+1)(hb:b<k+2)(XJ:b≠a)(he:(e.1=a/\e.2.1=b)\/(e.1=b/\e.2.1=a))(h:IsSet E.f T):IsT (k+1) (E++[e]) (T++[E⁻¹])↔IsT k (SE a b E) T:=by
 let hl:(SE a b E).f=E.f:=Yb ..;let hc:(∀i j,i<k+2->j<k+2->Conn ((T++[E⁻¹]).H (Tx<|E++[e])) i j)↔∀i j,i<k+2->j<k+2->Conn (T.H (Tx E)++[(a,b)]) i j:=by
  rw[ZQ7 h];rcases he with ⟨e1,e2⟩|⟨e1,e2⟩
  .rw[e1,e2]
  .rw[e1,e2];exists λc i j x y=>ve<|c i j x y,λc i j x y=>ve<|c i j x y
 let h2:IsSet (E++[e]).f (T++[E⁻¹]):=by rw[Xe];show h.snoc
 constructor
 .rintro⟨_,x,y⟩;exists hl▸h,?_,?_
  .rw[Xe,YK]at x;lia
  .rw[BE h];show(cdl ha hb XJ).R (hc.R y)
 .rintro⟨_,x,y⟩;rw[BE h]at y;exists h2,by rw[Xe,YK,x],hc.mpr<|(cdl ha hb XJ).mpr y
def BC{E:List Ed}{e:Ed}(hE:∀f∈E,f.1<k+1/\f.2.1<k+1)(he:e.1=e.2.1)(h:IsSet E.f T):¬IsT k (E++[e]) (T++[E⁻¹]):=by
 rintro⟨_,x,y⟩;rw[ZQ7 h]at y;let Sk:∀i j,i<k+1->j<k+1->Conn (T.H<|Tx E) i j:=λi j hi hj=>(y i j hi hj).lift λf hf=>by
  rcases Xk.R hf with q|q
  .show .edge q
  .rw[Xc.R q,he];show .refl _
 let Wt:InN (k+1) (T.H<|Tx E):=λf hf=>by
  let(z,hz,rfl):=Yz.R hf
  have:=h.all z hz
  unfold Tx;rw[We,Xw J];show hE _ (Hm _)
 let h2:=(MZ J Wt).mpr Sk;let h3:=Dj _ Wt
 rw[Yb]at h3;rw[Xe,YK]at x;lia
def kY{e:Ed}(hE:∀f∈E,f.1<k+1/\f.2.1<k+1)(he:e.1=e.2.1)(h:TW k E s):TW k (E++[e]) s:=by
 let(L,a1,a2,a3):=h;exists L,a1,λT=>?_,?_
 .rw[a2];constructor
  .show λh=>(uY h.1).mpr h
  .intro h;let hs:=h.1
   rw[Xe]at hs;rcases Cf hs with c|⟨T',c,c2⟩
   .show(uY c).R h
   .show absurd (c▸h) (BC hE he c2)
 .rw[<-a3];show YF List.sum (YQ λT hT=>IS ((a2 T).R hT).1.all)
def kX(a b:Ac):(a++b).sum=a.sum+b.sum:=by
 induction a with
 |nil=>rw[Ks,List.sum_nil,NH]
 |cons x a ih=>rw[Kt,NM,NM,ih];lia
def Za9(w:Int)(l:Ab)(f:Ac->Int):(l.H λT=>f T*w).sum=w*(l.H f).sum:=by
 induction l with
 |nil=>rw[List.map_nil,List.map_nil,List.sum_nil,RV]
 |cons x l ih=>rw[SR,SR,NM,NM,ih,LM,Qz]
def kW{e:Ed}(ha:a<k+1)(hb:b<k+2)(XJ:b≠a)(he:(e.1=a/\e.2.1=b)\/(e.1=b/\e.2.1=a))(h1:TW (k+1) E s1)(h2:TW k (SE a b E) s2):TW (k+1) (E++[e]) (s1+e.2.2*s2):=by
 let(L,a1,a2,a3):=h1;let(M,b1,b2,b3):=h2;let hl:(SE a b E).f=E.f:=Yb ..
 exists L++M.H (·++[E⁻¹]),VG.mpr {a1,?_,λx hx y hy c=>?_},λT=>?_,?_
 .show List.G.H _ (λx y h c=>h<|cf c) b1
 .let⟨z,hz,c2⟩:=Yz.R hy
  have:=((a2 x).R hx).1.all E⁻¹ (by rw[c,<-c2];simp)
  lia
 .rw[Xk,a2,Yz];constructor
  .rintro(h|⟨T',hT,rfl⟩)
   .show(uY h.1).mpr h
   .have:=(b2 T').R hT
    show(BD ha hb XJ he<|hl▸this.1).mpr this
  .intro h;let hs:=h.1
   rw[Xe]at hs;rcases Cf hs with c|⟨T',c,c2⟩
   .show .inl ((uY c).R h)
   .show .inr {T',(b2 T').mpr ((BD ha hb XJ he c2).R (c▸h)),c.symm}
 .rw[YB,kX,Ov];let e1:L.H (UP<|E++[e])=L.H (UP E):=YQ λT hT=>IS ((a2 T).R hT).1.all
  let e2:M.H (UP (E++[e])∘(·++[E⁻¹]))=M.H λT=>UP (SE a b E) T*e.2.2:=YQ λT hT=>by
   let hs:IsSet E.f T:=hl▸((b2 T).R hT).1;change UP (E++[e]) (T++[E⁻¹])=_
   rw[BI,IS hs.all,kZ hs.all];change _*(((E++[e]).Q (E.f:Int).j (0,0,0)).2.2*1)=_
   rw[ZX5,Hd]
  rw[e1,e2,a3,Za9,b3]
def BB(XJ:b≠a):ind (dl a b u) (dl a b v) i=ind u v (sk a i)+(if sk a i=b then ind u v a else 0):=by
 let key:∀x:Nat,((if i=dl a b x then 1 else 0:Int))=(if sk a i=x then 1 else 0)+(if sk a i=b then (if a=x then 1 else 0) else 0):=λx=>by
  unfold dl;cases hx:x=a
  .rw[Yi hx,Yh<|show ¬sk a i=x from hx▸BG a i,NH];cases h:sk a i=b
   .rw[Yi h,Yi hx.symm,Yi];rw[<-h,IQ]
   .rw[Yh h,Yh];intro e;show h (by rw[e,MP XJ])
  .rw[Yh hx];let e2:(if sk a i=b then (if a=x then 1 else 0:Int) else 0)=0:=by rw[Yh (XH hx)];split<;>rfl
   rw[e2,Rz];cases h:sk a i=x
   .rw[Yi h,Yi];rw[<-h,IQ]
   .rw[Yh h,Yh];intro e;show h (by rw[e,MP hx])
 unfold ind;rw[key u,key v];cases h:sk a i=b
 .rw[Yi h,Yi h,Yi h];lia
 .rw[Yh h,Yh h,Yh h];lia
def BA(XJ:b≠a)(i j:Nat):∀E:List Ed,lapE (SE a b E) i j=Qp (lapE E) a b (sk a i) (sk a j)
 |[]=>by
  change(0:Int)=_;unfold Qp lapE;cases h:sk a i=b
  .cases h2:sk a j=b
   .rw[Yi h,Yi h2];rfl
   .rw[Yi h,Yh h2];rfl
  .cases h2:sk a j=b
   .rw[Yh h,Yi h2];rfl
   .rw[Yh h,Yh h2];rfl
 |e::E=>by
  let ih:=BA XJ i j E;change e.2.2*(ind (dl a b e.1) (dl a b e.2.1) i*ind (dl a b e.1) (dl a b e.2.1) j)+lapE (SE a b E) i j=_
  rw[ih,BB XJ,BB XJ];unfold Qp;change _=(e.2.2*(ind e.1 e.2.1 (sk a i)*ind e.1 e.2.1 (sk a j))+lapE E (sk a i) (sk a j)+(if sk a i=b then e.2.2*(ind e.1 e.2.1 a*ind e.1 e.2.1 (sk a j))+lapE E a (sk a j) else 0))+(if sk a j=b then (e.2.2*(ind e.1 e.2.1 (sk a i)*ind e.1 e.2.1 a)+lapE E (sk a i) a)+(if sk a i=b then e.2.2*(ind e.1 e.2.1 a*ind e.1 e.2.1 a)+lapE E a a else 0) else 0)
  generalize ind e.1 e.2.1 (sk a i)=x;generalize ind e.1 e.2.1 (sk a j)=y;generalize ind e.1 e.2.1 a=z;generalize e.2.2=w;cases h:sk a i=b
  .cases h2:sk a j=b
   .simp only[Yi h,Yi h2,LM,wH];lia
   .simp only[Yi h,Yh h2,LM,wH,Rz,RV];lia
  .cases h2:sk a j=b
   .simp only[Yh h,Yi h2,LM,wH,Rz,Fq];lia
   .simp only[Yh h,Yh h2,Rz]
def Bz(u v i:Nat):ind v u i=- ind u v i:=by unfold ind;lia
def By{e:Ed}(ha:a<k+1)(hb:b<k+2)(XJ:b≠a)(he:(e.1=a/\e.2.1=b)\/(e.1=b/\e.2.1=a)):det (k+1) (lapE (E++[e]))=det (k+1) (lapE E)+e.2.2*det k (lapE (SE a b E)):=by
 let e1:det (k+1) (lapE<|E++[e])=det (k+1) (λi j=>lapE E i j+e.2.2*(ind a b i*ind a b j)):=Zn λi j _ _=>by
  rw[lb];rcases he with ⟨x,y⟩|⟨x,y⟩
  .rw[x,y]
  .rw[x,y,Bz a b i,Bz a b j,Int.neg_mul_neg]
 let e2:det k (lapE<|SE a b E)=det k (λi j=>Qp (lapE E) a b (sk a i)<|sk a j):=Zn λi j _ _=>BA XJ i j E;rw[e1,e2];cases hk:b<k+1
 .show BJ ha hk (XH XJ)
 .let e3:det (k+1) (λi j=>lapE E i j+e.2.2*(ind a b i*ind a b j))=det (k+1) (λi j=>lapE E i j+e.2.2*((if i=a then 1 else 0)*(if j=a then 1 else 0))):=Zn λi j hi hj=>by unfold ind;rw[Yh (show ¬i=b by lia),Yh (show ¬j=b by lia),Int.sub_zero,Int.sub_zero]
  let e4:det k (λi j=>Qp (lapE E) a b (sk a i)<|sk a j)=det k (λi j=>lapE E (sk a i)<|sk a j):=Zn λi j hi hj=>by
   let h1:=OX (j:=a) hi;let h2:=OX (j:=a) hj
   unfold Qp;rw[Yh (show ¬sk a i=b by lia),Yh (show ¬sk a j=b by lia),Rz,Rz]
  rw[e3,e4];show Zv8 ha
def ZN5{e:Ed}(he:e.1=e.2.1):lapE (E++[e])=lapE E:=by
 funext i j
 rw[lb,he];unfold ind;rw[Int.sub_self,Fq,RV,Rz]
def Bx:∀m k E,E.f=m->(∀e∈E,e.1<k+1/\e.2.1<k+1)->TW k E (det k (lapE E))
 |0,k,E,hm,_=>by
  let rfl:=UG.R hm;cases k with
  |zero=>
   exists [[]],Fe,λT=>?_,Z;rw[Xc];constructor
   .rintro rfl;show⟨IsSet.nil _,Z,λi j hi hj=>by
     have:i=j:=J
     rw[this];show .refl j⟩
   .intro h;show UG.R h.2.1
  |succ k=>
   exists [],.nil,λT=>{λh=>(by cases h),λh=>?_},?_
   .let h1:=h.1.len;let h2:=h.2.1
    rw[List.length_nil]at h1;lia
   .show(Zq8 (i:=0) J λj _=>rfl).symm
 |m+1,k,E,hm,hE=>by
  obtain⟨E',e,rfl⟩:∃E' e,E=E'++[e]:={E.dropLast,E.getLast (λh=>by rw[h]at hm;cases hm),(tu _).symm};let GK:E'.f=m:=by rw[Xe]at hm;simpa using hm
  let kT:∀f∈E',f.1<k+1/\f.2.1<k+1:=λf hf=>hE f (Yj _ hf);let he:=hE e Fe
  let ih:=Bx m k E' GK kT;cases hl:e.1=e.2.1
  .rw[ZN5 hl];show kY kT hl ih
  .obtain⟨k',rfl⟩:∃k',k=k'+1:={k-1,J};obtain⟨a,b,ha,hb,XJ,Vq⟩:∃a b,a<k'+1/\b<k'+2/\b≠a/\((e.1=a/\e.2.1=b)\/(e.1=b/\e.2.1=a)):=by
    cases c:e.1<k'+1
    .exists e.1,e.2.1,c,he.2,λh=>hl h.symm,.inl ⟨Z,Z⟩
    .exists e.2.1,e.1,J,he.1,hl,.inr ⟨Z,Z⟩
   let RL:=Bx m k' (SE a b E') (by unfold SE;rwa[Yb]) λf hf=>by
    let(g,hg,rfl):=Yz.R hf
    have:=kT g hg
    exists MN ha hb XJ this.1,MN ha hb XJ this.2
   rw[By ha hb XJ Vq];show kW ha hb XJ Vq ih RL
def Wo(ps:Aa)(ws:Ac):(List Ed):=List.zipWith (λp w=>(p.1.j,p.2.j,w)) ps ws
def IM(h1:1<=n)(hw:ws.f=ps.f):IsT (n-1).j (Wo ps ws) T↔Zg n ps T:=by
 let hl:(Wo ps ws).f=ps.f:=by unfold Wo;rw[Kx];lia
 let hm:IsSet ps.f T->T.H (Tx<|Wo ps ws)=XQ ps T:=λhs=>YQ λz hz=>by
  have:=hs.all z hz
  unfold Tx Wo;rw[We,LV,Xw J,Xw (show z.j<ws.f by lia),We,Xw rO];rfl
 unfold IsT Zg;rw[hl];constructor
 .rintro⟨a,b,c⟩;rw[hm a]at c;exists a,J,λi j hi hj=>c i j J J
 .rintro⟨a,b,c⟩;rw[hm a];exists a,J,λi j hi hj=>c i j J J
def Ld(h:∀e∈E,e.2.2=1):∀{T:Ac},(∀z∈T,0<=z/\z<E⁻¹)->UP E T=1
 |[],_=>rfl
 |z::T,hb=>by
  let hz:=hb z Ya;change(E.Q z.j (0,0,0)).2.2*UP E T=1
  rw[Ld h λy hy=>hb y<|Yf _ hy,Hd,We,Xw J];show h _ (Hm _)
def Zf7{l:Ab}{f:Ac->Int}(h:∀T∈l,f T=1):(l.H f).sum=l⁻¹:=by
 induction l with
 |nil=>rfl
 |cons x l ih=>
  rw[SR,NM,ih λT hT=>h T<|Yf _ hT,h x Ya,YW];lia
def IK(g:GoodW n ps)(ws:Ac):∀e∈Wo ps ws,e.1<(n-1).j+1/\e.2.1<(n-1).j+1:=λe he=>by
 unfold Wo at he;let(i,hi):=Yx he;rw[LV]at hi;let g1:=g.1
 cases h1:ps[i]? with
 |none=>rw[h1]at hi;cases hi
 |some p=>
  cases h2:ws[i]? with
  |none=>rw[h1,h2]at hi;cases hi
  |some w=>
   rw[h1,h2]at hi;let rfl:=Ym hi;let(a,b,c,d):=g.2.2.2 p (Xf h1);exists by change p.1.j<_;lia,by change p.2.j<_;lia
def kR(g:GoodW n ps){L:Ab}(hL:L.Nodup)(hm:∀l,l∈L↔Zg n ps l):det (n-1).j (lapE (Wo ps (List.U ps.f 1)))=L⁻¹:=by
 let g1:=g.1;let hw:(List.U ps.f (1:Int)).f=ps.f:=UZ
 let(M,a1,a2,a3):=Bx _ (n-1).j (Wo ps<|List.U ps.f 1) Z (IK g _);let hl:(Wo ps<|List.U ps.f 1).f=ps.f:=by unfold Wo;rw[Kx,hw];lia
 let w1:∀e∈Wo ps (List.U ps.f (1:Int)),e.2.2=1:=λe he=>by
  unfold Wo at he;let(i,hi):=Yx he;rw[LV]at hi;cases h1:ps[i]? with
  |none=>rw[h1]at hi;cases hi
  |some p=>
   cases h2:(List.U ps.f (1:Int))[i]? with
   |none=>rw[h1,h2]at hi;cases hi
   |some w=>
    rw[h1,h2]at hi;let rfl:=Ym hi;show Kl (Xf h2)
 rw[<-a3,Zf7 λT hT=>Ld w1 ((a2 T).R hT).1.all];let hp:M.Perm L:=(Kz a1 hL).mpr λl=>by rw[a2,hm,IM g1 hw]
 rw[hp.length_eq]
end My
namespace L2
open PySem PySem.Spec PyProof.Rows
section
variable{X:Cx}
def kQ(K:Ad):(V->V->Hp->VK->Prop):=λx y H Q=>∃p xs i v,x=.ref p/\y=.int i/\SqL K H p xs/\0<=i/\xs[i.j]?=some v/\Q v H
def uX(K:Ad)(hk:autoParam (X.K=K) D1._auto_1):ET X (kQ K):=by
 subst hk;intro pins s σ H o i ov iv Q I ro ri h;let(p,xs,j,z,rfl,rfl,hq,h0,he,q):=h;cases ro;let(t,rfl):=ri;let(XS,r,pl,hz):=I.list hq;let(w,ew,JM):=r.get he;let hn:=JS
 let Xx:=(Xv.R he).1;show wpAny_getItem_list pl.isList h0 J (by simpa using ew) ⟨z,H,I,JM,q⟩
end
end L2
namespace My
open PySem L2
def kP{g:TG}{tb:TS}{tB:Ends}(Lk:xs.f=ys.f)(Pv:Nat->St->Hp->Prop)(h0:Pv 0 σ H)(hl:∀i σ H,i<=xs.f->Pv i σ H->SqL K H a xs/\SqL K H b ys)
  (hs:∀(i:Nat) x y σ H (p:Addr),H p=none->xs[i]?=some x->ys[i]?=some y->Pv i σ H->g ↑p σ (upd H p<|.tup [x,y]) λσ2 H2=>tb {tB with nx:=Pv<|i+1,ct:=Pv<|i+1,bk:=tB.nx} σ2 H2)(hd:∀σ H,Pv xs.f σ H->tB.nx σ H):
  ∃W:Nat->Nat->St->Hp->Prop,(∃m,W 0 m σ H)/\∀i m σ H,W i m σ H->
   ((Gs K a b).stop i H/\tB.nx σ H)\/((Gs K a b).go i H/\∃N:St->Hp->Prop,(∀σ' H',N σ' H'->∃m',m'<m/\W (i+1) m' σ' H')/\∀x H',(Gs K a b).yld i H x H'->g x σ H' λσ2 H2=>tb {tB with nx:=N,ct:=N,bk:=tB.nx} σ2 H2):=by
 exists λi m σ H=>m=xs.f-i/\i<=xs.f/\Pv i σ H,{xs.f,Fe,Yc _,h0},?_;rintro i m σ H ⟨rfl,hi,p⟩;let(q,q2):=hl i σ H hi p;cases Xx:i<xs.f
 .show .inr {{xs,ys,xs[i],ys[i]'(by lia),q,q2,by simp[Xx],Xw rO},Pv<|i+1,λσ' H' p'=>{xs.f-(i+1),B,Z,Xx,p'},λx H' ⟨T,u,v,hT,ex,eH,hu,hv⟩=>?_};subst ex eH;show hs i u v σ H T hT (hu xs q) (hv ys q2) p
 .let e:i=xs.f:=J;subst e;show .inl {{xs,ys,q,q2,.inl<|XI _},hd σ H p}
structure TabAt(H0:Hp)(r:Addr)(n:Nat)(H:Hp)(ys:List V)(L:Ab):Prop where
 tab:H r=some (.lst ys)
 rows:Bears (LiV r H) ys L
 len:L.f=n
 all:∀l∈L,l.f=n
 nd:ys.Nodup
 new:∀A,V.ref A∈ys->H0 A=none
def TabAt.same(s:Same H H')(h:TabAt H0 r n H ys L):TabAt H0 r n H' ys L:={s _ _ h.tab,h.rows.imp λ_ _ q=>q.same s,h.len,h.all,h.nd,h.new}
def TabAt.at(h:TabAt H0 r n H ys L){i:Nat}(hi:i<n):∃A l,ys[i]?=some ↑A/\L[i]?=some l/\H A=some (.lst (IL l))/\l.f=n/\H0 A=none/\A≠r:=by let hl:=h.len;obtain⟨l,e⟩:∃l,L[i]?=some l:={_,Xw J};let(v,e1,A,rfl,e2,e3):=h.rows.2 i l e;exists A,l,e1,e,e2,h.all l<|Xf e,h.new A<|Xf e1,e3
def TabAt.put(h:TabAt H0 r n H ys L){l l':Ac}(e1:ys[i]?=some ↑A)(e2:L[i]?=some l)(e3:A≠r)(hl:l'.f=n):TabAt H0 r n (upd H A (.lst (IL l'))) ys (L.set i l'):=by
 let hi:=(Xv.R e2).1;let Vm:=(Xv.R e1).1
 exists by rw[Zb (XH e3)];show h.tab,{by rw[sv];show h.rows.1,λj m em=>?_},by rw[sv];show h.len,λm hm=>?_,h.nd,h.new
 .rw[Hq]at em;cases c:i=j
  .subst c;rw[Yi Z,Yi hi]at em;let rfl:=Ym em;exists _,e1,A,Z,XZ,e3
  .rw[Yh c]at em;let(v,f1,rH,rfl,f2,f3):=h.rows.2 j m em;exists _,f1,rH,Z,?_,f3;rw[Zb]
   .show f2
   .intro e;rw[e]at f1;show c (Rc h.nd e1 f1)
 .rcases cu hm with e|e
  .show h.all m e
  .rw[e];show hl
def kO{L:Ab}{l:Ac}(hi:L[i]?=some l)(hj:j<l.f)(a b:Nat):fnL (L.set i (l.set j x)) a b=if a=i/\b=j then x else fnL L a b:=by
 let Vm:=(Xv.R hi).1;unfold fnL;cases ha:a=i
 .subst ha;let e1:(L.set a<|l.set j x).Q a []=l.set j x:=by rw[We,Hq,Yi Z,Yi Vm];rfl
  let e2:L.Q a []=l:=by rw[We,hi];rfl
  rw[e1,e2];cases hb:b=j
  .subst hb;rw[Yi ⟨Z,Z⟩,We,Hq,Yi Z,Yi hj];rfl
  .rw[Yh λh=>hb h.2,We,Hq,Yh<|XH hb,<-We]
 .let e1:(L.set i<|l.set j x).Q a []=L.Q a []:=by rw[We,We,Hq,Yh (XH ha)]
  rw[e1,Yh λh=>ha h.1]
def four{A:Mx}{u v:Nat}{w:Int}(XJ:u≠v)(a b:Nat){rH C tB E:Mx}(h1:∀a b,rH a b=if a=u/\b=u then A u u+w else A a b)(h2:∀a b,C a b=if a=v/\b=v then rH v v+w else rH a b)(h3:∀a b,tB a b=if a=u/\b=v then C u v-w else C a b)(h4:∀a b,E a b=if a=v/\b=u then tB v u-w else tB a b):E a b=A a b+w*(ind u v a*ind u v b):=by
 let nv:¬v=u:=XH XJ;unfold ind;cases x1:a=u
 .subst x1;cases y1:b=a
  .subst y1;simp[h4,h3,h2,h1,XJ,nv]
  .cases y2:b=v
   .subst y2;simp[h4,h3,h2,h1,XJ,nv];lia
   .simp[h4,h3,h2,h1,XJ,nv,y1,y2]
 .cases x2:a=v
  .subst x2;cases y1:b=u
   .subst y1;simp[h4,h3,h2,h1,XJ,nv];omega
   .cases y2:b=a
    .subst y2;simp[h4,h3,h2,h1,XJ,nv]
    .simp[h4,h3,h2,h1,XJ,nv,y1,y2]
  .simp[h4,h3,h2,h1,XJ,nv,x1,x2]
def kN{ps:Aa}{ws:Ac}{p:Int×Int}{w:Int}(hp:ps[i]?=some p)(hw:ws[i]?=some w):Wo (ps.M (i+1)) (ws.M (i+1))=Wo (ps.M i) (ws.M i)++[(p.1.j,p.2.j,w)]:=by
 let h1:=(Xv.R hp).1;let h2:=(Xv.R hw).1
 unfold Wo;rw[YA,YA,hp,hw];rw[List.zipWith_append (by rw[Yu,Yu];grind)];rfl
def Conn.image{f:Nat->Nat}(h:∀e∈es,Conn fs (f e.1) (f e.2))(c:Conn es i j):Conn fs (f i) (f j):=by
 induction c with
 |refl i=>show .refl _
 |edge e=>show h _ e
 |symm _ ih=>show ih.symm
 |trans _ _ Ob RL=>show Ob.l RL
def kM(g:GoodW n ps)(h:IsSet ps.f T)(c:∀i j,i<n.j->j<n.j->Conn (XQ ps T) i j):n-1<=T⁻¹:=by
 let g1:=g.1;let Wt:=ZO (ns:=T) g h.all
 let h2:=(MZ J Wt).mpr c;let h3:=Dj _ Wt
 rw[show(XQ ps T).f=T.f from Yb ..]at h3;lia
end My
namespace L2
open PySem
def QU(t:SetTable):(Prop):=t.place.m.G (·<·)
def uW{xs:Array Nat}(h:xs.m.G (·<·)){i k a b:Nat}(hik:i<k)(ha:xs[i]?=some a)(hb:xs[k]?=some b):a<b:=by rw[<-YM]at ha hb;let(h1,e1):=Xv.R ha;let(h2,e2):=Xv.R hb;rw[<-e1,<-e2];show UH.R h i k h1 h2 hik
def kJ(h:xs.m.G (·<·)):∀f lo hi,hi-lo<=f->lo<=hi->hi<=xs.o->(∀i v,xs[i]?=some v->i<lo->v<j)->(∀i v,xs[i]?=some v->hi<=i->j<=v)->
  SetTable.below.go xs j f lo hi<=xs.o/\∀i v,xs[i]?=some v->(i<SetTable.below.go xs j f lo hi↔v<j)
 |0,lo,hi,hf,hl,hs,a,b=>by unfold SetTable.below.go;grind
 |f+1,lo,hi,hf,hl,hs,a,b=>by
  unfold SetTable.below.go;cases c:lo<hi
  .rw[Yi c];dsimp only;obtain⟨m,hm⟩:∃m,xs[(lo+hi)/2]?=some m:={_,Ui J};let em:xs.Q ((lo+hi)/2) j=m:=by rw[YT,hm];rfl
   rw[em];cases d:m<j
   .rw[Yi d];show kJ h f _ hi B J hs (λi v hv Ws=>?_) b;cases e:i=(lo+hi)/2
    .simp_all
    .have:=uW h (show i<(lo+hi)/2 by lia) hv hm
     lia
   .rw[Yh d];show kJ h f lo _ B J J a λi v hv Ws=>?_;cases e:i=(lo+hi)/2
    .simp_all
    .have:=uW h (show(lo+hi)/2<i by lia) hm hv
     lia
  .rw[Yh c];grind
def MM(h:xs.m.G (·<·))(j:Nat):SetTable.below xs j<=xs.o/\∀i v,xs[i]?=some v->(i<SetTable.below xs j↔v<j):=
 kJ h xs.o 0 xs.o (by simp_all) (Yc _) (XI _) (λi v _ h=>absurd h<|VX _) λi v hv hi=>by
  simp_all
def kI(h:xs.m.G (·<·)){i v:Nat}(hv:xs[i]?=some v):SetTable.below xs v=i:=by
 let(h1,h2):=MM h v;let a:¬i<SetTable.below xs v:=λq=>by simp_all
 show Kb J (xc λq=>?_);let Xx:=(cx.R hv).1
 obtain⟨u,hu⟩:∃u,xs[SetTable.below xs v]?=some u:={_,Ui J};let b:=uW h q hu hv
 grind
def ZV8(h:xs.m.G (·<·)){i v:Nat}(hv:xs[i]?=some v):SetTable.below xs (v+1)=i+1:=by
 let(h1,h2):=MM h (v+1);let a:=(h2 i v hv).mpr (Ho v)
 show Kb (xc λq=>?_) a;obtain⟨u,hu⟩:∃u,xs[i+1]?=some u:={_,Ui J};let b:=(h2 _ u hu).R q
 have:=uW h (Ho i) hv hu
 lia
def ZU8(h:xs.m.G (·<·)):SetTable.below xs 0=0:=by let(h1,h2):=MM h 0;show Nat.le_zero.R (xc λq=>?_);obtain⟨u,hu⟩:∃u,xs[0]?=some u:={_,Ui J};show VX _ ((h2 _ u hu).R q)
def Gq(t:SetTable)(j:Nat):(Prop):=t.place[SetTable.below t.place j]?≠some j
def kH(h:QU t)(hn:Gq t j):QU (t.put j).1:=by
 let(h1,h2):=MM h j;let up:∀i v,t.place[i]?=some v->SetTable.below t.place j<=i->j<v:=λi v hv hi=>by
  let a:¬v<j:=λq=>by have:=(h2 i v hv).mpr q;lia
  let b:v≠j:=λe=>hn (by rw[e]at hv;rwa[kI h hv]);lia
 change(SetTable.insertAt t.place (SetTable.below t.place j) j).m.G (·<·);rw[SetTable.toList_insertAt];let dn:∀x∈t.place.m.M (SetTable.below t.place j),x<j:=λx hx=>by
  let(i,hi):=Yx hx;rw[Kv]at hi;split at hi
  .simp_all
  simp_all
 let ub:∀x∈t.place.m.drop (SetTable.below t.place j),j<x:=λx hx=>by let(i,hi):=Yx hx;rw[LR,YM]at hi;show up _ x hi (Nat.le_add_right _ _)
 show NQ.mpr {bM (sH _ _) h,YN.mpr {ub,bM (List.drop_sublist _ _) h},λa ha b hb=>?_};grind
def Bw(h:t.slot j=.empty\/t.slot j=.dummy):Gq t j:=λe=>by
 let e2:t.slot j=.live (SetTable.below t.place j):=by unfold SetTable.slot;dsimp only;rw[Yi (by rw[e];simp)]
 lia
def kF{f:Nat->Int}:∀n p j d,(∀e,p.dummy=some e->Gq t e)->SetTable.probe.go t f h n p=some (.empty j d)->Gq t j/\∀e,d=some e->Gq t e
 |0,p,j,d,_,h=>by cases h
 |n+1,p,j,d,hp,h=>by
  let adv:∀q:SetTable.Probe,(t.advance q).dummy=q.dummy:=λq=>by unfold SetTable.advance;split<;>rfl
  unfold SetTable.probe.go at h;split at h
  .rename_i hs;cases h;exists Bw<|.inl hs,hp
  .rename_i hs;show kF n _ j d (λe he=>by rw[adv]at he;cases he;show Bw<|.inr hs) h
  .split at h
   .cases h
   .show kF n _ j d (λe he=>hp e<|by simp_all) h
def ZT9{b:Bool}(e:t.freeSlot h=some (s,b)):Gq t s:=by
 unfold SetTable.freeSlot at e;split at e
 .rename_i j d hp;let(a1,a2):=kF _ _ j d (λe he=>by cases he) hp;let e1:=YF Prod.fst (Ym e)
  dsimp only at e1;rw[<-e1];cases d with
  |none=>show a1
  |some x=>show a2 x rfl
 simp_all
def uV(t:SetTable)(n:Nat):QU (t.standIn n):=by change(Array.range n).m.G (·<·);rw[Array.toList_range];show FK
def kE(h:QU t)(es:Array (Int×Value))(k:Int)(x:Value):QU (layNew t es k x).2.1/\(layNew t es k x).2.1.led=t.led:=by
 unfold layNew;split
 .rename_i s b e;dsimp only;unfold SetTable.orStandIn;split
  .exists kH h<|ZT9 e,Z
  .exists uV _ _,Z
 .exists uV _ _,Z
def Zl9(h:QU t)(es:Array (Int×Value))(n:Nat):QU (relayAll t es n).2.1/\(relayAll t es n).2.1.led=t.led:=by
 unfold relayAll;split
 .rename_i t' order e;dsimp only;split
  .unfold SetTable.relaid SetTable.laid at e;cases ho:SetTable.layClean (SetTable.sizeAbove n-1) (es.H (·.1)) with
   |none=>rw[ho]at e;cases e
   |some owner=>
    rw[ho]at e;let e1:=YF Prod.fst (Ym e)
    rw[<-e1];exists ?_,Z;change(List.H _<|List.filterMap _ _).C.m.G (·<·)
    rw[List.toList_toArray,LQ,List.pairwise_filterMap];show FK.imp λ{a b} Vq x hx y hy=>?_;let ex:x.1=a:=by
     cases q:owner.Q a none with
     |none=>simp_all
     |some z=>rw[q]at hx;cases hx;rfl
    let ey:y.1=b:=by
     cases q:owner.Q b none with
     |none=>simp_all
     |some z=>rw[q]at hy;cases hy;rfl
    simp_all
  .exists uV _ _,Z
 .exists uV _ _,Z
end L2
namespace L2
open PySem PySem.Spec PyProof.Rows
def SetR(P:Program)(w:World)(h:Heap)(a:Addr)(led:Bool)(S:Int->Bool)(n:Nat):(Prop):=
 ∃o es ep t,h.E a=some o/\o.ExactSet/\o.data=.set es ep t/\ElemsOf (intKind P w) es.m/\(∀z,S z=true↔∃y∈es.m,(intKind P w).is z y.2=true)/\es.o<scanBound/\t.fits es.o=true/\es.o=n/\QU t/\t.led=led
def SetR.at{S:Int->Bool}(q:SetR P w h a led S n)(k:∀o,h.E a=some o->h'.E a=some o):SetR P w h' a led S n:=
 let ⟨o,es,ep,t,ho,r⟩:=q
 {o,es,ep,t,k o ho,r}
section
variable{prog:Program}{w:World}{A:Around}{E:Ae}{s:Shared}
def Bv{h:Heap}{o:Obj}{es:Array (Int×Value)}{ep:Nat}{t:SetTable}(ho:h.E a=some o)(hx:o.ExactSet)(hd:o.data=.set es ep t)(fs:Array (Int×Value))(u:SetTable):
  (h.update a<|Obj.putSet fs u).E a=some {o with data:=.set fs (ep+1) u}/\({o with data:=.set fs (ep+1) u}:Obj).ExactSet:=by let q:=YZ (Obj.putSet fs u) ho (by rw[putSet_of fs u hd];rfl);rw[putSet_of fs u hd]at q;exists q,hx
def kD{gv:Bool->Sem Unit}(hgv:∀b s1 R,R () s1->wpAny (model prog w) A (gv b) R E s1)
 {o:Obj}{es fs:Array (Int×Value)}{ep:Nat}{t u:SetTable}(ho:s.r.E a=some o)(hx:o.ExactSet)(hd:o.data=.set es ep t)
  {S:Int->Bool}(he:ElemsOf (intKind prog w) fs.m)(hm:∀z,S z=true↔∃y∈fs.m,(intKind prog w).is z y.2=true)(hb:fs.o<scanBound)(hf:u.fits fs.o=true)(hr:QU u){dm:Bool}{R:Option Bool->Shared->Prop}
  (k:∀h',Heap.SameBut a s.r h'->SetR prog w h' a u.led S fs.o->R (some true) {s with heap:=h'}):
  wpAny (model prog w) A (do
   storeSet a fs u
   if (!dm&&u.tooFull)=true then do
    gv (relayAll u fs<|SetTable.grown fs.o).2.2
    storeSet a (relayAll u fs<|SetTable.grown fs.o).1 (relayAll u fs<|SetTable.grown fs.o).2.1
    pure (some true)
   else pure (some true)) R E s:=by
 let(h1,x1):=Bv ho hx hd fs u;let b1:=Qh s.r a (Obj.putSet fs u)
 show XT (wpAny_storeSet_of ho hd ?_<|fits_of_scanBound hb);cases c:(!dm&&u.tooFull)=true
 .rw[Yi c];let p:=relayAll_perm u fs (SetTable.grown fs.o)
  let f:=relayAll_fits u fs (SetTable.grown fs.o);let(r,l):=Zl9 hr fs (SetTable.grown fs.o);generalize relayAll u fs (SetTable.grown fs.o)=Fd at p f r l ⊢;let(gs,v,gave):=Fd;let ez:gs.o=fs.o:=by rw[<-YI,p.length_eq,YI]
  let(h2,x2):=Bv h1 x1 Z gs v;show XT (hgv _ _ _<|XT<|wpAny_storeSet_of h1 Z (Ye ?_)<|fits_of_scanBound<|by rwa[ez]);show k _ (b1.l<|Qh _ a _) ⟨_,gs,_,v,h2,x2,Z,he.perm p,λz=>(hm z).l {λzz=>by let(y,hy,q):=zz;show{y,p.mem_iff.mpr hy,q},λzz=>by let(y,hy,q):=zz;exists y,p.mem_iff.R hy,q},by rw[ez];show hb,f,ez,r,l⟩
 .rw[Yh c];show Ye (k _ b1 {_,fs,_,u,h1,x1,Z,he,hm,hb,hf,Z,hr,Z})
def kC{S:Int->Bool}{z:Int}{x:Value}{R:Bool->Shared->Prop}(hz:(intKind prog w).is z x=true)(Qw:x.scannable=true)(hS:SetR prog w s.r a led S n)(room:n+1<scanBound)
  (k:∀h',Heap.SameBut a s.r h'->SetR prog w h' a led (λy=>S y||decide (y=z)) (if S z then n else n+1)->R (!S z) {s with heap:=h'}):
  wpAny (model prog w) A (setAddHashed a x<|(intKind prog w).hash z) R E s:=by
 let(o,es,ep,t,ho,hx,hd,he,hm,hb,hf,hn,hr,hl):=hS;show SQ (XT<|Hl ho hd hf ?_);dsimp only;rw[Yi (byScan_of Qw hb he)];show XT (XT<|Rv<|XT<|wpAny_setScan_of hz ho hd hf he ?_);cases hw:List.findIdx? (λy=>(intKind prog w).is z y.2) es.m with
 |some j=>
  let(j1,j2,_):=List.findIdx?_eq_some_iff_getElem.R hw;let yes:S z=true:=(hm z).mpr {es.m[j],Hm j1,j2}
  let fin:=k s.r (Heap.SameBut.refl a s.r) {o,es,ep,t,ho,hx,hd,he,λy=>by rw[Bool.or_eq_true,decide_eq_true_eq,<-hm y];show{λq=>q.elim id λq=>q▸yes,.inl},hb,hf,by rw[yes];show hn,hr,hl}
  rw[yes]at fin;show Ye (Ye fin)
 |none=>
  let no:S z=false:=Fy.mpr λq=>by grind
  dsimp only;let p:=layNew_perm t es ((intKind prog w).hash z) x
  let f:=layNew_fits t es ((intKind prog w).hash z) x;let(r,l):=kE hr es ((intKind prog w).hash z) x;generalize layNew t es ((intKind prog w).hash z) x=Fd at p f r l ⊢;let(fs,u,dm,gave):=Fd;dsimp only at p f r l ⊢;rw[Oz]at p;let ez:fs.o=n+1:=by rw[<-YI,p.length_eq,Xe,YI,hn];rfl
  let gw:∀(b:Bool){s1:Shared}{R':Unit->Shared->Prop},R' () s1->wpAny (model prog w) A (match b with|true=>rule "set.scan.the-table-gave-way" | false=>pure ()) R' E s1:=λb s1 R' q=>by
   cases b
   .show Ye q
   .show Rv q
  let fin:∀h',Heap.SameBut a s.r h'->SetR prog w h' a led (λy=>S y||decide (y=z)) fs.o->R true {s with heap:=h'}:=λh' q1 q2=>by
   simp_all
  let Bu:=(he.push hz Qw).perm p;let SG:∀y,(S y||decide (y=z))=true↔∃v∈fs.m,(intKind prog w).is y v.2=true:=mem_push_iff hz hm p
  let uU:fs.o<scanBound:=by simp_all
  show XT (gw _ ?_);let tail:∀v:SetTable,v.fits fs.o=true->QU v->v.led=led->wpAny (model prog w) A (do
    storeSet a fs v
    if (!dm&&v.tooFull)=true then do
     (match (relayAll v fs<|SetTable.grown fs.o).2.2 with|true=>rule "set.scan.the-table-gave-way" | false=>pure ())
     storeSet a (relayAll v fs<|SetTable.grown fs.o).1 (relayAll v fs<|SetTable.grown fs.o).2.1
     pure (some true)
    else pure (some true)) (λy s1=>wpAny (model prog w) A (match y with|some added=>pure added|none=>setAddHashedIn a x ((intKind prog w).hash z) 99999) R E s1) E s:=λv a1 a2 a3=>
   kD (gv:=λb=>match b with|true=>rule "set.scan.the-table-gave-way" | false=>pure ()) (λb s1 R' q=>gw b q) ho hx hd Bu SG uU a1 a2 λh' q1 q2=>Ye (fin h' q1<|a3▸q2)
  split
  .show XT ?_;rw[hashByValue_scannable 8 Qw];show Ye ?_;split
   .show tail u f r (l.l hl)
   .show tail _ (SetTable.fits_plain_off f) r (l.l hl)
  .show XT (Ye ?_);show tail u f r (l.l hl)
end
section
variable{prog:Program}{w:World}{A:Around}{R:Result->Shared->Prop}{I:Addr}{fp wr:List Addr}{G:Array GenState->Array GenState->Prop}{n:Nat}{P:Nat->Value->Prop}{St:Nat->Shared->Prop}
def ZV7(W:WalksS prog w A.in1 I fp wr G n P St)(b:Addr)(Lc:b∉fp)(val:Nat->Int)(hv:∀i v,P i v->∃t,v=.int (val i) t)(hn:n+1<scanBound):
  ∀k i s,n-i=k->i<=n->St i s->SetR prog w s.r b led (λz=>(firstMet val i).any (· == z)) (firstMet val i).f->
   (∀s',Moved (b::wr) G s s'->SetR prog w s'.r b led (λz=>(firstMet val n).any (· == z)) (firstMet val n).f->R (.ok<|.ret .none) s')->
   codeAny (model prog w) A (.builtin "set.update.loop" {[.ref b,.ref I],[]}) R s
 |0,i,s,hk,hi,st,hS,q=>by let e:i=n:=B;subst e;show RY F.entry_set_update_loop ?_;show XT (W.done s _ _ st λs1 m=>?_);show Ye (q s1 (m.mono λc hc=>.tail _ hc)<|hS.at λo ho=>m.r b o (λhc=>Lc<|W.sub _ hc) ho)
 |k+1,i,s,hk,hi,st,hS,q=>by
  let Xx:i<n:=B;show RY F.entry_set_update_loop ?_;show XT (W.item i s _ _ Xx st λv s1 hP Vc m=>?_);let(t,rfl):=hv i v hP;let Bt:=hS.at (h':=s1.r) λo ho=>m.r b o (λhc=>Lc<|W.sub _ hc) ho
  show XT (SQ ?_);show SQ (XT<|(intKind prog w).pyHash (k:=val i) (intKind_is _ _ _ _) ?_);let fm:=firstMet_length_le val i
  show kC (s:={s1 with toks:=s1.toks+1}) (intKind_is _ _ _ _) Z Bt J λh2 sb Dr=>?_;let hS3:SetR prog w h2 b led (λz=>(firstMet val<|i+1).any (· == z)) (firstMet val<|i+1).f:=by
   let e1:(λz=>(firstMet val<|i+1).any (· == z))=λy=>((firstMet val i).any (· == y)||decide (y=val i)):=funext λy=>by rw[PX,step_any]
   rwa[e1,PX,step_length]
  let kept:∀c o,c≠b->s1.r.E c=some o->h2.E c=some o:=λc o hc e=>(sb.2 c hc).l e;show Ye {NJ F.plain_set_update_loop _,ZV7 W b Lc val hv hn k (i+1) _ B Xx (W.frame _ s1 _ _ Vc (Ts _) λc hc o e=>kept c o (λe'=>Lc<|e'▸hc) e) hS3 λs2 m2 hS4=>?_};show q s2 (Moved.l W.gtrans ((m.mono λc hc=>.tail _ hc).then_heap (Ts _) λc o hc e=>kept c o (λe'=>hc<|e'▸.head _) e) m2) hS4
end
section
variable{prog:Program}{w:World}{A:Around}{E:Ae}{s:Shared}
def Sh(w:World):(Obj):={cls:=.type "set",dict:=none,data:=.set #[] 0 (.fresh 0 0<|!w.params.followText "set-order")}
def kB(a:Value){Q:Ae}(k:Q (.ref (~~~s)) {s with heap:=s.r.push (Sh w)}):
  codeAny (model prog w) A (.call (.builtin "set.__new__") {[.type "set",a],[]}) (wants Q E) s:=by
 show codeAny_of_tree ?_;show XT (SO (F.newCall_set_1 a)<|Ye ⟨NJ F.plain_set_new _,RY F.entry_set_new ?_⟩);let Cw:=sub_set_self
 wp_walk
 show Hh (Ye ?_);show XT (wpAny_alloc<|Ye<|Ye k)
def Zm9(e:h.E a=some (Sh w)):SetR prog w h a (!w.params.followText "set-order") (λz=>(firstMet (λ_=>0) 0).any (· == z)) 0:=by exists _,#[],0,_,e,⟨Z,Z,Z⟩,Z,λy hy=>(by cases hy),λz=>{λq=>(by cases q),λzz=>by let(y,hy,_):=zz;show(by cases hy)},AP,by simp[SetTable.fits,SetTable.fresh,SetTable.fill],Z,.nil,Z
def ku{h0:Heap}{Q:Ae}(hh:A.handled=none)(MK:h0.E b=some (Sh w))(hl:h0.IsList l items)(XJ:l≠b)(hi:IntsAre items.m ns)(hn:items.o+1<scanBound)
  (k:∀h' tk,SetR prog w h' b (!w.params.followText "set-order") (λz=>(firstMet (λi=>ns.Q i 0) items.o).any (· == z)) (firstMet (λi=>ns.Q i 0) items.o).f->(∀c o,c≠b->h0.E c=some o->h'.E c=some o)->Q .none {s with heap:=h',toks:=tk}):
  wpAny (model prog w) A.in1 (Builtin.«set.__init__» {[.ref b,.ref l],[]}) (λfin s'=>match fin with | .done f=>wants Q E (.ok f) s' | .again c'=>c'.quiet=true/\codeAny (model prog w) A c' (wants Q E) s') (λe s'=>wants Q E (.error e) s') {s with heap:=h0}:=by
 let hT:Shared.TypeIs {s with heap:=h0} ↑b "set":={_,MK,Z};let NZ:=hl
 let((ocls,odict,odata,kq),Nj,OT,nl,ko):=hl;simp only at OT ko;subst OT ko;let q1:=F.sub_list_set
 let q2:=F.sub_list_frozenset;unfold Builtin.«set.__init__» noKeywords Builtin.Frozenset.updateFrom;generalize hPI:pyIter=PI
 wp_walk
 subst hPI;show wX NZ ?_;show XT (wM ?_);let km:l<h0.objs.o:=Yk Nj
 let ltb:b<h0.objs.o:=Yk MK;let bf:b∉[h0.objs.o,l]:=λq=>by grind
 show ZV7 ((Walks.list (A:=A.in1.in1) (by simp[hh]) _ l (Yw km) items).toS) b bf (led:=!w.params.followText "set-order") (λi=>ns.Q i 0) (λi v hv=>IntsAre.int_at hi i v<|by simp_all) hn (items.o-0) 0 _ (by simp_all) (Yc _)
  {{_,Qd _ Z,Z,Z},NZ.push _} ?_ ?_
 .show Zm9 (Xl _ MK)
 .rintro⟨h',g',d',tk',qJ⟩ m hS;let e1:g'=s.gens:=m.gens
  let e2:d'=s.drawn:=m.drawn;let e3:qJ=s.os:=m.os
  subst e1 e2 e3;show Ye ?_;show Ye (k h' tk' hS λc o hc e=>m.r c o (λq=>?_)<|Xl _ e);rcases Yo.R q with e'|e'
  .lia
  .show Yw (Yk e) (Xc.R e')
set_option maxRecDepth 100000 in
set_option maxHeartbeats 3000000 in
def kl{Q:Ae}(hh:A.handled=none)(hl:s.r.IsList l items)(hi:IntsAre items.m ns)(hn:items.o+1<scanBound)
  (k:∀h' tk,SetR prog w h' (~~~s) (!w.params.followText "set-order") (λz=>(firstMet (λi=>ns.Q i 0) items.o).any (· == z)) (firstMet (λi=>ns.Q i 0) items.o).f->(∀c o,s.r.E c=some o->h'.E c=some o)->Q (.ref (~~~s)) {s with heap:=h',toks:=tk}):
  wpAny (model prog w) A (call (.type "set") [.ref l]) Q E s:=by
 let(c,tl,hmro):=LN.mro;let a1:=LN.made
 let a2:=LN.sub;let a3:=LN.notType
 let a4:=LN.canCreate;let a5:=F.typeCall_set_1 ↑l
 show Fi (codeAny_of_tree ?_);show Ye {wZ _ D,RY F.entry_type_call ?_};rw[Around.under_plain (weight_type_call_type "set" [.ref l] []) Z]
 repeat any_goals first|assumption|wp_step
 show LO (kB ↑l (E:=E) (Q:=λob s1=>ob=.ref (~~~s)/\s1={s with heap:=s.r.push (Sh w)}) ⟨Z,Z⟩) λr s1 hr=>?_
 match r,hr with
 | .error e,hr=>show hr
 | .ok (.ret ob),hr=>
  let(rfl,rfl):=hr;let MK:(s.r.push<|Sh w).E (~~~s)=some (Sh w):=Qd _ rfl
  let hT:Shared.TypeIs {s with heap:=s.r.push (Sh w)} (.ref (~~~s)) "set":={_,MK,Z};let a6:=LN.init.S
  let a7:=LN.init.bind (.ref (~~~s))
  repeat any_goals first|assumption|wp_step
  let km:l<(~~~s):=by let(_,e,_):=hl;show Yk e
  show LO (codeAny_call_builtin (R:=wants (λr s2=>r=.none/\Q (.ref (~~~s)) s2) E) LN.init.plain F.entry_set_init<|check_set_init_1 hT<|ku (A:=_) (s:=s) ?_ MK (hl.push _) (Yw km) hi hn λh' tk hS kp=>{Z,k h' tk hS λc o e=>kp c o (Yw<|Yk e)<|Xl _ e}) λr2 s2 VJ=>?_
  .simp[hh]
  .match r2,VJ with
   | .error e,VJ=>show VJ
   | .ok (.ret v),VJ=>
    let(rfl,q):=VJ
    repeat any_goals first|assumption|wp_step
end
def Xd:PySem.Slot "set_iterator" "__next__" "set_iterator.__next__":=
 .of (owner:="set_iterator") (n:="__next__") rP D D D
  (by first|show .inl D|show .inr D) rP
def uS:entryFor table "set_iterator.__next__"=some Builtin.«set_iterator.__next__»:=entryFor_of_tree rP
def uR(a:Value):argsOk "set_iterator.__next__" {[a],[]}:=by kernel_rfl
def Bs:PySem.Slot "set_iterator" "__iter__" "set_iterator.__iter__":=
 .of (owner:="set_iterator") (n:="__iter__") rP D D D
  (by first|show .inl D|show .inr D) rP
def kj(a:Value):argsOk "set_iterator.__iter__" {[a],[]}:=by kernel_rfl
def ki:entryFor table "set_iterator.__iter__"=some Builtin.«dict_keyiterator.__iter__»:=
 entryFor_alias (id':="dict_keyiterator.__iter__") rP (by first|rfl|decide +kernel|(unfold String.splitOn;simp +decide [String.splitOnAux])) D rP
def Br:PySem.Slot "set" "__iter__" "set.__iter__":=
 .of (owner:="set") (n:="__iter__") rP D D D
  (by first|show .inl D|show .inr D) rP
def kh(a:Value):argsOk "set.__iter__" {[a],[]}:=by kernel_rfl
def kg:entryFor table "set.__iter__"=some Builtin.«frozenset.__iter__»:=
 entryFor_alias (id':="frozenset.__iter__") rP (by first|rfl|decide +kernel|(unfold String.splitOn;simp +decide [String.splitOnAux])) D rP
def IsSi(h:Heap)(I a:Addr)(f:Value)(i n ep:Nat):(Prop):=∃o,h.E I=some o/\o.cls=.type "set_iterator"/\o.data=.fields #[f,rawInt (i:Int),.ref a,rawInt (n:Int),rawInt (ep:Int)]
def IsSi.ty{s:Shared}(x:IsSi s.r I a f i n ep):s.TypeIs ↑I "set_iterator":=by let(o,p,q,_):=x;exists o,p,q
def IsSi.keep(x:IsSi h I a f i n ep)(e:∀o,h.E I=some o->h'.E I=some o):IsSi h' I a f i n ep:=by let(o,p,q):=x;exists o,e _ p,q
def SetIs(h:Heap)(a:Addr)(es:Array (Int×Value))(ep:Nat)(t:SetTable):(Prop):=∃o,h.E a=some o/\o.ExactSet/\o.data=.set es ep t
def SetIs.keep(x:SetIs h a es ep t)(e:∀o,h.E a=some o->h'.E a=some o):SetIs h' a es ep t:=by let(o,p,q):=x;exists o,e _ p,q
section
variable{prog:Program}{w:World}{A:Around}{E:Ae}{s:Shared}
def ZN8{Q:Nat->Shared->Prop}(hn:n≠0)(k:∀i,i<n->∀d,Q i {s with drawn:=d}):wpAny M A (choose src n) Q E s:=
 λΓ p _=>{hn,k _ (Nat.mod_lt _<|Nat.pos_of_ne_zero hn) _}
def IJ{α:Type}:∀{l:List α}{i:Nat}{y:α},l[i]?=some y->(y::l.eraseIdx i).Perm l
 |[],_,_,h=>by simp at h
 |x::l,0,y,h=>by
  simp_all
 |x::l,i+1,y,h=>(List.Perm.swap x y<|l.eraseIdx i).l ((IJ (l:=l) (i:=i) h).cons x)
def Zo8{α:Type}:∀(n:Nat)(xs:List α)(s:Shared)(Q:List α->Shared->Prop),n=xs.f->(∀ys d,ys.Perm xs->Q ys {s with drawn:=d})->wpAny M A (drawOrder n xs) Q E s
 |0,xs,s,Q,h,k=>by let e:xs=[]:=UG.R h.symm;subst e;show Ye (k [] s.drawn .rfl)
 |n+1,[],s,Q,h,k=>by cases h
 |n+1,x::xs,s,Q,h,k=>by show XT (ZN8 Fe λi hi d=>?_);obtain⟨y,hy⟩:∃y,(x::xs)[i]?=some y:={_,Xw hi};rw[hy];show XT (Zo8 n ((x::xs).eraseIdx i) _ _ (by rw[List.length_eraseIdx_of_lt hi];simp_all) λys d' hp=>Ye<|k (y::ys) d' ?_);show(hp.cons y).l (IJ hy)
def Yz5{α:Type}{f:Nat->Nat}:∀(n k:Nat)(l:List α)(out:Array α),n=l.f->(pickOrder.go f n k l out).m.Perm (out.m++l)
 |0,k,l,out,h=>by rw[UG.R h.symm,YS];show .rfl
 |n+1,k,l,out,h=>by let hi:f k%l.f<l.f:=Nat.mod_lt _ J;obtain⟨y,hy⟩:∃y,l[f k%l.f]?=some y:={_,Xw hi};unfold pickOrder.go;rw[hy];show(Yz5 n (k+1) _ _ B).l ?_;rw[Oz,YV];show bN _ ?_;show IJ hy
def Bq{Q:Ae}(hr:IsSi s.r I a f i n ep)(h:Q ↑I s):wpAny (model prog w) A (pyIter ↑I) Q E s:=by show sq hr.ty Bs (QB Bs hr.ty ki ?_<|kj _);show Ye {_,Z,"set_iterator",_,hr.ty,Xd.S,h}
def Gp(prog:Program)(w:World)(a:Addr)(es:Array (Int×Value))(ep:Nat)(t:SetTable)(ord:Ag)(sl:Nat->Nat):(Prop):=
 ∀A E s i Q,SetIs s.r a es ep t->i<=ord.f->Q ((ord[i]?).H λx=>(x,sl<|i+1)) s->wpAny (model prog w) A (setNext a (sl i) i ep) Q E s
def kf{sl:Nat->Nat}{i:Nat}{x:Value}{Q:Option Value->Shared->Prop}(hN:Gp prog w a es ep t ord sl)(hS:SetIs s.r a es ep t)(hf:t.fits es.o=true)(hi:IsSi s.r I a (rawInt (sl i:Nat)) i es.o ep)(hx:ord[i]?=some x)
  (k:∀h',IsSi h' I a (rawInt (sl (i+1):Nat)) (i+1) es.o ep->Heap.SameBut I s.r h'->Q (some x) {s with heap:=h'}):wpAny (model prog w) A (pyNext<|.ref I) Q E s:=by
 let(o,ho,hc,hd):=id hi;let(oa,Lb,j9,QT):=id hS;show XT (NK<|Hs (name:=Str.ofString "__next__") hi.ty Xd<|QB Xd hi.ty uS ?_<|uR _);show XT (SO (a:=(Value.ref I,[])) Z ?_);show XT (wL ho hd ?_);dsimp only[rawInt];show XT (FC Lb QT hf ?_);rw[Yh Fe];show XT (hN _ _ s i _ hS (Ow (Xv.R hx).1) ?_);rw[hx];show XT (Ug ho hd Fe ?_);let Ub:=YZ (Obj.mapFields λvs=>vs.setIfInBounds 0<|rawInt (sl (i+1):Nat)) ho (Rx<|VH hd _)
 show XT (Ug Ub (VH hd _) Fe ?_);show Ye {x,Z,Ye<|k _ ⟨_,YZ _ Ub<|Rx<|VH (VH hd _) _,?_,?_⟩<|(Qh ..).l (Qh ..)}
 .rw[wW,wW];show hc
 .rw[VH (VH hd _)];rfl
def j8{sl:Nat->Nat}{Q:Option Value->Shared->Prop}(hh:A.handled=none)(hN:Gp prog w a es ep t ord sl)(hS:SetIs s.r a es ep t)(hf:t.fits es.o=true)(hi:IsSi s.r I a (rawInt (sl ord.f:Nat)) ord.f es.o ep)
  (k:∀h',Heap.ExtBut I s.r h'->Q none {s with heap:=h'}):wpAny (model prog w) A (pyNext<|.ref I) Q E s:=by let(o,ho,hc,hd):=id hi;let(oa,Lb,j9,QT):=id hS;show XT (NK<|Hs (name:=Str.ofString "__next__") hi.ty Xd<|QB Xd hi.ty uS ?_<|uR _);show XT (SO (a:=(Value.ref I,[])) rfl ?_);show XT (wL ho hd ?_);show XT (FC Lb QT hf ?_);rw[Yh Fe];show XT (hN _ _ s ord.f _ hS (XI _) ?_);rw[FI (XI _)];show XT (Ug ho hd Fe ?_);show XT ?_;show XT (QC ?_<|by size_fits);show XT (m:=firstArgMember _ _) (SO (a:=Value.none) (by first|rfl|(simp only[firstArgMember];rfl)) ?_);show QC ?_ (by size_fits);show XT (wpAny_handled ?_);rw[show A.in1.handled=none from hh];show XT (Ye<|wpAny_throw ?_);show XT (Hi (T:="StopIteration") (b:=true) {_,Qd _ rfl,rfl} isSubtype_stop ?_);show Ye (k _<|(((Qh ..).extBut).push _).push _)
def j7{sl:Nat->Nat}(hh:A.handled=none)(hN:Gp prog w a es ep t ord sl)(hf:t.fits es.o=true)(XJ:a≠I):
  Walks prog w A I [I,a] [I] ord.f (λi v=>ord[i]?=some v) (λi h=>i<=ord.f/\IsSi h I a (rawInt (sl i:Nat)) i es.o ep/\SetIs h a es ep t) where
 sub:=λb hb=>Yo.mpr (.inl<|Xc.R hb)
 frame:=λ_ _ _ x hk=>{x.1,x.2.1.keep λo e=>hk I Fe o e,x.2.2.keep λo e=>hk a Fe o e}
 item:=λi s Q E hi ⟨_,x1,x2⟩ hQ=>by let hx:ord[i]?=some (ord[i]'hi):=Xw hi;show kf hN x2 hf x1 hx λh' y hs=>hQ _ h' s.toks hx {hi,y,x2.keep λo e=>(hs.2 a XJ).l e} λb o hb eo=>hs.extBut b o (λe=>hb<|by simp[e]) eo
 done:=λs Q E zz hQ=>by let(_,x1,x2):=zz;show j8 hh hN x2 hf x1 λh' he=>hQ h' s.toks λb o hb eo=>he b o (λe=>hb<|by simp[e]) eo
 self:=λ_ _ _ _ x hQ=>Bq x.2.1 hQ
def j6(hf:t.fits es.o=true)(hr:QU t)(hb:w.params.followText "set-order"=false)(hl:t.led=true)(hd:(!t.plain&&decide (es.o>1))=false):
  Gp prog w a es ep t (es.m.H (·.2)) (λi=>if i=0 then 0 else (t.place.Q (i-1) 0)+1):=by
 intro A E s i Q ⟨o,ho,hx,QT⟩ hi q;let hps:t.place.o=es.o:=by unfold SetTable.fits at hf;simp only[wY,wF]at hf;show hf.1
 rw[Yb,YI]at hi;show XT (Hl ho QT hf ?_);show XT ?_;unfold setsByText;show XT (Hh<|Ye ?_);change wpAny _ _ (if (w.params.followText "set-order")=true then _ else _) _ _ _
 rw[Yh J];change wpAny _ _ (if (!t.plain&&decide (es.o>1))=true then _ else _) _ _ _
 rw[Yh (by rw[hd];decide)];show XT ?_;change wpAny _ _ (if (!t.led && !es.isEmpty)=true then _ else _) _ _ _
 rw[Yh J];show Ye ?_;let eb:SetTable.below t.place (if i=0 then 0 else (t.place.Q (i-1) 0)+1)=i:=by
  cases c:i=0
  .rw[Yi c,c];show ZU8 hr
  .rw[Yh c];obtain⟨v,hv⟩:∃v,t.place[i-1]?=some v:={_,Ui J};let e:t.place.Q (i-1) 0=v:=by rw[YT,hv];rfl
   rw[e,ZV8 hr hv];lia
 rw[eb];show Ye ?_;cases c:i<es.o
 .simp_all
 simp_all
def Zu9(hf:t.fits es.o=true)(hb:w.params.followText "set-order"=true):
  Gp prog w a es ep t ((pickOrder (w.params.setOrder a ep) es).m.H (·.2)) (λ_=>0):=by
 intro A E s i Q ⟨o,ho,hx,QT⟩ hi q;show XT (Hl ho QT hf ?_);show XT ?_;show XT (Hh<|Ye ?_);change wpAny _ _ (if (w.params.followText "set-order")=true then _ else _) _ _ _
 rw[Yi hb,Yh Fe];show XT ?_;show XT (Hl ho QT hf ?_);show XT ?_;show XT (Hh<|Ye ?_);change wpAny _ _ (if (w.params.followText "set-order")=true then _ else _) _ _ _
 rw[Yi hb];show XT (Hh<|Ye ?_);rw[Yn,YM,Option.map_map]at q;show Ye q
def IsPl(h:Heap)(b:Addr)(pl:List Nat):(Prop):=∃o n,h.E b=some o/\o.data=.seq (pl.H λ(i:Nat)=>rawInt (i:Int)).C n
def IsPl.keep(x:IsPl h b pl)(e:∀o,h.E b=some o->h'.E b=some o):IsPl h' b pl:=by let(o,n,p,q):=x;exists o,n,e _ p,q
def j5{i j:Nat}{x:Int×Value}{Q:Option Value->Shared->Prop}(hS:SetIs s.r a es ep t)(hf:t.fits es.o=true)(hi:IsSi s.r I a ↑b i es.o ep)(hb:IsPl s.r b pl)(hj:pl[i]?=some j)(hx:es[j]?=some x)
  (k:∀h',IsSi h' I a ↑b (i+1) es.o ep->Heap.SameBut I s.r h'->Q (some x.2) {s with heap:=h'}):wpAny (model prog w) A (pyNext<|.ref I) Q E s:=by
 let(o,ho,hc,hd):=id hi;let(oa,Lb,j9,QT):=id hS;let(ob,nb,MJ,Ss):=hb;show XT (NK<|Hs (name:=Str.ofString "__next__") hi.ty Xd<|QB Xd hi.ty uS ?_<|uR _);show XT (SO (a:=(Value.ref I,[])) Z ?_);show XT (wL ho hd ?_);dsimp only[rawInt];show XT (FC Lb QT hf ?_);rw[Yh Fe];show XT (Kq MJ Ss ?_);dsimp only;let e:(pl.H λ(i:Nat)=>rawInt (i:Int)).C[(i:Int).j]?=some (.int (j:Int) 0):=by rw[YX,bP,Yn,hj];rfl
 rw[e];dsimp only;rw[YX,YX];show XT ?_;show XT (Hl Lb QT hf ?_);dsimp only;rw[Yh Fe,hx];show Ye ?_;show XT (Ug ho hd Fe ?_);show Ye {x.2,Z,Ye<|k _ ⟨_,YZ _ ho<|Rx<|VH hd _,?_,?_⟩<|Qh ..}
 .rw[wW];show hc
 .rw[VH hd];rfl
def j4{Q:Option Value->Shared->Prop}(hh:A.handled=none)(hS:SetIs s.r a es ep t)(hf:t.fits es.o=true)(hi:IsSi s.r I a ↑b pl.f es.o ep)(hb:IsPl s.r b pl)
  (k:∀h',Heap.ExtBut I s.r h'->Q none {s with heap:=h'}):wpAny (model prog w) A (pyNext<|.ref I) Q E s:=by
 let(o,ho,hc,hd):=id hi;let(oa,Lb,j9,QT):=id hS;let(ob,nb,MJ,Ss):=hb;show XT (NK<|Hs (name:=Str.ofString "__next__") hi.ty Xd<|QB Xd hi.ty uS ?_<|uR _);show XT (SO (a:=(Value.ref I,[])) Z ?_);show XT (wL ho hd ?_);show XT (FC Lb QT hf ?_);rw[Yh Fe];show XT (Kq MJ Ss ?_);dsimp only;let e:(pl.H λ(i:Nat)=>rawInt (i:Int)).C[(pl.f:Int).j]?=none:=by rw[YX,bP];show FI Fe
 rw[e];show XT (Ug ho hd Fe ?_);let Ub:=YZ (Obj.mapFields λvs=>vs.setIfInBounds 0<|rawInt 0) ho (Rx<|VH hd _)
 show XT (Ug Ub (VH hd _) Fe ?_);show XT ?_;show XT (QC ?_<|by size_fits);show XT (m:=firstArgMember _ _) (SO (a:=Value.none) (by first|rfl|(simp only[firstArgMember];rfl)) ?_)
 show QC ?_ (by size_fits);show XT (wpAny_handled ?_);rw[show A.in1.handled=none from hh];show XT (Ye<|wpAny_throw ?_);show XT (Hi (T:="StopIteration") (b:=true) {_,Qd _ Z,Z} isSubtype_stop ?_);show Ye (k _<|((((Qh ..).l (Qh ..)).extBut).push _).push _)
def j3(hh:A.handled=none)(hp:pl.Perm (List.range es.o))(hf:t.fits es.o=true)(XJ:a≠I)(hnb:b≠I):
  Walks prog w A I [I,a,b] [I] pl.f (λi v=>(pl.filterMap λj=>(es[j]?).H (·.2))[i]?=some v) (λi h=>i<=pl.f/\IsSi h I a ↑b i es.o ep/\SetIs h a es ep t/\IsPl h b pl) where
 sub:=λc hc=>Yo.mpr (.inl<|Xc.R hc)
 frame:=λ_ _ _ x hk=>{x.1,x.2.1.keep λo e=>hk I Fe o e,x.2.2.1.keep λo e=>hk a Fe o e,x.2.2.2.keep λo e=>hk b Fe o e}
 item:=λi s Q E hi ⟨_,x1,x2,x3⟩ hQ=>by
  let hj:pl[i]?=some (pl[i]'hi):=Xw hi;let Xx:=YY.R (hp.mem_iff.R<|Xf hj)
  let hx:es[pl[i]'hi]?=some (es[pl[i]'hi]'Xx):=Ui Xx;let fm:∀(l:List Nat),(∀j∈l,j<es.o)->l.filterMap (λj=>(es[j]?).H (·.2))=l.H λj=>(es.Q j (0,.none)).2:=λl hl=>by
   induction l with
   |nil=>rfl
   |cons y l ih=>
    simp_all
  let hv:(pl.filterMap λj=>(es[j]?).H (·.2))[i]?=some (es[pl[i]'hi]'Xx).2:=by rw[fm pl λj hj=>YY.R<|hp.mem_iff.R hj,Yn,hj,Option.map_some,YT,hx];rfl
  show j5 x2 hf x1 x3 hj hx λh' y hs=>hQ _ h' s.toks hv {hi,y,x2.keep λo e=>(hs.2 a XJ).l e,x3.keep λo e=>(hs.2 b hnb).l e} λc o hc eo=>hs.extBut c o (λe=>hc<|by simp[e]) eo
 done:=λs Q E zz hQ=>by let(_,x1,x2,x3):=zz;show j4 hh x2 hf x1 x3 λh' he=>hQ h' s.toks λc o hc eo=>he c o (λe=>hc<|by simp[e]) eo
 self:=λ_ _ _ _ x hQ=>Bq x.2.1 hQ
end
section
variable{prog:Program}{w:World}{A rH:Around}{E:Ae}{s:Shared}
def SetIs.ty(x:SetIs s.r a es ep t):s.TypeIs ↑a "set":=by let(o,p,q,_):=x;exists o,p,q.1
def j0{Q:Ae}(hh:A.handled=none)(hS:SetIs s.r a es ep t)(hf:t.fits es.o=true)(hr:QU t)(hl:t.led=!w.params.followText "set-order")(hz:es.o<=sizeLine)
  (k:∀(I:Addr)(h':Heap) d (ord:Ag) (fp:List Addr) (St:Nat->Heap->Prop),ord.Perm (es.m.H (·.2))->Walks prog w A I fp [I] ord.f (λi v=>ord[i]?=some v) St->St 0 h'->(∀b∈fp,b<h'.objs.o/\(b=a\/(~~~s)<=b))->I∈fp->(~~~s)<=I->(∀c o,s.r.E c=some o->h'.E c=some o)->Q ↑I {s with heap:=h',drawn:=d}):
  wpAny (model prog w) rH (pyIter<|.ref a) Q E s:=by
 let(o,ho,hx,hd):=id hS;let uQ:a<(~~~s):=Yk ho
 show sq hS.ty Br (QB Br hS.ty kg ?_<|kh _);show XT (SO (a:=a) rfl ?_);show XT ?_;show XT (FC ho hd hf<|Ye ?_);show XT ?_;show XT (Hl ho hd hf ?_);show XT ?_;show XT (Hh<|Ye<|Ye ?_);let num:∀ord sl,sl 0=0->Gp prog w a es ep t ord sl->ord.Perm (es.m.H (·.2))->wpAny (model prog w) rH.in1 (pure (rawInt 0) >>= λfirst=>setEpoch a >>= λe=>newFields "set_iterator" [first,rawInt 0,.ref a,rawInt (es.o:Int),rawInt (e:Int)] >>= λit=>ret it)
   (λfin s'=>∃v,fin=Fin.done (Flow.ret v)/\∃T' r,s'.TypeIs v T'/\typeLookup (Value.type T') (Str.ofString "__next__")=pure (some r)/\Q v s') E s:=λord sl h0 hN hp=>by
  show XT (Ye<|XT<|wpAny_setEpoch_of ho hd hf<|XT ?_);show QC ?_ (by size_fits);let hI:IsSi (s.r.push {cls:=.type "set_iterator",data:=.fields [rawInt 0,rawInt 0,.ref a,rawInt (es.o:Int),rawInt (ep:Int)].C}) (~~~s) a (rawInt (sl 0:Nat)) 0 es.o ep:={_,Qd _ Z,Z,by rw[h0];rfl}
  show Ye {_,Z,"set_iterator",_,IsSi.ty (s:={s with heap:=_}) hI,Xd.S,?_};let ne:a≠(~~~s):=Yw uQ
  show k _ _ s.drawn ord _ _ hp (j7 hh hN hf ne) {Yc _,hI,hS.keep λo e=>Xl _ e} (λb hb=>?_) Fe (XI _) λc o e=>Xl _ e;rw[Ox];grind
 cases hb:w.params.followText "set-order"=true
 .rw [Yh (by change ¬(!w.params.followText "set-order" && _)=true;simp_all)];show num _ (λ_=>0) Z (Zu9 hf hb) ?_
  have:=Yz5 (f:=w.params.setOrder a ep) es.o 0 es.m #[] (by simp_all)
  show this.H _
 .let Pp:w.params.followText "set-order"=false:=by simpa using hb
  rw[Pp]at hl;cases c:(!t.plain&&decide (es.o>1))=true
  .rw [Yi (by change(!w.params.followText "set-order" && (!t.plain&&decide (es.o>1)))=true;rw[Pp,c];rfl)];show XT (Zo8 es.o (List.range es.o) s _ (by simp_all) λpl d hp=>?_);let Us:pl.f=es.o:=by rw[hp.length_eq,NP]
   show XT (wpAny_newTuple ?_<|by simp_all);let hoS:∀(h:Heap) o,h.E a=some o->(h.push {cls:=.type "tuple",data:=.seq (List.H (λi=>rawInt ((i:Nat):Int)) pl).C}).E a=some o:=λh o e=>Xl _ e
   show XT (wpAny_setEpoch_of (hoS s.r o ho) hd hf<|XT ?_);show QC ?_ (by size_fits);generalize CW:s.r.push {cls:=.type "tuple",data:=.seq (List.H (λi=>rawInt ((i:Nat):Int)) pl).C}=h1;let s1:h1.objs.o=(~~~s)+1:=by rw[<-CW];show Ox ..
   let Bp:∀c o,s.r.E c=some o->h1.E c=some o:=λc o e=>by rw[<-CW];show Xl _ e
   let II:IsPl h1 (~~~s) pl:=by rw[<-CW];exists _,0,Qd _ Z,Z
   let hI:IsSi (h1.push {cls:=.type "set_iterator",data:=.fields [Value.ref (~~~s),rawInt 0,.ref a,rawInt (es.o:Int),rawInt (ep:Int)].C}) h1.objs.o a (.ref (~~~s)) 0 es.o ep:={_,Qd _ Z,Z,Z};show Ye {_,Z,"set_iterator",_,IsSi.ty (s:={s with heap:=_,drawn:=d}) hI,Xd.S,?_};let OS:(pl.filterMap λj=>(es[j]?).H (·.2)).Perm (es.m.H (·.2)):=by show(hp.filterMap _).l ?_;rw[<-filterMap_getElem?_range es,List.map_filterMap]
   let Nj:(pl.filterMap λj=>(es[j]?).H (·.2)).f=pl.f:=by rw[OS.length_eq,Yb,YI,Us]
   let W:=j3 (prog:=prog) (w:=w) (A:=A) (I:=h1.objs.o) (a:=a) (b:=(~~~s)) (es:=es) (ep:=ep) (t:=t) hh hp hf J J;rw[<-Nj]at W;show k _ _ d _ _ _ OS W {Yc _,hI,hS.keep λo e=>Xl _<|Bp _ o e,II.keep λo e=>Xl _ e} (λb hb=>?_) Fe (by rw[s1];show Ts _) λc o e=>Xl _ (Bp c o e);rw[Ox,s1];grind
  .let c':(!t.plain&&decide (es.o>1))=false:=by simpa using c
   rw[Yh (by change ¬(!w.params.followText "set-order" && (!t.plain&&decide (es.o>1)))=true;rw[c'];simp)];show num _ _ Z (j6 hf hr Pp hl c') .rfl
end
def jZ:typeLookup (.type "set") "__len__"=pure (some (.builtin "set.__len__")):=by kernel_rfl
section
variable{prog:Program}{w:World}{A:Around}{E:Ae}{s:Shared}
def jY{r:Addr}{Q:Bool->Shared->Prop}(hT:s.TypeIs ↑r "set")(h:Q false s):wpAny (model prog w) A (Builtin.List.listLengthHint ↑r) Q E s:=by show XT (He hT jZ ?_);generalize oH:("set.__len__":String)=id0;subst oH;show XT (Hi (T:="set") (b:=true) hT sub_set_self ?_);show XT (Fn (T:="set") hT<|Ye h)
def ZP6{Q:List Value->Shared->Prop}(hh:A.handled=none)(hS:SetIs s.r a es ep t)(hf:t.fits es.o=true)(hr:QU t)(hl:t.led=!w.params.followText "set-order")(hz:es.o<=sizeLine)
  (k:∀(out:Ag) h' tk d,out.Perm (es.m.H (·.2))->(~~~s)<=h'.objs.o->(∀c o,s.r.E c=some o->h'.E c=some o)->Q out {s with heap:=h',toks:=tk,drawn:=d}):wpAny (model prog w) A (collect<|.ref a) Q E s:=by
 let Jp:(s.r.push<|seqObj "list" #[] 0).E (~~~s)=some (seqObj "list" #[] 0):=Qd _ rfl;let Bt:SetIs (s.r.push<|seqObj "list" #[] 0) a es ep t:=hS.keep λo e=>Xl _ e
 let uQ:a<(~~~s):=by let(_,e,_):=hS;show Yk e
 show XT (wM<|RY sd ?_);show XT (NL<|Ye ⟨wZ _ D,RY entry_list_iadd' ?_⟩);change wpAny _ _ (Builtin.List.listExtendWith (.ref (~~~s)) ↑a<|.ref (~~~s)) _ _ {s with heap:=s.r.push (seqObj "list" #[] 0)}
 show XT (Fn (T:="set") (SetIs.ty (s:={s with heap:=s.r.push (seqObj "list" #[] 0)}) Bt) ?_);let e1:Builtin.List.listSameRef (.ref (~~~s)) ↑a=false:=by change((~~~s) == a)=false;show beq_false_of_ne (RA uQ)
 rw[Yh (by rw[e1];decide)];show XT (j0 (A:=A.in1) (by simp[hh]) Bt hf hr hl hz λI h' d ord fp St OS W GJ Ll hI Td kp=>?_);let hT':Shared.TypeIs {s with heap:=h',drawn:=d} ↑a "set":=SetIs.ty (s:={s with heap:=h',drawn:=d}) (Bt.keep λo e=>kp a o e)
 show XT (SQ<|jY hT' ?_);let hL2:=kp _ _ Jp
 show XT (Rv<|XT ?_);show XT (Ou (xs:=#[]) (n:=0) hL2 Z ?_ (Yc _)<|by simp_all);let IG:=YZ (Obj.mapSeq (·.push Value.none)) hL2 rfl
 show Ou (xs:=#[].push Value.none) (n:=1) IG Z ?_ AP (by simp_all);let hL4:=YZ (Obj.mapSeq Array.pop) IG rfl
 let old:∀c o,c≠(~~~s)->h'.E c=some o->((h'.update (~~~s) (Obj.mapSeq (·.push Value.none))).update (~~~s) (Obj.mapSeq Array.pop)).E c=some o:=λc o hc e=>by rwa[YJ _ _ (XH hc),YJ _ _ (XH hc)]
 let Sn:(~~~s)∉fp:=λq=>by
  rcases(Ll _ q).2 with e|e
  .show RA uQ e
  .rw [show({s with heap:=s.r.push (seqObj "list" #[] 0)}:Shared).r.objs.o=(~~~s)+1 from Ox ..] at e;lia
 let jX:ord.f=es.o:=by rw[OS.length_eq,Yb,YI]
 show Ye {NJ cv _,codeAny_extend_loopS W.toS (by rwa[jX]) (~~~s) Sn _ ord.f 0 _ #[] _ Z (Yc _) (W.frame 0 _ _ GJ λb hb o e=>old b o (λq=>Sn<|q▸hb) e) hL4 (ItemsOf.nil _) λs2 acc c m hL5 VC=>?_};let eo:acc.m=ord:=by
  show LP λi=>?_;rw[YM];cases hi:i<ord.f
  .let q:acc[i]?=some (acc[i]'(by rwa[VC.1])):=Ui _;rw[q,VC.2 i _ q]
  .rw[FI (by simp_all),bT (by rw[VC.1];simp_all)]
 show XT (Fj hL5 ?_);show Ye ?_;rw[eo,Moved.eq_with m];show k ord s2.r s2.toks d OS (Ow<|Yk hL5) λc o e=>?_;let lt:=Yk e
 show m.r c o (λq=>?_) (old c o (Yw lt)<|kp c o<|Xl _ e);rcases Yo.R q with e'|e'
 .show Yw lt e'
 .rw[Xc.R e']at lt
  have:=Yp lt (Yl (Ts _)<|Ox .. ▸ Td)
  simp_all
end
def Zh3:∀{l:Ac},m.Nodup->l.f=m.f->(∀x∈m,x∈l)->l.Perm m:=by
 induction m with
 |nil=>simp_all
 |cons x m ih=>
  intro l hn hl hs;let hx:=hs x Ya
  let Ot:=QA.R hn;show(List.perm_cons_erase hx).l ((ih Ot.2 (by simp_all) λy hy=>?_).cons x);grind
def ZM9(p:us.Perm vs):∀{ns:Ac},IntsAre vs ns->∃ms,IntsAre us ms/\ms.Perm ns:=by
 induction p with
 |nil=>intro ns h;exists ns,h,.rfl
 |cons x _ ih=>
  intro ns h;cases h with
  |cons n t h=>
   let(ms,h1,h2):=ih h;exists n::ms,.cons n t h1,h2.cons n
 |swap x y l=>
  intro ns h;cases h with
  |cons n t h=>
   cases h with
   |cons m u h=>exists m::n::_,.cons m u<|.cons n t h,.swap n m _
 |trans _ _ Ob RL=>
  grind
def Bo(h:IntsAre vs ns):vs.f=ns.f:=by
 induction h with
 |nil=>rfl
 |cons n t _ ih=>simp_all
def uP(val:Nat->Int):∀i,(firstMet val i).Nodup
 |0=>.nil
 |i+1=>by
  rw[PX];unfold step_dedup;split
  .show uP val i
  .rename_i h;show VG.mpr {uP val i,Fe,λa ha b hb e=>?_}
   simp_all
section
variable{prog:Program}{w:World}{A:Around}{E:Ae}{s:Shared}
def Bn:∀{l:List (Int×Value)},ElemsOf (intKind prog w) l->∃ms,IntsAre (l.H (·.2)) ms/\∀z,z∈ms↔∃y∈l,(intKind prog w).is z y.2=true
 |[],_=>{[],.nil,λz=>{λh=>(by cases h),λzz=>by let(y,h,_):=zz;show(by cases h)}}
 |y::l,h=>by
  let(ms,h1,h2):=Bn h.tail;let((z,hz,_),_):=h.head;let(hy,v):=y;let(u,rfl):=Value.isInt_shape (show Value.isInt z v=true from hz);exists z::ms,.cons z u h1,λx=>?_;rw[Yo,h2];constructor
  .rintro(e|⟨y,hy,q⟩)
   .simp_all
   grind
  .rintro⟨y,hy,q⟩;rcases Yo.R hy with e|e
   .rw[e]at q;show .inl ((intKind prog w).inj _ _ _ q hz)
   .show .inr ⟨y,e,q⟩
def Zh7{led:Bool}{S:Int->Bool}{Q:Ae}(hh:A.handled=none)(hS:SetR prog w s.r a (!w.params.followText "set-order") S n)(Qt:n<64)
  (k:∀(ms:Ac)(out:Ag) r h' tk d c,IntsAre out ms->ms.G (·<=·)->ms.f=n->(∀z,z∈ms↔S z=true)->(~~~s)<=r->h'.E r=some (seqObj "list" out.C c)->(∀c o,s.r.E c=some o->h'.E c=some o)->Q ↑r {s with heap:=h',toks:=tk,drawn:=d}):
  wpAny (model prog w) A (call (.builtin "sorted") [.ref a]) Q E s:=by
 let(o,es,ep,t,ho,hx,hd,he,hm,hb,hf,hn,hr,hl):=hS;let(ns,hI,hmem):=Bn he;let Jo:sizeLine=16777216:=RU
 show sU kind_sorted plain_sorted entry_sorted (args_sorted1 _) ?_;show XT (m:=checkCount "sorted" 1 1 _) (Ye ?_);show XT (ZP6 (A:=A.in1) (by simp[hh]) ⟨o,ho,hx,hd⟩ hf hr hl J λout h1 tk d hp Td kp=>?_);let(ls,hI2,Wn):=ZM9 hp hI;let lo:=Bo hI2
 let ll:ls.f=n:=by rw[<-lo,hp.length_eq,Yb,YI,hn]
 show XT (NL ?_);let hL:(h1.push<|seqObj "list" out.C 0).E h1.objs.o=some (seqObj "list" out.C 0):=Qd _ rfl
 show XT (SQ<|QB wD ⟨_,hL,Z⟩ wG (list_sort_tree hL hI2 (by simp_all) λres ms b1 b2 b3=>{_,Z,?_})<|args_list_sort _);let(c,hc):=sortedHeap_at (out:=res) hL;show Ye {_,Z,k ms res.m h1.objs.o _ tk d c b1 b3 (by rw[b2.length_eq,ll]) (λz=>by rw[b2.mem_iff,Wn.mem_iff,hmem,hm]) Td (by show hc) λb ob e=>?_};let lt:=Yk (kp b ob e)
 rw[sortedHeap_old (Yw lt) (by rw[size_push'];show Nat.lt_succ_of_lt lt)];show Xl _ (kp b ob e)
end
section
variable{X:Cx}{p p2 pos TZ:Pos}{e:Expr}{t:TA}
def Inv.drew(I:Inv X pins σ H s)(d:Drawn):Inv X pins σ H {s with drawn:=d}:=
 I.step (g':=s.gens) (d':=d) (t':=s.toks) (h':=s.r) (ch:=[]) (λb hb=>(by cases hb)) (λb o _ _ _ q _=>q) (λb o _ _ _ q _=>⟨o.slots,q⟩) (λb o _ _ n=>n) (λb o _ q=>⟨o,q⟩) (λb xs q=>q) (λb o u q=>q) (λb ps q=>{#[],by rw[q];simp}) (λm hm=>hm) I.hok I.bare
def Ze7(K:Ad)(t:TA):(TE):=λσ H Q=>t σ H λvs H1=>∃(a:Addr)(ns:Ac),vs=[.ref a]/\SqL K H1 a (ns.H V.int)/\ns.f<64/\∀ms:Ac,ms.G (·<·)->(∀z,z∈ms↔z∈ns)->∀l,H1 l=none->Q ↑l (upd H1 l<|.lst<|ms.H V.int)
def ZP4(K:Ad)(hc:X.calm=true)(g1:Gl X "sorted")(m1:X.mg "sorted"=none)(g2:Gl X "set")(m2:X.mg "set"=none)(ha:PA X [e] t)(hk:autoParam (X.K=K) D1._auto_1)
  (he:autoParam (starEach [e] X.X=[(false,eval e X.X)]) D1._auto_1)
  (JD:autoParam (starEach [.Call (.Name "set" p2) [e] [] TZ] X.X=[(false,eval (.Call (.Name "set" p2) [e] [] TZ) X.X)]) D1._auto_1):
  PE X (.Call (.Name "sorted" p) [.Call (.Name "set" p2) [e] [] TZ] [] pos) (Ze7 K t):=by
 subst hk;intro pins s σ H Q I h;show OA (Rp I g1 m1 Boot.«sorted» ?_);show cD ?_ rN rfl;show sr ?_;show OA (Rp I g2 m2 Boot.«set» ?_);show Uj (thn (ha TZ pins s σ H _ I h) λus s1 zz=>?_) (by rw[he];rfl) rfl;let(vs,H1,I1,r1,q1):=zz;let(a,ns,rfl,hq,hn,q):=q1;let(u,rfl,ru):=Vi r1;let rfl:u=Value.ref a:=ru;let(XS,rv,pl,hz):=I1.list hq;let hi:=Zu rv
 let el:XS.C.o=ns.f:=by rw[YR,<-rv.f,Yb]
 let sb:scanBound=4096:=rfl;show kl (I.ok.hd hc) pl.isList (ns:=ns) rO J λh2 tk hS kp=>?_;show sf ?_;let fl:=firstMet_length_le (λi=>ns.Q i 0) XS.C.o
 show Zh7 (led:=true) (s:={s1 with heap:=h2,toks:=tk}) (I.ok.hd hc) hS J λms out r h3 tk3 d c hI hs hl hmem Td hr kp3=>?_;let em:∀z,z∈ms↔z∈ns:=λz=>by
  rw[hmem,firstMet_any,el];let e1:(List.range ns.f).H (λi=>ns.Q i 0)=ns:=by
   show LP λi=>?_;rw[Yn];cases c:i<ns.f
   .simp_all
   .simp_all
  rw[e1];simp
 let MI:ms.Nodup:=(Zh3 (uP _ _) hl λx hx=>(hmem x).mpr (xa.mpr ⟨x,hx,Fe⟩)).nodup_iff.mpr (uP _ _);let Xx:(~~~s1)<=h2.objs.o:=by let(_,_,_,_,e,_):=hS;show Ow (Yk e)
 let Bm:(~~~s1)<=r:=Yl Xx Td;let I2:=(I1.laid (o:=.lst<|ms.H V.int) (h':=h3) (t':=tk3) (λb o e=>kp3 b o<|kp b o e) Bm ⟨B,out,c,Dt hI,hr⟩).drew d
 exists .ref r,_,I2,Z,q ms (My.UQ hs MI) em r<|I1.hok.fresh Bm
end
end L2
namespace My
open PySem L2
def ZE8{f g:Nat->Nat}{N k:Nat}(hf:∀i j,i<N->j<N->(f i=f j↔Conn A i j))(hk:∀i,i<N->f i<k)(hg:∀a,a<k->g a<N/\f (g a)=a)(hA:InN N A)(hB:InN N rH):
  (∀i j,i<N->j<N->Conn (A++rH) i j)↔∀a b,a<k->b<k->Conn (rH.H λe=>(f e.1,f e.2)) a b:=by
 let gi:∀i,i<N->Conn A (g<|f i) i:=λi hi=>by grind
 constructor
 .intro c a b ha hb;let(a1,a2):=hg a ha;let(b1,b2):=hg b hb;let q:=(c (g a) (g b) a1 b1).image (f:=f) (fs:=rH.H λe=>(f e.1,f e.2)) λe he=>by
   rcases Xk.R he with q|q
   .let⟨e1,e2⟩:=hA e q;rw[(hf _ _ e1 e2).mpr (.edge q)];show .refl _
   .show .edge (Yz.mpr ⟨e,q,Z⟩)
  simp_all
 .intro c i j hi hj;let up:∀{i j:Nat},Conn A i j->Conn (A++rH) i j:=λq=>q.mono λe he=>Yj _ he
  let q:=(c (f i) (f j) (hk i hi)<|hk j hj).image (f:=g) (fs:=A++rH) λe he=>by let(d,hd,rfl):=Yz.R he;let(d1,d2):=hB d hd;show(up<|gi _ d1).l ((Conn.edge<|Yg _ hd).l (up<|gi _ d2).symm)
  show(up<|gi i hi).symm.l (q.l<|up<|gi j hj)
def PC(n:Int)(ps:Aa)(I O:Ac)(c:Nat):(Prop):=∃L:Ab,L.Nodup/\(∀l,l∈L↔Zg n ps l/\(∀z∈I,z∈l)/\∀z∈O,z∉l)/\L.f=c
def PC.uniq(h1:PC n ps I O c)(h2:PC n ps I O d):c=d:=by
 let(L,a1,a2,a3):=h1;let(M,b1,b2,b3):=h2
 have:L.Perm M:=(Kz a1 b1).mpr λl=>by rw[a2,b2]
 rw[<-a3,<-b3,this.length_eq]
def XD(m:Nat)(gone:Ac):(Ac):=(Wj m).filter λz=>decide (z∉gone)
def WU{z:Int}:z∈XD m gone↔(0<=z/\z<(m:Int))/\z∉gone:=by unfold XD;rw[Yr,Qg,Xp]
def Zi8(m:Nat)(gone:Ac):(XD m gone).G (·<·):=(XU.R<|Pf m).2.filter _
def Tc(f:Nat->Nat)(ps:Aa)(R:Ac):(Aa):=R.H λz=>((f (Zz ps z).1:Int),(f (Zz ps z).2:Int))
def QS(R:Ac)(S:Ac):(Ac):=S.H λt=>R.Q t.j 0
def jW(hR:R.G (·<·))(hS:IsSet R.f S):(QS R S).G (·<·):=by
 let(a1,a2):=XU.R hS;show LQ.mpr (a2.imp_of_mem λ{a b} ha hb Vq=>?_);let h1:=a1 a ha
 let h2:=a1 b hb;rw[We,We,Xw (by simp_all),Xw (by simp_all)];show UH.R hR a.j b.j (by simp_all) (by simp_all) B
def Bl(hS:IsSet R.f S){z:Int}(h:z∈QS R S):z∈R:=by
 let(t,ht,rfl):=Yz.R h;let h1:=hS.all t ht
 simp_all
def jV{f:Nat->Nat}(hS:IsSet R.f S):XQ (Tc f ps R) S=(XQ ps (QS R S)).H λe=>(f e.1,f e.2):=by
 unfold XQ QS;rw[Ov,Ov];show YQ λt ht=>?_;let h1:=hS.all t ht
 let e:(Tc f ps R).Q t.j (0,0)=((f (Zz ps<|R.Q t.j 0).1:Int),(f (Zz ps<|R.Q t.j 0).2:Int)):=by unfold Tc;rw[We,Yn,We,Xw (by simp_all)];rfl
 rw[e];rfl
def RH(m:Nat)(I R S:Ac):(Ac):=(Wj m).filter λz=>decide (z∈I\/z∈QS R S)
def jU(m:Nat)(I R S:Ac):(RH m I R S).G (·<·):=(XU.R<|Pf m).2.filter _
def Xa{z:Int}:z∈RH m I R S↔(0<=z/\z<(m:Int))/\(z∈I\/z∈QS R S):=by unfold RH;rw[Yr,Qg,Xp]
section
variable{n:Int}{ps:Aa}{I O S:Ac}{f g:Nat->Nat}{k:Nat}
def IF(hI:IsSet ps.f I)(hS:IsSet (XD ps.f (I++O)).f S):(RH ps.f I (XD ps.f (I++O)) S).Perm (I++QS (XD ps.f (I++O)) S):=by
 let ua:=jW (Zi8 ps.f<|I++O) hS;show(Kz (Sm<|jU _ _ _ _)<|VG.mpr {hI.nodup,Sm ua,λa ha b hb e=>?_}).mpr λz=>?_
 .have:=(WU.R<|Bl hS hb).2
  simp_all
 .rw[Xa,Xk];exists λh=>h.2,λh=>{?_,h};rcases h with q|q
  .show hI.all z q
  .show(WU.R<|Bl hS q).1
theorem ZH8(g0:GoodW n ps)(hI:IsSet ps.f I)(hf:∀i j,i<n.j->j<n.j->(f i=f j↔Conn (XQ ps I) i j))(hk:∀i,i<n.j->f i<k)(hg:∀a,a<k->g a<n.j/\f (g a)=a)(hS:IsSet (XD ps.f (I++O)).f S):
  ((∀i j,i<n.j->j<n.j->Conn (XQ ps<|RH ps.f I (XD ps.f<|I++O) S) i j)↔∀a b,a<k->b<k->Conn (XQ (Tc f ps<|XD ps.f<|I++O) S) a b):=by
 let hp:=IF (O:=O) hI hS;let hA:=ZO (ns:=I) g0 hI.all
 let hB:=ZO (ns:=QS (XD ps.f<|I++O) S) g0 λz hz=>(WU.R<|Bl hS hz).1;let e:XQ ps (I++QS (XD ps.f<|I++O) S)=XQ ps I++XQ ps (QS (XD ps.f<|I++O) S):=by unfold XQ;show YB
 rw[jV hS,<-ZE8 hf hk hg hA hB,<-e];exists λc i j hi hj=>(Lx λz=>hp.mem_iff).R (c i j hi hj),λc i j hi hj=>(Lx λz=>hp.mem_iff).mpr (c i j hi hj)
def Bk(hI:IsSet ps.f I)(hT:IsSet ps.f T)(h1:∀z∈I,z∈T)(h2:∀z∈O,z∉T):∃S,IsSet (XD ps.f (I++O)).f S/\T=RH ps.f I (XD ps.f (I++O)) S:=by
 exists (Wj (XD ps.f<|I++O).f).filter λt=>decide<|(XD ps.f<|I++O).Q t.j 0∈T,XU.mpr {λt ht=>Xp.R (Yr.R ht).1,(XU.R<|Pf _).2.filter _},Cv (XU.R hT).2 (jU _ _ _ _) λz=>?_;rw[Xa];constructor
 .intro hz;exists hT.all z hz,?_;cases c:z∈I
  .show .inl c
  .right;let hR:z∈XD ps.f (I++O):=WU.mpr ⟨hT.all z hz,λq=>by
    simp_all⟩
   let(t,ht):=Yx hR;let e:(XD ps.f<|I++O).Q ((t:Int)).j 0=z:=by rw[YX];show VV ht
   show Yz.mpr {(t:Int),Yr.mpr {Xp.mpr {by simp_all,B},YE<|by rwa[e]},e}
 .rintro⟨_,q|q⟩
  .show h1 z q
  .let⟨t,ht,rfl⟩:=Yz.R q;grind
def Bj{S':Ac}(hS:IsSet (XD ps.f (I++O)).f S)(Ux:IsSet (XD ps.f (I++O)).f S')(e:RH ps.f I (XD ps.f (I++O)) S=RH ps.f I (XD ps.f (I++O)) S'):S=S':=by
 let key:∀{A rH:Ac},IsSet (XD ps.f<|I++O).f A->IsSet (XD ps.f<|I++O).f rH->RH ps.f I (XD ps.f<|I++O) A=RH ps.f I (XD ps.f<|I++O) rH->∀t,t∈A->t∈rH:=λ{A rH} hA hB e t ht=>by
  let h1:=hA.all t ht;let hm:(XD ps.f<|I++O).Q t.j 0∈QS (XD ps.f<|I++O) A:=Yz.mpr ⟨t,ht,Z⟩
  let hR:=WU.R (Bl hA hm);let h2:(XD ps.f<|I++O).Q t.j 0∈RH ps.f I (XD ps.f<|I++O) rH:=e▸Xa.mpr {hR.1,.inr hm}
  rcases(Xa.R h2).2 with q|q
  .show absurd (Yj _ q) hR.2
  .let⟨u,hu,e2⟩:=Yz.R q;let h3:=hB.all u hu
   rw[We,We,Xw (by simp_all),Xw (by simp_all)]at e2
   have:=Rc (Sm<|Zi8 ps.f<|I++O) (i:=u.j) (j:=t.j) (Xw<|by simp_all) (by simp_all)
   grind
 show Cv (XU.R hS).2 (XU.R Ux).2 λt=>{key hS Ux e t,key Ux hS e.symm t}
def uM(f:Nat->Nat)(ps:Aa)(R:Ac):(Tc f ps R).f=R.f:=Yb ..
def jT(g0:GoodW n ps)(hI:IsSet ps.f I)(Vb:∀z∈I,z∉O)(hf:∀i j,i<n.j->j<n.j->(f i=f j↔Conn (XQ ps I) i j))(hk:∀i,i<n.j->f i<k)(hg:∀a,a<k->g a<n.j/\f (g a)=a)(hn:(k:Int)+I⁻¹=n)(h:TC k (Tc f ps (XD ps.f (I++O))) c):PC n ps I O c:=by
 let(L,h1,h2,h3):=h;let hs:∀l∈L,IsSet (XD ps.f<|I++O).f l:=λl hl=>uM f ps _▸((h2 l).R hl).1
 let len:∀{S:Ac},IsSet (XD ps.f<|I++O).f S->(RH ps.f I (XD ps.f<|I++O) S).f=I.f+S.f:=λ{S} hS=>by rw[(IF hI hS).length_eq,Xe];unfold QS;rw[Yb]
 let iff:∀{S:Ac},IsSet (XD ps.f<|I++O).f S->(Zg n ps (RH ps.f I (XD ps.f<|I++O) S)↔Zg k (Tc f ps<|XD ps.f<|I++O) S):=λ{S} hS=>by
  let l:=len hS;let q:=ZH8 (O:=O) g0 hI hf hk hg hS
  constructor
  .rintro⟨a1,a2,a3⟩;exists by rw[uM];show hS,J,λa b ha hb=>q.R a3 a b (by simp_all)<|by simp_all
  .rintro⟨a1,a2,a3⟩;exists XU.mpr {λz hz=>(Xa.R hz).1,jU _ _ _ _},J,q.mpr λa b ha hb=>a3 a b (by simp_all)<|by simp_all
 show{L.H<|RH ps.f I<|XD ps.f<|I++O,LQ.mpr<|h1.imp_of_mem λ{a b} ha hb Vq e=>Vq<|Bj (hs a ha) (hs b hb) e,λT=>?_,by simp_all};rw[Yz];constructor
 .rintro⟨S,hS,rfl⟩;exists (iff<|hs S hS).mpr ((h2 S).R hS),λz hz=>Xa.mpr {hI.all z hz,.inl hz},λz hz q=>?_;rcases(Xa.R q).2 with q|q
  .show Vb z q hz
  .show(WU.R<|Bl (hs S hS) q).2 (Yg _ hz)
 .rintro⟨hT,q1,q2⟩;let(S,hS,rfl):=Bk hI hT.1 q1 q2;exists S,(h2 S).mpr ((iff hS).R hT),Z
def ZI8(g0:GoodW n ps)(gone:Ac)(hk:∀i,i<n.j->f i<k)(k1:1<=k)(kn:k<=n.j):GoodW k (Tc f ps (XD ps.f gone)):=by
 let(g1,g2,g3,g4):=g0;exists J,J,?_,λp hp=>?_
 .rw[uM]
  have:(XD ps.f gone).f<=(Wj ps.f).f:=YL ..
  have:=(Pf ps.f).len
  lia
 .let⟨z,hz,rfl⟩:=Yz.R hp;let hz1:=(WU.R hz).1
  obtain⟨q,hq⟩:∃q,ps[z.j]?=some q:={_,Xw<|by simp_all};let ee:Zz ps z=(q.1.j,q.2.j):=by unfold Zz;rw[VV hq]
  grind
def Bi(g0:GoodW n ps)(hI:IsSet ps.f I)(hf:∀i j,i<n.j->j<n.j->(f i=f j↔Conn (XQ ps I) i j))(hk:∀i,i<n.j->f i<k)(hg:∀a,a<k->g a<n.j/\f (g a)=a)(k1:1<=k)(kn:k<=n.j)(hn:n<(k:Int)+I⁻¹):PC n ps I O 0:=by
 exists [],.nil,λT=>{λh=>(by cases h),λzz=>?_},Z;let(hT,q1,q2):=zz;let(S,hS,rfl):=Bk hI hT.1 q1 q2;let q:=(ZH8 (O:=O) g0 hI hf hk hg hS).R hT.2.2
 let gg:=ZI8 (f:=f) g0 (I++O) hk k1 kn;let l:=kM gg (by rwa[uM]) λa b ha hb=>q a b (by simp_all) (by simp_all)
 let l2:=hT.2.1;rw[(IF hI hS).length_eq,Xe]at l2;unfold QS at l2;grind
end
def UJ:(Ac->Int->Nat)
 |[],_=>0
 |x::l,z=>if x=z then 0 else UJ l z+1
def IE:∀{l:Ac}{z:Int},z∈l->l[UJ l z]?=some z
 |x::l,z,h=>by
  unfold UJ;cases c:x=z
  .rw[Yi c,c];rfl
  .rw[Yh c];show IE ((Yo.R h).resolve_left λe=>c e.symm)
def jS(h:z∈l):UJ l z<l.f:=(Xv.R<|IE h).1
def jR(hz:z∈l)(hy:y∈l):UJ l z=UJ l y↔z=y:=by
 show{λe=>?_,λe=>by rw[e]};let h1:=IE hz
 rw[e,IE hy]at h1;lia
def jQ(hn:l.Nodup){i:Nat}{z:Int}(h:l[i]?=some z):UJ l z=i:=Rc hn (IE<|Xf h) h
def Bh(h:i<M.f):mk M i∈M:=by
 simp_all
section
variable{N:Nat}{es:List (Nat×Nat)}{F:Ac}
def jP(h:InN N es)(hF:F.G (·<·))(hm:∀z,z∈F↔z∈Xr N es):
  ∃g:Nat->Nat,(∀i j,i<N->j<N->(UJ F (mk (Xr N es) i)=UJ F (mk (Xr N es) j)↔Conn es i j))/\(∀i,i<N->UJ F (mk (Xr N es) i)<F.f)/\∀a,a<F.f->g a<N/\UJ F (mk (Xr N es)<|g a)=a:=by
 let hl:=ZF N es;let jO:∀i,i<N->mk (Xr N es) i∈F:=λi hi=>(hm _).mpr (Bh<|by simp_all)
 let ex:∀a,∃i,a<F.f->i<N/\UJ F (mk (Xr N es) i)=a:=λa=>by
  cases c:a<F.f
  .let q:=(hm _).R (Hm c);let(i,hi):=Yx q;let Ws:=(Xv.R hi).1
   exists i,λ_=>{by simp_all,?_};let e:mk (Xr N es) i=F[a]:=by unfold mk;show VV hi
   rw[e];show jQ (Sm hF) (Xw c)
  .exists 0,λh=>absurd h c
 exists λa=>Classical.choose<|ex a,λi j hi hj=>?_,λi hi=>jS<|jO i hi,λa ha=>Classical.choose_spec (ex a) ha;rw[jR (jO i hi) (jO j hj)];show Ra h hi hj
def jN:∀i,∃p,p<=i/\VU M p=true/\mk M p=mk M i:=by
 intro i
 induction i using Nat.strongRecOn with
 |_ i ih=>
  cases c:VU M i=true
  .grind
  .obtain⟨j,hj,e⟩:∃j,j<i/\mk M j=mk M i:=Yt λno=>c (XE.mpr λj hj e=>no ⟨j,hj,e⟩);grind
def ZU9(hF:F.G (·<·))(hm:∀z,z∈F↔z∈M):F.f=cnt M:=by
 let e:F.Perm ((Uy M M.f).H (mk M)):=by
  show(Kz (Sm hF) ?_).mpr λz=>?_
  .show LQ.mpr ?_;show(FK.filter<|VU M).imp_of_mem λ{a b} ha hb Vq=>?_;show XE.R (Yr.R hb).2 a Vq
  .rw[hm,Yz];constructor
   .intro hz;let(i,hi):=Yx hz;let Ws:=(Xv.R hi).1
    let(p,h1,h2,h3):=jN (M:=M) i;exists p,Yr.mpr {YY.mpr J,h2},h3.l ?_;show VV hi
   .rintro⟨p,hp,rfl⟩;show Bh (YY.R (Yr.R hp).1)
 rw[e.length_eq,Yb];rfl
def jM(h:InN N es)(hN:1<=N)(hF:F.G (·<·))(hm:∀z,z∈F↔z∈Xr N es):1<=F.f/\F.f<=N/\N<=F.f+es.f:=by
 let e:=ZU9 hF hm;let hl:=ZF N es
 let e2:=mK (vJ (n:=N) (es:=es) h);let e3:=Dj es h
 let e4:=oh (M:=Xr N es) (by simp_all);let e5:cnt (Xr N es)<=N:=by
  unfold cnt Uy;show Yl (YL ..) ?_;rw[NP]
  simp_all
 simp_all
end
def PC.congr{n:Int}{ps:Aa}{I O I' O':Ac}{c:Nat}(hI:∀z,z∈I↔z∈I')(hO:∀z,z∈O↔z∈O')(h:PC n ps I O c):PC n ps I' O' c:=by
 let(L,h1,h2,h3):=h;exists L,h1,λl=>?_,h3
 simp_all
def TC.pc{n:Int}{ps:Aa}{c:Nat}(h:TC n ps c):PC n ps [] [] c:=by let(L,h1,h2,h3):=h;exists L,h1,λl=>by simp_all,h3
def Zq9{n:Int}{ps:Aa}{z:Int}{I O:Ac}(h1:z∈I)(h2:z∈O):PC n ps I O 0:=
 {[],.nil,λT=>{λh=>(by cases h),λzz=>by let(_,q,r):=zz;show absurd (q z h1)<|r z h2},Z}
def jL{t:Int}(h1:PC n ps (t::I) O a)(h2:PC n ps I (t::O) b):PC n ps I O (a+b):=by
 let(L,l1,l2,l3):=h1;let(M,m1,m2,m3):=h2;exists L++M,VG.mpr {l1,m1,λx hx y hy e=>?_},λT=>?_,by simp_all
 .simp_all
 grind
def FD(A rH:Ac)(t:Int):(Prop):=t∈A/\t∉rH/\∀s,s<t->(s∈A↔s∈rH)
def FD.uniq(h:FD A rH t)(k:FD A rH u):t=u:=by
 rcases Int.lt_trichotomy t u with c|c|c
 .show absurd ((k.2.2 t c).R h.1) h.2.1
 .show c
 .show absurd ((h.2.2 u c).R k.1) k.2.1
def jK:∀{A rH:Ac},A.G (·<·)->rH.G (·<·)->A.f=rH.f->(HT.lexLt A rH=true↔∃t,FD A rH t)
 |[],[],_,_,_=>{λh=>(by cases h),λzz=>by let(t,h,_):=zz;show(by cases h)}
 |x::A,y::rH,hA,hB,hl=>by
  let(a1,a2):=YN.R hA;let(b1,b2):=YN.R hB;let PQ:A.f=rH.f:=NI hl
  change(if x=y then HT.lexLt A rH else decide (x<y))=true↔_;cases c:x=y
  .subst c;rw[Yi Z,jK a2 b2 PQ];constructor
   .rintro⟨t,h1,h2,h3⟩;exists t,Yf _ h1,λq=>?_,λs hs=>?_
    .grind
    simp_all
   .rintro⟨t,h1,h2,h3⟩;let tx:t≠x:=λe=>h2 (e▸Ya)
    let Bg:=(Yo.R h1).resolve_left tx;exists t,Bg,λq=>h2<|Yf _ q,λs hs=>?_;grind
  .constructor
   .intro h;exists x,Ya,λq=>?_,λs hs=>{λq=>?_,λq=>?_}
    .grind
    .grind
    grind
   .rintro⟨t,h1,h2,h3⟩;grind
def Rk(n:Int)(ps:Aa)(T:Ac)(r:Nat):(Prop):=∃L:Ab,L.Nodup/\(∀l,l∈L↔Zg n ps l/\HT.lexLt l T=true)/\L.f=r
def jJ{α:Type}[DecidableEq α]:∀{l m:List α},l.Nodup->(∀x∈l,x∈m)->l.f<=m.f
 |[],_,_,_=>Yc _
 |x::l,m,hn,hs=>by
  let(h1,h2):=QA.R hn
  have:=jJ (m:=m.erase x) h2 λy hy=>(List.mem_erase_of_ne λe=>h1<|by simp_all).mpr (hs y<|Yf _ hy)
  grind
def Bf(hT:Zg n ps T)(h1:Rk n ps T r)(h2:Rk n ps U q)(h:HT.lexLt T U=true):r<q:=by
 let(L,a1,a2,a3):=h1;let(M,b1,b2,b3):=h2
 have:=jJ (l:=T::L) (m:=M) (QA.mpr {λq=>absurd ((a2 T).R q).2 (by rw[Xg];decide),a1}) λl hl=>by
  rcases Yo.R hl with e|e
  .simp_all
  .let⟨c1,c2⟩:=(a2 l).R e;show(b2 l).mpr {c1,WM c2 h}
 grind
def jI(h:TC n ps c):∃d,PC n ps Is Os d:=by let(L,h1,h2,_):=h;exists _,L.filter λU=>decide ((∀z∈Is,z∈U)/\∀z∈Os,z∉U),h1.filter _,λU=>by rw[Yr,Qg,h2],Z
def jH{l T O:Ac}{I:Ac}(hl:IsSet m l)(hT:IsSet m T)(tT:t∉T)(hI:∀z,z∈I↔(z∈T/\z<t)\/z=t)(hO:∀z,z∈O↔(0<=z/\z<(m:Int))/\z∉T/\z<t):((∀z∈I,z∈l)/\∀z∈O,z∉l)↔FD l T t:=by
 constructor
 .rintro⟨h1,h2⟩;exists h1 t<|(hI t).mpr (.inr Z),tT,λs hs=>{λq=>Yt λno=>?_,λq=>h1 s<|(hI s).mpr (.inl ⟨q,hs⟩)};show h2 s ((hO s).mpr {hl.all s q,no,hs}) q
 .rintro⟨h1,_,h3⟩;grind
def BL(n:Int)(ps:Aa)(I:Ac)(t:Int)(b:Nat):(Prop):=∃L:Ab,L.Nodup/\(∀l,l∈L↔Zg n ps l/\∃s,s<t/\FD l I s)/\L.f=b
section
variable{n:Int}{ps:Aa}{I O:Ac}{i b c:Nat}
def jG(h:I=[]):BL n ps I 0 0:=by
 exists [],.nil,λl=>{λh=>(by cases h),λzz=>?_},Z;let(hl,s,hs,f):=zz
 have:=hl.1.all s f.1
 lia
def jF(hI:IsSet i I)(h:BL n ps I (i:Int) b):BL n ps (I++[(i:Int)]) ((i+1:Nat):Int) b:=by
 let(L,l1,l2,l3):=h;let key:∀l s,s<(i:Int)->(FD l (I++[(i:Int)]) s↔FD l I s):=λl s hs=>by unfold FD;grind
 exists L,l1,λl=>?_,l3;rw[l2];show Ke λ_=>{λzz=>by let(s,hs,f):=zz;show{s,J,(key l s hs).mpr f},λzz=>?_};let(s,hs,f):=zz;let UC:s≠(i:Int):=λe=>f.2.1 (by simp_all)
 exists s,J,(key l s B).R f
def jE(hm:i<ps.f)(hI:IsSet i I)(hO:∀z,z∈O↔(0<=z/\z<(i:Int))/\z∉I)(h:BL n ps I (i:Int) b)(hc:PC n ps (I++[(i:Int)]) O c):BL n ps I ((i+1:Nat):Int) (b+c):=by
 let(L,l1,l2,l3):=h;let(M,m1,m2,m3):=hc;let hI':IsSet ps.f I:=XU.mpr {λz hz=>by have:=hI.all z hz;lia,(XU.R hI).2}
 let tI:(i:Int)∉I:=λq=>by have:=hI.all _ q;simp_all
 let m2':∀l,l∈M↔Zg n ps l/\FD l I (i:Int):=λl=>by
  rw[m2];show Ke λhl=>jH (m:=ps.f) hl.1 hI' tI (λz=>?_) λz=>?_
  .rw[Xk,Xc];exists λq=>q.imp_left λq=>{q,(hI.all z q).2},λq=>q.imp_left λq=>q.1
  grind
 exists L++M,VG.mpr {l1,m1,λx hx y hy e=>?_},λl=>?_,by simp_all
 .rw[<-e]at hy;let(_,s,hs,f):=(l2 x).R hx
  have:=f.uniq ((m2' x).R hy).2
  simp_all
 grind
def jD{r:Nat}(hI:IsSet ps.f I)(hO:∀z,z∈O↔(0<=z/\z<ps⁻¹)/\z∉I)(h:BL n ps I ps⁻¹ b)(hc:PC n ps I O c)(hr:r<c):Zg n ps I/\Rk n ps I b/\r=0:=by
 let(L,l1,l2,l3):=h;let(M,m1,m2,m3):=hc;let eq:∀l∈M,l=I:=λl hl=>by let(a,q1,q2):=(m2 l).R hl;show Cv (XU.R a.1).2 (XU.R hI).2 λz=>{λhz=>Yt λno=>q2 z ((hO z).mpr {a.1.all z hz,no}) hz,q1 z}
 obtain⟨l,hl⟩:∃l,l∈M:=by
  cases M with
  |nil=>grind
  |cons x M=>exists x,Ya
 let hT:Zg n ps I:=(eq l hl)▸((m2 l).R hl).1;let hle:M.f<=1:=by
  match M,eq,m1 with
  |[],_,_=>show Yc _
  |[_],_,_=>show XI 1
  |x::y::M,eq,m1=>
   let h1:=eq x Ya
   simp_all
 exists hT,{L,l1,λl=>?_,l3},J;rw[l2];show Ke λhl=>?_;rw[jK (XU.R hl.1).2 (XU.R hI).2 (by have:=hl.2.1;have:=hT.2.1;lia)];exists λzz=>by let(s,_,f):=zz;show⟨s,f⟩,λzz=>by let(s,f):=zz;exists s,(hl.1.all s f.1).2,f
end
def jC{L:Ab}{U:Ac}(hmem:∀l,l∈L↔Zg n ps l)(Wv:L.G WV)(h:L[i]?=some U):Rk n ps U i:=by
 let(hi,eU):=Xv.R h;exists L.M i,(Je Wv).sublist (sH _ _),λl=>{λhl=>?_,λ⟨hl,Xx⟩=>?_},B
 .let⟨j,hj⟩:=Yx hl;rw[Kv]at hj;split at hj
  .rename_i uL;let(h1,e1):=Xv.R hj;exists (hmem l).R (Xf hj),?_
   have:=UH.R Wv j i h1 hi uL
   simp_all
  simp_all
 .let⟨j,hj⟩:=Yx ((hmem l).mpr hl);let(h1,e1):=Xv.R hj;let uL:j<i:=by
   rcases Nat.lt_trichotomy j i with c|c|c
   .show c
   .subst c;rw[h]at hj;rw[<-Ym hj,Xg]at Xx;lia
   .have:=Zh4 (UH.R Wv i j hi h1 c)
    simp_all
  show Xf (i:=j) ?_
  simp_all
def jB{n:Int}{ps:Aa}{U V:Ac}{r:Nat}(hU:Zg n ps U)(hV:Zg n ps V)(h1:Rk n ps U r)(h2:Rk n ps V r):U=V:=by
 show WJ (Fy.mpr λh=>?_) (Fy.mpr λh=>?_)
 .show RX _ (Bf hU h1 h2 h)
 .show RX _ (Bf hV h2 h1 h)
def jz{s rest:TS}{tB:Ends}{σ:L2.St}{H:Hp}(P:L2.St->Hp->Prop)(h1:∀σ' H',P σ' H'->rest tB σ' H')(h2:∀K:L2.St->Hp->Prop,(∀σ' H',P σ' H'->K σ' H')->s {tB with nx:=K} σ H):Nz s rest tB σ H:=h2 _ h1
def Zf6{m:Nat}(hm:m<=30):∀k,(Uo (m:Int) k).f<=30^k
 |0=>XI 1
 |k+1=>by
  let h1:=vq (m:=m) (Uo (m:Int) k) λs hs=>(WX.R hs).2;let h2:=Zf6 hm k
  let h3:m*(Uo (m:Int) k).f<=30*30^k:=Qc hm h2;rw[Nat.pow_succ,Fs];show Yl h1 h3
def jy(g:GoodW n ps)(h:TC n ps c):c<10^20:=by
 let(L,hn,hm,rfl):=h;let(g1,g2,g3,_):=g;show Kw (m:=30^13) (Yl (jJ (m:=Uo ps⁻¹ (n-1).j) hn λx hx=>WX.mpr {?_,((hm x).R hx).1})<|Yl (Zf6 rO _)<|FH AP<|by simp_all) AP
 have:=((hm x).R hx).2.1
 lia
def jx(g:GoodW n ps):∃L:Ab,(∀l,l∈L↔Zg n ps l)/\L.G WV:={TJ n.j ps (n-1).j,λ_=>mH g,(mW _ _).filter _}
def ID(ws:Ac):(Ac->Int)
 |[]=>1
 |z::T=>ws.Q z.j 0*ID ws T
def WS(n:Int)(ps:Aa)(ws:Ac)(s:Int):(Prop):=∃L:Ab,L.Nodup/\(∀T,T∈L↔Zg n ps T)/\(L.H<|ID ws).sum=s
def Zb9{f:Ac->Int}{a b:Ab}(h:a.Perm b):(a.H f).sum=(b.H f).sum:=by
 induction h with
 |nil=>rfl
 |cons x _ ih=>simp_all
 |swap x y l=>rw[SR,SR,SR,SR,NM,NM,NM,NM];lia
 |trans _ _ i1 i2=>show i1.l i2
def WS.uniq{n:Int}{ps:Aa}{ws:Ac}{s t:Int}(h1:WS n ps ws s)(h2:WS n ps ws t):s=t:=by let(L,l1,l2,l3):=h1;let(M,m1,m2,m3):=h2;rw[<-l3,<-m3];show Zb9 ((Kz l1 m1).mpr λT=>(l2 T).l (m2 T).symm)
def Be{ps:Aa}{ws:Ac}(hw:ws.f=ps.f):∀{T:Ac},(∀z∈T,0<=z/\z<ps⁻¹)->UP (Wo ps ws) T=ID ws T
 |[],_=>rfl
 |z::T,hb=>by
  let hz:=hb z Ya;change((Wo ps ws).Q z.j (0,0,0)).2.2*UP (Wo ps ws) T=ws.Q z.j 0*ID ws T
  rw[Be hw λy hy=>hb y (Yf _ hy)];let e:((Wo ps ws).Q z.j (0,0,0)).2.2=ws.Q z.j 0:=by unfold Wo;rw[We,LV,Xw (by simp_all),Xw (show z.j<ws.f by simp_all),We,Xw (by simp_all)];rfl
  rw[e]
def jw{n:Int}{ps:Aa}{ws:Ac}(g:GoodW n ps)(hw:ws.f=ps.f):WS n ps ws (det (n-1).j (lapE (Wo ps ws))):=by
 let g1:=g.1;let(M,a1,a2,a3):=Bx _ (n-1).j (Wo ps ws) Z (IK g _);let hm:∀T,T∈M↔Zg n ps T:=λT=>by rw[a2 T,IM g1 hw]
 exists M,a1,hm,?_;rw[<-a3];show YF List.sum (YQ λT hT=>(Be hw ((hm T).R hT).1.all).symm)
def Bc(u v i:Nat):(ind u v i).natAbs<=1:=by unfold ind;split<;>split<;>decide
def jv{rH:Nat}:∀{E:List Ed},(∀e∈E,e.2.2.natAbs<=rH)->∀i j,(lapE E i j).natAbs<=E.f*rH
 |[],_,i,j=>Yc _
 |e::E,h,i,j=>by
  let ih:=jv (λf hf=>h f<|Yf _ hf) i j;let h1:=Bc e.1 e.2.1 i
  let h2:=Bc e.1 e.2.1 j;let h0:=h e Ya
  let h3:(ind e.1 e.2.1 i*ind e.1 e.2.1 j).natAbs<=1:=by rw[PY];show Qc h1 h2
  let h4:(e.2.2*(ind e.1 e.2.1 i*ind e.1 e.2.1 j)).natAbs<=rH:=by
   rw[PY]
   have:=Qc h0 h3
   simp_all
  change(e.2.2*(ind e.1 e.2.1 i*ind e.1 e.2.1 j)+lapE E i j).natAbs<=(e::E).f*rH
  have:=sF (e.2.2*(ind e.1 e.2.1 i*ind e.1 e.2.1 j)) (lapE E i j)
  rw[YW,Nat.succ_mul];lia
def ev(b:Int):(Ac->Int)
 |[]=>0
 |d::l=>d+b*ev b l
def ju(b:Int)(n:Nat):ev b (List.U n 0)=0:=by
 induction n with
 |zero=>rfl
 |succ n ih=>show 0+b*ev b (List.U n 0)=0;simp_all
def Bb(b:Int):∀l c,c<l.f->ev b (l.set c (l.Q c 0+1))=ev b l+b^c
 |[],c,h=>absurd h (VX _)
 |d::l,0,_=>by change d+1+b*ev b l=d+b*ev b l+b^0;lia
 |d::l,c+1,h=>by change d+b*ev b (l.set c<|l.Q c 0+1)=d+b*ev b l+b^(c+1);rw[Bb b l c (Nat.lt_of_succ_lt_succ h),LM,Ru,Qz b (b^c)];lia
def jt{b d v:Int}(h0:0<=d)(h1:d<b):(d+b*v)%b=d:=by rw[Int.add_mul_emod_self_left];show Int.emod_eq_of_lt h0 h1
def js{b d v:Int}(h0:0<=d)(h1:d<b):(d+b*v)/b=v:=by rw[Int.add_mul_ediv_left _ _ J,Int.ediv_eq_zero_of_lt h0 h1,NH]
def jr{l:Ac}{d:Int}(h:l[i]?=some d):ev b (l.drop i)=d+b*ev b (l.drop (i+1)):=by let(hi,e):=Xv.R h;rw[FL hi,e];rfl
def cS(S T:Ac):(Nat):=(T.filter λz=>decide<|z∈S).f
def jq(S T:Ac):cS S T<=T.f:=YL ..
def Gn(S:Ac)(l:Ac)(T:Ac):(Ac):=l.set (cS S T) (l.Q (cS S T) 0+1)
def VR(n:Nat)(S:Ac)(L:Ab):(Ac):=L.foldl (Gn S) (List.U n 0)
def jo(n:Nat)(S:Ac)(L:Ab):(VR n S L).f=n:=by
 unfold VR;let h:∀(L:Ab)(l:Ac),(L.foldl (Gn S) l).f=l.f:=by
  intro L
  induction L with
  |nil=>intro l;rfl
  |cons T L ih=>intro l;rw[Hj,ih];show sv
 simp_all
def Zr5(n:Nat)(S:Ac)(L:Ab)(T:Ac):VR n S (L++[T])=Gn S (VR n S L) T:=by
 unfold VR
 simp_all
def jm(l:Ac)(x:Int):(l++[x]).sum=l.sum+x:=by
 simp_all
def ZX7{α:Type}{P:List α->Prop}(h0:P [])(h1:∀l x,P l->P (l++[x]))(l:List α):P l:=by
 let h:∀r:List α,P r.reverse:=by
  intro r
  induction r with
  |nil=>show h0
  |cons x r ih=>simp_all
 have:=h l.reverse
 simp_all
def jl(b:Int)(n:Nat)(S:Ac)(L:Ab)(h:∀T∈L,T.f<n):ev b (VR n S L)=(L.H λT=>b^cS S T).sum:=by
 revert h
 show ZX7 (P:=λL=>(∀T∈L,T.f<n)->ev b (VR n S L)=(L.H λT=>b^cS S T).sum) (λ_=>ju b n) (λL T ih h=>?_) L;rw[Zr5,YB,sN,jm,<-ih λT hT=>h T (Yj _ hT)];show Bb b _ _ (by rw[jo];show Kw (jq S T)<|h T Fe)
def jk(n:Nat)(S:Ac)(L:Ab):∀x∈VR n S L,0<=x/\x<=L⁻¹:=by
 show ZX7 (P:=λL=>∀x∈VR n S L,0<=x/\x<=L⁻¹) (λx hx=>?_) (λL T ih x hx=>?_) L
 .rw[Kl hx]
  simp_all
 .rw[Zr5]at hx;rw[Xe];change 0<=x/\x<=((L.f+1:Nat):Int)
  rcases cu hx with e|e
  .have:=ih x e
   lia
  .let g:∀c,0<=(VR n S L).Q c 0/\(VR n S L).Q c 0<=L⁻¹:=λc=>by
    rw[We];cases hz:(VR n S L)[c]? with
    |none=>exists Ko _,Int.natCast_nonneg _
    |some y=>show ih y (Xf hz)
   grind
def wS(b:Int)(S:Ac)(m:Nat):(Ac):=(List.range m).H λi=>if ((i:Nat):Int)∈S then b else 1
def Ba(b:Int)(S:Ac)(m:Nat):(wS b S m).f=m:=by
 unfold wS
 simp_all
def AZ{b:Int}{S:Ac}{m:Nat}{z:Int}(h0:0<=z)(h1:z<(m:Int)):(wS b S m).Q z.j 0=if z∈S then b else 1:=by
 let h:(wS b S m)[z.j]?=some (if z∈S then b else 1):=by
  unfold wS;rw[Yn,List.getElem?_range (by simp_all)];change some (if ((z.j:Nat):Int)∈S then b else 1)=_
  rw[sO h0]
 simp_all
def AY(b:Int)(S:Ac)(m:Nat):∀T:Ac,(∀z∈T,0<=z/\z<(m:Int))->ID (wS b S m) T=b^cS S T
 |[],_=>by change(1:Int)=b^0;simp_all
 |z::T,h=>by
  let(z0,z1):=h z Fe;change(wS b S m).Q z.j 0*ID (wS b S m) T=_
  rw[AZ z0 z1,AY b S m T λy hy=>h y (by simp[hy])];unfold cS;grind
def AX(b:Int)(S:Ac)(hn:L.Nodup)(hm:∀T,T∈L↔Zg n ps T):WS n ps (wS b S ps.f) (ev b (VR n.j S L)):=by
 exists L,hn,hm,?_;rw[jl b n.j S L λT hT=>?_]
 .congr 1;show YQ λT hT=>?_;let(h1,_):=(hm T).R hT;show AY b S ps.f T (XU.R h1).1
 .let⟨_,h2,_⟩:=(hm T).R hT;lia
def subs:(Nat->Ab)
 |0=>[[]]
 |m+1=>subs m++(subs m).H (·++[(m:Int)])
def Vx:∀{m:Nat}{F:Ac},F∈subs m↔IsSet m F
 |0,F=>by
  change F∈[[]]↔_;rw[Xc];constructor
  .rintro rfl;show IsSet.nil _
  .intro h;show UG.R (Nat.le_zero.R h.len)
 |m+1,F=>by
  change F∈subs m++(subs m).H (·++[(m:Int)])↔_;rw[Xk,Yz,Vx];constructor
  .rintro(h|⟨G,h,rfl⟩)
   .show h.up
   .show(Vx.R h).snoc
  .intro h;rcases Cf h with c|⟨G,e,c⟩
   .show .inl c
   .show .inr {G,Vx.mpr c,e.symm}
abbrev IC(ls:Ac)(z:Int):Int:=ls.Q z.j 0
def lwS(ls:Ac)(x:Int):(Ac):=(Wj ls.f).filter λz=>decide (IC ls z<x)
def mA(N:Nat)(ps:Aa)(ls:Ac)(x:Int):(Ac):=Xr N (XQ ps<|lwS ls x)
def AW(h:TC n ps c):WS n ps (List.U ps.f 1) (c:Int):=by
 let(L,a1,a2,rfl):=h;exists L,a1,a2,Zf7 λT hT=>?_;let hs:=((a2 T).R hT).1.all
 clear hT
 induction T with
 |nil=>rfl
 |cons z T ih=>
  let hz:=hs z Ya;change(List.U ps.f (1:Int)).Q z.j 0*ID _ T=1
  simp_all
def lvl(ls:Ac)(x:Int)(i:Nat):(Ac):=(Wj i).filter λz=>decide (IC ls z=x)
def AV(ls T:Ac):(Int):=(T.H<|IC ls).sum
section
variable{n:Int}{ps:Aa}{T:Ac}(g:GoodW n ps)
include g
def jj(hT:Zg n ps T)(hW:Zg n ps W)(h:∀z∈T,z∈W):T.Perm W:=by
 have:=Zh3 (l:=W) hT.1.nodup (by have:=hT.2.1;have:=hW.2.1;lia) h
 show this.symm
end
end My
namespace HT
open PySem PyProof.Rows
section
def ltP(x y:Int×Ac):(Bool):=decide (x.1<y.1)||(decide (x.1=y.1)&&lexLt x.2 y.2)
end
end HT
namespace My
open PySem L2
section
variable{one d0 d1:Int}{other:Option Int}
def bo(one:Int)(other:Option Int)(d0 d1 y:Int):(Int):=if y=one then d0 else if some y=other then d1 else y
end
end My
namespace L2
open PySem PySem.Spec PyProof.Rows
def TL(l:List Str):(List V):=l.H V.str
def ZT3:∀{l:List Str}{us:Ag},Vals (TL l) us->∃k:List (Str×Tok),us=strValues k/\k.H (λx=>x.fst)=l
 |[],_,.nil=>{[],Z,Z}
 |x::l,_,.cons r t=>by let(tk,rfl):=r;let(k,rfl,h):=ZT3 (l:=l) t;exists (x,tk)::k,Z,by simp_all
section
variable{X:Cx}
def ji(K:Ad):(V->List V->Hp->VK->Prop):=λx vs H Q=>∃sep a l,x=.str sep/\vs=[.ref a]/\SqL K H a (TL l)/\JoinOk sep l=true/\Q (.str<|sep.join l) H
def ZK7(K:Ad)(h:autoParam (X.K=K) D1._auto_1):Nq X "str.join" (ji K):=by subst h;intro pins s σ H x vs v us Q I rx rv h;let(sep,a,l,rfl,rfl,hq,hj,q):=h;let(tk,rfl):=rx;let(u,rfl,ru):=rv.one;cases ru;let(XS,r,pl,hz):=I.list hq;let(k,rfl,hk):=ZT3 r;show PySem.SC.join pl.isList hk hj λt' n=>{.str _,H,I.tok n,⟨t',Z⟩,?_};rwa[show Txt.join sep l=sep.join l from PySem.StrLaws.glued_eq_join sep l]
def uK:VF X (.type "str") (λxs H Q=>∃i:Int,xs=[.int i]/\-(10^70)<i/\i<10^70/\Q (.str (Str.ofString (toString i))) H):=by intro pins s σ H xs us Q I r h;let(i,rfl,h1,h2,q):=h;show Zb5 pins s σ H _ us Q I r {i,Z,ZD9 h1 h2,q}
end
def Zl5:∀l n,Vals (TL l) (strsFrom n l)
 |[],_=>.nil
 |_::l,n=>.cons ⟨n,Z⟩ (Zl5 l<|n+1)
section
variable{X:Cx}
def jh:(V->List V->Hp->VK->Prop):=λx vs H Q=>∃z y,x=.str z/\vs=[.str y]/\(y.f == 0)=false/\z.f<=sizeLine/\(Txt.split z y).f<=sizeLine/\∀p,H p=none->Q ↑p (upd H p<|.lst<|TL<|Txt.split z y)
def ZJ7:Nq X "str.split" jh:=by
 intro pins s σ H x vs v us Q I rx rv h;let(z,y,rfl,rfl,hy,hz,hl,q):=h;let(t,rfl):=rx;let(u,rfl,ru):=rv.one;let(u',rfl):=ru;let self:Txt.split z y=[z]->EP X pins σ Q (.ref (~~~s)) {s with heap:=s.r.push {cls:=.type "list",data:=.seq #[.str z t]} }:=λe=>by rw[e]at q;exists .ref (~~~s),_,I.laid (t':=s.toks) (o:=.lst<|TL [z]) (λb ob q=>Xl _ q) (XI _) ?_,Z,q _<|I.hok.fresh<|XI _;exists by rw[e]at hl;show hl,[.str z t],0,.cons ⟨t,Z⟩ .nil,Qd _ Z
 cases c1:(decide (z.f<y.f)||decide (Builtin.Str.strKind z<Builtin.Str.strKind y))=true
 .let e:Txt.split z y=[z]:=by unfold Txt.split;rw[Yi c1]
  show NG Qb (Ha _ _ _) Ki (sZ _ _) (meets_str_split_cannot_occur z y t u' c1) (self e)
 .let c1':=Fy.mpr c1;cases c2:(Builtin.Str.occurrences z y 0 z.f<|z.f+1).isEmpty=true
  .let e:Txt.split z y=[z]:=by unfold Txt.split;rw[Yh c1,Yi c2]
   show NG Qb (Ha _ _ _) Ki (sZ _ _) (meets_str_split_not_found z y t u' c1' hy c2) (self e)
  .let e:Txt.split z y=Builtin.Str.partsBetween z (Builtin.Str.occurrences z y 0 z.f<|z.f+1) y.f:=by unfold Txt.split;rw[Yh c1,Yh c2]
   rw[e]at hl q;show NG Qb (Ha _ _ _) Ki (sZ _ _) (meets_str_split_sep z y t u' c1' hy (Fy.mpr c2) hz hl) ?_;exists .ref (~~~s),_,I.laid (o:=.lst<|TL<|Builtin.Str.partsBetween z (Builtin.Str.occurrences z y 0 z.f<|z.f+1) y.f) (λb ob q=>Xl _ q) (XI _) ?_,Z,q _<|I.hok.fresh<|XI _;exists by unfold TL;simp_all,_,0,Zl5 _ _,Qd _ Z
def jg:(V->List V->Hp->VK->Prop):=λx vs H Q=>∃z y,x=.str z/\vs=[.str y]/\Q (.bl<|Txt.startswith z y) H
def Zw9:Nq X "str.startswith" jg:=by intro pins s σ H x vs v us Q I rx rv h;let(z,y,rfl,rfl,q):=h;let(t,rfl):=rx;let(u,rfl,ru):=rv.one;let(u',rfl):=ru;show PySem.SC.startswith {.bl _,H,I,Z,q}
def AU:VF X (.type "int") (λxs H Q=>∃z n,xs=[.str z]/\intText? z=some n/\z.f<=640/\Q (.int n) H):=by intro pins s σ H xs us Q I r h;let(z,n,rfl,hz,hl,q):=h;let(u,rfl,ru):=Vi r;let(t,rfl):=ru;show PySem.W.KIN.call_text hz hl {.int n,H,I.tok _,{_,Z},q}
def jf(z:Str):(It):={λi _=>i<z.cps.o,λi H x H'=>H'=H/\∃c,z.cps[i]?=some c/\x=.str {#[c]},λi _=>z.cps.o<=i}
def je{P:Program}{w:World}{K:Ad}{tg:Expr}(z:Str)(t:Tok)(it:Addr):Turn P w K tg (jf z) [it] it (λi h=>h.IsStrIter it "str_ascii_iterator" z t i) where
 mem:=Fe
 obj:=λi h st b hb=>by
  let e:b=it:=by simpa using hb
  subst e;let(o,e,c,d):=st;exists o,e,λv z=>by simp_all
 keep:=λi h h' st k=>by let(o,e,c,d):=st;exists o,k it Fe o e,c,d
 item:=by
  intro X hP hw hK hc i pins s σ H E I hf st hg;obtain⟨c,Vj⟩:∃c,z.cps[i]?=some c:={_,Ui hg};let(f0,f1,f2,f3,f4,f5):=hf it Fe;show wpAny_pyNext_ascii_item st Vj λh' XR sb=>?_;let I1:Inv X pins σ H {s with heap:=h',toks:=s.toks+1}:=I.turned (λb o hb e=>(sb.2 b hb).l e) f0 f1 f3 f4 f5
  let(o,e,c',d):=id XR;exists _,Z,Ro (s:={s with heap:=h',toks:=s.toks+1}) e c' d AP {.str {#[c]},H,I1,{_,Z},⟨Z,c,Vj,Z⟩,XR,λb hb=>(hf b hb).1}
 done:=by intro X hP hw hK hc i pins s σ H E I hf st hg;let(f0,f1,f2,f3,f4,f5):=hf it Fe;show wpAny_pyNext_ascii_end (I.ok.hd hc) st (bT hg) λh' eb=>{Z,I.turned (t':=s.toks) (λb o hb e=>eb b o hb e) f0 f1 f3 f4 f5}
 self:=λ_ _ _ _ _ st h=>wpAny_pyIter_striter_ascii st h
def jd(tl:TE):(TI):=λσ H R=>tl σ H λx H1=>∃z:Str,x=.str z/\(z.cps.all λc=>decide<|c<128)=true/\R (jf z) H1
def AS{l tg:Expr}{tl:TE}(hl:PE X l tl):PI X tg l (jd tl):=by
 intro pins s σ H R I h;show thn (hl pins s σ H _ I h) λv s1 XB=>?_;let(x,H1,I1,r1,q1):=XB;let(z,e,ha,q):=q1;subst e;let(t,rfl):=r1;show wpAny_pyIter_ascii ha ?_;exists (~~~s1),[(~~~s1)],_,_,H1,Z,I1.kept (t':=s1.toks) λb o e=>Xl _ e,je z t _,{_,Qd _ Z,Z,Z},λb hb=>?_,q;let e:b=(~~~s1):=by simpa using hb
 subst e;show I1.fpOk (XI _) (I1.hok.fresh<|XI _)
def jc:(V->Option Int->Option Int->Hp->VK->Prop):=λx lo hi H Q=>∃z:Str,x=.str z/\(StrLaws.sliceText z lo hi).f<=sizeLine/\Q (.str<|StrLaws.sliceText z lo hi) H
def AR(h:IsPart v o):∃l:Option (Int×Tok),v=partValue l/\l.H (λx=>x.fst)=o:=by
 cases h with
 |none=>exists none,Z,Z
 |int i t=>exists some (i,t),Z,Z
def jb:vY X jc:=by
 intro pins s σ H x v vl vu lo hi sl Q I rx hs pl pu h;let(z,rfl,hz,q):=h;let(t,rfl):=rx;exists "str",_,slot_str_getitem.S,Ha s z t,?_;let(l,rfl,e1):=AR pl;let(u,rfl,e2):=AR pu;subst e1 e2;show wpAny_getItem_str_slice (l:=l) (u:=u) (st:=none) hs rN ?_;unfold StrLaws.sliceText at hz q;change Made.post (if (1 == 1&&(Builtin.Str.strSliceIndices (l.H λx=>x.fst) (u.H λx=>x.fst) 1 z.f).f == z.f)=true then _ else _) _ s
 split at hz
 .rename_i c;rw[Yi c]at q;rw[Yi c];exists .str z,H,I,⟨t,Z⟩,q
 .rename_i c;rw[Yh c]at q;rw[Yh c];exists hz,.str _,H,I.tok _,{_,Z},q
end
end L2
namespace My
open PySem L2
section
variable{g:TG}{tt:TT}{te:TE}{o:Nat}{fr:List Nat}{σ:L2.St}{H:Hp}{Q:VK}
def ja(Pv:Nat->List V->Hp->Prop)(h0:Pv 0 [] H)(hz:z.cps.o<sizeLine)(hl:∀i ys H,i<=z.cps.o->Pv i ys H->ys.f<=i)
  (hs:∀i c ys H,z.cps[i]?=some c->Pv i ys H->Jz Pv g tt te o fr σ i (.str {#[c]}) ys H)(hd:∀ys H,Pv z.cps.o ys H->∀p,H p=none->Q ↑p (upd H p<|.lst ys)):Nm (jf z) g tt te o fr σ H Q:=by
 exists λi m ys H=>m=z.cps.o-i/\i<=z.cps.o/\Pv i ys H,{z.cps.o,Fe,Yc _,h0},?_;rintro i m ys H ⟨rfl,hi,p⟩;let hy:=hl i ys H hi p
 cases Xx:i<z.cps.o
 .show .inr {Xx,J,λx H' zz=>?_};let(e,c,hc,y):=zz;subst e;subst y;show hs i c ys _ hc p (λj ys H=>∃m',m'<z.cps.o-i/\m'=z.cps.o-j/\j<=z.cps.o/\Pv j ys H) λys H p'=>{z.cps.o-(i+1),B,Z,Xx,p'}
 .let e:i=z.cps.o:=J;subst e;show .inl {XI _,J,hd ys H p}
end
def nT(i:Int):(Str):=Str.ofString (toString i)
def dg(m:Nat):(List Nat):=(Nat.toDigits 10 m).H Char.j
def NY(i:Int):(List Nat):=if i<0 then 45::dg i.natAbs else dg i.natAbs
def AQ(i:Int):(nT i).cps.m=NY i:=by
 unfold nT NY;cases i with
 |ofNat m=>
  show W.KIN.signs_num m
 |negSucc m=>
  rw[Yi (Int.negSucc_lt_zero m)];let e:(Str.ofString<|toString ((m+1:Nat):Int)).cps.m=dg (m+1):=W.KIN.signs_num (m+1)
  rw[Str.ofString_eq_toList]at e ⊢;let e2:(toString<|Int.negSucc m).m='-'::(toString ((m+1:Nat):Int)).m:=by change("-"++toString (m+1)).m='-'::(toString<|m+1).m;rw[String.toList_append];rfl
  simp_all
def dgc{d:Nat}(h:d<10):(Nat.digitChar d).j=48+d:=(by decide:∀d<10,(Nat.digitChar d).j=48+d) d h
def MH(h:m<10):dg m=[48+m]:=by unfold dg;rw[Nat.toDigits_of_lt_base h,sN,dgc h]
def MG(h:10<=m):dg m=dg (m/10)++[48+m%10]:=by unfold dg;rw[Nat.toDigits_of_base_le AP h,YB,sN,dgc (Nat.mod_lt _ AP)]
def Gm(m:Nat):NumText.AllDigits (dg m):=by
 induction m using Nat.strongRecOn with
 |ind m ih=>
  intro c hc;cases h:m<10
  .rw[MH h]at hc;grind
  .rw[MG (by simp_all)]at hc;rcases Xk.R hc with q|q
   .show ih (m/10) J c q
   grind
def MF(m:Nat):dg m≠[]:=by
 cases h:m<10
 .rw[MH h];simp
 .rw[MG (by simp_all)];simp
def AO(m:Nat):NumText.digitsVal (dg m)=m:=by
 induction m using Nat.strongRecOn with
 |ind m ih=>
  cases h:m<10
  .rw[MH h];change 0*10+(48+m-48)=m
   simp_all
  .rw[MG J,NumText.digitsVal_snoc,ih (m/10) B];lia
def La{m k:Nat}(hk:1<=k)(h:m<10^k):(dg m).f<=k:=by unfold dg;rw[Yb];show toDigits_len_pow AP hk h
def AN(h:0<m):∃c r,dg m=c::r/\c≠48:=by
 induction m using Nat.strongRecOn with
 |ind m ih=>
  cases c:m<10
  .exists 48+m,[],MH c,J
  .let⟨a,r,e,ne⟩:=ih (m/10) J (by simp_all);exists a,r++[48+m%10],by rw[MG rO,e];rfl,ne
def KZ(x:Str):x.f=x.cps.m.f:=by
 change x.cps.o=_
 simp_all
def AM{x y:Str}(h:x.cps.m=y.cps.m):x=y:=Str.ext' (Array.toList_inj.R h)
def i9{k:Nat}(hk:1<=k)(h1:-(10^k)<i)(h2:i<10^k):(NY i).f<=k+1:=by
 have:=La hk (m:=i.natAbs) B
 unfold NY;grind
def AL{k:Nat}(hk:1<=k)(h1:-(10^k)<i)(h2:i<10^k):(nT i).f<=k+1:=by rw[KZ,AQ];show i9 hk h1 h2
def i8{k:Nat}(hk:1<=k)(h4:k<=4000)(h1:-(10^k)<i)(h2:i<10^k):intText? (nT i)=some i:=by
 let hl:=AL hk h1 h2;let e:=AQ i
 unfold NY at e;split at e
 .rw[intText_neg e (Gm _) (MF _) J,AO];grind
 .rw[intText_digits (by rw[e];show Gm _) (by rw[e];show MF _) B,e,AO];lia
def VZ(cs:List Nat):(List Nat):=if cs.head?=some 45 then cs.tail else cs
def Gk(cs:List Nat):(Bool):=decide (1<=(VZ cs).f/\(VZ cs).f<=60/\(∀c∈VZ cs,48<=c/\c<=57)/\(cs=[48]\/(VZ cs).head?≠some 48))
def i7(m:Nat):(dg m).head?≠some 45:=λh=>by
 cases e:dg m with
 |nil=>show MF m e
 |cons c r=>
  rw[e]at h
  have:=Gm m c (by simp_all)
  simp_all
def i6(i:Int):VZ (NY i)=dg i.natAbs:=by
 unfold VZ NY;split
 .rfl
 .rw[Yh (i7 _)]
def i5(h1:-(10^60)<i)(h2:i<10^60):Gk (NY i)=true:=by
 show YE ?_;rw[i6];exists List.length_pos_iff.mpr<|MF _,La (k:=60) AP J,Gm _,?_;cases c:i=0
 .subst c;show .inl rfl
 .let⟨a,r,e,ne⟩:=AN (m:=i.natAbs) (by simp_all)
  simp_all
def jn(c:Nat):(List (List Nat)->List Nat)
 |[]=>[]
 |[a]=>a
 |a::b::l=>a++c::jn c (b::l)
def AK(c:Nat):∀l:List Str,(Str.join {#[c]} l).cps.m=jn c (l.H λx=>x.cps.m)
 |[]=>rfl
 |[a]=>rfl
 |a::b::l=>by
  let ih:=AK c (b::l);change((a++{#[c]}++Str.join {#[c]} (b::l)):Str).cps.m=a.cps.m++c::jn c ((b::l).H λx=>x.cps.m)
  rw[<-ih,Str.cps_append,Str.cps_append,Yq,Yq,YV];rfl
def Zm4{c:Nat}:∀{a b x y:List Nat},c∉a->c∉b->a++c::x=b++c::y->a=b/\x=y
 |[],[],_,_,_,_,e=>{Z,(wN e).2}
 |[],b::bs,_,_,_,hb,e=>absurd (Ya) ((wN e).1▸hb)
 |a::as,[],_,_,ha,_,e=>absurd (Ya) ((wN e).1▸ha)
 |a::as,b::bs,x,y,ha,hb,e=>by
  let(e1,e2):=wN e;let(h1,h2):=Zm4 (a:=as) (b:=bs) (λh=>ha<|Yf _ h) (λh=>hb<|Yf _ h) e2
  simp_all
def AJ:∀{A rH:List (List Nat)},A≠[]->rH≠[]->(∀a∈A,c∉a)->(∀b∈rH,c∉b)->jn c A=jn c rH->A=rH
 |[],_,h,_,_,_,_=>absurd Z h
 |_,[],_,h,_,_,_=>absurd Z h
 |[a],[b],_,_,_,_,e=>by let e:a=b:=e;rw[e]
 |[a],b::b'::rH,_,_,ha,_,e=>by
  let e:a=b++c::jn c (b'::rH):=e
  simp_all
 |a::a'::A,[b],_,_,_,hb,e=>by let e:a++c::jn c (a'::A)=b:=e;show absurd B (hb b Ya)
 |a::a'::A,b::b'::rH,_,_,ha,hb,e=>by let(e1,e2):=Zm4 (ha a Ya) (hb b Ya) (show a++c::jn c (a'::A)=b++c::jn c (b'::rH) from e);rw[e1,AJ (A:=a'::A) (rH:=b'::rH) Fe Fe (λx hx=>ha x<|Yf _ hx) (λx hx=>hb x<|Yf _ hx) e2]
def i4(x y:Str):Txt.split x y≠[]:=by
 unfold Txt.split;split
 .simp
 .split
  .simp
  .rw[StrLaws.partsBetween_eq];let(p,r,e):=StrLaws.partsFrom_ne x y.f 0 (Builtin.Str.occurrences x y 0 x.f<|x.f+1)
   simp_all
def ZX3{c:Nat}{l:List Str}(hl:l≠[])(hf:∀p∈l,c∉p.cps.m):Txt.split (Str.join {#[c]} l) {#[c]}=l:=by
 let e:=StrLaws.join_split (Str.join {#[c]} l) {#[c]};let e2:=YF (λx:Str=>x.cps.m) e
 rw[AK,AK]at e2;let m:=AJ (by simpa using i4 _ _) (by simp_all) (λa ha=>by
  let(p,hp,rfl):=Yz.R ha;show StrLaws.split_free _ c p hp) (λa ha=>by
  grind) e2
 show(List.map_inj_right λx y h=>AM h).R m
def QR{mg:Af}{z:Str}{v:Value}(X:K.In h)(G:h.Ns mainGlobals mg)(a:PySem.W.nsIn K mainGlobals x=some (some v))(e:∃tk,v=.str z tk):∃tk,mg x=some (.str z tk):=by let(tk,rfl):=e;exists tk,Fu X G a
def NX:(Str):=Str.ofString " "
def uJ:(Str):=Str.ofString "\n"
def Qo(p:Int×Int)(l:Int):(Str):=Str.join NX [Str.ofString "tie",nT p.1,nT p.2,nT l]
def Wg(n:Int)(ps:Aa)(ls:Ac):(List Str):=(Str.ofString "places "++nT n)::List.zipWith Qo ps ls
def QQ(n:Int)(ps:Aa)(ls:Ac):(Str):=Str.join uJ (Wg n ps ls)
def ZS8:NX={#[32]}:=by rfl
def i3:uJ={#[10]}:=by rfl
def Zo9(n:Int):Str.ofString "places "++nT n=Str.join NX [Str.ofString "places",nT n]:=by rfl
def Zt5{c:Nat}(h:c∈NY i):c=45\/48<=c/\c<=57:=by
 unfold NY at h;split at h
 .rcases Yo.R h with e|e
  .show .inl e
  .show .inr (Gm _ c e)
 .show .inr (Gm _ c h)
def AI{c:Nat}(h1:c≠45)(h2:c<48\/57<c):c∉(nT i).cps.m:=λh=>by rw[AQ]at h;rcases Zt5 h with e|e<;>lia
def iZ(i:Int):((nT i).cps.all λc=>decide (c<128))=true:=by rw[<-Array.all_toList,AQ,NO];intro c hc;show YE ?_;rcases Zt5 hc with e|e<;>lia
def AH{c x:Nat}:∀{A:List (List Nat)},x∈jn c A->x=c\/∃a∈A,x∈a
 |[],h=>by cases h
 |[a],h=>.inr ⟨a,Ya,h⟩
 |a::b::A,h=>by
  rcases Xk.R h with h|h
  .simp_all
  .rcases Yo.R h with h|h
   .show .inl h
   .rcases AH h with e|⟨y,hy,hx⟩
    .show .inl e
    grind
def AG{c rH:Nat}:∀{A:List (List Nat)},(∀a∈A,a.f<=rH)->(jn c A).f<=A.f*(rH+1)
 |[],_=>Yc _
 |[a],h=>by
  have:=h a Ya
  change a.f<=1*(rH+1);lia
 |a::b::A,h=>by
  let h1:=h a Ya;let ih:=AG (c:=c) (A:=b::A) λx hx=>h x (Yf _ hx)
  change(a++c::jn c (b::A)).f<=_;rw[Xe,YW,YW,Nat.add_mul];lia
def iY{c rH:Nat}{l:List Str}(h:∀a∈l,a.f<=rH):(Str.join {#[c]} l).f<=l.f*(rH+1):=by rw[KZ,AK];show Yl (AG (rH:=rH) λa ha=>?_) (by simp_all);let(p,hp,rfl):=Yz.R ha;show h p hp
def AF{c rH:Nat}{l:List Str}(h:∀a∈l,a.f<=rH)(hl:l.f*rH+l.f<=16777216):JoinOk {#[c]} l=true:=by unfold JoinOk;rw[StrLaws.joinFits h (by change l.f*rH+l.f*1<=_;simp_all)];rfl
def Told(l:Ac):(Prop):=∀z∈l,-(10^60)<z/\z<(10:Int)^60
def iX(h:Told l):∀a∈l.H nT,a.f<=61:=λa ha=>by let(z,hz,rfl):=Yz.R ha;show AL (k:=60) AP (h z hz).1 (h z hz).2
def iW{name:Str}{l:Ac}(hn:32∉name.cps.m):Txt.split (Str.join NX (name::l.H nT)) NX=name::l.H nT:=by
 show ZX3 Fe λp hp=>?_;rcases Yo.R hp with e|e
 .rw[e];show hn
 .let⟨z,_,rfl⟩:=Yz.R e;show AI AP (.inl AP)
def AE{name:Str}{l:Ac}(hn:10∉name.cps.m):10∉(Str.join NX (name::l.H nT)).cps.m:=λh=>by
 rw[ZS8,AK]at h;rcases AH h with e|⟨a,ha,hx⟩
 .cases e
 .let⟨p,hp,rfl⟩:=Yz.R ha;rcases Yo.R hp with e|e
  .lia
  .let⟨z,_,rfl⟩:=Yz.R e;show AI AP (.inl AP) hx
def AD:Txt.split (QQ n ps ls) uJ=Wg n ps ls:=by
 show ZX3 (by unfold Wg;simp) λp hp=>?_;rcases Yo.R hp with e|e
 .rw[e,Zo9];show AE (l:=[n]) AP
 .let⟨i,hi,e⟩:=FF e;rw[List.getElem_zipWith]at e;rw[<-e];show AE (l:=[_,_,_]) AP
def Zd9(w:Str):Txt.startswith w (Str.ofString "-")=decide (w.cps.m.head?=some 45):=by
 let h:=StrLaws.subAt_one w 45 0;let e:Str.ofString "-"=⟨#[45]⟩:=rN
 rw[e];unfold Txt.startswith;rw[List.head?_eq_getElem?];lia
def Zk7(h:1<=w.cps.m.f):(StrLaws.sliceText w (some 1) none).cps.m=w.cps.m.tail:=by
 rw[StrLaws.sliceText_from (i:=1) ⟨AP,J⟩];change(List.M _<|List.drop 1 _)=_
 rw[List.drop_one];show Yv ?_
 simp_all
def ZV9(c:Nat):(!(!(Builtin.Str.occurrences (Str.ofString "0123456789") {#[c]} 0 (Str.ofString "0123456789").f 1).isEmpty))=!decide (48<=c/\c<=57):=by
 rw[StrLaws.found_one];congr 1;let e:(Str.ofString "0123456789").cps.m=[48,49,50,51,52,53,54,55,56,57]:=rN
 rw[e];show sD.mpr {λh=>?_,λh=>?_}
 .simp at h;omega
 .simp;lia
def AB{i:Nat}{v:V}(h:(TL l)[i]?=some v):∃x,v=.str x/\l[i]?=some x:=by unfold TL at h;grind
def Gj(l:List Str):(TL l).f=l.f:=by unfold TL;grind
def iV(l:List Str)(x:Str):TL l++[.str x]=TL (l++[x]):=by unfold TL;simp_all
def iU{ps:Aa}{ls:Ac}{p:Int×Int}{l:Int}(hp:ps[i]?=some p)(hl:ls[i]?=some l):Wg n (ps.M (i+1)) (ls.M (i+1))=Wg n (ps.M i) (ls.M i)++[Qo p l]:=by unfold Wg;rw[YA,YA,hp,hl];rw[List.zipWith_append B];rfl
def IB(hl:ls.f=ps.f):(Wg n ps ls).f=ps.f+1:=by
 unfold Wg
 simp_all
def AA(h:Told [p.1,p.2,l]):(Qo p l).f<=400:=by
 show Yl (iY (rH:=61) (l:=Str.ofString "tie" :: [p.1,p.2,l].H nT) λa ha=>?_) (show 4*(61+1)<=400 by decide);rcases Yo.R ha with e|e
 .rw[e];decide
 .show iX h a e
def iT(g:GoodW n ps)(hT:Told ls){i:Nat}{p:Int×Int}{l:Int}(hp:ps[i]?=some p)(hl:ls[i]?=some l):Told [p.1,p.2,l]:=λz hz=>by
 have:=g.2.2.2 p (Xf hp)
 have:=g.2.1
 rcases Yo.R hz with e|e
 .grind
 .rcases Yo.R e with e|e
  .grind
  .rw[Xc.R e];show hT l (Xf hl)
def Az(g:GoodW n ps)(hT:Told ls):∀a∈Wg n ps ls,a.f<=400:=λa ha=>by
 rcases Yo.R ha with e|e
 .rw[e,KZ,Str.cps_append,Yq,Xe,<-KZ,<-KZ]
  have:=AL (i:=n) (k:=60) AP (by have:=g.1;omega) (by have:=g.2.1;omega)
  let e2:(Str.ofString "places ").f=7:=AP;lia
 .let⟨i,hi,e⟩:=FF e;rw[List.getElem_zipWith]at e;rw[<-e];show AA (iT g hT (i:=i) (Xw B)<|Xw B)
abbrev Tr:=Int×Aa×Ac
end My
namespace My
open PySem PySem.W PyProof.Rows
def Tw{α:Type}(c:Nat->Nat->Bool):(KasT α->α)
 | .ret a=>a
 | .ask i j k=>Tw c (k<|c i j)
def Gi{α β:Type}{c:Nat->Nat->Bool}{f:α->KasT β}:∀t:KasT α,Tw c (t.bind f)=Tw c (f (Tw c t))
 | .ret _=>rfl
 | .ask i j k=>Gi (k<|c i j)
section
variable{n:Nat}{key:Nat->Int}
def Ahd(key:Nat->Int)(i j:Nat):(Prop):=key i<key j\/(key i=key j/\i<j)
def Ahd.trans{i j k:Nat}(h1:Ahd key i j)(h2:Ahd key j k):Ahd key i k:=by unfold Ahd at *;grind
structure Ord(n m:Nat)(p:Array Nat):Prop where
 perm:p.Perm (List.range n).C
 suf:∀i,m<=i->i<n->p.Q i 0=i
def Ord.size(h:Ord n m p):p.o=n:=by rw[h.perm.size_eq];simp
def ME{p:Array Nat}(h:i<p.o):p[i]?=some (p.Q i 0):=by
 simp_all
def Ord.inj(h:Ord n m p)(hi:i<n)(hj:j<n)(e:p.Q i 0=p.Q j 0):i=j:=by
 let hn:p.m.Nodup:=(LW.R h.perm).nodup_iff.mpr List.nodup_range;let hs:=h.o
 let e1:=ME (p:=p) (i:=i) (by simp_all);let e2:=ME (p:=p) (i:=j) J
 rw[<-YM]at e1 e2;show(List.getElem?_inj (i:=i) (j:=j) (by simp_all) hn).R (by rw[e1,e2,e])
def Ord.lt(h:Ord n m p)(hm:m<=n)(hi:i<m):p.Q i 0<m:=by
 cases hc:p.Q i 0<m
 .show hc
 .let hs:=h.o;let hb:p.Q i 0<n:=by let e1:=ME (p:=p) (i:=i) B;rw[<-YM]at e1;show YY.R ((LW.R h.perm).mem_iff.R (Xf e1))
  let e:=h.inj J hb (h.suf _ (by simp_all) hb).symm;grind
def Ord.mono(h:Ord n m p)(hk:m<=k):Ord n k p:={h.perm,λi hi=>h.suf i J}
def NW{i j k:Nat}(hj:j<=p.o):(kas_rev p i j).Q k 0=if i<=k/\k<j then p.Q (i+j-1-k) 0 else p.Q k 0:=by unfold kas_rev;rw[YT,rY hj,apply_ite λo:Option Nat=>o.Q 0,<-YT,<-YT]
def Ord.rev(h:Ord n m p)(hj:j<=m)(hm:m<=n):Ord n m (kas_rev p i j):=by let hs:=h.o;exists (mirror_perm _ _ _ _).l h.perm,λk hk hn=>?_;rw[NW J,Yh J];show h.suf k hk hn
def Asc(key:Nat->Int)(m:Nat)(p:Array Nat):(Prop):=∀i j,i<j->j<m->Ahd key (p.Q i 0) (p.Q j 0)
def Asc.more(hm:1<=m)(h:Asc key m p)(h2:Ahd key (p.Q (m-1) 0) (p.Q m 0)):Asc key (m+1) p:=λi j WB hj=>by
 cases e:j=m
 .subst e;cases e2:i=j-1
  .rw[e2];show h2
  .show(h i (j-1) J rO).l h2
 .show h i j WB J
def IA:∀f m p,m+f=n->1<=m->Ord n m p->Asc key m p->∃k,Tw (λi j=>decide (key i<key j)) (kas_asc p f m)=k/\m<=k/\k<=n/\Asc key k p/\(k<n->key (p.Q k 0)<key (p.Q (k-1) 0))
 |0,m,p,hf,h1,ho,ha=>{m,Z,XI _,by simp_all,ha,λh=>by simp_all}
 |f+1,m,p,hf,h1,ho,ha=>by
  change ∃k,Tw _ (if decide (key (p.Q m 0)<key (p.Q (m-1) 0))=true then KasT.ret m else kas_asc p f (m+1))=k/\_;cases hc:key (p.Q m 0)<key (p.Q (m-1) 0)
  .rw[Yi (YE hc)];exists m,Z,XI _,J,ha,λ_=>hc
  .rw[Yh λz=>hc (YO z)];let e:=ho.suf m (XI _) J
   let l:=ho.lt J (i:=m-1) J;let(k,e1,e2,e3,e4,e5):=IA f (m+1) p J (by simp_all) (ho.mono<|by simp_all) (ha.more h1<|by unfold Ahd;rw[e]at hc ⊢;lia);exists k,e1,J,e3,e4,e5
structure Dsc(key:Nat->Int)(m g:Nat)(p:Array Nat):Prop where
 le:g+1<=m
 old:∀i j,i<j->j<m-(g+1)->Ahd key (p.Q j 0) (p.Q i 0)
 mid:∀i j,i<m-(g+1)->m-(g+1)<=j->j<m->key (p.Q j 0)<key (p.Q i 0)
 own:∀i j,m-(g+1)<=i->i<j->j<m->key (p.Q i 0)=key (p.Q j 0)/\p.Q i 0<p.Q j 0
def Fall(key:Nat->Int)(m:Nat)(p:Array Nat):(Prop):=∀i j,i<j->j<m->Ahd key (p.Q j 0) (p.Q i 0)
def Dsc.turn(h:Dsc key m g p)(hs:m<=p.o):Fall key m (kas_rev p (m-(g+1)) m):=λi j WB hj=>by
 rw[NW hs,NW hs];cases c1:m-(g+1)<=j
 .rw[Yi ⟨c1,hj⟩];cases c2:m-(g+1)<=i
  .rw[Yi ⟨c2,J⟩];show .inr (h.own (m-(g+1)+m-1-j) (m-(g+1)+m-1-i) J J J)
  .rw[Yh J];show .inl (h.mid i _ J J J)
 .rw[Yh J,Yh J];show h.old i j WB J
def Dsc.last(h:Dsc key m g p)(hs:m<=p.o):key ((kas_rev p (m-(g+1)) m).Q (m-1) 0)=key (p.Q (m-1) 0):=by
 let hl:=h.le;rw[NW hs,Yi B];cases e:g=0
 .congr 2;grind
 .show(h.own (m-(g+1)+m-1-(m-1)) (m-1) rO B J).1
def Dsc.fall(h:Dsc key m 0 p):Fall key m p:=λi j WB hj=>by
 cases e:j<m-(0+1)
 .show h.old i j WB e
 .show .inl (h.mid i j B (by simp_all) hj)
def Fall.new(hm:1<=m)(h:Fall key m p)(hk:key (p.Q m 0)<key (p.Q (m-1) 0)):Dsc key (m+1) 0 p:=by
 show{by simp_all,λi j WB hj=>h i j WB (by simp_all),λi j hi h1 h2=>?_,λi j h1 h2 h3=>B};let e:j=m:=J
 subst e;cases c:i=j-1
 .rw[c];show hk
 .have:=h i (j-1) J B
  unfold Ahd at this;omega
def Fall.rev(h:Fall key m p)(hs:m<=p.o):Asc key m (kas_rev p 0 m):=λi j WB hj=>by rw[NW hs,NW hs,Yi {Yc _,J},Yi {Yc _,hj}];show h _ _ B B
def Asc.rev(h:Asc key m p)(hs:m<=p.o):Fall key m (kas_rev p 0 m):=λi j WB hj=>by rw[NW hs,NW hs,Yi {Yc _,hj},Yi {Yc _,B}];show h _ _ J J
def uH:∀f m g p,m+f=n->Ord n m p->Dsc key m g p->∃p' m' g',Tw (λi j=>decide (key i<key j)) (kas_desc f p m g)=(p',m',g')/\m<=m'/\m'<=n/\Ord n m' p'/\Dsc key m' g' p'
 |0,m,g,p,hf,ho,hd=>{p,m,g,Z,XI _,by simp_all,ho,hd}
 |f+1,m,g,p,hf,ho,hd=>by
  let hl:=hd.le;let hs:=ho.o
  let em:=ho.suf m (XI _) J;let ll:=ho.lt J (i:=m-1) J
  change ∃p' m' g',Tw _ (if decide (key (p.Q m 0)<key (p.Q (m-1) 0))=true then (if g>0 then kas_desc f (kas_rev p (m-(g+1)) m) (m+1) 0 else kas_desc f p (m+1) 0) else KasT.ask (p.Q (m-1) 0) (p.Q m 0) λd=>if d=true then .ret (p,m,g) else kas_desc f p (m+1) (g+1))=_/\_;cases hc:key (p.Q m 0)<key (p.Q (m-1) 0)
  .rw[Yi (YE hc)];cases hg:g>0
   .rw[Yi hg];let hr:=ho.rev (i:=m-(g+1)) (XI m) J
    let em2:=hr.suf m (XI _) J;let(p',m',g',e1,e2,e3,e4,e5):=uH f (m+1) 0 (kas_rev p (m-(g+1)) m) J (hr.mono J) ((hd.turn J).new J (by rw[hd.last J,em2];rwa[em]at hc));exists p',m',g',e1,J,e3,e4,e5
   .let rfl:g=0:=by simp_all
    let(p',m',g',e1,e2,e3,e4,e5):=uH f (m+1) 0 p B (ho.mono B) (hd.fall.new rO hc);exists p',m',g',e1,J,e3,e4,e5
  .rw[Yh λz=>hc (YO z)];change ∃p' m' g',Tw _ (if decide (key (p.Q (m-1) 0)<key (p.Q m 0))=true then KasT.ret (p,m,g) else kas_desc f p (m+1) (g+1))=_/\_
   cases Vn:key (p.Q (m-1) 0)<key (p.Q m 0)
   .rw[Yi (YE Vn)];exists p,m,g,Z,XI _,J,ho,hd
   .rw[Yh λz=>Vn (YO z)];let ek:key (p.Q (m-1) 0)=key (p.Q m 0):=J
    let(p',m',g',e1,e2,e3,e4,e5):=uH f (m+1) (g+1) p B (ho.mono B) ⟨by simp_all,λi j h1 h2=>hd.old i j h1 (by simp_all),λi j h1 h2 h3=>by
     cases c:j=m
     .rw[c,<-ek];show hd.mid i (m-1) (by simp_all) J J
     .show hd.mid i j J (by simp_all) J,λi j h1 h2 h3=>by
     cases c:j=m
     .rw[c];cases c2:i=m-1
      .rw[c2,em];rw[em]at ek;exists ek,ll
      .have:=hd.own i (m-1) (by simp_all) J B
       lia
     .show hd.own i j J h2 B⟩
    exists p',m',g',e1,J,e3,e4,e5
def Ay(hm:1<=m)(hn:m<=n)(ho:Ord n m p)(hf:Fall key m p):∃k p',Tw (λi j=>decide (key i<key j)) (kas_tail3 m n p)=(k,p')/\1<=k/\k<=n/\Ord n k p'/\Asc key k p':=by
 let hs:=ho.o;unfold kas_tail3;rw[Gi];let hr:=ho.rev (i:=0) (XI m) hn
 let(k,e1,e2,e3,e4,_):=IA (n-m) m (kas_rev p 0 m) (by simp_all) hm hr (hf.rev<|by simp_all);rw[e1];exists k,_,Z,J,e3,hr.mono e2,e4
def Ax(hm:1<=m)(hn:m<n)(ho:Ord n m p)(hf:Fall key m p)(hk:key (p.Q m 0)<key (p.Q (m-1) 0)):∃k p',Tw (λi j=>decide (key i<key j)) (kas_descPart m n p)=(k,p')/\1<=k/\k<=n/\Ord n k p'/\Asc key k p':=by
 unfold kas_descPart;rw[Gi];let(p',m',g',e1,e2,e3,e4,e5):=uH (n-(m+1)) (m+1) 0 p B (ho.mono J) (hf.new hm hk);rw[e1];let hs:=e4.o
 cases hg:g'>0
 .rw[Yi hg];show Ay J e3 (e4.rev (XI _) e3) (e5.turn<|by simp_all)
 .let rfl:g'=0:=by simp_all
  show Ay J e3 e4 e5.fall
def iS(hn:1<=n)(ho:Ord n 1 p):∃k p',Tw (λi j=>decide (key i<key j)) (kas_count n p)=(k,p')/\1<=k/\k<=n/\Ord n k p'/\Asc key k p':=by
 unfold kas_count;rw[Gi];let(k,e1,e2,e3,e4,e5):=IA (key:=key) (n-1) 1 p (by simp_all) (XI _) ho λi j h1 h2=>by simp_all
 rw[e1];let hs:=ho.o
 let hk:=ho.mono e2;cases c:k=n
 .rw[Yi (by simp_all)];exists k,p,Z,e2,e3,hk,e4
 .rw[Yh λz=>c (wF.R z)];let Xx:k<n:=J
  let h5:=e5 Xx;cases c1:k>1
  .rw[Yi c1];change ∃k' p',Tw _ (if decide (key (p.Q 0 0)<key (p.Q (k-1) 0))=true then KasT.ret (k,p) else kas_descPart k n (kas_rev p 0 k))=_/\_
   cases c2:key (p.Q 0 0)<key (p.Q (k-1) 0)
   .rw[Yi (YE c2)];exists k,p,Z,e2,e3,hk,e4
   .rw[Yh λz=>c2 (YO z)];let a0:=e4 0 (k-1) J J
    let eq:key (p.Q 0 0)=key (p.Q (k-1) 0):=by unfold Ahd at a0;lia
    let hr:=hk.rev (i:=0) (XI k) rO;show Ax e2 Xx hr (e4.rev<|by simp_all) ?_;rwa[NW (by simp_all),NW J,Yh (by simp_all),Yi J,show 0+k-1-(k-1)=0 by simp_all,eq]
  .let rfl:k=1:=J;show Ax (XI _) Xx hk (λi j h1 h2=>by simp_all) h5
def iR(hk:Asc key k p):∀f l r,r-l<=f->l<=r->r<=k->(∀i,i<l->¬key (p.Q k 0)<key (p.Q i 0))->(∀i,r<=i->i<k->key (p.Q k 0)<key (p.Q i 0))->∃l',Tw (λi j=>decide (key i<key j)) (kas_place p k f l r)=l'/\l'<=k/\(∀i,i<l'->¬key (p.Q k 0)<key (p.Q i 0))/\(∀i,l'<=i->i<k->key (p.Q k 0)<key (p.Q i 0))
 |0,l,r,hf,h1,h2,ha,hb=>{l,Z,J,ha,λi hi=>hb i B}
 |f+1,l,r,hf,h1,h2,ha,hb=>by
  let mono:∀i j,i<=j->j<k->key (p.Q i 0)<=key (p.Q j 0):=λi j WB hj=>by
   cases e:i=j
   .rw[e];show Ko _
   .have:=hk i j J hj
    unfold Ahd at this;lia
  unfold kas_place;cases c:l >= r
  .rw[Yi c];exists l,Z,B,ha,λi hi=>hb i J
  .rw[Yh c];change ∃l',Tw _ (if decide (key (p.Q k 0)<key (p.Q ((l+r)/2) 0))=true then kas_place p k f l ((l+r)/2) else kas_place p k f ((l+r)/2+1) r)=l'/\_
   cases c2:key (p.Q k 0)<key (p.Q ((l+r)/2) 0)
   .rw[Yi (YE c2)];show iR hk f l ((l+r)/2) B J J ha λi hi hik=>by grind
   .rw[Yh λz=>c2 (YO z)];show iR hk f ((l+r)/2+1) r J J rO (λi hi=>by
     grind) hb
def Iz{k d x:Nat}(hk:k<p.o)(hd:d<=k):(bubble p k d).Q x 0=if x=k-d then p.Q k 0 else if k-d<x/\x<=k then p.Q (x-1) 0 else p.Q x 0:=by rw[YT,getElem?_bubble hk d hd,apply_ite λo:Option Nat=>o.Q 0,apply_ite λo:Option Nat=>o.Q 0,<-YT,<-YT,<-YT]
def Aw:∀f k p,k+f=n->Ord n k p->Asc key k p->∃p',Tw (λi j=>decide (key i<key j)) (kas_bin f p k)=p'/\Ord n n p'/\Asc key n p'
 |0,k,p,hf,ho,ha=>by let rfl:k=n:=rO;exists p,Z,ho,ha
 |f+1,k,p,hf,ho,ha=>by
  let hs:=ho.o;let ek:=ho.suf k (XI _) J
  unfold kas_bin;rw[Gi];let(l,e1,e2,e3,e4):=iR ha k 0 k (by simp_all) (by simp_all) (XI _) (λi hi=>by simp_all) λi hi Ws=>B;rw[e1];show Aw f (k+1) (bubble p k<|k-l) J {(bubble_perm _ _ _).l ho.perm,λi hi hn=>?_} λi j WB hj=>?_
  .rw[Iz J (by simp_all),Yh J,Yh J];show ho.suf i J hn
  .let low:∀x,x<k->p.Q x 0<k:=λx hx=>ho.lt J hx;rw[Iz J (by simp_all),Iz J (by simp_all)];let ekl:k-(k-l)=l:=J
   rw[ekl];cases c1:i=l
   .rw[Yi c1,Yh J,Yi J];show .inl (e4 (j-1) B J)
   .rw[Yh c1];cases c2:j=l
    .rw[Yi c2,Yh J];let a:=e3 i (by simp_all)
     let b:=low i J;rw[ek]at a ⊢;unfold Ahd;lia
    .rw[Yh c2];cases c3:l<i
     .rw[Yi ⟨c3,J⟩,Yi ⟨J,J⟩];show ha _ _ J J
     .rw[Yh J];cases c4:l<j
      .rw[Yi ⟨c4,B⟩];show ha _ _ J J
      .rw[Yh J];show ha _ _ WB J
def MD(hn:1<=n):∃p,Tw (λi j=>decide (key i<key j)) (kas_sort n)=p/\p.m.Perm (List.range n)/\p.m.G (Ahd key):=by
 let fin:∀p,Ord n n p->Asc key n p->p.m.Perm (List.range n)/\p.m.G (Ahd key):=λp ho ha=>by
  let hs:=ho.o;exists LW.R ho.perm,UH.mpr λi j hi hj WB=>?_;rw[YI]at hi hj
  have:=ha i j WB (by simp_all)
  simp_all
 unfold kas_sort;rw[Gi];let(k,p,e1,e2,e3,e4,e5):=iS (key:=key) hn (p:=(List.range n).C) {Fv _,λi _ hi=>by simp_all};rw[e1];cases c:k<n
 .rw[Yi c,Nat.max_eq_left e2];let(q,h1,h2,h3):=Aw (n-k) k p (by simp_all) e4 e5;exists q,h1,fin q h2 h3
 .rw[Yh c];let rfl:k=n:=J;exists p,Z,fin p e4 e5
end
end My
namespace L2
open PySem PySem.Spec PyProof.Rows
def Tb(P:Program)(w:World)(K:Ad)(mg:Af)(base:Heap)(N:List Str)(qual:Str)(scope:Scope)(f:Addr)(cd:Value)(cl:List (Str×Addr))(A:Around)(outer:List Env)(s:Shared)(H:Hp):(Cx) where
 prog:=P
 w:=w
 K:=K
 mg:=mg
 base:=base
 A:=A.deeper (PySem.W.envX qual scope (~~~s) f cd cl)
 N:=N
 s₀:=s
 H₀:=H
 env:=PySem.W.envX qual scope (~~~s) f cd cl
 outer:=outer
 stack:=PySem.W.envX qual scope (~~~s) f cd cl::outer
 ex:=[]
 calm:=true
 fn:=λ_=>false
 pn:=[]
 xe:=λ_ _=>False
structure LamScope(v x:Str)(sc:Scope):Prop where
 kind:sc.kind=.function
 co:sc.isCoroutine=false
 gen:sc.isGenerator=false
 nocell:∀y∈sc.names,y.2≠.cell
 par:sc.names.S v=some .local
 free:sc.names.S x=some .free
 only:∀y,sc.names.S y=some .free->y=x
 ne:v≠x
section
variable{P:Program}{w:World}{K:Ad}{mg:Af}{base:Heap}{qual name v x:Str}{scope:Scope}{f c c':Addr}{cd pm RG u ux:Value}{A:Around}{outer:List Env}{s:Shared}{H:Hp}{vv vx:V}{params:Arguments}{body:Expr}{k:Nat}{t:TE}{Q:VK}
def uG{c2:Addr}(h:List.S y [(x,c)]=some c2):y=x/\c2=c:=by grind
def iQ(S:LamScope v x scope)(hd:A.handled=none)(e0:Env0 P w K mg base A outer s H)(hc:s.r.IsCell c (some ux))(rx:RelV vx ux)(iP:H c=none)(rv:RelV vv u){h1:Heap}{tk:Nat}
  (Uw:h1.Ns (~~~s) λy=>[(v,u)].reverse.S y)(hk:∀b o,s.r.E b=some o->h1.E b=some o):
  Inv (Tb P w K mg base [v,x] qual scope f cd [(x,c)] A outer s H) [] [some vv,some vx] H {s with heap:=h1,toks:=tk}:=by
 let JN:∀b:Addr,b∉(Tb P w K mg base [v,x] qual scope f cd [(x,c)] A outer s H).ex:=λb z=>absurd (show b∈([]:List Addr) from z) Fe;let hck:h1.IsCell c (some ux):=by let(o,e,d):=hc;exists o,hk _ _ e,d
 let lk:List.S x [(x,c)]=some c:=by unfold List.lookup;rw[xf]
 show⟨{e0.mod,S.kind,Z,Z,XI _,λy z c2 h1 h2=>?_,λy hy=>?_,λy c2 z _=>(nomatch z),λ_=>hd,Around.frames_deeper e0.frames,.inr ⟨Z,Z⟩,λb z=>absurd z<|JN b,e0.bs,e0.bsz,λb _ _=>JN b,λb z=>absurd z<|JN b,e0.funs,e0.frf},
  rfl,e0.bare,Un.kept hk,{_,Uw,λi y v' h1 h2 h3=>?_},λy c2 h=>?_,e0.hok.fresh<|XI _,λy c2 h=>?_,λp hp=>absurd (show p∈([]:List (Addr×Obj)) from hp) Fe,e0.hok.kept hk,Z⟩
 .rw[(uG h1).1,(uG h2).1]
 .rcases hy with hy|hy
  .show absurd Z (S.nocell _<|Ky hy)
  .rw[S.only y hy];exists c,lk
 .match i,h1,h2 with
  |0,h1,h2=>
   let rfl:v=y:=Ym h1;let rfl:vv=v':=Ym (Ym h2);exists u,rv,.inl {S.par,?_}
   simp_all
  |1,h1,h2=>
   let rfl:x=y:=Ym h1;let rfl:vx=v':=Ym (Ym h2);exists ux,rx,.inr {.inr S.free,c,lk,hck}
  |i+2,h1,h2=>cases h1
 .rw[(uG h).2];grind
 .rw[(uG h).2];show iP
def iO(S:LamScope v x scope)(hr:Room (k+1) A)(e0:Env0 P w K mg base A outer s H)(ho:s.r.E f=some (PySem.W.kla_obj name qual params body scope [(x,c)] pm c' RG))(SN:s.r.CodeRec ↑c' qual)
  (Ta:bindArgs (PySem.W.kla_fn name qual params body scope [(x,c)] pm ↑c' RG) {[u],[]}=pure [(v,u)])(hc:s.r.IsCell c (some ux))(rx:RelV vx ux)(iP:H c=none)(rv:RelV vv u)
  (hb:PE (Tb P w K mg base [v,x] qual scope f ↑c' [(x,c)] A outer s H) body t)(hq:t [some vv,some vx] H Q):
  codeAny (model P w) A (.call ↑f {[u],[]}) (λr s'=>∃u',r=.ok (.ret u')/\CE outer P w H s Q u' s') s:=by
 let lim:s.r.NoLimit:=e0.mod.nolimit.keeps λb o e=>(e0.bs b o e).1;show PySem.W.kla_callFunE hr.depth ho Z S.co S.gen Z SN ?_;rw[Ta];show Ye (wpAny_newFunctionEnv S.nocell (λy hy=>?_) (λh1 Uw iN=>{lim.fresh _ iN,?_}) S.kind)
 .rw[Xc.R hy];show S.par
 let hk:∀b o,s.r.E b=some o->h1.E b=some o:=λb o e=>iN.extBut b o (Yw<|Yk e) (Xl _ e);let I:Inv (Tb P w K mg base [v,x] qual scope f ↑c' [(x,c)] A outer s H) [] [some vv,some vx] H {s with heap:=h1,toks:=s.toks+[(v,u)].f}:=iQ S hr.hd e0 hc rx iP rv Uw hk
 show PySem.W.kla_codeExpr (Tq (hb [] _ _ H _ I hq) (λu' s' h=>?_) λe s' h=>False.elim h);let(y,H',rG,r,q):=h;exists u',Z,y,H',rG.os,rG.bare,rG.base,rG.hok,r,q
end
end L2
namespace My
open PySem PySem.W PyProof.Rows
def Asks{α:Type}(n:Nat)(R:α->Prop):(KasT α->Prop)
 | .ret a=>R a
 | .ask i j k=>i<n/\j<n/\∀b,Asks n R (k b)
def Asks.bind{α β:Type}{R:α->Prop}{S:β->Prop}{f:α->KasT β}:∀{t:KasT α},Asks n R t->(∀a,R a->Asks n S (f a))->Asks n S (t.bind f)
 | .ret a,h,hf=>hf a h
 | .ask _ _ _,h,hf=>{h.1,h.2.1,λb=>Asks.bind (h.2.2 b) hf}
def goT_wp'{α:Type}{R:α->Prop}{c:Nat->Nat->Bool}{cmp:Nat->Nat->(Bool->Shared->Prop)->Shared->Prop}{rG:Shared->Prop}(h:∀i j C s,i<n->j<n->rG s->(∀s',rG s'->C (c i j) s')->cmp i j C s){Q:α->Shared->Prop}:∀t s,Asks n R t->rG s->(∀s',rG s'->Q (Tw c t) s')->t.kasWp cmp Q s
 | .ret _,s,_,hs,q=>q s hs
 | .ask i j k,s,ha,hs,q=>h i j _ s ha.1 ha.2.1 hs λs' VL=>goT_wp' h (k<|c i j) s' (ha.2.2 _) VL q
section
variable{n:Nat}
def Bd(n:Nat)(p:Array Nat):(Prop):=p.Perm (List.range n).C
def Bd.lt(h:Bd n p)(hn:1<=n)(i:Nat):p.Q i 0<n:=by
 cases hi:i<p.o
 .let e1:=ME (p:=p) hi;rw[<-YM]at e1;show YY.R ((LW.R h).mem_iff.R (Xf e1))
 lia
def Bd.rev(h:Bd n p)(i j:Nat):Bd n (kas_rev p i j):=(mirror_perm _ _ _ _).l h
def iM(hn:1<=n)(hp:Bd n p):∀f m:Nat,Asks n (λ_=>True) (kas_asc p f m)
 |0,m=>trivial
 |f+1,m=>⟨hp.lt hn _,hp.lt hn _,λb=>by
  cases b with
  |true=>show trivial
  |false=>show iM hn hp f<|m+1⟩
def uE(hn:1<=n):∀f p m q,Bd n p->Asks n (λr=>Bd n r.1) (kas_desc f p m q)
 |0,p,m,q,hp=>hp
 |f+1,p,m,q,hp=>⟨hp.lt hn _,hp.lt hn _,λb=>by
  cases b with
  |true=>
   split
   .show uE hn f _ _ _ (hp.rev _ _)
   .show uE hn f _ _ _ hp
  |false=>
   exists hp.lt hn _,hp.lt hn _,λd=>?_;cases d with
   |true=>show hp
   |false=>show uE hn f _ _ _ hp⟩
def Zq5(hn:1<=n)(hp:Bd n p)(m r:Nat):Asks n (λz=>Bd n z.2) (kas_tail3 m r p):=
 (iM hn (hp.rev _ _) _ _).bind λ_ _=>hp.rev _ _
def ZE5(hn:1<=n)(hp:Bd n p)(m r:Nat):Asks n (λz=>Bd n z.2) (kas_descPart m r p):=
 (uE hn _ p _ _ hp).bind λz hz=>by
  split
  .show Zq5 hn (hz.rev _ _) _ _
  .show Zq5 hn hz _ _
def ZD8(hn:1<=n)(hp:Bd n p)(r:Nat):Asks n (λz=>Bd n z.2) (kas_count r p):=
 (iM hn hp _ _).bind λz _=>by
  split
  .show hp
  .split
   .exists hp.lt hn _,hp.lt hn _,λb=>?_;cases b with
    |true=>show hp
    |false=>show ZE5 hn (hp.rev _ _) _ _
   .show ZE5 hn hp _ _
def iL(hn:1<=n)(hp:Bd n p)(k:Nat):∀f l r:Nat,Asks n (λ_=>True) (kas_place p k f l r)
 |0,l,r=>trivial
 |f+1,l,r=>by
  unfold kas_place;split
  .show trivial
  .exists hp.lt hn _,hp.lt hn _,λb=>?_;cases b with
   |true=>show iL hn hp k f _ _
   |false=>show iL hn hp k f _ _
def ZT8(hn:1<=n):∀f p k,Bd n p->Asks n (λz=>Bd n z) (kas_bin f p k)
 |0,p,k,hp=>hp
 |f+1,p,k,hp=>(iL hn hp k _ _ _).bind λl _=>ZT8 hn f _ _ ((bubble_perm _ _ _).l hp)
def QO(hn:1<=n):Asks n (λz=>Bd n z) (kas_sort n):=
 (ZD8 hn (p:=(List.range n).C) (Fv _) n).bind λz hz=>by
  split
  .show ZT8 hn _ _ _ hz
  .show hz
end
end My
namespace L2
open PySem PySem.Spec PyProof.Rows PySem.W
def Qn(key:Int->Int)(ns ms:Ac):(Prop):=∃p:List Nat,p.Perm (List.range ns.f)/\p.G (My.Ahd λi=>key<|ns.Q i 0)/\ms=p.H λi=>ns.Q i 0
section
variable{X:Cx}{pins:List (Addr×Obj)}{σ:St}{H:Hp}{s:Shared}{b:Addr}{o:Obj}
def Inv.pin1(I:Inv X pins σ H s)(F:FpOk X pins H b)(e:s.r.E b=some o)(hd:∀v,o.data≠.cell v):Inv X (pins++[(b,o)]) σ H s:=I.pins_of λp hp=>by
 rcases Xk.R hp with hp|hp
 .show I.pin p (Yg _ hp)
 .rw[Xc.R hp];exists e,F.1,F.2.1,F.2.2.1,hd
def FpOk.more{pl:List (Addr×Obj)}(F:FpOk X pins H b)(hn:∀p∈pl,p.1≠b):FpOk X (pins++pl) H b:=⟨F.1,F.2.1,F.2.2.1,F.2.2.2.1,F.2.2.2.2.1,λp hp=>by
 rcases Xk.R hp with hp|hp
 .show F.2.2.2.2.2 p (Yj _ hp)
 .rcases Xk.R hp with hp|hp
  .show F.2.2.2.2.2 p (Yg _ hp)
  .show hn p hp⟩
def Inv.changed{h':Heap}{t':Nat}(I:Inv X pins σ H s)(F:FpOk X pins H b)(k:∀c o,c≠b->s.r.E c=some o->h'.E c=some o):Inv X pins σ H {s with heap:=h',toks:=t'}:=
 I.turned k F.1 F.2.1 F.2.2.2.1 F.2.2.2.2.1 F.2.2.2.2.2
def Inv.adopt(I:Inv X pins σ H s)(hex:X.ex=[])(F:FpOk X pins H b)(new:ObjOk X.prog X.w (upd H b u) s.r b u):Inv X pins σ (upd H b u) s:=by
 let f4:(~~~X.s₀)<=b:=F.2.2.2.1.resolve_left (by simp_all);let hn:=F.1
 exists I.ok,I.os,I.bare,{I.base.keep,I.base.slot,λc o e n hc=>?_,I.base.there,λc xs q=>?_,λc o w q=>?_,λc ps q=>?_},I.loc,I.cell,?_,λx c e=>?_,λp hp=>?_,λc w e=>?_,I.len
 .rw[Zb (Yw<|Yp (Yk e) f4)];show I.base.free c o e n hc
 .have:=I.base.tups c xs q
  rwa[Zb (Za this hn)]
 .have:=I.base.frzs c o w q
  rwa[Zb (Za this hn)]
 .let⟨m,this⟩:=I.base.tbls c ps q;exists m,by rwa[Zb (Za this hn)]
 .rw[Zb (XH F.2.1)];show I.free
 .rw[Zb (F.2.2.2.2.1 x c e)];show I.freeC x c e
 .have:=I.pin p hp
  exists this.1,by rw[Zb (F.2.2.2.2.2 p hp)];show this.2.1,this.2.2
 .cases hb:c=b
  .subst hb;rw[XZ]at e;lia
  .rw[Zb hb]at e;show(I.hok c w e).stay (λ_ _ _ q=>q) (λd q=>by rwa[Zb (Za q hn)]) λd xs q=>by rwa[Zb (Za q hn)]
end
section
variable{X:Cx}{pins:List (Addr×Obj)}{σ:St}{H:Hp}{s:Shared}{a kS:Addr}{A:Around}{E:Ae}{P:PySem.Fin->Shared->Prop}{kA:Array Value}{e e1:Nat}{ns:Ac}{vs:Ag}
def Av{st:SortSt}{out:Ag}(I:Inv X (pins++[(a,seqObj "list" #[] e1),(kS,seqObj "list" kA e)]) σ H s)(Fa:FpOk X pins H a)(Fk:FpOk X pins H kS)(Oc:a≠kS)(hz:kA.o<64)(Oi:failedOf st=none)
  (Iy:(arrOf st).H (·.2)=out.C)(hlen:out.f<64)(h:∀s' m,Inv X pins σ H s'->s'.r.E a=some (seqObj "list" out.C m)->P (.done<|.ret .none) s'):
  wpAny (model X.prog X.w) A (ksk_tail a false e1 ↑kS st) P E s:=by
 let Jo:sizeLine=16777216:=RU;let pa:=(I.pin (a,seqObj "list" #[] e1) Fe).1
 let pk:=(I.pin (kS,seqObj "list" kA e) Fe).1;let I0:Inv X pins σ H s:=I.unpinned
 let iK:(s.r.update kS<|Obj.mapSeq λ_=>(#[]:Array Value)).E a=some (seqObj "list" #[] e1):=(YJ _ _<|XH Oc).l pa;obtain⟨m,hm⟩:∃m,((s.r.update kS<|Obj.mapSeq λ_=>(#[]:Array Value)).update a (Obj.mapSeq λ_=>out.C)).E a=some (seqObj "list" out.C m):={_,Fo iK λ_=>out.C};unfold ksk_tail;dsimp only;rw[Iy];show XT (Ou pk Z ?_ J<|Yc _);show XT (Hb ?_);show XT (seqEpoch_at iK Z ?_);show XT (Ou iK Z ?_ (Yc _)<|by simp;lia);rw[Oi];simp only[sI,FE,if_false];show Ye (h _ m ?_ hm);let I1:Inv X pins σ H {s with heap:=s.r.update kS<|Obj.mapSeq λ_=>(#[]:Array Value),toks:=s.toks}:=I0.changed Fk λc o hc q=>(YJ _ _<|XH hc).l q
 show I1.changed (t':=s.toks) Fa λc o hc q=>(YJ _ _<|XH hc).l q
def Au{vs:Ag}{ns:Ac}(h0:IntsAre vs ns):∀i,i<ns.f->∃t,vs[i]?=some (.int (ns.Q i 0) t):=by
 induction h0 with
 |nil=>show λi h=>absurd h (VX _)
 |cons n t r ih=>
  intro i h;cases i with
  |zero=>exists t,Z
  |succ i=>show ih i (by rw[YW]at h;lia)
end
def Gh(c:Addr)(qual:Str):(HO):=.ext λh=>h.CodeRec ↑c qual
def TabH(H:Hp)(Pt:Addr)(pos:Pos)(qual:Str):(Prop):=∃ps:Array Value,H Pt=some (.tbl ps)/\TriplesOk ps.m/\(codeAmong pos ps.m=none\/∃c,codeAmong pos ps.m=some ↑c/\H c=some (Gh c qual))
def SameX(Pt:Addr)(H H':Hp):(Prop):=∀b o,b≠Pt->H b=some o->H' b=some o
def As{c:Addr}(h1 h2:Heap)(r:h1.CodeRec ↑c qual)(k:∀o,h1.E c=some o->h2.E c=some o):h2.CodeRec ↑c qual:=by let(c2,o,vs,t,e,g,r):=r;cases e;exists c,o,vs,t,Z,k _ g,r
section
variable{X:Cx}{pins:List (Addr×Obj)}{σ:St}{H:Hp}{s:Shared}{c Pt cc:Addr}{x:Str}{params:Arguments}{body:Expr}{scope:Scope}{pos:Pos}{E:Ae}{Q:Ae}
def Inv.builtinsAt(I:Inv X pins σ H s)(hB:X.base.BuiltinsAt X.mg Pt):s.r.BuiltinsAt X.mg Pt:=by let(bm,o,h1,h2,h3,h4,h5,h6):=hB;exists bm,o,h1,h2,h3,h4,I.bk _ _ h5,h6
def Ar(I:Inv X pins σ H s)(Ul:X.X.code=.ref c)(hC:codeHdIn X.K c Pt=true)(hB:X.base.BuiltinsAt X.mg Pt)(hT:TabH H Pt pos (X.X.qual++Str.ofString "<lambda>"))(OT:closureFor scope X.X=pure [(x,cc)])(Iw:defaultsOf params X.X=([],[]))(Aq:mainGlobals≠Pt)
  (h:∀f c' pm RG s' H',SameX Pt H H'->TabH H' Pt pos (X.X.qual++Str.ofString "<lambda>")->FpOk X pins H' f->Inv X pins σ H' s'->s'.r.E f=some (kla_obj (Str.ofString "<lambda>") (X.X.qual++Str.ofString "<lambda>") params body scope [(x,cc)] pm c' RG)->H' c'=some (Gh c'<|X.X.qual++Str.ofString "<lambda>")->Q ↑f s'):
  wpAny (model X.prog X.w) X.A (eval (.Lambda params body scope pos) X.X) Q E s:=by
 let(ps,hP,Ap,Ao):=hT;let NV:s.r.E Pt=some (tabObj ps):=I.hok Pt _ hP
 let Uw:s.r.Ns mainGlobals X.mg:=I.mod.glob.keeps I.bk;let hHd:=codeHd_of_K I.kIn hC
 show kla_eval Iw ?_;rcases Ao with hnf|⟨c',hf,Vj⟩
 .show kla_makeFunction OT I.ok.glob Uw Ul hHd NV Ap hnf Aq (I.builtinsAt hB) λc' RG h' tk hx Td Xx MB htb=>?_;let hPl:Pt<(~~~s):=Yk NV
  let uC:H c'=none:=I.hok.fresh Td;let hcP:c'≠Pt:=RA (Yp hPl Td)
  let keep:∀b o,b≠Pt->s.r.E b=some o->(h'.push<|kla_obj (Str.ofString "<lambda>") (X.X.qual++Str.ofString "<lambda>") params body scope [(x,cc)] ((X.mg "__name__").Q .none) c' RG).E b=some o:=λb o hb e=>Xl _ (hx b o hb e);let sx:SameX Pt H (upd (upd H Pt<|.tbl<|ps++#[rawInt pos.line,rawInt pos.col,.ref c']) c'<|Gh c'<|X.X.qual++Str.ofString "<lambda>"):=λb o hb e=>by rwa[Zb (Za e uC),Zb hb]
  let tb:TabH (upd (upd H Pt<|.tbl<|ps++#[rawInt pos.line,rawInt pos.col,.ref c']) c'<|Gh c'<|X.X.qual++Str.ofString "<lambda>") Pt pos (X.X.qual++Str.ofString "<lambda>"):=by let et:(ps++#[rawInt pos.line,rawInt pos.col,Value.ref c']).m=ps.m++[rawInt pos.line,rawInt pos.col,.ref c']:=Fe;exists ps++#[rawInt pos.line,rawInt pos.col,.ref c'],by rw[Zb (XH hcP),XZ],by rw[et];show TriplesOk_snoc _ _ _ _ Ap,.inr {c',by rw[et];show codeAmong_snoc _ Ap hnf,XZ}
  let Iv:∀b,H b=none->b≠Pt:=λb n z=>J;show h h'.objs.o c' _ RG _ _ sx tb ?_ (I.un {λb o e n _ _=>keep b o (Iv b n) e,λb o e n _ _=>{o.slots,keep b o (Iv b n) e},λb o e n _=>?_,λb o e _=>?_,λb xs e=>?_,λb o u e=>?_,λb qs e=>?_} λb u e=>?_) (Qd _ Z) XZ
  .let iI:(~~~s)<=h'.objs.o:=J;show I.fpOk iI ?_;rw[Zb (RA Xx),Zb (RA<|Yp hPl iI)];show I.hok.fresh iI
  .rw[Zb (Yw<|Yp (Yk e) Td),Zb (Iv b n)];show n
  .cases hb:b=Pt
   .rw[hb];exists _,Xl _ htb
   .exists o,keep b o hb e
  .show sx b _ (λz=>by simp_all) e
  .show sx b _ (λz=>by simp_all) e
  .cases hb:b=Pt
   .subst hb;rw[hP]at e;let rfl:ps=qs:=J;exists #[rawInt pos.line,rawInt pos.col,.ref c'],by rw[Zb (XH hcP),XZ]
   .exists #[],by rw[sx b _ hb e];simp
  .cases hb:b=c'
   .subst hb;rw[XZ]at e;cases e;exists As _ _ MB λo g=>Xl _ g,?_,As;let(c2,o,_,_,e2,g,_):=MB;cases e2;exists o,Xl _ g
   .rw[Zb hb]at e;cases KY:b=Pt
    .subst KY;rw[XZ]at e;cases e;show Xl _ htb
    .rw[Zb KY]at e;show(I.hok b u e).stay (λd o hd g=>keep d o (λz=>?_) g) (λd g=>sx d _ (λz=>by simp_all) g) λd xs g=>sx d _ (λz=>J) g;lia
 .show kla_makeFunctionHit OT I.ok.glob Uw Ul hHd NV Ap hf (I.builtinsAt hB) λRG h' tk hk hsz=>?_;show h h'.objs.o c' _ RG _ H (λ_ _ _ e=>e) {ps,hP,Ap,.inr ⟨c',hf,Vj⟩} (I.fpOk hsz<|I.hok.fresh hsz) (I.kept λb o e=>Xl _<|hk b o e) (Qd _ Z) Vj
end
section
variable{Uu:Pos}{Pt:Addr}
def SqT.samex{K:Ad}{H H2:Hp}{a:Addr}{xs:List V}{qual:Str}(h:SqT K H a xs)(t:TabH H Pt Uu qual)(sx:SameX Pt H H2):SqT K H2 a xs:=by
 let(ps,hP,_):=t;rcases h with (h|⟨o,h⟩)|h
 .show .inl (.inl<|sx _ _ (λz=>J) h)
 .show .inl (.inr {o,sx _ _ (λz=>by simp_all) h})
 .show .inr h
end
def Iu(Pt:Addr)(H:Hp):(Prop):=H Pt=some (.tbl #[])/\∀b,b=Pt\/H b=none\/∃o xs,H b=some (.frz o<|.lst xs)
def ZE9{P:Program}{w:World}{K:Ad}{mg mb:Af}{CX:Rj}{k:Nat}{fa a Pt c:Addr}{fd:FuncData}{x:Str}{sp:Sp}{s₁:Shared}{vs:Ag}{ns:Ac}
  (KX:K.In s₁.r)(Uw:s₁.r.Ns mainGlobals mg)(hb:s₁.r.Ns builtinsNs mb)(mG:∀x:Str,x≠"__name__"->mb x=bootBuiltins x)(iH:s₁.r.NoLimit)(hg:s₁.gens=#[])
  (hT:s₁.r.E Pt=some (tabObj #[]))(hC:codeHdIn K c Pt=true)(iG:K.S Pt=none)(hbm:∃bm ob,mg (Str.ofString "__builtins__")=some ↑bm/\bm≠builtinsNs/\s₁.r.E bm=some ob/\ob.cls=.type "module"/\ob.dict=some builtinsNs/\ob.data=.plain)
  (ha:s₁.r.E a=some {cls:=.type "list",data:=.seq vs.C})(hi:IntsAre vs ns)(hl:ns.f<=sizeLine)(hr:Room k callerA)
  (F:∀base:Heap,K.In base->base.Ns mainGlobals mg->base.BuiltinsAt mg Pt->FnOk P w K mg base CX k fa fd [x] sp)(Ta:∀s u,BindsTo s fd {[u],[]} [(x,u)])
  (Uc:∀H:Hp,Iu Pt H->SqL K H a (ns.H V.int)->sp [.ref a] H (λv _=>v=.bl true) λ_ _ _=>False)
  (iF:∀H e s',CX [] H s₁ (λ_ _ _=>False) e s'->False):
  codeAny (model P w) callerA (.call ↑fa {[.ref a],[]}) (λr s'=>r=.ok (.ret<|.bool true)/\OldK s₁.r s'.r/\s'.os=s₁.os/\AllBare s'.gens) s₁:=by
 let rv:=pX hi;let iE:=hi.f
 let haP:a≠Pt:=λz=>by rw[z,hT]at ha;cases ha
 let core:∀H:Hp,Iu Pt H->SqL K H a (ns.H V.int)->HOk P w H s₁.r->(∀b,H b≠none->b=a\/b=Pt)->(H a≠none->K.S a=none)->
   codeAny (model P w) callerA (.call ↑fa {[.ref a],[]}) (λr s'=>r=.ok (.ret<|.bool true)/\OldK s₁.r s'.r/\s'.os=s₁.os/\AllBare s'.gens) s₁:=by
  intro H hO hS hok hA hK;let base_of:∀{b:Addr}{o:Obj},s₁.r.E b=some o->H b=none->(UD s₁.r H).E b=some o:=λe n=>Zad e n
  let free:∀{b:Addr}{o:Obj},s₁.r.E b=some o->(∀XS n,o.data≠.seq XS n)->(∀vs,o.data≠.fields vs)->H b=none:=λ{b o} e d1 d2=>by
   cases q:H b with
   |none=>rfl
   |some u=>
    rcases hA b (by rw[q];simp) with e'|e'
    .subst e';rw[ha]at e;cases e;show absurd Z (d1 _ _)
    .subst e';rw[hT]at e;cases e;show absurd Z (d2 _)
  let uB:∀{b:Addr}{m:Af},s₁.r.Ns b m->(UD s₁.r H).Ns b m:=λ{b m} ⟨o,es,ep,e,d,r⟩=>{o,es,ep,base_of e (free e (λ_ _ z=>by rw[d]at z;cases z) λ_ z=>by rw[d]at z;cases z),d,r};let hKb:K.In (UD s₁.r H):=λb o e=>base_of (KX b o e) (by
   cases q:H b with
   |none=>rfl
   |some u=>
    rcases hA b (by rw[q];simp) with e'|e'
    .subst e';rw[hK (by rw[q];simp)]at e;cases e
    .subst e';rw[iG]at e;cases e)
  let hM:Mod K mg (UD s₁.r H):={hKb,uB Uw,{mb,uB hb,mG},by let(mc,h1,h2):=iH;exists mc,uB h1,h2};let hB:(UD s₁.r H).BuiltinsAt mg Pt:=by
   let(bm,ob,b1,b2,b3,b4,b5,b6):=hbm;exists bm,ob,b1,b2,λz=>?_,λz=>?_,base_of b3 (free b3 (λ_ _ z=>by rw[b6]at z;cases z) λ_ z=>by rw[b6]at z;cases z),b4,b5,b6
   .let⟨o,es,ep,e,d,_⟩:=Uw;rw[z,e]at b3;cases b3;rw[d]at b6;cases b6
   .rw[z,hT]at b3;cases b3;cases b4
  let e0:Env0 P w K mg (UD s₁.r H) callerA [] s₁ H:={Z,hM,λb o e=>Zae e,Nat.le_of_eq<|ZN9 _ _,trivial,λb hb=>absurd (show b∈([]:List Addr) from hb) Fe,hok,.of_eq hg};show LO ((F _ hKb (uB Uw) hB).run callerA [] s₁ H {[.ref a],[]} [.ref a] [.ref a] _ _ hr e0 (Ta s₁<|.ref a) (.cons Z .nil) (Uc H hO hS)) λr s' h=>?_;cases r with
  |error e=>show(iF H e s' h).elim
  |ok fl=>
   cases fl with
   |next=>show False.elim h
   |brk=>show False.elim h
   |cont=>show False.elim h
   |ret u=>
    let(v,H',os,bare,un,An,r',q):=h;let q':v=.bl true:=q
    subst q';let rfl:u=Value.bool true:=r';let(more,eP):=un.tbls Pt #[] hO.1;let hP':s'.r.E Pt=some {cls:=.none,data:=.fields (#[]++more)}:=An Pt _ eP
    let kept:∀b o,b≠Pt->s₁.r.E b=some o->s'.r.E b=some o:=λb o Vw e=>by
     cases q:H b with
     |none=>show un.keep b o e q (by intro z;show absurd (show b∈([]:List Addr) from z) Fe) Fe
     |some u=>
      rcases hO.2 b with z|z|⟨ob,xs,z⟩
      .show absurd z Vw
      .rw[q]at z;cases z
      .let z2:=un.frzs b ob _ z;let(e1,_):=hok b _ z;let(e2,_):=An b _ z2;rw[e]at e1;cases e1;show e2
    exists Z,{λb o e=>?_,λb o e=>?_},os,bare
    .cases Vw:b=Pt
     .subst Vw;rw[hT]at e;let rfl:=Ym e;let(oc,vsc,_,_,_,_,_,_,_,c1,c2,c3,c4,_):=codeHd_of_K KX hC;show .inr (.inl {⟨c,oc,vsc,c1,c2,c3,c4⟩,Z,#[],more,Z,hP'})
     .show .inl (kept b o Vw e)
    .cases Vw:b=Pt
     .rw[Vw];exists _,hP'
     .exists o,kept b o Vw e
 cases hk:K.S a with
 |some o=>
  let e:=KX a o hk;rw[ha]at e;cases e;show core (λb=>if b=Pt then some (.tbl #[]) else none) {Yi Z,λb=>?_} (.inr {_,vs.C,_,hk,Z,Z,Z,by rw[YR,iE];show hl,by simpa using rv}) (λb u z=>?_) (λb z=>?_) λz=>absurd (Yh haP) z
  .cases Vw:b=Pt
   .show .inl Vw
   .show .inr (.inl<|Yh Vw)
  .cases Vw:b=Pt
   .let z':=(Yi Vw).symm.l z;cases z';subst Vw;show hT
   .let z':=(Yh Vw).symm.l z;cases z'
  .cases Vw:b=Pt
   .show .inr Vw
   .show absurd (Yh Vw) z
 |none=>
  show core (λb=>if b=Pt then some (.tbl #[]) else if b=a then some (.frz {cls:=.type "list",data:=.seq vs.C} (.lst<|ns.H V.int)) else none) {Yi Z,λb=>?_} (.inl<|.inr {{cls:=.type "list",data:=.seq vs.C},(Yh haP).l (Yi Z)}) (λb u z=>?_) (λb z=>?_) λ_=>hk
  .cases Vw:b=Pt
   .show .inl Vw
   .cases hb:b=a
    .show .inr (.inr {_,_,(Yh Vw).l (Yi hb)})
    .show .inr (.inl<|(Yh Vw).l (Yh hb))
  .cases Vw:b=Pt
   .let z':=(Yi Vw).symm.l z;cases z';subst Vw;show hT
   .cases hb:b=a
    .let z':=((Yh Vw).l (Yi hb)).symm.l z;cases z';subst hb;exists ha,by rw[Yb];show hl,vs,_,rv,ha
    .let z':=((Yh Vw).l (Yh hb)).symm.l z;cases z'
  .cases Vw:b=Pt
   .show .inr Vw
   .cases hb:b=a
    .show .inl hb
    .show absurd ((Yh Vw).l (Yh hb)) z
def OR{l:PySem.W.OpenLaw}{n k:Nat}{q:Program}{loose:List Str}{XP:Af->Heap->Prop}{YP:World->Heap->Prop}{d:DefRec}{K:Params->Ad}{CX:Rj}{sp:Ad->Sp}{x:Str}{c Pt:Addr}
  (hn:l.most=some n)(RS:n<=sizeLine)(pZ:d.params.defaults=[])(hr:Room k callerA)
  (hY:∀(w:World)(h:Heap),YP w h->(K w.params).In h/\h.E Pt=some (tabObj #[]))(hC:∀w:World,codeHdIn (K w.params) c Pt=true)(iG:∀w:World,(K w.params).S Pt=none)
  (F:∀(w:World)(mg:Af)(fa:Addr)(h:Heap),(K w.params).In h->h.Ns mainGlobals mg->mg d.name=some ↑fa->
   ∃fd:FuncData,(∀(s:Shared)(u:Value),BindsTo s fd {[u],[]} [(x,u)])/\
    ∀base:Heap,(K w.params).In base->base.Ns mainGlobals mg->base.BuiltinsAt mg Pt->FnOk l.prog w (K w.params) mg base CX k fa fd [x] (sp<|K w.params))
  (Uc:∀(w:World)(H:Hp)(a:Addr)(ns:Ac),ns.f<=n->Iu Pt H->SqL (K w.params) H a (ns.H V.int)->sp (K w.params) [.ref a] H (λv _=>v=.bl true) λ_ _ _=>False)
  (iF:∀(H:Hp)(s:Shared)(e:Value)(s':Shared),CX [] H s (λ_ _ _=>False) e s'->False):
  PySem.W.WalkO q loose XP YP l.row.toRowW d [] (λf vs=>PySem.call f vs):=by show Att.Th hn pZ λw s₀ s₁ mg mb fa o pm cd doc a vs ns G Y ho hd SN Ee JH hints hlen hg=>?_;let(KX,hT):=hY w _ Y;let(fd,hb,hF):=F w mg fa _ KX G.T.g Ee;show ZE9 KX G.T.g G.T.b G.T.builtins G.T.nolimit hg hT (hC w) (iG w) G.T.bmain JH hints (Yl hlen RS) hr hF hb (λH hO hS=>Uc w H a ns hlen hO hS) λH e s'=>iF H s₁ e s'
def TR(K:Ad)(mg:Af)(base:Heap)(fd:FuncData)(Pt:Addr):(Prop):=∃c,fd.code=.ref c/\codeHdIn K c Pt=true/\base.BuiltinsAt mg Pt/\mainGlobals≠Pt
def LamScope.of(h1:sc.kind=.function)(h2:sc.isCoroutine=false)(h3:sc.isGenerator=false)(h4:sc.names=[(v,.local),(x,.free)]\/sc.names=[(x,.free),(v,.local)])(hn:v≠x):LamScope v x sc:=by
 exists h1,h2,h3,λy hy=>?_,?_,?_,λy hy=>?_,hn
 .grind
 .grind
 .grind
 grind
section
variable{P:Program}{w:World}{K:Ad}{mg:Af}{base:Heap}
def Fun.okL{x qual:Str}{st:Stmt}{f c:Addr}{fd:FuncData}{N ps:List Str}{k:Nat}{sp:Sp}(F:Fun K x qual st f fd)(hc:fd.code=.ref c)(S:FnScope N ps (Xo st))(len:∀vs H Q E,sp vs H Q E->vs.f=ps.f)
  (VE:∀A outer s H vs Q E,Room k (A.deeper<|envOfC qual (Xo st) (~~~s) f<|.ref c)->sp vs H Q E->
   ∃t,PSs (Ud Xz P w K mg base N qual (Xo st) f ↑c A outer s H E).nox (Rh st) t/\t {nx:=λ_ H'=>Q .non H',rt:=Q} (start N vs) H):FnOk P w K mg base Xz (k+1) f fd ps sp:=by let(oc,od,kV,doc,pm,an,XF,ct,TB,rfl,lk,SN):=F.ex;let rfl:XF=.ref c:=hc;show Ew lk SN S len λA outer s H vs Q E hr Uc=>?_;let(t,h,q):=VE A outer s H vs Q E hr Uc;exists t,h.nox,q
end
end L2
namespace My
open PySem L2
def pl(ls T U:Ac):(Prop):=HT.ltP (AV ls T,T) (AV ls U,U)=true
def OrdL(ls:Ac)(m:Nat)(os:Ac):(Prop):=os.Perm (Wj m)/\os.G λx y=>IC ls x<IC ls y\/(IC ls x=IC ls y/\x<y)
def Zd7(g:GoodW n ps)(hT:Zg n ps T)(hW:Zg n ps W)(h:∀z∈T,z∈W):T=W:=
 Cv (MT hT) (MT hW) λz=>(jj g hT hW h).mem_iff
structure Ent where
 T:Ac
 I:Ac
 O:Ac
deriving DecidableEq
end My
namespace L2
open PySem PySem.Spec PyProof.Rows PySem.W My
def SameX.same(s:Same H H'):SameX Pt H H':=λb o _ e=>s b o e
def SameX.trans{Pt:Addr}{H H1 H2:Hp}(a:SameX Pt H H1)(b:SameX Pt H1 H2):SameX Pt H H2:=λc o hc e=>b c o hc (a c o hc e)
def TabH.same(t:TabH H Pt pos qual)(s:Same H H'):TabH H' Pt pos qual:=by
 let(ps,h1,h2,h3):=t;exists ps,s _ _ h1,h2,?_;rcases h3 with h|⟨c,h,h'⟩
 .show .inl h
 .show .inr {c,h,s _ _ h'}
def TabH.ne{Pt a:Addr}{o:HO}(t:TabH H Pt pos qual)(h:H a=some o)(hn:∀ps,o≠.tbl ps):a≠Pt:=λe=>by let(ps,h1,_):=t;grind
def TabH.put{Pt r:Addr}{zs:List V}{u:List V}(t:TabH H Pt pos qual)(hr:H r=some (.lst zs)):TabH (upd H r (.lst u)) Pt pos qual:=by
 let(ps,h1,h2,h3):=t;show{ps,by rw[Zb (PR h1 hr Fe)];show h1,h2,?_};rcases h3 with h|⟨c,h,h'⟩
 .show .inl h
 .show .inr {c,h,by rwa[Zb (PR h' hr<|by unfold Gh;simp)]}
end L2
namespace My
open PySem L2
def SqK.samex(h:SqK kd K H a xs)(t:TabH H Pt pos qual)(sx:SameX Pt H H2):SqK kd K H2 a xs:=by
 cases kd with
 |true=>show SqT.samex (show SqT K H a xs from h) t sx
 |false=>
  rcases(show SqL K H a xs from h) with (h|⟨o,h⟩)|h
  .show .inl (.inl<|sx _ _ (t.ne h Fe) h)
  .show .inl (.inr {o,sx _ _ (t.ne h Fe) h})
  .show .inr h
def WebAt.samex(h:WebAt C H w n ps)(t:TabH H Pt pos qual)(sx:SameX Pt H H2):WebAt C H2 w n ps:=by let(dx,tl,xs,h1,h2,h3):=h;exists dx,tl,xs,sx _ _ (t.ne h1 Fe) h1,sx _ _ (t.ne h2 Fe) h2,h3.1,λi p hp=>?_;let(x,hx,q,e,hq):=h3.2 i p hp;exists x,hx,q,e,sx _ _ (t.ne hq Fe) hq
end My
namespace My
def un1{α:Type}{P:List α->Prop}(h:∀a,P [a])(l:List α)(e:l.f=1):P l:=by let(a,rfl):=Cq e;show h a
def pS{α:Type}{P:List α->Prop}(h:∀a b,P [a,b])(l:List α)(e:l.f=2):P l:=by let(a,b,rfl):=Cp e;show h a b
def un3{α:Type}{P:List α->Prop}(h:∀a b c,P [a,b,c])(l:List α)(e:l.f=3):P l:=by let(a,b,c,rfl):=Co e;show h a b c
def un4{α:Type}{P:List α->Prop}(h:∀a b c d,P [a,b,c,d])(l:List α)(e:l.f=4):P l:=by let(a,b,c,d,rfl):=Cn e;show h a b c d
def un5{α:Type}{P:List α->Prop}(h:∀a b c d e,P [a,b,c,d,e])(l:List α)(e:l.f=5):P l:=by
 cases l with
 |nil=>cases e
 |cons x r=>
  let(a,b,c,d,rfl):=Cn (NI e);show h x a b c d
end My
namespace My
open PySem L2
def iC(h:TC n ps c):c=0↔∀T,¬Zg n ps T:=by
 let(L,a1,a2,a3):=h;constructor
 .intro e T hT
  simp_all
 .intro e;rw[<-a3,UG];show cC.mpr λT hT=>e T ((a2 T).R hT)
end My
namespace L2
open PySem PySem.Spec PyProof.Rows PySem.W
def Zk3:∀bs:List Bool,(bs.H Value.bool).mapM firstOfTuple'=(pure ((bs.H Value.bool).H λ_=>none):Sem _)
 |[]=>Fe
 |b::bs=>by rw[SR,List.mapM_cons,Zk3 bs];change(pure none >>= λb=>pure _ >>= λbs=>pure<|b::bs)=_;simp
def ZN2:∀bs:List Bool,(bs.H Value.bool).mapM typeOf=(pure ((bs.H Value.bool).H λ_=>Value.type "bool"):Sem _)
 |[]=>Fe
 |b::bs=>by rw[SR,List.mapM_cons,ZN2 bs];change(pure (Value.type "bool") >>= λb=>pure _ >>= λbs=>pure<|b::bs)=_;simp
def iz{ns:Ac}{key:Int->Bool}(hk:kA.m=ns.H λz=>Value.bool (key z))(h2:2<=ns.f):keyKind' kA=pure oneType':=by
 let e:kA=((ns.H key).H Value.bool).C:=by rw[<-Array.toArray_toList (xs:=kA),hk,Ov];rfl
 rw[e];obtain⟨b1,b2,bs,eb⟩:∃b1 b2 bs,ns.H key=b1::b2::bs:=by
  match ns,h2 with
  |x::y::l,_=>exists _,_,_,Z
 rw[eb,keyKind'_eq,List.mapM_toArray,Zk3];simp only[map_pure,pure_bind];rw[Yh Fe,Yh Fe];rw[oneTypeOnly'_eq,List.mapM_toArray,ZN2];simp only[map_pure,pure_bind];grind
def iy{E:Ae}{s:Shared}{Q:Bool->Shared->Prop}(h:Q (decide (b2i p<b2i q)) s):wpAny (model prog w) A (keyLt' oneType' (.bool p) (.bool q)) Q E s:=by show XT (wpAny_cRoomFor_byValue Z ?_);show XT (wpAny_callSpecialIfBound?_slot (typeIs_bool' s p) F.slot_bool_lt<|call_gives F.slot_bool_lt (typeIs_bool' s p) F.entry_int_lt (F.args_int_lt_2 _ _) (gives_int_lt_bools p q) ?_);show Qf h
section
variable{X:Cx}{pins:List (Addr×Obj)}{σ:St}{H:Hp}{s:Shared}{a kS:Addr}{A:Around}{E:Ae}{P:PySem.Fin->Shared->Prop}{kA:Array Value}{e e1:Nat}{f:Value}{key:Int->Bool}{ns:Ac}{vs:Ag}
def ix(hv:IntsAre vs ns)(hk:kA.m=ns.H λz=>Value.bool (key z))(hi:i<ns.f):∃u,kas_item (kA.zip vs.C) i=(.bool (key (ns.Q i 0)),.int (ns.Q i 0) u):=by
 let(u,hu):=Au hv i hi;let ht:kA.m[i]?=some (Value.bool<|key<|ns.Q i 0):=by rw[hk,Yn,We,Xw hi];rfl
 exists u,?_;unfold kas_item;rw[YT,<-YM,ksk_zip,(List.getElem?_zip_eq_some (z:=(Value.bool<|key<|ns.Q i 0,Value.int (ns.Q i 0) u))).mpr ⟨ht,hu⟩];rfl
def ZQ5(hv:IntsAre vs ns)(hk:kA.m=ns.H λz=>Value.bool (key z)):∀l:List Nat,(∀i∈l,i<ns.f)->IntsAre (l.H λi=>(kas_item (kA.zip vs.C) i).2) (l.H λi=>ns.Q i 0)
 |[],_=>.nil
 |i::l,h=>by
  let(u,e):=ix hv hk (h i Ya);let r:=ZQ5 hv hk l λj hj=>h j (Yf _ hj)
  rw[SR,SR,e];show .cons _ u r
def Am(I:Inv X (pins++[(a,seqObj "list" #[] e1),(kS,seqObj "list" kA e)]) σ H s)(Fa:FpOk X pins H a)(Fk:FpOk X pins H kS)(Oc:a≠kS)(hv:IntsAre vs ns)(Qt:ns.f<64)(hk:kA.m=ns.H λz=>Value.bool (key z))
  (h:∀s' m out ms,Inv X pins σ H s'->s'.r.E a=some (seqObj "list" out m)->IntsAre out.m ms->Qn (λz=>b2i<|key z) ns ms->P (.done<|.ret .none) s'):
  wpAny (model X.prog X.w) A (ksk_end a false vs.C e1 ↑kS kA) P E s:=by
 let Al:=hv.f;let iw:=YF List.f hk
 rw[YI,Yb]at iw;let hzs:(kA.zip vs.C).o=ns.f:=by rw[Array.size_zip,show vs.C.o=vs.f from YR];simp_all
 unfold ksk_end;dsimp only;cases h2:vs.C.o<2
 .rw[Yi h2,Yi h2];show XT (Ye ?_);show XT (Ye ?_);show Av (out:=vs) I Fa Fk Oc (by simp_all) Z ?_ (by simp_all) λs' m rG e=>h s' m vs.C ns rG e rO ?_
  .grind
  .exists List.range ns.f,si _,?_,?_
   .match ns.f,(show ns.f<2 by simp_all) with
    |0,_=>simp_all
    |1,_=>grind
   .match ns,(show ns.f<2 by simp_all) with
    |[],_=>rfl
    |[x],_=>rfl
 .rw[Yh h2,Yh h2];rw[YR]at h2;rw[iz hk (by simp_all)];show XT (Ye ?_);let(p,Vu,Wn,UI):=My.MD (n:=ns.f) (key:=λi=>b2i<|key<|ns.Q i 0) J;let runs:=kas_runs (prog:=X.prog) (w:=X.w) (A:=A) (E:=E) (κ:=oneType') (it:=kA.zip vs.C) (n:=ns.f) (s:=s) (Q:=λ_ st s'=>s'=s/\failedOf st=none/\arrOf st=p.H (kas_item<|kA.zip vs.C))
   (G:=λq s'=>s'=s/\q=p) (by simp_all) Qt (λq st s' _ e2 e3 e4=>{e4.1,e3,by rw[e2,e4.2]})
   (My.goT_wp' (c:=λi j=>decide<|b2i (key<|ns.Q i 0)<b2i (key<|ns.Q j 0)) (rG:=λs'=>s'=s) (λi j C s' hi hj hs hC=>by let(u,e):=ix hv hk hi;let(u',e'):=ix hv hk hj;unfold kas_cmp;rw[e,e'];show iy<|hC s' hs) _ s (My.QO B) Z λs' hs=>⟨hs,Vu⟩)
  unfold kasC kas_st at runs;rw[<-hzs,kas_range]at runs;show XT (Tq runs ?_ λ_ _ z=>z);rintro⟨⟨⟩,st⟩ s' ⟨rfl,hf,ha⟩;dsimp only;let hb:∀i∈p.m,i<ns.f:=λi hi=>YY.R (Wn.mem_iff.R hi)
  let Us:p.m.f=ns.f:=by rw[Wn.length_eq,NP]
  show Av (out:=p.m.H λi=>(kas_item (kA.zip vs.C) i).2) I Fa Fk Oc (by simp_all) hf ?_ (by simp_all) λSM m rG e=>h SM m _ _ rG e (by simpa using ZQ5 hv hk p.toList hb) ⟨p.m,Wn,UI,Z⟩;rw[ha,Array.map_map];show Array.toList_inj.R Fe
def ZG9(I:Inv X (pins++[(a,seqObj "list" #[] e1),(kS,seqObj "list" #[] 0)]) σ H s)(Fa:FpOk X pins H a)(Fk:FpOk X pins H kS)(Oc:a≠kS)(hv:IntsAre vs ns)(Qt:ns.f<64)
  (turn:∀pl z t s',z∈ns->Inv X (pins++pl) σ H s'->wpAny (model X.prog X.w) A (call f [.int z t]) (λv SM=>v=.bool (key z)/\Inv X (pins++pl) σ H SM) (λ_ _=>False) s')
  (h:∀s' m out ms,Inv X pins σ H s'->s'.r.E a=some (seqObj "list" out m)->IntsAre out.m ms->Qn (λz=>b2i<|key z) ns ms->P (.done<|.ret .none) s'):
  wpAny (model X.prog X.w) A (ksk_rest a f false vs.C e1<|.ref kS) P E s:=by
 let Jo:sizeLine=16777216:=RU;let Al:=hv.f
 show XT (Rv ?_);rw[<-Array.forIn_toList];show XT (ksk_fold (λi s'=>∃kA e,Inv X (pins++[(a,seqObj "list" #[] e1),(kS,seqObj "list" kA e)]) σ H s'/\kA.m=(ns.M i).H λz=>Value.bool<|key z) vs 0 s ⟨#[],0,I,Z⟩ ?step ?done)
 case step=>
  rintro j x s' hx ⟨kA,e,rG,hk⟩;rw[RB]at hk ⊢;let hj:j<ns.f:=by rw[<-Al];show(Xv.R hx).1
  let(t,ht):=Au hv j hj;rw[hx]at ht;let rfl:=Ym ht;let hz:kA.o<=j:=by let h1:=YF List.f hk;rw[YI,Yb,Yu]at h1;lia
  let eg:ns.Q j 0=ns[j]:=by rw[We,Xw hj];rfl
  let hmem:ns.Q j 0∈ns:=by rw[eg];show Hm hj
  show XT (NK<|Tq (turn _ _ t s' hmem rG) (λv SM he=>?_) λ_ _ hF=>hF.elim);let(rfl,J2):=he;let pk:=(J2.pin (kS,seqObj "list" kA e) Fe).1
  obtain⟨c2,Vn⟩:∃c2,(SM.r.update kS (Obj.mapSeq (·.push (.bool<|key<|ns.Q j 0)))).E kS=some (seqObj "list" (kA.push<|.bool<|key<|ns.Q j 0) c2):={_,Fo pk (·.push (.bool<|key<|ns.Q j 0))};show XT (Ou pk Z ?_ J<|by rw[Array.size_push];lia);show Ye {Z,kA.push<|.bool<|key<|ns.Q j 0,c2,?_,?_}
  .let J3:Inv X (pins++[(a,seqObj "list" #[] e1)]) σ H SM:=J2.pins_of λp hp=>J2.pin p (Yg _ (by
    grind))
   let Fk2:FpOk X (pins++[(a,seqObj "list" #[] e1)]) H kS:=Fk.more λp hp=>by simp_all
   let J4:=(J3.changed (t':=SM.toks) Fk2 λc o hc q=>(YJ SM.r (Obj.mapSeq (·.push (.bool<|key<|ns.Q j 0)))<|XH hc).l q).pin1 Fk2 Vn λv z=>by cases z
   rwa[YV]at J4
  .let ek:((ns.M<|j+1).H λz=>Value.bool<|key z)=((ns.M j).H λz=>Value.bool<|key z)++[Value.bool (key<|ns.Q j 0)]:=by rw[List.take_add_one,Xw hj,YB,eg];rfl
   grind
 case done=>
  rintro s' ⟨kA,e,rG,hk⟩;rw[RB,Al,Yy]at hk;let pk:=(rG.pin (kS,seqObj "list" kA e) Fe).1
  show XT (Fl pk Z ?_);show Am rG Fa Fk Oc hv Qt hk h
def ZF9(I:Inv X pins σ H s)(Fa:FpOk X pins H a)(ho:s.r.E a=some (seqObj "list" vs.C n))(hv:IntsAre vs ns)(Qt:ns.f<64)
  (turn:∀pl z t s',z∈ns->Inv X (pins++pl) σ H s'->wpAny (model X.prog X.w) A (call f [.int z t]) (λv SM=>v=.bool (key z)/\Inv X (pins++pl) σ H SM) (λ_ _=>False) s')
  (h:∀s' m out ms,Inv X pins σ H s'->s'.r.E a=some (seqObj "list" out m)->IntsAre out.m ms->Qn (λz=>b2i<|key z) ns ms->P (.done<|.ret .none) s'):
  wpAny (model X.prog X.w) A (ksk_tree a f false) P E s:=by
 let Jo:sizeLine=16777216:=RU;let Al:=hv.f
 obtain⟨e1,Ak⟩:∃e1,(s.r.update a<|Obj.mapSeq λ_=>(#[]:Array Value)).E a=some (seqObj "list" #[] e1):={_,Fo ho λ_=>#[]};let I1:Inv X pins σ H {s with heap:=s.r.update a<|Obj.mapSeq λ_=>(#[]:Array Value),toks:=s.toks}:=I.changed Fa λc o hc q=>(YJ _ _<|XH hc).l q
 let I2:Inv X pins σ H {s with heap:=(s.r.update a<|Obj.mapSeq λ_=>(#[]:Array Value)).push (seqObj "tuple" vs.C 0),toks:=s.toks}:=I1.kept λc o q=>Xl _ q;let Ub:((s.r.update a<|Obj.mapSeq λ_=>(#[]:Array Value)).push (seqObj "tuple" vs.C 0)).E a=some (seqObj "list" #[] e1):=Xl _ Ak
 show XT (Fl ho Z ?_);show XT (Ou ho Z ?_ B<|Yc _);show XT (seqEpoch_at Ak Z ?_);show XT (wpAny_newTuple ?_ J);show XT (NL ?_<|Yc _);show SQ ?_;let Fk:FpOk X pins H ((s.r.update a<|Obj.mapSeq λ_=>(#[]:Array Value)).push (seqObj "tuple" vs.C 0)).objs.o:=I2.fpOk (XI _) (I2.hok.fresh<|XI _)
 let Oc:a≠((s.r.update a<|Obj.mapSeq λ_=>(#[]:Array Value)).push (seqObj "tuple" vs.C 0)).objs.o:=Yw (Yk Ub);let I3:Inv X pins σ H {s with heap:=((s.r.update a<|Obj.mapSeq λ_=>(#[]:Array Value)).push (seqObj "tuple" vs.C 0)).push (seqObj "list" #[] 0),toks:=s.toks}:=I2.kept λc o q=>Xl _ q
 let I4:=(I3.pin1 Fa (Xl _ Ub) λv z=>by cases z).pin1 (Fk.more (pl:=[(a,seqObj "list" #[] e1)]) λp hp=>by rw[Xc.R hp];show Oc) (Qd _ Z) λv z=>by cases z
 rw[YV]at I4;show ZG9 I4 Fa Fk Oc hv Qt turn h
def Yz6{tp q:Addr}{Q:Ae}(I:Inv X pins σ H s)(ht:s.r.IsList tp vs.C)(hv:IntsAre vs ns)(Qt:ns.f<64)
  (turn:∀pl z t s',z∈ns->Inv X (pins++pl) σ H s'->wpAny (model X.prog X.w) A.in1.in1 (call ↑q [.int z t]) (λv SM=>v=.bool (key z)/\Inv X (pins++pl) σ H SM) (λ_ _=>False) s')
  (h:∀s' a m out ms,FpOk X pins H a->Inv X pins σ H s'->s'.r.E a=some (seqObj "list" out m)->IntsAre out.m ms->Qn (λz=>b2i<|key z) ns ms->Q ↑a s'):
  wpAny (model X.prog X.w) A (call (.builtin "sorted") [.ref tp] [(Str.ofString "key",.ref q)]) Q E s:=by
 let Jo:sizeLine=16777216:=RU;let Al:=hv.f
 show call_function_entry_kw kind_sorted plain_sorted entry_sorted (ksk_s1 _ _) ?_;show XT (m:=checkCount "sorted" 1 1 _) (Ye ?_);show XT (collect_list ht ?_ J);show XT (NL ?_ J);let hsz:((s.r.push<|seqObj "list" #[] 0).update (~~~s) (Obj.mapSeq (·++vs.C))).objs.o=(~~~s)+1:=by rw[rZ,size_push']
 let Oq:(((s.r.push<|seqObj "list" #[] 0).update (~~~s) (Obj.mapSeq (·++vs.C))).push (seqObj "list" vs.C 0)).E ((~~~s)+1)=some (seqObj "list" vs.C 0):=by rw[<-hsz];show Qd _ rfl
 let keep:∀b o,s.r.E b=some o->(((s.r.push<|seqObj "list" #[] 0).update (~~~s) (Obj.mapSeq (·++vs.C))).push (seqObj "list" vs.C 0)).E b=some o:=λb o q=>by let Xx:b<(~~~s):=Yk q;show Xl _ ((YJ _ _<|RA Xx).l (Xl _ q))
 rw[hsz];let Fa:FpOk X pins H ((~~~s)+1):=I.fpOk (Ts _) (I.hok.fresh<|Ts _)
 show XT (SQ<|wpAny_call_entry_kw wD ⟨_,Oq,Z⟩ wG ?body (ksk_l1 _ _));show ZF9 (s:={s with heap:=((s.r.push<|seqObj "list" #[] 0).update (~~~s) (Obj.mapSeq (·++vs.C))).push (seqObj "list" vs.C 0),toks:=s.toks}) (I.kept keep) Fa Oq hv Qt turn λs' m out ms rG e hi hs=>{_,Z,?_};show Ye {_,Z,h s' _ m out ms Fa rG e hi hs}
end
def iu(K:Ad)(Pt:Addr)(Uu:Pos)(qual:Str)(i:Nat)(te tb:TE):(TE):=λσ H Q=>te σ H λy H1=>∃(p:Addr)(ns:Ac)(vx:V)(key:Int->Bool),y=.ref p/\SqL K H1 p (ns.H V.int)/\ns.f<64/\TabH H1 Pt Uu qual/\σ[i]?=some (some vx)/\
 (∀H2,SameX Pt H1 H2->∀z∈ns,tb [some (.int z),some vx] H2 λr H3=>r=.bl (key z)/\H3=H2)/\
 ∀(ms:Ac)(l:Addr)(H2:Hp),Qn (λz=>b2i<|key z) ns ms->SameX Pt H1 H2->TabH H2 Pt Uu qual->H2 l=none->Q ↑l (upd H2 l<|.lst<|ms.H V.int)
section
variable{X:Cx}{p kp pos Uu:Pos}{e body:Expr}{params:Arguments}{scope:Scope}{te tb:TE}{v x:Str}{i k:Nat}{c Pt cc:Addr}
def SqL.samexT{K:Ad}{H H2:Hp}{a:Addr}{xs:List V}{qual:Str}(h:SqL K H a xs)(t:TabH H Pt Uu qual)(sx:SameX Pt H H2):SqL K H2 a xs:=by
 let(ps,hP,_):=t;rcases h with (h|⟨o,h⟩)|h
 .show .inl (.inl<|sx _ _ (λz=>by simp_all) h)
 .show .inl (.inr {o,sx _ _ (λz=>by simp_all) h})
 .show .inr h
def ZE6(he:PE X e te)(hg:Gl X (Str.ofString "sorted"))(hm:X.mg (Str.ofString "sorted")=none)(hr:Room (k+3) X.A)(hex:X.ex=[])(Ul:X.X.code=.ref c)(hC:codeHdIn X.K c Pt=true)(hB:X.base.BuiltinsAt X.mg Pt)(Aq:mainGlobals≠Pt)
  (S:LamScope v x scope)(OT:closureFor scope X.X=pure [(x,cc)])(Iw:defaultsOf params X.X=([],[]))(Ta:∀(c':Addr)(pm RG u:Value),bindArgs (kla_fn (Str.ofString "<lambda>") (X.X.qual++Str.ofString "<lambda>") params body scope [(x,cc)] pm ↑c' RG) {[u],[]}=pure [(v,u)])
  (hi:X.N[i]?=some x)(hkx:X.X.kindOf x=some .cell)(VQ:X.X.cells.S x=some cc)
  (hb:∀(f c':Addr)(A:Around)(outer:List Env)(s:Shared)(H:Hp),Room k (A.deeper<|envX (X.X.qual++Str.ofString "<lambda>") scope (~~~s) f ↑c' [(x,cc)])->PE (Tb X.prog X.w X.K X.mg X.base [v,x] (X.X.qual++Str.ofString "<lambda>") scope f ↑c' [(x,cc)] A outer s H) body tb)(hs:autoParam (starEach [e] X.X=[(false,eval e X.X)]) D1._auto_1):
  PE X (.Call (.Name (Str.ofString "sorted") p) [e] [{some<|Str.ofString "key",.Lambda params body scope Uu,kp}] pos) (iu X.K Pt Uu (X.X.qual++Str.ofString "<lambda>") i te tb):=by
 intro pins s σ H Q I h;show OA (Rp I hg hm Boot.«sorted» ?_ AP AP);let ha:PA X [e] (JP te JQ):=XX he XW hs
 show callWith_kw (thn (ha pos pins s σ H (λvs H1=>match vs with
  |[y]=>∃(p:Addr)(ns:Ac)(vx:V)(key:Int->Bool),y=.ref p/\SqL X.K H1 p (ns.H V.int)/\ns.f<64/\TabH H1 Pt Uu (X.X.qual++Str.ofString "<lambda>")/\σ[i]?=some (some vx)/\
   (∀H2,SameX Pt H1 H2->∀z∈ns,tb [some (.int z),some vx] H2 λr H3=>r=.bl (key z)/\H3=H2)/\
   ∀(ms:Ac)(l:Addr)(H2:Hp),Qn (λz=>b2i<|key z) ns ms->SameX Pt H1 H2->TabH H2 Pt Uu (X.X.qual++Str.ofString "<lambda>")->H2 l=none->Q ↑l (upd H2 l<|.lst<|ms.H V.int)
  |_=>False) I h) λus s1 hh=>?_) (by rw[hs];rfl) (by rw[hs];rfl) Z rfl
 let(vs,H1,I1,r,q):=hh
 match vs,r,q with
 |[],_,q=>show False.elim q
 |_::_::_,_,q=>show False.elim q
 |[y],r,q=>
  let(p2,ns,vx,key,rfl,hq,Qt,hT,hσ,hk,q):=q;let(u,rfl,ru):=Vi r;let rfl:u=Value.ref p2:=ru;show kws_cons (Ar I1 Ul hC hB hT OT Iw Aq λf c' pm RG s2 H2 sx tab F I2 hf Vj=>kws_nil ?_);let I3:=I2.pin1 F hf λv z=>by cases z
  let SF:=SqL.samexT hq hT sx;let(XS,rv,g1,hz):=I2.list SF;let hv:=Zu rv
  show Yz6 I3 g1.isList hv Qt (key:=key) (λpl z t s3 hmem rG=>?_) λs3 a m out ms Fa rG MA Iy Wr=>?_
  .-- the lambda called
   let MJ:s3.r.E f=some (kla_obj (Str.ofString "<lambda>") (X.X.qual++Str.ofString "<lambda>") params body scope [(x,cc)] pm c' RG):=(rG.pin (f,_)<|Yg _<|Yj _<|Yg _ Ya).1;let(mm,_,ir):=rG.loc;let(ux,rx,Aj):=ir i x vx hi hσ (.inr<|.inl hkx);let Ut:s3.r.IsCell cc (some ux):=by
    rcases Aj with ⟨kz,_⟩|⟨_,c2,e2,Vn⟩
    .simp_all
    .simp_all
   let MB:s3.r.CodeRec ↑c' (X.X.qual++Str.ofString "<lambda>"):=(rG.hok c' _ Vj).1;let VJ:Room (k+1) X.A.in1.in1:=(hr.in1).in1
   show Fi (LO (iO (u:=.int z t) (vv:=.int z) S VJ rG.env0.in1.in1 MJ MB (Ta c' pm RG _) Ut rx (rG.freeC x cc VQ) ⟨t,Z⟩ (hb f c' _ _ s3 H2<|VJ.deeper _)<|hk H2 sx z hmem) λrr s4 hh=>?_);let(u',rfl,ce):=hh;let(v',H',J',lX,e1,e2):=rG.after ce;subst e1 e2;let rfl:=lX;exists Z,J'
  .let J0:Inv X pins σ H2 s3:=rG.unpinned;let Fa0:FpOk X pins H2 a:=⟨Fa.1,Fa.2.1,Fa.2.2.1,Fa.2.2.2.1,Fa.2.2.2.2.1,λp hp=>Fa.2.2.2.2.2 p (by
    grind)⟩
   let Ds:ms.f=ns.f:=by let(pp,h1,_,rfl):=Wr;rw[Yb,h1.length_eq,NP]
   exists .ref a,_,J0.adopt hex Fa0 (u:=.lst<|ms.H V.int) {?_,out.m,m,Dt Iy,by simpa using MA},Z,q ms a H2 Wr sx tab Fa.1
   simp_all
end
abbrev SY:List (Str×Value):=[(Str.ofString "default",.none)]
section
variable{prog:Program}{w:World}{A:Around}{I S:Addr}{fp wr:List Addr}{n:Nat}{P:Nat->Value->Prop}{St:Nat->Heap->Prop}{R:Result->Shared->Prop}
def ZA9(W:Walks prog w A.in1 I fp wr n P St)(lt:Nat->Nat->Bool)(C:Heap->Prop)(ck:∀h h',C h->(∀b o,b≠S->b∉wr->h.E b=some o->h'.E b=some o)->C h')(cc:∀s i j v u E Q,C s.r->i≠j->P i v->P j u->Q (.bool (lt i j)) s->wpAny (model prog w) A.in1 (compareOp .Lt v u) Q E s)(Sn:S∉fp):∀k j s vb c,n-(j+1)=k->j+1<=n->St (j+1) s.r->P (argBest lt j) vb->C s.r->
  s.r.E S=some {cls:=.type "list",dict:=none,data:=.seq #[vb,vb] c,slots:=#[]}->
  (∀v h' tk,P (argBest lt<|n-1) v->(∀b o,b≠S->b∉wr->s.r.E b=some o->h'.E b=some o)->R (.ok<|.ret v) {s with heap:=h',toks:=tk})->
  codeAny (model prog w) A (.builtin "min.loop" {[.ref I,.none,.ref S],SY}) R s:=by
 let uz:S∉wr:=λh=>Sn (W.sub _ h);let nm:(toString "min"++toString ".loop":String)="min.loop":=AP
 intro k
 induction k with
 |zero=>
  intro j s vb c hk hj st pb ta hS hR;let ej:j+1=n:=B
  show RY wR ?_;show XT (Kq hS Z ?_);show XT (Ft<|W.done s _ _ (ej▸st) λh' tk Wa=>?_);let Ux:=Wa S _ uz hS
  show XT (wQ Ux Z<|XT<|Hb<|Ye ?_);show hR vb _ tk (by rwa[<-ej]) λb o b1 b2 e=>(YJ _ _<|XH b1).l (Wa b o b2 e)
 |succ k ih=>
  intro j s vb c hk hj st pb ta hS hR;let Xx:j+1<n:=rO
  show RY wR ?_;show XT (Kq hS Z ?_);show XT (Ft<|W.item (j+1) s _ _ Xx st λv h' tk pv XR Wa=>?_);let Ux:=Wa S _ uz hS
  let iq:=ck _ h' ta λb o _ b2 e=>Wa b o b2 e;change wpAny _ A.in1 (tryCatch (holding [v,v]<|richCompare .Lt (v) (vb) >>= _) _ >>= _) _ _ _
  show XT (Ft<|SQ<|XT<|show wpAny _ _ (compareOp .Lt (v)<|vb) _ _ _ from cc {s with heap:=h',toks:=tk} (j+1) _ v vb _ _ iq (RA<|Nat.lt_succ_of_le<|My.RM _ _) pv pb ?_);show XT (SQ<|Qf ?_);show XT (Hb<|Ye ?_);cases hb:lt (j+1) (argBest lt j) with
  |true=>
   show XT (wQ Ux Z<|XT<|Hb ?_);let up:∀b o,b≠S->h'.E b=some o->(h'.update S<|Obj.mapSeq λ_=>#[v,v]).E b=some o:=λb o b1 e=>(YJ _ _<|XH b1).l e
   show Ye {NJ Hg _,ih (j+1) _ (v) _ B Xx (W.frame _ h' _ XR λb Lc o e=>up b o (λh=>Sn<|h▸Lc) e) ?_ (ck _ _ iq λb o b1 _ e=>up b o b1 e) (YZ _ Ux Z) λv' Ai OQ Ah z9=>?_}
   .unfold argBest;lia
   .show hR v' Ai OQ Ah λb o b1 b2 e=>z9 b o b1 b2 (up b o b1<|Wa b o b2 e)
  |false=>
   show XT (Hb ?_);show Ye {NJ Hg _,ih (j+1) _ (vb) c J Xx XR ?_ iq Ux λv' Ai OQ Ah z9=>?_}
   .unfold argBest;lia
   .show hR v' Ai OQ Ah λb o b1 b2 e=>z9 b o b1 b2 (Wa b o b2 e)
def ZM7(W:Walks prog w A.in1 I fp wr n P St)(lt:Nat->Nat->Bool)(C:Heap->Prop)(ck:∀h h',C h->(∀b o,b≠S->b∉wr->h.E b=some o->h'.E b=some o)->C h')(cc:∀s i j v u E Q,C s.r->i≠j->P i v->P j u->Q (.bool (lt i j)) s->wpAny (model prog w) A.in1 (compareOp .Lt v u) Q E s)(Sn:S∉fp)(hn:0<n){c:Nat}(st:St 0 s.r)(ta:C s.r)(hS:s.r.E S=some {cls:=.type "list",dict:=none,data:=.seq #[] c,slots:=#[]})
  (hR:∀v h' tk,P (argBest lt<|n-1) v->(∀b o,b≠S->b∉wr->s.r.E b=some o->h'.E b=some o)->R (.ok<|.ret v) {s with heap:=h',toks:=tk}):
  codeAny (model prog w) A (.builtin "min.loop" {[.ref I,.none,.ref S],SY}) R s:=by
 let uz:S∉wr:=λh=>Sn (W.sub _ h);let nm:(toString "min"++toString ".loop":String)="min.loop":=AP
 show RY wR ?_;rw[Around.under_plainId Hg _];change wpAny _ A.in1 (seqItems? ↑S >>= _) _ _ s
 show XT (Kq hS Z ?_);change wpAny _ A.in1 (tryCatch (pyNext<|.ref I) _ >>= _) _ _ s
 show XT (Ft<|W.item 0 s _ _ hn st λv h' tk pv XR Wa=>?_);let Ux:=Wa S _ uz hS
 change wpAny _ A.in1 (updateSeq S (λ_=>#[v,v]) >>= _) _ _ _;show XT (wQ Ux Z ?_);let up:∀b o,b≠S->h'.E b=some o->(h'.update S<|Obj.mapSeq λ_=>#[v,v]).E b=some o:=λb o b1 e=>(YJ _ _<|XH b1).l e
 show Ye {NJ Hg _,ZA9 W lt C ck cc Sn _ 0 _ v _ Z hn (W.frame _ h' _ XR λb Lc o e=>up b o (λh=>Sn<|h▸Lc) e) pv (ck _ _ ta λb o b1 b2 e=>up b o b1<|Wa b o b2 e) (YZ _ Ux Z) λv' Ai OQ Ah z9=>?_};show hR v' Ai OQ Ah λb o b1 b2 e=>z9 b o b1 b2 (up b o b1<|Wa b o b2 e)
def Yz9(W:Walks prog w A.in1 I fp wr n P St)(hn:n=0)(Sn:S∉fp){c:Nat}(st:St 0 s.r)(hS:s.r.E S=some {cls:=.type "list",dict:=none,data:=.seq #[] c,slots:=#[]})
  (hR:∀h' tk,(∀b o,b≠S->b∉wr->s.r.E b=some o->h'.E b=some o)->R (.ok<|.ret .none) {s with heap:=h',toks:=tk}):
  codeAny (model prog w) A (.builtin "min.loop" {[.ref I,.none,.ref S],SY}) R s:=by subst hn;show RY wR ?_;show XT (Kq hS Z ?_);show XT (Ft<|W.done s _ _ st λh' tk Wa=>?_);show XT (Rv<|Ye ?_);show hR h' tk λb o _ b2 e=>Wa b o b2 e
def Za5{E:Ae}{s:Shared}{id:String}{b:Builtin}{args:Ag}{kw:List (Str×Value)}{Q:Ae}(hk:builtinKind id=none)(hp:plainId id=true)(hb:entryFor table id=some b)(ha:argsOk id ⟨args,kw⟩)
  (hc:wpAny (model prog w) A.in1 (b ⟨args,kw⟩) (λfin s'=>match fin with
   | .done f=>(match (Except.ok f:Result) with | .ok (.ret v)=>Q v s' | .ok _=>False | .error e=>E e s')
   | .again c'=>c'.quiet=true/\codeAny (model prog w) A c' (λr s'=>match r with | .ok (.ret v)=>Q v s' | .ok _=>False | .error e=>E e s') s') E s):wpAny (model prog w) A (call (.builtin id) args kw) Q E s:=by
 show Fi (codeAny_call_builtin hp hb ?_);simp only[checkBuiltinCall,hk];cases ip:Manifest.signature? id with
 |none=>show Ye hc
 |some sig=>
  let vC:Bind.checkArgs id sig ⟨args,kw⟩=pure ():=by simpa only[argsOk,ip] using ha
  simp only[vC];show Ye hc
def ik(a:Value):argsOk "min" {[a],SY}:=by kernel_rfl
def ij{E:Ae}{s:Shared}{Q:Ae}(hh:A.handled=none)(hl:s.r.IsList l (intItems xs))
  (h0:xs.o=0->∀h' tk,(∀b o,s.r.E b=some o->h'.E b=some o)->Q .none {s with heap:=h',toks:=tk})
  (h:0<xs.o->∀v h' tk,(intItems xs)[argBest (λi j=>decide<|numAt xs i<numAt xs j) (xs.o-1)]?=some v->(∀b o,s.r.E b=some o->h'.E b=some o)->Q v {s with heap:=h',toks:=tk}):
  wpAny (model prog w) A (call (.builtin "min") [.ref l] SY) Q E s:=by
 show Za5 F.kind_min F.plain_min F.entry_min (ik _) ?_;show XT (SO (a:=[none,some .none]) Z ?_);show XT (Ye ?_);show XT (iter_intList hl λs₂ e st Ll Cu=>?_);subst e;show XT (QC ?_);let W:=Walks.list (prog:=prog) (w:=w) (A:=A.in1) hh (~~~s) l Cu (intItems xs)
 obtain⟨G,hG⟩:∃G,G=s.r.push {cls:=.type "list_iterator",data:=.fields #[.ref l,.int 0 0]}:={_,Z};let hold:∀b o,s.r.E b=some o->b≠G.objs.o/\b∉[(~~~s)]/\(G.push {cls:=.type "list",data:=.seq #[] 0}).E b=some o:=λb o e=>by
  let Xx:=Yk e;let ig:b<G.objs.o:=by rw[hG];show Yp Xx (by simp_all)
  exists Yw ig,λhm=>by simp_all,Xl _<|by rw[hG];show Xl _ e
 rw[<-hG]at st Ll ⊢;let Sn:G.objs.o∉[(~~~s),l]:=λhm=>RX _ (Ll _ hm)
 let WW:=W.frame 0 G (G.push {cls:=.type "list",data:=.seq #[] 0}) st λb _ o e=>Xl _ e;let ie:(intItems xs).o=xs.o:=by simp[intItems]
 rcases Nat.eq_zero_or_pos xs.o with hz|hz
 .show Ye {NJ Hg _,Yz9 W (ie.l hz) Sn WW (Qd _ Z) λh' tk hk=>?_};show h0 hz h' tk λb o e=>by let(a1,a2,a3):=hold b o e;show hk b o a1 a2 a3
 .show Ye {NJ Hg _,ZM7 W (λi j=>decide<|numAt xs i<numAt xs j) (λ_=>True) (λ_ _ _ _=>trivial) (λs i j v u E Q _ _ pv pu q=>?_) Sn (by rwa[ie]) WW trivial (Qd _ Z) λv h' tk pv hk=>?_}
  .let⟨t1,rfl⟩:=Kh pv;let(t2,rfl):=Kh pu;show lt_int q
  .rw[ie]at pv;show h hz v h' tk pv λb o e=>by let(a1,a2,a3):=hold b o e;show hk b o a1 a2 a3
end
def z8(K:Ad)(te:TE):(TE):=λσ H Q=>te σ H λy H1=>∃p ns,y=.ref p/\SqL K H1 p (ns.H V.int)/\(ns=[]->Q .non H1)/\∀m:Int,m∈ns->(∀a∈ns,m<=a)->Q (.int m) H1
def z7{p kp pos cp:Pos}{j:Nat}(hc:X.calm=true)(hg:Gl X (Str.ofString "min"))(hm:X.mg (Str.ofString "min")=none)(he:PE X e te)(hs:autoParam (starEach [e] X.X=[(false,eval e X.X)]) D1._auto_1):
  PE X (.Call (.Name (Str.ofString "min") p) [e] [{some<|Str.ofString "default",.Constant .none j cp,kp}] pos) (z8 X.K te):=by
 intro pins s σ H Q I h;show OA (Rp I hg hm Boot.«min» ?_ AP AP);let ha:PA X [e] (JP te JQ):=XX he XW hs
 show callWith_kw (thn (ha pos pins s σ H (λvs H1=>match vs with
  |[y]=>∃p ns,y=.ref p/\SqL X.K H1 p (ns.H V.int)/\(ns=[]->Q .non H1)/\∀m:Int,m∈ns->(∀a∈ns,m<=a)->Q (.int m) H1
  |_=>False) I h) λus s1 hh=>?_) (by rw[hs];rfl) (by rw[hs];rfl) Z rfl
 let(vs,H1,I1,r,q):=hh
 match vs,r,q with
 |[],_,q=>show False.elim q
 |_::_::_,_,q=>show False.elim q
 |[y],r,q=>
  let(p2,ns,rfl,hq,q0,q1):=q;let(u,rfl,ru):=Vi r;let rfl:u=Value.ref p2:=ru;show kws_cons (Constant_none<|kws_nil ?_);let(XS,rv,pl,hz):=I1.list hq;let hi:=Zu rv
  let(xs,e'):=hi.allInts.items;let Uw:ns=xs.m.H (·.1):=by rw[<-hi.numsOf,<-wJ,<-e']
  let hl:=pl.isList;rw[e']at hl;show ij (I1.ok.hd hc) hl (λhsz h' tk hk=>?_) λhsz v h' tk hv hk=>?_
  .exists .non,H1,I1.kept (t':=tk) hk,Z,q0 ?_
   simp_all
  .let⟨t,rfl⟩:=Kh hv;let(h1,h2):=argBest_lt (numAt xs) (xs.o-1);exists .int _,H1,I1.kept (t':=tk) hk,⟨t,Z⟩,q1 _ ?_ λa ha=>?_
   .rw[Uw,numAt_eq];grind
   .rw[Uw]at ha;let(j,hj,rfl):=mem_getD ha;rw[Yb,YI]at hj;rw[<-numAt_eq];show h2 j B
end L2
namespace My
open PySem L2
def z6(K:Ad)(mg:Af)(x qual:Str)(st:Stmt)(fs:List Str)(Pt:Addr):(Prop):=∃C f fd c,mg x=some ↑C/\Fun K "__init__" qual st f fd/\Cls K C/\Mk K C f/\(∀a∈fs,NoAttr K C a)/\fd.code=.ref c/\PySem.W.codeHdIn K c Pt=true
def Ir{mg:Af}{oc:Value}{od an:Option Addr}{TB:Array (Option Value)}{kV doc pm ct:Value}(X:K.In h)(G:h.Ns mainGlobals mg)
  (aC:PySem.W.nsIn K mainGlobals x=some (some<|.ref C))(a:PySem.W.findIn K ↑C "__init__"=some (some<|.ref f))(i:PySem.W.isFn K ↑f=true)
  (l:K.S f=some {oc,od,.func<|PySem.W.fnOf "__init__" qual (LD st) (Rh st) (Xo st) .none kV doc pm an ↑cA ct,TB})(c:PySem.W.codeIn K ↑cA qual=true)(k:PySem.W.keepIn K ↑f=true)
  (pg:PySem.W.plainGet K C Str.empty=true)(hd:PySem.W.hasDictIn K C=true)(po:PySem.W.plainOver K C=true)(sa:PySem.W.findIn K ↑C "__setattr__"=some (some<|.builtin "object.__setattr__"))(mk:PySem.W.makesIn K C=true)(kc:PySem.W.keepIn K ↑C=true)
  (na:∀a∈fs,PySem.W.findIn K ↑C a=some none)(z:PySem.W.codeHdIn K cA Pt=true):z6 K mg x qual st fs Pt:=
 {C,f,_,cA,Fu X G aC,vU l c k,⟨pg,hd,po,sa⟩,⟨mk,a,i,kc⟩,na,Z,z}
def Mz(M:Ac)(ps:Aa)(g:Ac)(i:Nat):(Ac):=(Wj i).filter λz=>decide (z∉g/\mk M (ps.Q z.j (0,0)).1.j≠mk M (ps.Q z.j (0,0)).2.j)
def ic(M:Ac)(ps:Aa)(g:Ac)(i:Nat):Mz M ps g (i+1)=Mz M ps g i++if (i:Int)∉g/\mk M (ps.Q i (0,0)).1.j≠mk M (ps.Q i (0,0)).2.j then [(i:Int)] else []:=by
 unfold Mz;rw[mQ,VI];congr 1;rw[xb,List.filter_nil]
 simp_all
def g9(M:Ac)(ps:Aa)(g:Ac)(i:Nat):(Mz M ps g i).f<=i:=Yl (YL ..) (by rw[Zy];simp_all)
def WC:(Option Int->V)
 |none=>.non
 |some z=>.int z
def uw(w k s ld l i fu:V):(List (Str×V)):=[("web",w),("kept",k),("shut",s),("lead",ld),("least",l),("incoming",i),("further",fu)]
def Wu:SameX x H (upd H x o):=λb o' hb e=>by rwa[Zb hb]
def WebAt.but{C CP w x dx:Addr}(h:WebAt C H w n ps)(hx:H x=some (.ins CP dx []))(s:SameX x H H1):WebAt C H1 w n ps:=by
 let(d,tl,xs,h1,h2,h3):=h;exists d,tl,xs,s _ _ (λe=>?_) h1,s _ _ (λe=>?_) h2,h3.1,λi p e=>?_
 .rw[e,hx]at h1
  have:=YF (λo=>match o with|some (HO.ins _ _ fs)=>fs.f|_=>0) h1
  show absurd this (by change ¬0=2;decide)
 .simp_all
 .let⟨v,a1,tt,a2,a3⟩:=h3.2 i p e;exists v,a1,tt,a2,s _ _ (λe=>by simp_all) a3
def z5{CP a x dx:Addr}(h:SqT K H a xs)(hx:H x=some (.ins CP dx []))(s:SameX x H H1):SqT K H1 a xs:=by
 rcases h with (h|⟨o,h⟩)|h
 .show .inl (.inl<|s _ _ (λz=>by simp_all) h)
 .show .inl (.inr {o,s _ _ (λz=>by simp_all) h})
 .show .inr h
def g8{CP Pt x dx:Addr}(t:TabH H Pt pos qual)(hx:H x=some (.ins CP dx []))(s:SameX x H H1):TabH H1 Pt pos qual:=by
 let(ps,h1,h2,h3):=t;exists ps,s _ _ (λe=>by simp_all) h1,h2,?_;rcases h3 with h|⟨c,h,h'⟩
 .show .inl h
 .show .inr {c,h,s _ _ (λe=>by rw[e,hx]at h';cases h') h'}
def z4(ha:SqT K H a (IL l))(hb:SqT K H b (IL m))(hl:l.f+m.f<=1000)(k:∀r H',Same H H'->SqT K H' r (IL (l++m))->Q ↑r H'):Na K ↑a ↑b H Q:=by
 exists a,b,_,_,Z,Z,ha,hb,by rw[Xh,Xh];show Yl hl AP,λe=>?_,λ_ e=>?_,λ_ _ p hp=>?_
 .let el:l=[]:=Rw.R e;rw[el,Ks]at k;show k b H (Same.refl _) hb
 .let em:m=[]:=Rw.R e;rw[em,YS]at k;show k a H (Same.refl _) ha
 .show k p _ (XY hp) (SqT.of ?_);rw[XZ,vP]
def Tv(M:Ac)(ps:Aa)(z:Int):(Int×Int):=(min (mk M (ps.Q z.j (0,0)).1.j)<|mk M (ps.Q z.j (0,0)).2.j,max (mk M (ps.Q z.j (0,0)).1.j)<|mk M (ps.Q z.j (0,0)).2.j)
def ZY3{l:Ac}(hp:l.Perm [a,b])(hs:l.G (·<=·)):l=[min a b,max a b]:=by
 cases c:a<=b
 .rw[su c,Int.max_eq_right c];show vt hp hs (by simp_all)
 .rw[Int.min_eq_right J,Int.max_eq_left B];show vt (hp.l<|List.Perm.swap b a []) hs (by simp;lia)
def z3{z:Int}(h:z∈Mz M ps g i):0<=z/\z<(i:Int):=Xp.R (Yr.R h).1
def Wz(n:Int)(ps:Aa)(I O F:Ac):(Ac):=Mz (Xr n.j<|XQ ps I) ps (I++O++F) ps.f
def Sg(n:Int)(ps:Aa)(I O F:Ac)(ld:Option Int):(Ac):=(Wz n ps I O F).filter λz=>decide (∃y,ld=some y/\Tv (Xr n.j<|XQ ps I) ps z=Tv (Xr n.j<|XQ ps I) ps y)
def Vl(n:Int)(ps:Aa)(I O F:Ac)(ld:Option Int):(Ac):=(Wz n ps I O F).filter λz=>decide (z∉Sg n ps I O F ld)
def PartAt(K:Ad)(CP C:Addr)(H:Hp)(x:Addr)(n:Int)(ps:Aa)(I O F inc:Ac)(ld fu:Option Int):(Prop):=∃dx w a b l i,H x=some (.ins CP dx<|uw ↑w ↑a ↑b (WC ld) ↑l ↑i<|WC fu)/\WebAt C H w n ps/\SqT K H a (IL I)/\SqT K H b (IL O)/\H l=some (.tup<|IL F)/\H i=some (.lst<|IL inc)
def PartAt.samex(h:PartAt K CP C H x n ps I O F inc ld fu)(t:TabH H Pt pos qual)(sx:SameX Pt H H2):PartAt K CP C H2 x n ps I O F inc ld fu:=by let(dx,w,a,b,l,i,h1,h2,h3,h4,h5,h6):=h;exists dx,w,a,b,l,i,sx _ _ (t.ne h1 Fe) h1,h2.samex t sx,SqK.samex (kd:=true) h3 t sx,SqK.samex (kd:=true) h4 t sx,sx _ _ (t.ne h5 Fe) h5,sx _ _ (t.ne h6 Fe) h6
structure PartOk(n:Int)(ps:Aa)(I O:Ac)(ld:Option Int)(F inc:Ac)(fu:Option Int):Prop where
 tr:With n ps I O F
 least:∀U,With n ps I O U->HT.lexLt U F=false
 inc:Qn (λz=>PyProof.Rows.b2i<|decide<|ld=some z) (Sg n ps I O F ld) inc
 none:fu=none↔Vl n ps I O F ld=[]
 some:∀y,fu=some y->y∈Vl n ps I O F ld/\∀z∈Vl n ps I O F ld,y<=z
def xchT(F:Ac)(o z:Int):(Ac):=(wo F o++[z]).mergeSort λa b=>decide (a<=b)
def zw(F:Ac)(o z:Int):(xchT F o z).Perm (wo F o++[z]):=List.mergeSort_perm _ _
def uu(F:Ac)(o z:Int):(xchT F o z).G (·<=·):=by
 show(b7 (le:=λa b:Int=>decide<|a<=b) (λa b c h1 h2=>?_) (λa b=>?_) _).imp λh=>YO h
 .lia
 lia
def UO(n:Int)(ps:Aa)(I F:Ac)(z:Int):(Ac):=(SH n ps F z F).filter λt=>decide (t∉I)
section
variable{n:Int}{ps:Aa}{I O F T M:Ac}{x y z:Int}(g:GoodW n ps)
include g
def ur(hF:With n ps I O F)(he:exg n ps F x y)(hx:x∉I)(hy:y∉O)(hp:M.Perm (wo F x++[y]))(hs:M.G (·<=·)):With n ps I O M:=by
 exists Jm g hF.1 he hp hs,λv hv=>(MW g hF.1 he hp hs).mpr (.inl {hF.2.1 v hv,λe=>hx<|e▸hv}),λv hv h=>?_;rcases(MW g hF.1 he hp hs).R h with h|h
 .show hF.2.2 v hv h.1
 lia
def ZK5(hF:Zg n ps F)(he:exg n ps F x y)(h:y<x)(hp:M.Perm (wo F x++[y]))(hs:M.G (·<=·)):HT.lexLt M F=true:=by
 let tM:=Jm g hF he hp hs;let yF:y∉F:=((MY g hF).R he).2.1
 show(jK (XU.R tM.1).2 (XU.R hF.1).2 (by have:=tM.2.1;have:=hF.2.1;lia)).mpr ⟨y,(MW g hF he hp hs).mpr (.inr Z),yF,λs VL=>?_⟩;rw[MW g hF he hp hs];lia
def g7(hF:With n ps I O F)(Qm:∀U,With n ps I O U->HT.lexLt U F=false)(hT:With n ps (I++[z]) O T)(hTm:∀U,With n ps (I++[z]) O U->HT.lexLt U T=false):∀v∈T,v∈F\/v=z:=λv hv=>Yt λno=>by
 let vF:v∉F:=λh=>no (.inl h);let(u,e1,e2):=Za4 g hT.1 hF.1 hv vF;let uF:u∈F:=e2.1
 let uT:u∉T:=((MY g hT.1).R e1).2.1;let uI:u∉I:=λh=>uT (hT.2.1 u<|Yj _ h)
 let vO:v∉O:=λh=>hT.2.2 v h hv;let uO:u∉O:=λh=>hF.2.2 u h uF
 let vI:v∉I++[z]:=λh=>by
  rcases Xk.R h with h|h
  .show vF (hF.2.1 v h)
  simp_all
 let uv:u≠v:=λe=>uT (e▸hv);let(M1,p1,q1):=mL (wo F u++[v]);let w1:=ur g hF e2 uI vO p1 q1
 let(M2,p2,q2):=mL (wo T v++[u]);let w2:=ur g hT e1 vI uO p2 q2
 rcases Int.lt_or_lt_of_ne uv with h|h
 .have:=ZK5 g hT.1 e1 h p2 q2
  simp_all
 .have:=ZK5 g hF.1 e2 h p1 q1
  simp_all
def ZZ7(hF:With n ps I O F)(Qm:∀U,With n ps I O U->HT.lexLt U F=false)(hz:z∉F):With n ps I (O++[z]) F/\∀U,With n ps I (O++[z]) U->HT.lexLt U F=false:=
 {{hF.1,hF.2.1,λv hv=>(Xk.R hv).elim (hF.2.2 v) λh=>by simp_all},λU hU=>Qm U {hU.1,hU.2.1,λv hv=>hU.2.2 v<|Yj _ hv}}
end
def QN{z:Int}:With n ps I O T↔With n ps I (O++[z]) T\/With n ps (I++[z]) O T:=by
 constructor
 .intro h;cases c:z∈T
  .show .inr {h.1,λv hv=>(Xk.R hv).elim (h.2.1 v) λe=>by simp_all,h.2.2}
  .show .inl {h.1,h.2.1,λv hv=>(Xk.R hv).elim (h.2.2 v) λe=>B}
 .rintro(h|h)
  .exists h.1,h.2.1,λv hv=>h.2.2 v<|Yj _ hv
  .exists h.1,λv hv=>h.2.1 v<|Yj _ hv,h.2.2
def RowAll(n:Int)(ps:Aa)(I O:Ac)(R:Ab):(Prop):=R.Nodup/\∀T,T∈R↔With n ps I O T
def RowAll.pc(h:RowAll n ps I O R):PC n ps I O R.f:={R,h.1,λl=>h.2 l,Z}
def Zq7{z:Int}(hA:RowAll n ps I (O++[z]) A)(hB:RowAll n ps (I++[z]) O rH):RowAll n ps I O (A++rH.reverse):=by
 exists VG.mpr {hA.1,(FA rH).nodup_iff.mpr hB.1,λa ha b hb e=>?_},λT=>?_
 .subst e;show((hA.2 a).R ha).2.2 z Fe (((hB.2 a).R (Hn.R hb)).2.1 z Fe)
 .rw[Xk,Hn,hA.2,hB.2];show QN.symm
def g6{a b c d:Int}(h1:min a b=min c d)(h2:max a b=max c d):(a=c/\b=d)\/(a=d/\b=c):=by lia
section
variable{n:Int}{ps:Aa}{I O F T:Ac}{o t t':Int}(g:GoodW n ps)
include g
def Zc7(hT:Zg n ps T)(ho:o∈T):¬Conn (XQ ps (wo T o)) (Zz ps o).1 (Zz ps o).2:=by let(o0,o1):=hT.1.all o ho;show(Of g hT o0 o1).R ((De g hT ho ho).mpr Z)
def gZ(hT:Zg n ps T)(hI:∀v∈I,v∈T)(ht:t∈T)(hn:t∉I):¬Conn (XQ ps I) (Zz ps t).1 (Zz ps t).2:=λc=>
 Zc7 g hT ht (c.mono<|Vg λv hv=>Xj.mpr {hI v hv,λe=>hn<|by simp_all})
def gY(WZ:∀z∈I,0<=z/\z<ps⁻¹)(t0:0<=t)(t1:t<ps⁻¹)(s0:0<=t')(s1:t'<ps⁻¹)(h:Tv (Xr n.j (XQ ps I)) ps t=Tv (Xr n.j (XQ ps I)) ps t'):
  (Conn (XQ ps I) (Zz ps t).1 (Zz ps t').1/\Conn (XQ ps I) (Zz ps t).2 (Zz ps t').2)\/(Conn (XQ ps I) (Zz ps t).1 (Zz ps t').2/\Conn (XQ ps I) (Zz ps t).2 (Zz ps t').1):=by
 let Wt:=ZO g WZ;let a:=Tg (z:=t) g t0 t1
 let b:=Tg (z:=t') g s0 s1;let(h1,h2):=Prod.mk.inj h;rw[<-Ra Wt a.1 b.1,<-Ra Wt a.2 b.2,<-Ra Wt a.1 b.2,<-Ra Wt a.2 b.1];show g6 h1 h2
def gX(WZ:∀z∈I,0<=z/\z<ps⁻¹)(hT:Zg n ps T)(hI:∀v∈I,v∈T)(ht:t∈T)(hs:t'∈T)(hn:t∉I)(Ot:t'∉I)(h:Tv (Xr n.j (XQ ps I)) ps t=Tv (Xr n.j (XQ ps I)) ps t'):t=t':=Yt λne=>by
 let(t0,t1):=hT.1.all t ht;let(s0,s1):=hT.1.all t' hs;let sub:∀v∈I++[t],v∈wo T t':=λv hv=>by
  rcases Xk.R hv with hv|hv
  .show Xj.mpr {hI v hv,λe=>Ot J}
  .rw[Xc.R hv];show Xj.mpr ⟨ht,ne⟩
 let up:∀{i j},Conn (XQ ps I) i j->Conn (XQ ps<|I++[t]) i j:=λc=>c.mono (Vg λv hv=>Yj _ hv);let ed:Conn (XQ ps<|I++[t]) (Zz ps t).1 (Zz ps t).2:=.edge (Yz.mpr ⟨t,Fe,Z⟩)
 let c:Conn (XQ ps<|I++[t]) (Zz ps t').1 (Zz ps t').2:=by
  rcases gY g WZ t0 t1 s0 s1 h with ⟨a,b⟩|⟨a,b⟩
  .show((up a).symm.l ed).l (up b)
  .show((up b).symm.l ed.symm).l (up a)
 show Zc7 g hT hs (c.mono<|Vg sub)
def zu(WZ:∀z∈I,0<=z/\z<ps⁻¹)(hT:With n ps I O T)(hF:∀v∈I,v∈F)(ht:t∈T)(hn:t∉F):t∈Wz n ps I O F:=by
 let(t0,t1):=hT.1.1.all t ht;let a:=Tg (z:=t) g t0 t1
 let hI:t∉I:=λh=>hn (hF t h);show Yr.mpr {Xp.mpr ⟨t0,t1⟩,YE {λh=>?_,λe=>?_}}
 .rcases Xk.R h with h|h
  .rcases Xk.R h with h|h
   .show hI h
   .show hT.2.2 t h ht
  lia
 .show gZ g hT.1 hT.2.1 ht hI ((Ra (ZO g WZ) a.1 a.2).R e)
end
def SD(n:Int)(ps:Aa)(I F:Ac)(asc:Bool)(z:Int):(Ab):=if asc then (UO n ps I F z).H λo=>xchT F o z else ((UO n ps I F z).H λo=>xchT F o z).reverse
def SA(n:Int)(ps:Aa)(I F:Ac):(Ac->Bool->Ab)
 |[],_=>[]
 |z::r,asc=>SD n ps I F asc z++SA n ps I F r (!asc)
def Za7(n:Int)(ps:Aa)(I F:Ac)(z:Int):∀l asc,SA n ps I F (l++[z]) asc=SA n ps I F l asc++SD n ps I F (asc != (l.f%2 == 1)) z
 |[],asc=>by
  change SD n ps I F asc z++[]=[]++SD n ps I F (asc != false) z
  simp_all
 |y::l,asc=>by change SD n ps I F asc y++SA n ps I F (l++[z]) (!asc)=SD n ps I F asc y++SA n ps I F l (!asc)++_;rw[Za7 n ps I F z l,YV,YW];congr 3;lia
def gW(n:Int)(ps:Aa)(I F:Ac)(asc:Bool)(z:Int):(SD n ps I F asc z).f<=F.f:=by
 unfold SD;let h:(UO n ps I F z).f<=F.f:=Yl (YL ..) (GH n ps F z F)
 grind
def zt(n:Int)(ps:Aa)(I F:Ac):∀l asc,(SA n ps I F l asc).f<=l.f*F.f
 |[],_=>Yc _
 |z::l,asc=>by
  change(SD n ps I F asc z++SA n ps I F l (!asc)).f<=_;rw[Xe,YW,Nat.succ_mul]
  have:=gW n ps I F asc z
  have:=zt n ps I F l (!asc)
  lia
def uq(n:Int)(ps:Aa)(I F inc:Ac):(Ab):=F::SA n ps I F inc (inc.f%2 == 1)
def VY:o∈SH n ps F t F↔o∈F/\t∈Tf n ps F o:=by unfold SH;rw[Yr,Qg];show Iff.rfl
def Wm{o t v:Int}:v∈xchT F o t↔(v∈F/\v≠o)\/v=t:=by rw[(zw F o t).mem_iff,Xk,Xj,Xc]
section
variable{n:Int}{ps:Aa}{I O F T:Ac}{ld:Option Int}{o t:Int}(g:GoodW n ps)
include g
def gV(WZ:∀z∈I,0<=z/\z<ps⁻¹)(hF:With n ps I O F)(hu:Vl n ps I O F ld=[])(hT:With n ps I O T):T=F\/∃t∈Wz n ps I O F,∃o∈UO n ps I F t,T=xchT F o t:=by
 cases c:∀v∈T,v∈F
 .show .inl (Zd7 g hT.1 hF.1 c)
 .obtain⟨t,ht,hn⟩:∃t,t∈T/\t∉F:=Yt λno=>c λv hv=>Yt λhn=>no ⟨v,hv,hn⟩;let hto:=zu g WZ hT hF.2.1 ht hn
  let alike:∀v∈Wz n ps I O F,∃y,ld=some y/\Tv (Xr n.j<|XQ ps I) ps v=Tv (Xr n.j<|XQ ps I) ps y:=λv hv=>by
   let hm:v∈Sg n ps I O F ld:=Yt λno=>by
    have:v∈Vl n ps I O F ld:=Yr.mpr {hv,YE no}
    simp_all
   show YO (Yr.R hm).2
  let only:∀v∈T,v∉F->v=t:=λv hv hvn=>by let(y,e1,e2):=alike v (zu g WZ hT hF.2.1 hv hvn);let(y',e3,e4):=alike t hto;rw[e1]at e3;cases e3;show gX g WZ hT.1 hT.2.1 hv ht (λh=>hvn<|hF.2.1 v h) (λh=>hn<|hF.2.1 t h) (e2.l e4.symm)
  let(o,e1,e2):=Za4 g hT.1 hF.1 ht hn;let oT:o∉T:=((MY g hT.1).R e1).2.1
  let hM:=Jm g hF.1 e2 (zw F o t) (uu F o t);show .inr {t,hto,o,Yr.mpr {VY.mpr ⟨e2.1,e2.2.2⟩,YE λh=>oT<|hT.2.1 o h},Zd7 g hT.1 hM λv hv=>Wm.mpr ?_};grind
def gU(hF:With n ps I O F)(ht:t∈Wz n ps I O F)(ho:o∈UO n ps I F t):With n ps I O (xchT F o t):=by
 let(h1,h2):=Yr.R ht;let(hg,_):=YO h2;let(h3,h4):=Yr.R ho;let(h5,h6):=VY.R h3;let tF:t∉F:=λh=>hg (Yg _ h)
 show ur g hF {h5,λe=>tF J,h6} (YO h4) (λh=>hg<|Yj _<|Yg _ h) (zw F o t) (uu F o t)
end
def RF{I F T:Ac}:T∈SD n ps I F asc z↔∃o∈UO n ps I F z,T=xchT F o z:=by
 let h:T∈((UO n ps I F z).H λo=>xchT F o z)↔∃o∈UO n ps I F z,T=xchT F o z:=by rw[Yz];exists λzz=>by let(o,h1,h2):=zz;show⟨o,h1,h2.symm⟩,λzz=>by let(o,h1,h2):=zz;exists o,h1,h2.symm
 unfold SD;split
 .show h
 .rw[Hn];show h
def Va{I F T:Ac}:∀{l:Ac}{asc:Bool},T∈SA n ps I F l asc↔∃z∈l,∃o∈UO n ps I F z,T=xchT F o z
 |[],_=>{λh=>(by cases h),λzz=>by let(_,h,_):=zz;show(by cases h)}
 |z::l,asc=>by
  change T∈SD n ps I F asc z++SA n ps I F l (!asc)↔_;rw[Xk,RF,Va]
  simp_all
def zr(ht:t∉F)(e:xchT F o t=xchT F o' t'):t=t':=by
 have:t∈xchT F o' t':=e▸Wm.mpr (.inr Z)
 rcases Wm.R this with h|h
 .simp_all
 lia
def zq(ho:o∈F)(ht:t∉F)(e:xchT F o t=xchT F o' t):o=o':=Yt λne=>by
 let h1:o∈xchT F o' t:=Wm.mpr (.inl ⟨ho,ne⟩);rw[<-e]at h1;rcases Wm.R h1 with h|h
 .lia
 simp_all
def ZB9(hF:F.Nodup)(hz:z∉F):(SD n ps I F asc z).Nodup:=by
 let hm:∀v∈UO n ps I F z,v∈F:=λv hv=>(VY.R (Yr.R hv).1).1;let h:((UO n ps I F z).H λo=>xchT F o z).Nodup:=by let hd:(UO n ps I F z).G (·≠·):=(hF.filter _).filter _;show LQ.mpr (Kk (λ{a b} ha hb Vq e=>Vq<|zq (hm a ha) hz e) hd)
 unfold SD;split
 .show h
 .show(FA _).nodup_iff.mpr h
def Zm5(hF:F.Nodup):∀{l:Ac}{asc:Bool},l.Nodup->(∀z∈l,z∉F)->(SA n ps I F l asc).Nodup
 |[],_,_,_=>.nil
 |z::l,asc,hn,hl=>by
  let(n1,n2):=QA.R hn;show VG.mpr {ZB9 hF<|hl z Ya,Zm5 hF n2 λv hv=>hl v<|Yf _ hv,λa ha b hb e=>?_};let(o,_,h1):=RF.R ha;let(z',hz',o',_,h2):=Va.R hb;rw[h1,h2]at e
  have:=zr (hl z Ya) e
  lia
def gT(g:GoodW n ps)(WZ:∀z∈I,0<=z/\z<ps⁻¹)(hF:With n ps I O F)(hu:Vl n ps I O F ld=[])(SX:∀z,z∈inc↔z∈Wz n ps I O F)(hn:inc.Nodup):RowAll n ps I O (uq n ps I F inc):=by
 let uo:∀z∈inc,z∉F:=λz hz h=>(YO (Yr.R<|(SX z).R hz).2).1 (Yg _ h);exists QA.mpr {λh=>?_,Zm5 hF.1.1.nodup hn uo},λT=>?_
 .let⟨z,hz,o,_,e⟩:=Va.R h;show uo z hz (by rw[e];show Wm.mpr<|.inr Z)
 .unfold uq;rw[Yo,Va];constructor
  .rintro(h|⟨z,hz,o,ho,rfl⟩)
   .simp_all
   .show gU g hF ((SX z).R hz) ho
  .intro h;rcases gV g WZ hF hu h with e|⟨t,ht,o,ho,e⟩
   .show .inl e
   .show .inr {t,(SX t).mpr ht,o,ho,e}
def zm{u v i j:Nat}(c:Conn (es++[(u,v)]) i j):Conn es i j\/(Conn es i u/\Conn es v j)\/(Conn es i v/\Conn es u j):=by
 induction c with
 |refl i=>show .inl (.refl i)
 |edge h=>
  rcases Xk.R h with h|h
  .show .inl (.edge h)
  .cases Xc.R h;show .inr (.inl {.refl _,.refl _})
 |symm _ ih=>
  rcases ih with a|⟨a,b⟩|⟨a,b⟩
  .show .inl a.symm
  .show .inr (.inr ⟨b.symm,a.symm⟩)
  .show .inr (.inl ⟨b.symm,a.symm⟩)
 |trans _ _ Ob RL=>
  rcases Ob with a|⟨a,b⟩|⟨a,b⟩<;>rcases RL with c|⟨c,d⟩|⟨c,d⟩
  .show .inl (a.l c)
  .show .inr (.inl {a.l c,d})
  .show .inr (.inr {a.l c,d})
  .show .inr (.inl {a,b.l c})
  .show .inr (.inl ⟨a,d⟩)
  .show .inl (a.l d)
  .show .inr (.inr {a,b.l c})
  .show .inl (a.l d)
  .show .inr (.inr ⟨a,d⟩)
def Zf9{key:Int->Int}(h:Qn key ns ms):ms.Perm ns:=by
 let(p,h1,_,rfl):=h;let e:(List.range ns.f).H (λi=>ns.Q i 0)=ns:=by
  show LP λi=>?_;rw[Yn];cases c:i<ns.f
  .simp_all
  .simp_all
 grind
def gS(key:Int->Int)(ns:Ac):∃ms,Qn key ns ms:=by
 let hp:=List.mergeSort_perm (List.range ns.f) λi j=>decide (key (ns.Q i 0)<key (ns.Q j 0)\/(key (ns.Q i 0)=key (ns.Q j 0)/\i<=j));let hs:=b7 (le:=λi j=>decide<|key (ns.Q i 0)<key (ns.Q j 0)\/(key (ns.Q i 0)=key (ns.Q j 0)/\i<=j)) (λa b c h1 h2=>B) (λa b=>B) (List.range ns.f)
 exists _,_,hp,?_,Z;show(hs.and<|hp.nodup_iff.mpr List.nodup_range).imp λ{a b} h=>?_;change key (ns.Q a 0)<key (ns.Q b 0)\/(key (ns.Q a 0)=key (ns.Q b 0)/\a<b)
 grind
def gR(n:Int)(ps:Aa)(I O F:Ac)(ld:Option Int):(Vl n ps I O F ld).G (·<·):=((vp _).filter _).filter _
def um(g:GoodW n ps)(ld:Option Int)(h:∃U,With n ps I O U):∃F inc fu,PartOk n ps I O ld F inc fu:=by
 let(L,l1,l2):=jx g;let(U,hU):=h;obtain⟨F,hF,hm⟩:∃F,With n ps I O F/\∀U,With n ps I O U->HT.lexLt U F=false:=by
  let key:∀M:Ab,M.G WV->(∃U∈M,With n ps I O U)->∃F∈M,With n ps I O F/\∀U∈M,With n ps I O U->HT.lexLt U F=false:=by
   intro M
   induction M with
   |nil=>rintro _ ⟨U,h,_⟩;cases h
   |cons x M ih=>
    intro hp hex;let(p1,p2):=YN.R hp;cases c:With n ps I O x
    .exists x,Ya,c,λV hV _=>?_;rcases Yo.R hV with e|e
     .rw[e];show Xg x
     .cases q:HT.lexLt V x with
      |false=>rfl
      |true=>
       let z:=WM q (p1 V e);rw[Xg]at z;cases z
    .let⟨V,hV,hw⟩:=hex;let(F,hF,a,b):=ih p2 {V,(Yo.R hV).resolve_left λe=>c<|e▸hw,hw};grind
  let(F,_,a,b):=key L l2 {U,(l1 U).mpr hU.1,hU};exists F,a,λV hV=>b V ((l1 V).mpr hV.1) hV
 let(inc,hi):=gS (λz=>PyProof.Rows.b2i<|decide<|ld=some z) (Sg n ps I O F ld);let Wv:=gR n ps I O F ld
 cases hu:Vl n ps I O F ld with
 |nil=>exists F,inc,none,hF,hm,hi,{λ_=>hu,λ_=>rfl},λy h=>by cases h
 |cons y l=>
  rw[hu]at Wv;exists F,inc,some y,hF,hm,hi,{λh=>(by cases h),λh=>(by simp_all)},λv h=>?_;cases h;rw[hu];exists Ya,λv hv=>?_;rcases Yo.R hv with e|e
  .rw[e];show Ko _
  .show Rt ((YN.R Wv).1 v e)
inductive RowR(n:Int)(ps:Aa):Nat->Ac->Ac->Option Int->Ab->Prop
 |und {d:Nat} {I O F inc:Ac} {ld:Option Int}:PartOk n ps I O ld F inc none->inc.f<=30->(∀z∈inc,z∉F/\0<=z/\z<ps⁻¹)->RowR n ps d I O ld (uq n ps I F inc)
 |div {d:Nat} {I O F inc:Ac} {z y:Int} {A rH:Ab}:PartOk n ps I O (some z) F inc (some y)->(I++[z]).Nodup->(∀v∈I++[z],0<=v/\v<ps⁻¹)->(∀v∈I++[z],v∉O)->(O++[z]).f<=30->(∃U,With n ps (I++[z]) O U)->(∃U,With n ps I (O++[z]) U)->0<=y->y<ps⁻¹->PC n ps I (O++[z]) A.f->RowR n ps d I (O++[z]) (some y) A->RowR n ps d (I++[z]) O (some y) rH->RowR n ps (d+1) I O (some z) (A++rH.reverse)
def Ze9{key:Int->Int}(h:Qn key ns ms)(h':Qn key ns ms'):ms=ms':=by
 let(p,h1,h2,rfl):=h;let(p',Bg,h2',rfl):=h';let e:p=p':=List.Perm.eq_of_pairwise (le:=Ahd λi=>key<|ns.Q i 0) (λa b _ _ x y=>by unfold Ahd at x y;lia) h2 h2' (h1.l Bg.symm)
 rw[e]
def PartOk.uniq{n:Int}{ps:Aa}{I O F F' inc VN:Ac}{ld fu Gg:Option Int}(h1:PartOk n ps I O ld F inc fu)(h2:PartOk n ps I O ld F' VN Gg):F=F'/\inc=VN/\fu=Gg:=by
 let eF:F=F':=WJ (h2.least F h1.tr) (h1.least F' h2.tr);subst eF;exists Z,Ze9 h1.inc h2.inc,?_;cases fu with
 |none=>
  cases Gg with
  |none=>rfl
  |some y=>
   have:=(h2.some y Z).1
   rw[h1.none.R Z]at this
   simp_all
 |some y=>
  cases Gg with
  |none=>
   have:=(h1.some y Z).1
   rw[h2.none.R Z]at this
   simp_all
  |some y'=>
   let(a1,a2):=h1.some y rfl;let(b1,b2):=h2.some y' rfl;grind
def RowW(n:Int)(ps:Aa)(R:Ab):(Prop):=∃ld F inc fu,PartOk n ps [] [] ld F inc fu/\(ld=none↔Wz n ps [] [] F=[])/\(∀y,ld=some y->y∈Wz n ps [] [] F/\∀z∈Wz n ps [] [] F,y<=z)/\RowR n ps 31 [] [] ld R/\TC n ps R.f
section
variable{n:Int}{ps:Aa}{I O F:Ac}{y z:Int}(g:GoodW n ps)
include g
def Sf(WZ:∀v∈I,0<=v/\v<ps⁻¹):z∈Wz n ps I O F↔(0<=z/\z<ps⁻¹)/\z∉I/\z∉O/\z∉F/\¬Conn (XQ ps I) (Zz ps z).1 (Zz ps z).2:=by
 unfold Wz Mz;rw[Yr,Xp,Qg];constructor
 .rintro⟨h,h1,h2⟩;let a:=Tg (z:=z) g h.1 h.2
  exists h,λq=>h1<|Yj _<|Yj _ q,λq=>h1<|Yj _<|Yg _ q,λq=>h1<|Yg _ q,λc=>h2<|(Ra (ZO g WZ) a.1 a.2).mpr c
 .rintro⟨h,h1,h2,h3,h4⟩;let a:=Tg (z:=z) g h.1 h.2
  exists h,λq=>?_,λe=>h4<|(Ra (ZO g WZ) a.1 a.2).R e;grind
def ZZ8(WZ:∀v∈I,0<=v/\v<ps⁻¹)(hF:With n ps I O F)(hz:z∈Wz n ps I O F):∃U,With n ps (I++[z]) O U:=by
 let((z0,z1),zI,zO,zF,hc):=(Sf g WZ).R hz;obtain⟨o,ho,hoI⟩:∃o,o∈SH n ps F z F/\o∉I:=Yt λno=>hc ((Zw5 g hF.1 z0 z1).mono (Vg λv hv=>Yt λh=>no ⟨v,hv,h⟩));let(h5,h6):=VY.R ho;let he:exg n ps F o z:={h5,λe=>zF J,h6}
 let hw:=ur g hF he hoI zO (zw F o z) (uu F o z);exists xchT F o z,hw.1,λv hv=>?_,hw.2.2;rcases Xk.R hv with hv|hv
 .show hw.2.1 v hv
 .rw[Xc.R hv];show Wm.mpr (.inr Z)
def gQ(WZ:∀v∈I,0<=v/\v<ps⁻¹)(y0:0<=y/\y<ps⁻¹)(z0:0<=z/\z<ps⁻¹)(h:(Conn (XQ ps I) (Zz ps y).1 (Zz ps z).1/\Conn (XQ ps I) (Zz ps z).2 (Zz ps y).2)\/(Conn (XQ ps I) (Zz ps y).1 (Zz ps z).2/\Conn (XQ ps I) (Zz ps z).1 (Zz ps y).2)):Tv (Xr n.j (XQ ps I)) ps y=Tv (Xr n.j (XQ ps I)) ps z:=by
 let Wt:=ZO g WZ;let a:=Tg (z:=y) g y0.1 y0.2
 let b:=Tg (z:=z) g z0.1 z0.2;rw[<-Ra Wt a.1 b.1,<-Ra Wt b.2 a.2,<-Ra Wt a.1 b.2,<-Ra Wt b.1 a.2]at h;change(min (mk (Xr n.j<|XQ ps I) (Zz ps y).1)<|mk (Xr n.j<|XQ ps I) (Zz ps y).2,max (mk (Xr n.j<|XQ ps I) (Zz ps y).1)<|mk (Xr n.j<|XQ ps I) (Zz ps y).2)=(min (mk (Xr n.j<|XQ ps I) (Zz ps z).1)<|mk (Xr n.j<|XQ ps I) (Zz ps z).2,max (mk (Xr n.j<|XQ ps I) (Zz ps z).1)<|mk (Xr n.j<|XQ ps I) (Zz ps z).2)
 grind
end
section
variable{n:Int}{ps:Aa}(g:GoodW n ps)
include g
def zk(d:Nat)(hP:PartOk n ps I O ld F inc fu)(WZ:∀v∈I,0<=v/\v<ps⁻¹)(hu:Vl n ps I O F ld=[]):∃R,RowR n ps d I O ld R/\RowAll n ps I O R:=by
 let rfl:=hP.none.mpr hu;let hp:=Zf9 hP.inc
 let MI:(Sg n ps I O F ld).Nodup:=((((vp _).imp λh e=>by simp_all:(Wj ps.f).Nodup)).filter _).filter _;let SX:∀z,z∈inc↔z∈Wz n ps I O F:=λz=>by
  rw[hp.mem_iff];constructor
  .show λh=>(Yr.R h).1
  .intro h;show Yt λno=>?_
   have:z∈Vl n ps I O F ld:=Yr.mpr {h,YE no}
   simp_all
 let hlen:inc.f<=30:=by rw[hp.length_eq];show Yl (YL ..) (Yl (g9 _ _ _ _) g.2.2.1)
 exists _,.und hP hlen λz hz=>by let(h1,_,_,h2,_):=(Sf g WZ).R ((SX z).R hz);show⟨h2,h1⟩,gT g WZ hP.tr hu SX<|hp.nodup_iff.mpr MI
def gP:∀d I O F inc ld fu,PartOk n ps I O ld F inc fu->I.Nodup->(∀v∈I,0<=v/\v<ps⁻¹)->(∀v∈I,v∉O)->O.Nodup->(∀v∈O,0<=v/\v<ps⁻¹)->(ld=none->Wz n ps I O F=[])->(∀z,ld=some z->z∈Wz n ps I O F)->ps.f<=d+I.f+O.f->∃R,RowR n ps d I O ld R/\RowAll n ps I O R:=by
 intro d
 induction d with
 |zero=>
  intro I O F inc ld fu hP hIn WZ Vb uj ui _ _ hm;show zk g 0 hP WZ ?_;let uo:Wz n ps I O F=[]:=cC.mpr λz hz=>by
   let(h1,h2,h3,_):=(Sf g WZ).R hz;let nd:(z::(I++O)).Nodup:=QA.mpr {λh=>(Xk.R h).elim h2 h3,VG.mpr {hIn,uj,λa ha b hb e=>Vb a ha<|e▸hb}}
   have:=Gu (m:=Wj ps.f) nd λv hv=>Xp.mpr (by
    rcases Yo.R hv with e|e
    .rw[e];show h1
    .show(Xk.R e).elim (WZ v) (ui v))
   rw[Zy,YW,Xe]at this;lia
  unfold Vl;rw[uo];rfl
 |succ d ih=>
  intro I O F inc ld fu hP hIn WZ Vb uj ui NZ SW hm;cases hu:Vl n ps I O F ld=[]
  .show zk g _ hP WZ hu
  obtain⟨y,rfl⟩:∃y,fu=some y:=by
   cases fu with
   |none=>show absurd (hP.none.R Z) hu
   |some y=>lia
  let(yu,_):=hP.some y rfl;let(yo,ya):=Yr.R yu;let ya:=YO ya
  obtain⟨z,rfl⟩:∃z,ld=some z:=by
   cases ld with
   |none=>simp_all
   |some z=>lia
  let zo:=SW z rfl;let(zj,yI,yO,yF,yc):=(Sf g WZ).R yo;let(gO,zI,zO,zF,zc):=(Sf g WZ).R zo;let XJ:Tv (Xr n.j<|XQ ps I) ps y≠Tv (Xr n.j<|XQ ps I) ps z:=λe=>ya (Yr.mpr {yo,YE ⟨z,Z,e⟩})
  let yz:y≠z:=λe=>XJ (by rw[e]);let hIz:(I++[z]).Nodup:=VG.mpr {hIn,Fe,λa ha b hb e=>zI B}
  let hOz:(O++[z]).Nodup:=VG.mpr {uj,Fe,λa ha b hb e=>zO B};let Iq:∀v∈I++[z],0<=v/\v<ps⁻¹:=λv hv=>(Xk.R hv).elim (WZ v) λh=>by rwa[Xc.R h]
  let zi:∀v∈O++[z],0<=v/\v<ps⁻¹:=λv hv=>(Xk.R hv).elim (ui v) λh=>by rwa[Xc.R h]
  let Ip:(O++[z]).f<=30:=by
   have:=Gu (m:=Wj ps.f) hOz λv hv=>Xp.mpr (zi v hv)
   rw[Zy]at this
   have:=g.2.2.1
   lia
  let zh:∀v∈I++[z],v∉O:=λv hv=>(Xk.R hv).elim (Vb v) λh=>B;let gN:∀v∈I,v∉O++[z]:=λv hv h=>(Xk.R h).elim (Vb v hv) λh=>zI B
  let(s1,s2):=ZZ7 g hP.tr hP.least zF;let(F1,Mw,uh,II):=um g (some y) ⟨F,s1⟩;let e1:F1=F:=WJ (s2 F1 II.tr) (II.least F s1)
  subst e1;let hW:=ZZ8 g WZ hP.tr zo
  let(F2,Io,gM,zg):=um g (some y) hW;let yF2:y∉F2:=λh=>(g7 g hP.tr hP.least zg.tr zg.least y h).elim yF yz
  let(A,Ly,RN):=ih I (O++[z]) F1 Mw (some y) uh II hIn WZ gN hOz zi (λh=>by cases h) (λv h=>by cases h;show(Sf g WZ).mpr {zj,yI,λh=>(Xk.R h).elim yO λh=>yz<|Xc.R h,yF,yc}) (by rw[Xe,YK];lia)
  let(rH,ao,Jq):=ih (I++[z]) O F2 Io (some y) gM zg hIz Iq zh uj ui (λh=>by cases h) (λv h=>by
   cases h;show(Sf g Iq).mpr {zj,λh=>(Xk.R h).elim yI λh=>yz<|Xc.R h,yO,yF2,λc=>?_};let e:XQ ps (I++[z])=XQ ps I++[((Zz ps z).1,(Zz ps z).2)]:=YB
   rw[e]at c;rcases zm c with h|h
   .show yc h
   .show XJ<|gQ g WZ zj gO h) (by rw[Xe,YK];lia)
  exists _,.div hP hIz Iq zh Ip hW ⟨F1,s1⟩ zj.1 zj.2 RN.pc Ly ao,Zq7 RN Jq
def gL(h:∃U,Zg n ps U):∃R,RowW n ps R/\R.Nodup/\∀T,T∈R↔Zg n ps T:=by
 let(U,hU):=h;let hw:∀T,With n ps [] [] T↔Zg n ps T:=λT=>{λh=>h.1,λh=>{h,λz q=>(by cases q),λz q=>(by cases q)}}
 let(F,_,_,hP0):=um g none {U,(hw U).mpr hU};let Wv:(Wz n ps [] [] F).G (·<·):=(vp _).filter _
 obtain⟨ld,h1,h2⟩:∃ld:Option Int,(ld=none↔Wz n ps [] [] F=[])/\∀y,ld=some y->y∈Wz n ps [] [] F/\∀z∈Wz n ps [] [] F,y<=z:=by
  cases ho:Wz n ps [] [] F with
  |nil=>exists none,{λ_=>rfl,λ_=>rfl},λy h=>by cases h
  |cons y l=>
   rw[ho]at Wv;exists some y,{λh=>(by cases h),λh=>(by cases h)},λv h=>?_;cases h;exists Ya,λv hv=>?_;rcases Yo.R hv with e|e
   .rw[e];show Ko _
   .show Rt ((YN.R Wv).1 v e)
 let(F',inc,fu,hP):=um g ld {U,(hw U).mpr hU};let eF:F'=F:=WJ (hP0.least F' hP.tr) (hP.least F hP0.tr)
 subst eF;let(R,r1,r2):=gP g 31 [] [] F' inc ld fu hP .nil (λv h=>by cases h) (λv h=>by cases h) .nil (λv h=>by cases h) (λe=>h1.R e) (λz e=>(h2 z e).1) (by have:=g.2.2.1;simp;lia);exists R,{ld,F',inc,fu,hP,h1,h2,r1,R,r2.1,λl=>(r2.2 l).l (hw l),Z},r2.1,λT=>(r2.2 T).l (hw T)
end
def gK{mg:Af}:FnOk P w K mg base Xz k f fd ps λ_ _ _ _=>False:={λ_ _ _ _ h=>h.elim,λ_ _ _ _ _ _ _ _ _ _ _ _ _ h=>h.elim}
def zf{l:Ac}{ld Gf:Option Int}(h1:ld=none↔l=[])(h2:∀y,ld=some y->y∈l/\∀z∈l,y<=z)(Bg:Gf=none↔l=[])(h2':∀y,Gf=some y->y∈l/\∀z∈l,y<=z):ld=Gf:=by
 cases ld with
 |none=>show(Bg.mpr<|h1.R Z).symm
 |some y=>
  cases Gf with
  |none=>simp_all
  |some y'=>
   grind
end My
namespace L2
open PySem PySem.Spec PyProof.Rows
def TQ{N P:List Str}{sc:Scope}(h:sc.kind=.function/\sc.isCoroutine=false/\sc.isGenerator=false/\N.Nodup/\N.M P.f=P/\(∀x∈P,sc.names.S x=some .local\/sc.names.S x=some .cell)/\∀y∈sc.names,y.2≠.free):FnScope N P sc:=⟨h.1,h.2.1,h.2.2.1,h.2.2.2.1,h.2.2.2.2.1,h.2.2.2.2.2.1,h.2.2.2.2.2.2⟩
structure DfA(K:Ad)(mg:Af)(x:Str)(st:Stmt)(f:Addr)(fd:FuncData)(ps:List Str):Prop where
 fn:Fun K x x st f fd
 bi:Binds K fd ps []
 mm:mg x=some ↑f
def XC{X:Cx}{CX:Rj}{k m:Nat}{f:Addr}{fd:FuncData}{ps:List Str}{sp:Sp}{x:Str}{st:Stmt}{e:Expr}{es:List Expr}{t:TA}{p pos:Pos}{E:XK}(F:FnOk X.prog X.w X.K X.mg X.base CX k f fd ps sp)(hr:Room m X.A)(d:DfA X.K X.mg x st f fd ps)(hx:GS CX X E)(ha:PA X (e::es) t)(hk:autoParam (k<=m) D0._auto_1)(hg:Gl X x:=by show Z)(Ss:autoParam ((x == ("__debug__":Str))=false) D0._auto_1)(he:autoParam (starEach (e::es) X.X=(false,eval e X.X)::starEach es X.X) D1._auto_1)(Us:autoParam ((backTo pos<|starEach es X.X).any (·.1)=false) D1._auto_1):PE X (.Call (.Name x p) (e::es) [] pos) (Ez sp [] E t):=
 Qx F (hr.mono hk) hg d.mm d.fn.kp d.bi .nil hx ha Ss he Us
def ug(N P:List Str)(sc:Scope):(Prop):=sc.kind=.function/\sc.isCoroutine=false/\sc.isGenerator=false/\N.Nodup/\N.M P.f=P/\(∀x∈P,sc.names.S x=some .local\/sc.names.S x=some .cell)/\∀y∈sc.names,y.2≠.free
instance (N P:List Str) (sc:Scope):Decidable (ug N P sc):=by unfold ug;infer_instance
section
variable{P:Program}{w:World}{K:Ad}{mg:Af}{base:Heap}{x:Str}{st:Stmt}{f:Addr}{fd:FuncData}{ps:List Str}{k:Nat}{sp:Sp}
abbrev Xs(P:Program)(w:World)(base:Heap)(CX:Rj)(_:DfA K mg x st f fd ps)(k:Nat)(sp:Sp):Prop:=FnOk P w K mg base CX k f fd ps sp
def DfA.okI(q:DfA K mg x st f fd ps)(N:List Str)(S:ug N ps (Xo st))
  (VE:∀XF A outer s H vs Q E,Room k (A.deeper<|envOfC x (Xo st) (~~~s) f XF)->sp vs H Q E->
   ∃t,PSs (Ud Xz P w K mg base N x (Xo st) f XF A outer s H E).nox (Rh st) t/\t {nx:=λ_ H'=>Q .non H',rt:=Q} (start N vs) H) (len:∀vs H Q E,sp vs H Q E->vs.f=ps.f:=by intro _ _ _ _ h;cases h;subst_vars;rfl):Xs P w base Xz q (k+1) sp:=q.fn.ok (TQ S) len VE
def DfA.ok(q:DfA K mg x st f fd ps)(N:List Str)(S:ug N ps (Xo st))(len:∀vs H Q E,sp vs H Q E->vs.f=ps.f)
  (VE:∀XF A outer s H vs Q E,Room k (A.deeper<|envOfC x (Xo st) (~~~s) f XF)->sp vs H Q E->
   ∃t,PSs (Ud Xz P w K mg base N x (Xo st) f XF A outer s H E).nox (Rh st) t/\t {nx:=λ_ H'=>Q .non H',rt:=Q} (start N vs) H):Xs P w base Xz q (k+1) sp:=q.fn.ok (TQ S) len VE
end
end L2
namespace My
open PySem L2
def FQ(K:Ad)(mg:Af)(x:Str)(st:Stmt)(ps:List Str):(Prop):=∃f fd,DfA K mg x st f fd ps
def ze{K:Ad}{h:Heap}{mg:Af}{x:Str}{st:Stmt}{ps:List Str}{f:Addr}{oc:Value}{od an:Option Addr}{TB:Array (Option Value)}{kV doc pm XF ct:Value}(X:K.In h)(G:h.Ns mainGlobals mg)
  (a:PySem.W.nsIn K mainGlobals x=some (some<|.ref f))(l:K.S f=some {oc,od,.func<|PySem.W.fnOf x x (LD st) (Rh st) (Xo st) .none kV doc pm an XF ct,TB})(c:PySem.W.codeIn K XF x=true)(k:PySem.W.keepIn K ↑f=true)
  (b:∀kV doc pm an XF ct us,us.f=ps.f->bindArgs (PySem.W.fnOf x x (LD st) (Rh st) (Xo st) .none kV doc pm an XF ct) {us,[]}=pure (ps.zip us)):FQ K mg x st ps:=
 {f,_,vU l c k,(vU l c k).binds b,Fu X G a}
def gJ:(List Str):=["count","cheapest"]
def zd:(List Str):=["tree","row","rank"]
def gI:(List Str):=["number","place","next","share"]
def isN(w:Str):(Bool):=Gk w.cps.m
def KW(x0:Str)(r:List Str):(Prop):=(x0∈gJ/\r.f+1=1)\/(x0∈zd/\r.f+1=2/\r.all isN=true)\/(x0∈gI/\1<r.f+1/\(r=[("-":Str)]\/r.all isN=true))
instance:Decidable (KW x0 r):=by unfold KW;infer_instance
end My
namespace PyProof.Rows
open PySem
section
variable{lt:Keyed->Keyed->Bool}{x y:Keyed}{L rH:List Keyed}
def mg(lt:Keyed->Keyed->Bool)(L rH:List Keyed):(List Keyed):=L.merge rH λx y=>!lt y x
def Im:∀{X:List Keyed},(∀x∈X,lt y x=false)->mg lt (X++L) (y::rH)=X++mg lt L (y::rH)
 |[],_=>rfl
 |x::X,h=>by unfold mg;rw[Kt,List.cons_merge_cons_pos _ _ _ B];show YF (x :: ·) (Im λz hz=>h z<|Yf _ hz)
def Mv:∀{Y:List Keyed},(∀y∈Y,lt y x=true)->mg lt (x::L) (Y++rH)=Y++mg lt (x::L) rH
 |[],_=>rfl
 |y::Y,h=>by unfold mg;rw[Kt,List.cons_merge_cons_neg _ _ _ B];show YF (y :: ·) (Mv λz hz=>h z<|Yf _ hz)
def zb(h:L=[]\/rH=[]):mg lt L rH=L++rH:=by unfold mg;rcases h with rfl|rfl<;>simp
def za(h:∀y∈rH,lt y x=true):mg lt [x] rH=rH++[x]:=by
 let e:=Mv (lt:=lt) (x:=x) (L:=[]) (rH:=[]) h;rw[YS]at e;rw[e];unfold mg
 simp_all
def ZH5(tr:∀a b c,lt b a=false->lt c b=false->lt c a=false)(tt:∀a b,lt b a=true->lt a b=false)(h1:L.G λx y=>lt y x=false)(h2:rH.G λx y=>lt y x=false):(mg lt L rH).G λx y=>lt y x=false:=by
 show(List.pairwise_merge (le:=λx y=>!lt y x) (λa b c p q=>?_) (λa b=>?_) L rH (h1.imp λh=>J)<|h2.imp λh=>J).imp λh=>J
 .grind
 grind
end
section
variable{M:Model}{A:Around}{E:Ae}{s:Shared}{O:KeyOrd}{key:Keyed->O.α}{kd:SortKind}{S:Keyed->Prop}{a b:Array Keyed}{R:List Keyed}
def OP(O:KeyOrd)(key:Keyed->O.α)(y x:Keyed):(Bool):=O.blt (key y) (key x)
def gH(h:i<a.o):a.m.drop i=a[i]::a.m.drop (i+1):=FL (by simpa using h)
def QM(h:i<a.o):ke key a i=key a[i]:=Xi (RC a i h)
def ML(O:KeyOrd)(key:Keyed->O.α)(a b:Array Keyed)(R out:List Keyed)(i j:Nat):(Prop):=out++mg (OP O key) (a.m.drop i) (b.m.drop j)=R
section
variable{out:List Keyed}{i j:Nat}
def ML.fst(h:ML O key a b R out i j)(k:Nat)(hj:j<b.o)(hx:∀n,n<k->O.blt (ke key b j) (ke key a (i+n))=false):ML O key a b R (out++(a.m.drop i).M k) (i+k) j:=by
 unfold ML at *;rw[<-h,gH hj,YV,<-Im (lt:=OP O key) λx UT=>?_,<-wU (i:=k),Hr];let(n,hn,e):=CQ UT
 have:=hx n hn
 rwa[QM hj,Xi e]at this
def ML.snd(h:ML O key a b R out i j)(k:Nat)(hi:i<a.o)(hx:∀n,n<k->O.blt (ke key b (j+n)) (ke key a i)=true):ML O key a b R (out++(b.m.drop j).M k) i (j+k):=by
 unfold ML at *;rw[<-h,gH hi,YV,<-Mv (lt:=OP O key) λx UT=>?_,<-wU (i:=k),Hr];let(n,hn,e):=CQ UT
 have:=hx n hn
 rwa[QM hi,Xi e]at this
def ML.done(h:ML O key a b R out i j)(hz:a.o<=i\/b.o<=j):out++a.m.drop i++b.m.drop j=R:=by rwa[YV,<-zb (lt:=OP O key) (hz.imp (λh=>FJ<|by simpa using h) λh=>FJ<|by simpa using h)]
def ML.last(h:ML O key a b R out i j)(hi:i+1=a.o)(hx:∀n,n<b.o->O.blt (ke key b n) (ke key a (a.o-1))=true):out++b.m.drop j++a.m.drop i=R:=by
 let e:a.m.drop i=[a[i]]:=by rw[gH rO,FJ (by simp;simp_all)]
 rw[<-h,e,za λy hy=>?_,YV];let(n,_,hn,ey):=nL hy
 have:=hx n hn
 rwa[Xi ey,show a.o-1=i by lia,QM J]at this
end
structure MC(M:Model)(A:Around)(E:Ae)(s:Shared)(O:KeyOrd)(key:Keyed->O.α)(kd:SortKind)(S:Keyed->Prop)(a b:Array Keyed):Prop where
 L:UR M A E s O key kd S
 sa:∀i,i<a.o->∃p,a[i]?=some p/\S p
 sb:∀i,i<b.o->∃p,b[i]?=some p/\S p
 ma:∀i j,i<=j->j<a.o->O.kle (ke key a i) (ke key a j)
 mb:∀i j,i<=j->j<b.o->O.kle (ke key b i) (ke key b j)
 ha:∀i,i<a.o->O.blt (ke key b 0) (ke key a i)=true
 hb:∀n,n<b.o->O.blt (ke key b n) (ke key a<|a.o-1)=true
def Yd{β:Type}(P:Option (Array Keyed)×β->Prop)(st:SortSt)(r:ForInStep (Option (Array Keyed)×β))(XR:SortSt):(Prop):=WH st XR/\∃c,P c/\(r=.done c\/r=.yield c/\c.1=none)
def OkL(O:KeyOrd)(key:Keyed->O.α)(a b:Array Keyed)(R:List Keyed)(m:Nat){γ:Type}(c:Option (Array Keyed)×Array Keyed×Nat×Nat×γ):(Prop):=
 (∃r,c.1=some r/\r.m=R)\/(c.1=none/\ML O key a b R c.2.1.m c.2.2.1 c.2.2.2.1/\c.2.2.1+1<a.o/\c.2.2.2.1<b.o/\m<=c.2.2.1+c.2.2.2.1)
def Uk{β:Type}{P:Option (Array Keyed)×β->Prop}{st XR:SortSt}{c:Option (Array Keyed)×β}(k:WH st XR)(h:P c):wpS M A E s (pure (.done c)) (Yd P st) XR:=YU {k,c,h,.inl Z}
section
variable{out:Array Keyed}{i j m g ac bc:Nat}{st XR:SortSt}
def y9(C:MC M A E s O key kd S a b)(k:WH st XR)(hi:i+1<a.o)(hj:j<b.o)(h:ML O key a b R out.m i j)(hx:O.blt (ke key b j) (ke key a i)=false)(hm:m<=i+j):wpS M A E s (Jl a b out i j g ac bc) (Yd (OkL O key a b R m) st) XR:=by
 let e:=RC a i J;let h2:=h.fst 1 hj λn hn=>by simp_all
 rw[Pe e,<-Oz]at h2;show Ys (Zw e ?_);cases c:i+1+1=a.o
 .show ZK (by simpa using c) (Uk k<|.inl {_,Z,by rw[Yq,Yq,Tz,Tz];show h2.last c C.hb})
 .show WO (by simpa using c) ?_;let z:∀g ac bc,OkL O key a b R m ((none,out.push a[i],i+1,j,g,ac,bc):Lq):=λ_ _ _=>.inr ⟨Z,h2,J,hj,J⟩
  split
  .show Uk k (z _ _ _)
  .show YU {k,_,z _ _ _,.inr ⟨Z,Z⟩}
def y8(C:MC M A E s O key kd S a b)(k:WH st XR)(hk:kindOf XR=kd)(hi:i+1<a.o)(hj:j<b.o)(h:ML O key a b R out.m i j)(hx:O.blt (ke key b j) (ke key a i)=true)(hm:m<=i+j):wpS M A E s (Jk a b out i j g ac bc) (Yd (OkL O key a b R m) st) XR:=by
 let e:=RC b j hj;let h2:=h.snd 1 J λn hn=>by simp_all
 rw[Pe e,<-Oz]at h2;show Ys (Zw e ?_);cases c:j+1=b.o
 .show ZK (by simpa using c) (Uk k<|.inl {_,Z,by rw[Yq,Yq,Tz,Tz];show h2.done<|.inr<|by simp_all})
 show WO (by simpa using c) ?_;let(p,ep,hp):=C.sa i J;show Ys (Zw ep<|Ys<|GC C.L hk hp (λn hn=>C.sb _ B) B (λn l Ge hl=>C.mb _ _ (by simp_all) B) λq hq lo Ww=>?_);let lo:∀n,n<q->O.blt (ke key b<|j+1+n) (ke key a i)=true:=λn hn=>by rw[Xi ep];show lo n hn
 let Ww:j+1+q<b.o->O.blt (ke key b<|j+1+q) (ke key a i)=false:=λhn=>by rw[Xi ep];show Ww q (XI _) B
 let h3:=h2.snd q J lo;rw[<-CS,<-Yq]at h3;cases c0:q>0
 .show ZK c0 ?_;cases c1:j+1+q=b.o
  .show ZK (by simpa using c1) (Uk k<|.inl {_,Z,by rw[Yq,Yq,Tz,Tz];show h3.done<|.inr<|by simp_all})
  .show WO (by simpa using c1) (y9 C k hi B h3 (Ww B) J)
 .let rfl:q=0:=by simp_all
  show WO c0 (y9 C k hi J h2 (Ww J) J)
def y7(C:MC M A E s O key kd S a b)(k:WH st XR)(hk:kindOf st=kd)(hi:i+1<a.o)(hj:j<b.o)(h:ML O key a b R out.m i j)(hm:m<=i+j):wpS M A E s (Jj a b out i j g ac bc) (Yd (OkL O key a b R m) st) XR:=by
 show Ys (vk ?_);let(p,ep,hp):=C.sb j hj;let Wa:=k.1.l hk
 show Ys (Zw ep<|Ys<|GC C.L Wa hp (λn hn=>C.sa _ B) B (λn l Ge hl=>C.ma _ _ (by simp_all) B) λq hq lo Ww=>?_);let lo:∀n,n<q->O.blt (ke key b j) (ke key a<|i+n)=false:=λn hn=>by rw[Xi ep];simpa[beyB] using lo n hn
 let Ww:i+q<a.o->O.blt (ke key b j) (ke key a<|i+q)=true:=λhn=>by rw[Xi ep];simpa[beyB] using Ww q (XI _) J
 let h3:=h.fst q hj lo;rw[<-CS,<-Yq]at h3;cases c0:q>0
 .show ZK c0 ?_;cases c1:i+q+1=a.o
  .show ZK (by simpa using c1) (Uk k<|.inl {_,Z,by rw[Yq,Yq,Tz,Tz];show h3.last c1 C.hb})
  show WO (by simpa using c1) ?_;cases c2:i+q=a.o
  .show ZK (by simpa using c2) (Uk k<|.inl {_,Z,by rw[Yq,Yq,Tz,Tz];show h3.done<|.inl<|by simp_all})
  .show WO (by simpa using c2) (y8 C k Wa B hj h3 (Ww J) J)
 .let rfl:q=0:=by simp_all
  show WO c0 (y8 C k Wa hi hj h (Ww J) hm)
def y6(C:MC M A E s O key kd S a b)(k:WH st XR)(hk:kindOf st=kd)(hi:i+1<a.o)(hj:j<b.o)(h:ML O key a b R out.m i j)(hm:m<=i+j):wpS M A E s (loB1 a b g (none,out,i,j,ac,bc)) (Yd (OkL O key a b R (m+1)) st) XR:=by
 let(p,ep,hp):=C.sa i J;let(q,eq,hq):=C.sb j hj;show Ys (Zw eq<|Ys<|Zw ep<|Ys<|C.L _ _ _ _ hq hp (k.1.l hk) ?_);cases hc:O.blt (key q) (key p) with
 |true=>
  let h2:=h.snd 1 J λn hn=>by rwa[show j+n=j by simp_all,Xi eq,Xi ep]
  rw[Pe eq,<-Oz]at h2;show ZK Z (Ys<|Zw eq ?_);cases c:j+1=b.o
  .show ZK (by simpa using c) (Uk k<|.inl {_,Z,by rw[Yq,Yq,Tz,Tz];show h2.done<|.inr J})
  show WO (by simpa using c) ?_;let z:∀ac bc,OkL O key a b R (m+1) ((none,out.push q,i,j+1,ac,bc):GB):=λ_ _=>.inr {Z,h2,hi,by change j+1<b.o;lia,J}
  split
  .show Uk k (z _ _)
  .show YU {k,_,z _ _,.inr ⟨Z,Z⟩}
 |false=>
  let h2:=h.fst 1 hj λn hn=>by rwa[show i+n=i by lia,Xi eq,Xi ep]
  rw[Pe ep,<-Oz]at h2;show WO Fe (Ys<|Zw ep ?_);cases c:i+1+1=a.o
  .show ZK (by simpa using c) (Uk k<|.inl {_,Z,by rw[Yq,Yq,Tz,Tz];show h2.last c C.hb})
  show WO (by simpa using c) ?_;let z:∀ac bc,OkL O key a b R (m+1) ((none,out.push p,i+1,j,ac,bc):GB):=λ_ _=>.inr ⟨Z,h2,J,hj,J⟩
  split
  .show Uk k (z _ _)
  .show YU {k,_,z _ _,.inr ⟨Z,Z⟩}
end
def uf{β:Type}{n m d:Nat}{f:Option (Array Keyed)×β->StateT SortSt Sem (ForInStep (Option (Array Keyed)×β))}{st XR:SortSt}{c:Option (Array Keyed)×β}(P:Nat->Option (Array Keyed)×β->Prop)(hn:0<n)(up:∀c,P (m+d) c->P m c)(hs:∀c XR,WH st XR->P m c->c.1=none->wpS M A E s (f c) (Yd (P (m+d)) st) XR)(k:WH st XR)(h0:P m c)(h1:c.1=none):wpS M A E s (forIn [0:n] c λ_ c=>f c) (λc XR=>WH st XR/\P (m+d) c) XR:=by
 show Vt (I:=λx c XR=>WH st XR/\P m c/\c.1=none/\(0<x->P (m+d) c)) (λx c XR _ _ ⟨k,p,q,_⟩=>Sw (hs c XR k p q) ?_) (λc XR zz=>by let(k,p,q,z):=zz;show{k,z<|by simp_all}) ⟨k,h0,h1,λh=>absurd h<|by simp_all⟩;rintro r WW ⟨k2,c2,p2,rfl|⟨rfl,q2⟩⟩
 .exists k2,p2
 .exists k2,up _ p2,q2,λ_=>p2
def OkL.up{γ:Type}{c:Option (Array Keyed)×Array Keyed×Nat×Nat×γ}(h:OkL O key a b R (m+d) c):OkL O key a b R m c:=h.imp id λzz=>by let(h1,h2,h3,h4,h5):=zz;exists h1,h2,h3,h4,J
def OkL.go{γ:Type}{c1:Option (Array Keyed)}{out:Array Keyed}{i j:Nat}{z:γ}(h:OkL O key a b R m (c1,out,i,j,z))(e:c1=none):ML O key a b R out.m i j/\i+1<a.o/\j<b.o/\m<=i+j:=by
 rcases h with ⟨r,q,_⟩|⟨_,h⟩
 .simp_all
 .show h
def ZC4(C:MC M A E s O key kd S a b){st:SortSt}{Q:Array Keyed->SortSt->Prop}(hk:kindOf st=kd)(ha:0<a.o)(hb:0<b.o)(h:∀r XR,WH st XR->r.m=mg (OP O key) a.m b.m->Q r XR):wpS M A E s (ZN7 a b) Q st:=by
 let k0:WH st st:=⟨Z,Z,Z,Z⟩;let e0:=RC b 0 hb
 let m0:ML O key a b (mg (OP O key) a.m b.m) [] 0 0:=rfl;let m1:=m0.snd 1 ha λn hn=>by rw[show 0+n=0 by simp_all];show C.ha 0 ha
 rw[Pe e0]at m1;rw[nF];show Ys (wpS_lift<|Rv ⟨Z,?_⟩);show Ys (Zw e0 ?_);cases c1:1=b.o
 .show ZK (by simpa using c1) (YU<|h _ _ k0<|by rw[Yq,Yq,Tz,Tz];show m1.done<|.inr<|by simp_all)
 show WO (by simpa using c1) ?_;cases c2:0+1=a.o
 .show ZK (by simpa using c2) (YU<|h _ _ k0<|by rw[Yq,Yq,Tz,Tz];show m1.last c2 C.hb)
 show WO (by simpa using c2) (Ys<|PU ?_);generalize mg (OP O key) a.m b.m=R at *;show Ys (Sw (Vt
  (I:=λx c XR=>WH st XR/\c.1=none/\OkL O key a b R x c)
  (Q:=λc XR=>WH st XR/\∃r,c.1=some r/\r.m=R) ?_ ?_ {k0,Z,.inr {Z,m1,J,J,Yc _}}) ?_)
 .rintro x ⟨c1,out,i,j,g⟩ Vc _ hx ⟨k1,e1,p1⟩;show Ys (Sw (uf (m:=x) (d:=1) (λm c=>OkL O key a b R m c) J (λ_ h=>h.up) (λc WW k2 p2 e2=>?_) k1 (.inr {Z,(p1.go e1)}) Z) ?_)
  .let⟨c1,out,i,j,ac,bc⟩:=c;let rfl:c1=none:=e2;let(h1,h2,h3,h4):=p2.go rfl;show y6 C k2 hk h2 h3 h1 h4
  rintro⟨c1,out,i,j,ac,bc⟩ WW ⟨k2,p2⟩;cases c1 with
  |some r=>show YU {k2,r,rfl,by rcases p2 with ⟨r,e,q⟩|⟨e,_⟩<;>cases e;show q}
  |none=>
   show Ys (wpS_lift<|Rv ⟨Z,?_⟩);show Ys (Sw (uf (m:=x+1) (d:=0) (λm c=>OkL O key a b R m c) J (λ_ h=>h) (λc VO k3 p3 e3=>?_) k2 (.inr {Z,(p2.go Z)}) Z) ?_)
   .let⟨c1,out,i,j,g,ac,bc⟩:=c;let rfl:c1=none:=e3;let(h1,h2,h3,h4):=p3.go rfl;unfold CO;split<;>show y7 C k3 hk h2 h3 h1 h4
   rintro⟨c1,out,i,j,g,ac,bc⟩ VO ⟨k3,p3⟩;cases c1 with
   |some r=>show YU {k3,r,rfl,by rcases p3 with ⟨r,e,q⟩|⟨e,_⟩<;>cases e;show q}
   |none=>show Ys (vk<|YU ⟨k3,Z,.inr {Z,(p3.go Z)}⟩)
 .rintro⟨c1,out,i,j,g⟩ Vc ⟨k1,e1,p1⟩;let(_,h2,h3,h4):=p1.go e1;lia
 .rintro⟨c1,c2⟩ Vc ⟨k1,r,hc,hr⟩;cases hc;show YU (h r Vc k1 hr)
def MH2(O:KeyOrd)(key:Keyed->O.α)(a b:Array Keyed)(R out:List Keyed)(i j:Nat):(Prop):=out++mg (λy x=>OP O key x y) (b.m.M j).reverse (a.m.M i).reverse=R
def Il(h:0<i)(hi:i<=a.o):(a.m.M i).reverse=a[i-1]::(a.m.M (i-1)).reverse:=by let e:=YF List.reverse (CN (la:=a.m)<|Nat.sub_le i 1);rwa[sQ,QY J (RC a (i-1) rO)]at e
section
variable{out:List Keyed}{i j:Nat}
def MH2.fst(h:MH2 O key a b R out i j)(e:Nat)(he:e<=j)(hi:0<i)(Ws:i<=a.o)(hx:∀n,e<=n->n<j->O.blt (ke key b n) (ke key a (i-1))=false):MH2 O key a b R (out++((b.m.M j).drop e).reverse) i e:=by
 unfold MH2 at *;rw[<-h,Il hi Ws,YV,CN (la:=b.m) he,sQ,Im λx UT=>?_]
 .rw[<-CN he]
 let(n,h1,h2,_,e):=CL (Hn.R UT)
 have:=hx n h1 h2
 rwa[Xi e,QM B]at this
def MH2.snd(h:MH2 O key a b R out i j)(e:Nat)(he:e<=i)(hj:0<j)(RI:j<=b.o)(hx:∀n,e<=n->n<i->O.blt (ke key b (j-1)) (ke key a n)=true):MH2 O key a b R (out++((a.m.M i).drop e).reverse) e j:=by
 unfold MH2 at *;rw[<-h,Il hj RI,YV,CN (la:=a.m) he,sQ,Mv λx UT=>?_]
 .rw[<-CN he]
 let(n,h1,h2,_,e):=CL (Hn.R UT)
 have:=hx n h1 h2
 rwa[QM B,Xi e]at this
def MH2.done(h:MH2 O key a b R out i j)(hz:i=0\/j=0):a.m.M i++b.m.M j++out.reverse=R.reverse:=by rw[<-h,zb (hz.symm.imp (λh=>by rw[h];rfl) λh=>by rw[h];rfl)];simp
def MH2.last(h:MH2 O key a b R out i j)(hj:j=1)(hb:0<b.o)(hx:∀n,n<a.o->O.blt (ke key b 0) (ke key a n)=true):b.m.M j++a.m.M i++out.reverse=R.reverse:=by
 subst hj;let e:(b.m.M 1).reverse=[b[0]]:=Il (by simp_all) hb
 rw[<-h,e,za λy hy=>?_]
 .simp_all
 let(n,_,hn,ey):=nE (Hn.R hy)
 have:=hx n hn
 rwa[Xi ey,QM hb]at this
end
def OkH(O:KeyOrd)(key:Keyed->O.α)(a b:Array Keyed)(R:List Keyed)(m:Nat){γ:Type}(c:Option (Array Keyed)×Nat×Nat×Array Keyed×γ):(Prop):=
 (∃r,c.1=some r/\r.m=R.reverse)\/(c.1=none/\MH2 O key a b R c.2.2.2.1.m c.2.1 c.2.2.1/\(1<=c.2.1/\c.2.1<=a.o)/\(2<=c.2.2.1/\c.2.2.1<=b.o)/\c.2.1+c.2.2.1+m<=a.o+b.o)
def OkH.up{γ:Type}{c:Option (Array Keyed)×Nat×Nat×Array Keyed×γ}(h:OkH O key a b R (m+d) c):OkH O key a b R m c:=h.imp id λzz=>by let(h1,h2,h3,h4,h5):=zz;exists h1,h2,h3,h4,J
def OkH.go{γ:Type}{c1:Option (Array Keyed)}{out:Array Keyed}{i j:Nat}{z:γ}(h:OkH O key a b R m (c1,i,j,out,z))(e:c1=none):MH2 O key a b R out.m i j/\(1<=i/\i<=a.o)/\(2<=j/\j<=b.o)/\i+j+m<=a.o+b.o:=by
 rcases h with ⟨r,q,_⟩|⟨_,h⟩
 .simp_all
 .show h
def yZ{out:Array Keyed}(h:MH2 O key a b R out.m i j)(hz:i=0\/j=0):(a.Y 0 i++b.Y 0 j++out.reverse).m=R.reverse:=by rw[Yq,Yq,MV,MV,sR];show h.done hz
def ue(C:MC M A E s O key kd S a b){out:Array Keyed}(h:MH2 O key a b R out.m i j)(hj:j=1)(hb:0<b.o):(b.Y 0 j++a.Y 0 i++out.reverse).m=R.reverse:=by rw[Yq,Yq,MV,MV,sR];show h.last hj hb C.ha
section
variable{out:Array Keyed}{i j m g ac bc:Nat}{st XR:SortSt}
def ZZ6(k:WH st XR)(hi:1<=i/\i<=a.o)(hj:2<=j/\j<=b.o)(h:MH2 O key a b R out.m i j)(hx:O.blt (ke key b (j-1)) (ke key a (i-1))=true)(hm:i+j+m<=a.o+b.o):wpS M A E s (Ji a b out i j g ac bc) (Yd (OkH O key a b R m) st) XR:=by
 let e:=RC a (i-1) B;let h2:=h.snd (i-1) (by simp_all) J hj.2 λn h1 h2=>B
 rw[QY (by simp_all) e,<-Oz]at h2;show Ys (Zw e ?_);cases c:i-1=0
 .show ZK (by simpa using c) (Uk k<|.inl {_,Z,yZ h2<|.inl c})
 .show WO (by simpa using c) ?_;let z:∀g ac bc,OkH O key a b R m ((none,i-1,j,out.push a[i-1],g,ac,bc):Lp):=λ_ _ _=>.inr ⟨Z,h2,B,hj,J⟩
  split
  .show Uk k (z _ _ _)
  .show YU {k,_,z _ _ _,.inr ⟨Z,Z⟩}
def yY(C:MC M A E s O key kd S a b)(k:WH st XR)(hk:kindOf XR=kd)(hi:1<=i/\i<=a.o)(hj:2<=j/\j<=b.o)(h:MH2 O key a b R out.m i j)(hx:O.blt (ke key b (j-1)) (ke key a (i-1))=false)(hm:i+j+m<=a.o+b.o):wpS M A E s (Jh a b out i j g ac bc) (Yd (OkH O key a b R m) st) XR:=by
 let e:=RC b (j-1) B;let h2:=h.fst (j-1) (by simp_all) J hi.2 λn h1 h2=>B
 rw[QY J e,<-Oz]at h2;show Ys (Zw e ?_);cases c:j-1=1
 .show ZK (by simp_all) (Uk k<|.inl {_,Z,ue C h2 c J})
 show WO (by simpa using c) ?_;let(p,ep,hp):=C.sa (i-1) J;show Ys (Zw ep<|Ys<|GC C.L hk hp (λn hn=>C.sb _ B) B (λn l Ge hl=>C.mb _ _ (by simp_all) B) λq hq lo Ww=>?_);simp only[RB]at lo Ww;let h3:=h2.fst q hq J hi.2 λn h1 h2=>by rw[Xi ep];show Ww n h1 h2
 rw[<-CM,<-Yq]at h3;let lo:0<q->O.blt (ke key b<|q-1) (ke key a<|i-1)=true:=λh=>by rw[Xi ep];show lo (q-1) J
 cases c0:j-1-q>0
 .show ZK c0 ?_;cases c1:q=1
  .show ZK (by simpa using c1) (Uk k<|.inl {_,Z,ue C h3 c1 J})
  show WO (by simpa using c1) ?_;cases c2:q=0
  .show ZK (by simpa using c2) (Uk k<|.inl {_,Z,yZ h3<|.inr c2})
  .show WO (by simpa using c2) (ZZ6 k hi B h3 (lo J) J)
 .let rfl:q=j-1:=B;show WO c0 (ZZ6 k hi B h2 (lo J) J)
def yX(C:MC M A E s O key kd S a b)(k:WH st XR)(hk:kindOf st=kd)(h:MH2 O key a b R out.m i j)(hi:1<=i/\i<=a.o)(hj:2<=j/\j<=b.o)(hm:i+j+m<=a.o+b.o):wpS M A E s (Jg a b out i j g ac bc) (Yd (OkH O key a b R m) st) XR:=by
 show Ys (vk ?_);let(p,ep,hp):=C.sb (j-1) J;let Wa:=k.1.l hk
 show Ys (Zw ep<|Ys<|GC C.L Wa hp (λn hn=>C.sa _ J) J (λn l Ge hl=>C.ma _ _ (by simp_all) J) λq hq lo Ww=>?_);let h3:=h.snd q hq J hj.2 λn h1 h2=>by rw[Xi ep];simpa[beyB] using Ww n h1 h2
 rw[<-CM,<-Yq]at h3;let lo:0<q->O.blt (ke key b<|j-1) (ke key a<|q-1)=false:=λh=>by rw[Xi ep];simpa[beyB] using lo (q-1) J
 cases c0:i-q>0
 .show ZK c0 ?_;cases c2:q=0
  .show ZK (by simpa using c2) (Uk k<|.inl {_,Z,yZ h3<|.inl c2})
  .show WO (by simpa using c2) (yY C k Wa J hj h3 (lo J) J)
 .let rfl:q=i:=B;show WO c0 (yY C k Wa hi hj h (lo J) hm)
def gG(C:MC M A E s O key kd S a b)(k:WH st XR)(hk:kindOf st=kd)(h:MH2 O key a b R out.m i j)(hi:1<=i/\i<=a.o)(hj:2<=j/\j<=b.o)(hm:i+j+m<=a.o+b.o):wpS M A E s (hiB1 a b g (none,i,j,out,ac,bc)) (Yd (OkH O key a b R (m+1)) st) XR:=by
 let(p,ep,hp):=C.sa (i-1) J;let(q,eq,hq):=C.sb (j-1) B;show Ys (Zw eq<|Ys<|Zw ep<|Ys<|C.L _ _ _ _ hq hp (k.1.l hk) ?_);cases hc:O.blt (key q) (key p) with
 |true=>
  let h2:=h.snd (i-1) (by simp_all) J hj.2 λn h1 h2=>by rwa[show n=i-1 by grind,Xi eq,Xi ep]
  rw[QY (by simp_all) ep,<-Oz]at h2;show ZK Z (Ys<|Zw ep ?_);cases c:i-1=0
  .show ZK (by simpa using c) (Uk k<|.inl {_,Z,yZ h2<|.inl c})
  show WO (by simpa using c) ?_;let z:∀ac bc,OkH O key a b R (m+1) ((none,i-1,j,out.push p,ac,bc):Gy):=λ_ _=>.inr ⟨Z,h2,B,hj,J⟩
  split
  .show Uk k (z _ _)
  .show YU {k,_,z _ _,.inr ⟨Z,Z⟩}
 |false=>
  let h2:=h.fst (j-1) (by simp_all) J hi.2 λn h1 h2=>by rwa[show n=j-1 by grind,Xi eq,Xi ep]
  rw[QY B eq,<-Oz]at h2;show WO Fe (Ys<|Zw eq ?_);cases c:j-1=1
  .show ZK (by simp_all) (Uk k<|.inl {_,Z,ue C h2 c J})
  show WO (by simpa using c) ?_;let z:∀ac bc,OkH O key a b R (m+1) ((none,i,j-1,out.push q,ac,bc):Gy):=λ_ _=>.inr ⟨Z,h2,hi,J,B⟩
  split
  .show Uk k (z _ _)
  .show YU {k,_,z _ _,.inr ⟨Z,Z⟩}
end
def ZR3(C:MC M A E s O key kd S a b){st:SortSt}{Q:Array Keyed->SortSt->Prop}(hk:kindOf st=kd)(ha:0<a.o)(hb:0<b.o)(h:∀r XR,WH st XR->r.m=(mg (λy x=>OP O key x y) b.m.reverse a.m.reverse).reverse->Q r XR):wpS M A E s (ZO7 a b) Q st:=by
 let k0:WH st st:=⟨Z,Z,Z,Z⟩;let e0:=RC a (a.o-1) J
 let m0:MH2 O key a b (mg (λy x=>OP O key x y) b.m.reverse a.m.reverse) [] a.o b.o:=by unfold MH2;rw[Yv Fe,Yv Fe];rfl
 let m1:=m0.snd (a.o-1) (by simp_all) hb (XI _) λn h1 h2=>by rw[show n=a.o-1 by grind];show C.hb _ J
 rw[QY J e0]at m1;rw[nq];show Ys (wpS_lift<|Rv ⟨Z,?_⟩);show Ys (Zw e0 ?_);cases c1:a.o-1=0
 .show ZK (by simpa using c1) (YU<|h _ _ k0<|yZ m1<|.inl c1)
 show WO (by simpa using c1) ?_;cases c2:b.o=1
 .show ZK (by simpa using c2) (YU<|h _ _ k0<|ue C m1 c2 hb)
 show WO (by simpa using c2) (Ys<|PU ?_);generalize mg (λy x=>OP O key x y) b.m.reverse a.m.reverse=R at *;show Ys (Sw (Vt
  (I:=λx c XR=>WH st XR/\c.1=none/\OkH O key a b R x c)
  (Q:=λc XR=>WH st XR/\∃r,c.1=some r/\r.m=R.reverse) ?_ ?_ {k0,Z,.inr {Z,m1,J,J,by simp_all}}) ?_)
 .rintro x ⟨c1,i,j,out,g⟩ Vc _ hx ⟨k1,e1,p1⟩;show Ys (Sw (uf (m:=x) (d:=1) (λm c=>OkH O key a b R m c) J (λ_ h=>h.up) (λc WW k2 p2 e2=>?_) k1 (.inr {Z,(p1.go e1)}) Z) ?_)
  .let⟨c1,i,j,out,ac,bc⟩:=c;let rfl:c1=none:=e2;let(h1,h2,h3,h4):=p2.go rfl;show gG C k2 hk h1 h2 h3 h4
  rintro⟨c1,i,j,out,ac,bc⟩ WW ⟨k2,p2⟩;cases c1 with
  |some r=>show YU {k2,r,rfl,by rcases p2 with ⟨r,e,q⟩|⟨e,_⟩<;>cases e;show q}
  |none=>
   show Ys (wpS_lift<|Rv ⟨Z,?_⟩);show Ys (Sw (uf (m:=x+1) (d:=0) (λm c=>OkH O key a b R m c) J (λ_ h=>h) (λc VO k3 p3 e3=>?_) k2 (.inr {Z,(p2.go Z)}) Z) ?_)
   .let⟨c1,i,j,out,g,ac,bc⟩:=c;let rfl:c1=none:=e3;let(h1,h2,h3,h4):=p3.go rfl;unfold CK;split<;>show yX C k3 hk h1 h2 h3 h4
   rintro⟨c1,i,j,out,g,ac,bc⟩ VO ⟨k3,p3⟩;cases c1 with
   |some r=>show YU {k3,r,rfl,by rcases p3 with ⟨r,e,q⟩|⟨e,_⟩<;>cases e;show q}
   |none=>show Ys (vk<|YU ⟨k3,Z,.inr {Z,(p3.go Z)}⟩)
 .rintro⟨c1,i,j,out,g⟩ Vc ⟨k1,e1,p1⟩;let(_,h2,h3,h4):=p1.go e1;lia
 .rintro⟨c1,c2⟩ Vc ⟨k1,r,hc,hr⟩;cases hc;show YU (h r Vc k1 hr)
def yW{lo n:Nat}{x:Keyed}{l:List Keyed}(h:x∈(l.drop lo).M n):∃i,lo<=i/\i<lo+n/\l[i]?=some x:=by let(j,hj):=Yx h;grind
def yV{lo hi i:Nat}{arr:Array Keyed}(h:lo+i<hi):ke key (arr.Y lo hi) i=ke key arr (lo+i):=Lo (by rw[<-YM,<-YM,Ry,Ht,Kv,Yi J,LR])
def gF(L:UR M A E s O key kd S){st:SortSt}{n m p1 p2:Nat}{Q:Bool->SortSt->Prop}(hk:kindOf st=kd)(hf:failedOf st=none)(hS:∀x∈(arrOf st).m,S x)(hz:(arrOf st).o=n+m)(hn:1<=n)(hm:1<=m)(ep:pendingOf st=#[(0,n,p1),(n,m,p2)])(s1:Vz O key (arrOf st) 0 n)(s2:Vz O key (arrOf st) n m)
  (h:∀XR,(arrOf XR).m.Perm (arrOf st).m->(arrOf XR).m.G (RK O key)->failedOf XR=none->(pendingOf XR).o=1->Q true XR):wpS M A E s (mergeAt' 0) Q st:=by
 let all:∀i,i<n+m->∃p,(arrOf st)[i]?=some p/\S p:=λi hi=>{(arrOf st)[i],RC ..,hS _ Fe};let gi:(pendingOf st)[0]?=some (0,n,p1):=by rw[ep];rfl
 let gi1:(pendingOf st)[0+1]?=some (n,m,p2):=by rw[ep];rfl
 let pe:(((pendingOf st).setIfInBounds 0 (0,n+m,p1)).eraseIdxIfInBounds (0+1)).o=1:=by rw[ep];simp[Array.eraseIdxIfInBounds]
 let s1:∀i j,i<=j->j<n->O.kle (ke key (arrOf st) i) (ke key (arrOf st) j):=λi j h1 h2=>by have:=s1 i j h1 h2;simp_all
 let s2:∀i j,n<=i->i<=j->j<n+m->O.kle (ke key (arrOf st) i) (ke key (arrOf st) j):=λi j h1 h2 h3=>by have:=s2 (i-n) (j-n) B B;rwa[show n+(i-n)=i by simp_all,show n+(j-n)=j by lia]at this
 let(p0,e0,h0):=all n J;let(pz,ez,hpz):=all (n-1) J;show Ys (PU ?_);rw[gi,gi1];show Ys (CJ ?_);show Ys (Zw e0 ?_);show Ys (GC L hk h0 (λj hj=>all _ J) J (λj l Qu hl=>s1 _ _ J<|by simp_all) λk m9 lo hi=>?_);dsimp only;let lo:∀i,i<k->O.kle (ke key (arrOf st) i) (ke key (arrOf st) n):=λi h=>by have:=lo i h;simp[beyB]at this;rwa[Xi e0]
 let hi:∀i,k<=i->i<n->O.blt (ke key (arrOf st) n) (ke key (arrOf st) i)=true:=λi h1 h2=>by rw[Xi e0];simpa[beyB] using hi i h1 h2
 let whole:(∀i j,i<n->n<=j->j<n+m->O.kle (ke key (arrOf st) i) (ke key (arrOf st) j))->(arrOf st).m.G (RK O key):=λw=>by
  have:=m7 (lo:=0) (n:=n+m) (O:=O) (key:=key) λi j h1 h2=>by
   rw[RB,RB];cases c:j<n
   .show s1 i j h1 c
   .cases c2:i<n
    .show w i j c2 (by simp_all) h2
    simp_all
  rwa[PZ,Yv (by simp;simp_all)]at this
 cases c1:n-k=0
 .rw[Yi (by simpa using c1)];show YU (h _ (si _) (whole λi j h1 h2 h3=>Oy (lo i B)<|s2 n j (XI _) h2 h3) hf pe)
 rw[Yh (by simpa using c1)];rw[show 0+k+(n-k)-1=n-1 by simp_all,show 0+k=k by simp_all];show Ys (Zw ez ?_);show Ys (GC L hk hpz (λj hj=>all _<|by simp_all) J (λj l Qu hl=>s2 _ _ (by simp_all) (by simp_all)<|by simp_all) λq hq Ql Ws=>?_);dsimp only;let Ql:∀i,i<q->O.blt (ke key (arrOf st)<|n+i) (ke key (arrOf st)<|n-1)=true:=λi h=>by rw[Xi ez];simpa[beyB] using Ql i h
 let Ws:∀j,n+q<=j->j<n+m->O.kle (ke key (arrOf st)<|n-1) (ke key (arrOf st) j):=λj h1 h2=>by
  have:=Ws (j-n) J J
  rw[show n+(j-n)=j by lia]at this;rwa[Xi ez]
 let f2:∀i j,i<n->n+q<=j->j<n+m->O.kle (ke key (arrOf st) i) (ke key (arrOf st) j):=λi j h1 h2 h3=>Oy (s1 i (n-1) B J) (Ws j h2 h3);cases c2:q=0
 .rw[Yi (by simpa using c2)];show YU (h _ (si _) (whole λi j h1 h2 h3=>f2 i j h1 (by simp_all) h3) hf pe)
 rw[Yh (by simpa using c2)];let zx:((arrOf st).Y k n).o=n-k:=by rw[sM];simp_all
 let zy:((arrOf st).Y n (n+q)).o=q:=by rw[sM];simp_all
 let kx:∀i,i<n-k->ke key ((arrOf st).Y k n) i=ke key (arrOf st) (k+i):=λi hi=>yV B;let ky:∀i,i<q->ke key ((arrOf st).Y n (n+q)) i=ke key (arrOf st) (n+i):=λi hi=>yV J
 let at_:∀lo hi i,i<((arrOf st).Y lo hi).o->∃p,((arrOf st).Y lo hi)[i]?=some p/\S p:=λlo hi i Ww=>⟨((arrOf st).Y lo hi)[i],RC ..,by
  let(p,e,hp):=all (lo+i) (by rw[sM]at Ww;lia)
  have:=RC ((arrOf st).Y lo hi) i Ww
  rw[<-YM,Ry,Ht,Kv,Yi (by simp_all),LR,YM,e]at this;rwa[<-Ym this]⟩
 let C:MC M A E s O key kd S ((arrOf st).Y k n) ((arrOf st).Y n (n+q)):=by
  exists L,at_ _ _,at_ _ _,λi j h1 h2=>?_,λi j h1 h2=>?_,λi h1=>?_,λi h1=>?_
  .rw[kx i J,kx j (by simp_all)];show s1 _ _ J B
  .rw[ky i J,ky j (by simp_all)];show s2 _ _ J J J
  .rw[kx i J,ky 0 J];show hi _ J B
  .rw[kx _ J,ky i J,zx,show k+(n-k-1)=n-1 by lia];show Ql i J
 let lx:((arrOf st).Y k n).m=((arrOf st).m.drop k).M (n-k):=by rw[Ry,Ht]
 let ly:((arrOf st).Y n (n+q)).m=((arrOf st).m.drop n).M q:=by rw[Ry,Ht,b8]
 let CB:∀lo c,(∀i j,lo<=i->i<=j->j<lo+c->O.kle (ke key (arrOf st) i) (ke key (arrOf st) j))->(((arrOf st).m.drop lo).M c).G (RK O key):=λlo c w=>m7 λi j h1 h2=>w _ _ J J J;let px:=CB k (n-k) λi j h1 h2 h3=>s1 i j h2 (by simp_all)
 let py:=CB n q λi j h1 h2 h3=>s2 i j h1 h2 J;let kk:∀{i x},(arrOf st).m[i]?=some x->ke key (arrOf st) i=key x:=λe=>Xi (by simpa using e)
 let split:(arrOf st).m=(arrOf st).m.M k++(((arrOf st).m.drop k).M (n-k)++((arrOf st).m.drop n).M q)++((arrOf st).m.drop (n+q)).M (m-q):=by
  rw[Yv (l:=(arrOf st).m.drop (n+q)) (by simp;grind)]
  conv=>lhs;rw[<-Hr k (arrOf st).m,<-Hr (n-k) ((arrOf st).m.drop k),wU,show k+(n-k)=n by simp_all,<-Hr q ((arrOf st).m.drop n),wU]
  simp only[YV]
 let fin:∀(r:Array Keyed)(g:Nat)(ar:Array Keyed),ar=arrOf st->r.m.G (RK O key)->r.m.Perm (((arrOf st).Y k n).m++((arrOf st).Y n (n+q)).m)->
   Q true (SortSt.mk' (kindOf st) (List.foldl (λa x=>match x with|(p,j)=>a.setIfInBounds (k+j) p) ar r.m.zipIdx) (((pendingOf st).setIfInBounds 0 (0,n+m,p1)).eraseIdxIfInBounds (0+1)) g<|failedOf st):=by
  rintro r g ar ea gs gp;subst ea;rw[lx,ly]at gp;let rl:r.m.f=n-k+q:=by rw[gp.length_eq];simp;lia
  let e:=Zl8 r.m k 0 (arrOf st) (by rw[rl];grind);rw[ND,rl,show k+(n-k+q)=n+q by grind,<-Yv (l:=(arrOf st).m.drop (n+q)) (i:=m-q) (by simp;grind)]at e;show h _ ?_ ?_ hf pe
  .show(List.Perm.of_eq e).l ?_
   conv=>rhs;rw[split]
   show List.Perm.append_right _ (bN _ gp)
  .rw[e,NQ,NQ];exists {?_,gs,λx hx y hy=>?_},CB _ _ λi j h1 h2 h3=>s2 i j J h2 B,λx hx y hy=>?_
   .have:=CB 0 k λi j _ h2 h3=>s1 i j h2 J
    rwa[PZ]at this
   .let⟨i,_,hi,ei⟩:=yW (lo:=0) (by show hx);unfold RK;rw[<-kk ei];rcases Xk.R (gp.mem_iff.R hy) with hy|hy<;>let(j,h1,h2,ej):=yW hy<;>rw[<-kk ej]
    .show s1 _ _ J B
    .show Oy (lo i J) (s2 n j (XI _) h1 J)
   .let⟨j,h1,h2,ej⟩:=yW hy;unfold RK;rw[<-kk ej];rcases Xk.R hx with hx|hx
    .let⟨i,_,hi,ei⟩:=yW (lo:=0) (by show hx);rw[<-kk ei];show f2 i j J h1 B
    .rcases Xk.R (gp.mem_iff.R hx) with hx|hx<;>let(i,h3,h4,ei):=yW hx<;>rw[<-kk ei]
     .show f2 i j B h1 B
     .show s2 i j h3 J J
 let out:∀(r:Array Keyed) XR,WH (SortSt.mk' (kindOf st) (arrOf st) (((pendingOf st).setIfInBounds 0 (0,n+m,p1)).eraseIdxIfInBounds (0+1)) (gallopOf st)<|failedOf st) XR->r.m.G (RK O key)->r.m.Perm (((arrOf st).Y k n).m++((arrOf st).Y n (n+q)).m)->Q (failedOf XR).isNone (SortSt.mk' (kindOf XR) (List.foldl (λa x=>match x with|(p,j)=>a.setIfInBounds (k+j) p) (arrOf XR) r.m.zipIdx) (pendingOf XR) (gallopOf XR)<|failedOf XR):=λr XR ⟨e1,e2,e3,e4⟩ gs gp=>by
  have:=fin r (gallopOf XR) (arrOf XR) e2 gs gp
  rw[e1,e3,e4];rw[hf];rwa[hf]at this
 split
 .show Ys (ZC4 C hk J J λr XR ks hr=>?_);show Ys (LL<|Ys<|PU<|YU<|out r XR ks ?_ ?_)
  .rw[hr,lx,ly];show ZH5 (λ_ _ _ h k=>Oy h k) (λ_ _ h=>Hf h) px py
  .rw[hr];show bX _
 .show Ys (ZR3 C hk J J λr XR ks hr=>?_);show Ys (LL<|Ys<|PU<|YU<|out r XR ks ?_ ?_)
  .rw[hr,lx,ly];show sT.mpr (ZH5 (λ_ _ _ h k=>Oy k h) (λ_ _ h=>Hf h) (sT.mpr py)<|sT.mpr px)
  .rw[hr];show(FA _).l ((bX _).l (((FA _).append (FA _)).l List.perm_append_comm))
def Rn(O:KeyOrd)(key:Keyed->O.α)(kd:SortKind)(a₀:Array Keyed)(st:SortSt)(l:List (Nat×Nat×Nat)):(Prop):=kindOf st=kd/\failedOf st=none/\(arrOf st).Perm a₀/\pendingOf st=l.C/\∀p∈l,1<=p.2.1/\Vz O key (arrOf st) p.1 p.2.1
def gE{n:Nat}(h2:2<=n)(h:n<128):n<=2*minRun' n n 0:=by
 obtain⟨k,rfl⟩:∃k,n=k+1+1:={n-2,B};rw[minRun'_succ];split
 .lia
 .rw[minRun'_succ,Yi J];lia
def ZY8(L:UR M A E s O key kd S){a₀:Array Keyed}(hS:∀x∈a₀.m,S x)(h2:2<=a₀.o)(gD:a₀.o<128){st:SortSt}{Q:Unit->SortSt->Prop}(hk:kindOf st=kd)(hf:failedOf st=none)(ha:arrOf st=a₀)(hp:pendingOf st=#[])
  (h:∀XR,(arrOf XR).Perm a₀->failedOf XR=none->(arrOf XR).m.G (RK O key)->Q () XR):wpS M A E s sortRuns' Q st:=by
 let hh:=gE h2 gD;let sl:∀{XR:SortSt},(arrOf XR).Perm a₀->(arrOf XR).o=a₀.o/\∀x∈(arrOf XR).m,S x:=λh=>{h.size_eq,λx hx=>hS x<|(LW.R h).mem_iff.R hx}
 rw[sortRuns'_eq];show Ys (PU ?_);dsimp only;rw[ha];generalize minRun' a₀.o a₀.o 0=mr at *;show Ys (Sw (Vt
  (I:=λx c XR=>∃lo l,c=(none,lo)/\Rn O key kd a₀ XR l/\((x=0/\lo=0/\l=[])\/(x=1/\lo<a₀.o/\a₀.o<=2*lo/\∃p,l=[(0,lo,p)])\/(lo=a₀.o/\∃n p,(l=[(0,lo,p)]\/∃m q,n+m=lo/\l=[(0,n,p),(n,m,q)]))))
  (Q:=λc XR=>c.1=none/\∃n p l,Rn O key kd a₀ XR l/\(l=[(0,a₀.o,p)]\/∃m q,n+m=a₀.o/\l=[(0,n,p),(n,m,q)])) ?_ ?_ {0,[],Z,{hk,hf,ha▸Fv _,hp,λ_ h=>(by cases h)},.inl ⟨Z,Z,Z⟩}) ?_)
 .rintro x c XR _ hx ⟨lo,l,rfl,⟨r1,r2,r3,r4,r5⟩,hl⟩;cases c1:lo >= a₀.o
  .rw[Yi c1];obtain⟨rfl,n,p,hl⟩:lo=a₀.o/\∃n p,(l=[(0,lo,p)]\/∃m q,n+m=lo/\l=[(0,n,p),(n,m,q)]):=hl.resolve_left J |>.resolve_left J
   show YU {Z,n,p,l,⟨r1,r2,r3,r4,r5⟩,hl}
  rw[Yh c1];let hl:(x=0/\lo=0/\l=[])\/(x=1/\a₀.o<=2*lo/\∃p,l=[(0,lo,p)]):=by
   rcases hl with h|⟨h1,h2,h3,h4⟩|h
   .show .inl h
   .show .inr ⟨h1,h3,h4⟩
   .simp_all
  let(z1,z2):=sl r3;show Ys (nh L r1 z2 J J λm WW t2 SG WL UC=>?_);dsimp only;let w2:=t2.o
  let goal:∀n Gd,Stp lo XR Gd->1<=n->n<=a₀.o-lo->(mr<=n\/n=a₀.o-lo)->Vz O key (arrOf Gd) lo n->∀UM,kindOf UM=kindOf Gd->failedOf UM=failedOf Gd->arrOf UM=arrOf Gd->(l=[]->pendingOf UM=#[(lo,n,0)])->(∀p,l=[(0,lo,p)]->∃q,pendingOf UM=#[(0,lo,q),(lo,n,0)])->∃Ql l2,((none,lo+n):Option Unit×Nat)=(none,Ql)/\Rn O key kd a₀ UM l2/\((x+1=0/\Ql=0/\l2=[])\/(x+1=1/\Ql<a₀.o/\a₀.o<=2*Ql/\∃p,l2=[(0,Ql,p)])\/(Ql=a₀.o/\∃n p,(l2=[(0,Ql,p)]\/∃m q,n+m=Ql/\l2=[(0,n,p),(n,m,q)]))):=by
   intro n Gd t Od RS hq hs UM e1 e2 e3 e4 e5;let pm:(arrOf UM).Perm a₀:=by rw[e3];show t.2.2.2.1.l r3
   rcases hl with ⟨rfl,rfl,rfl⟩|⟨rfl,q2,p,rfl⟩
   .exists _,[(0,n,0)],Z,{e1.l<|t.1.l r1,e2.l<|t.2.1.l r2,pm,e4 Z,λp hp=>?_},?_
    .rw[Xc.R hp];exists Od,e3▸hs
    .cases c:n=a₀.o
     .show .inr (.inr {by simp_all,0,0,.inl<|by rw[RB]})
     .show .inr (.inl {Z,J,J,0,by rw[RB]})
   .let⟨q,e5⟩:=e5 p rfl;exists _,[(0,lo,q),(lo,n,0)],Z,{e1.l<|t.1.l r1,e2.l<|t.2.1.l r2,pm,e5,λp' hp=>?_},.inr<|.inr {B,lo,q,.inr ⟨n,0,Z,Z⟩};rcases Yo.R hp with e|hp
    .rw[e];let(a1,a2):=r5 _ (Xc.mpr Z);exists a1,λi j h1 h2=>?_
     have:=a2 i j h1 h2
     rwa[e3,Lo<|t.2.2.2.2 _ B,Lo (t.2.2.2.2 _<|by simp_all)]
    simp_all
  cases c2:m<mr;rw[Yi c2];show Ys (wpS_lift<|Rv ⟨Z,?_⟩);show Ys (Zv6 L (t2.1.l r1) (t2.all z2) J B UC λVO t3 hs3=>?_);rw[Yh Fe];let e:=(t2.l t3).2.2.1.l r4
  let G:=goal _ VO (t2.l t3) B B B hs3;rotate_left;rw[Yh c2];let e:=t2.2.2.1.l r4
  let G:=goal m WW t2 SG WL (.inl J) UC
  all_goals
   show Ys (PU ?_);rcases hl with ⟨rfl,rfl,rfl⟩|⟨rfl,q2,p,rfl⟩
   .rw[e];show Ys (LL<|YU<|G _ Z Z Z (λ_=>?_) λp h=>(by cases h));rw[e];rfl
   .rw[e];show Ys (Sw (Vt (I:=λ_ c UM=>c=(none,())/\UM=_) (Q:=λc UM=>c=(none,())/\UM=_) ?_ (λ_ _ z=>z) ⟨Z,Z⟩) ?_)
    .rintro y c UM _ _ ⟨rfl,rfl⟩;show Ys (PU ?_);rw[Yh (by rw[e];show RX 1)];show YU ⟨Z,Z⟩
    .rintro c UM ⟨rfl,rfl⟩;show Ys (LL<|Ys<|LL<|YU<|G _ Z Z Z (λh=>by cases h) λp' h=>{_,by rw[e];rfl})
 .rintro c XR ⟨lo,l,rfl,hR,hl⟩;obtain⟨rfl,n,p,hl⟩:lo=a₀.o/\∃n p,(l=[(0,lo,p)]\/∃m q,n+m=lo/\l=[(0,n,p),(n,m,q)]):=hl.resolve_left J |>.resolve_left (by simp_all);exists rfl,n,p,l,hR,hl
 .rintro⟨c,lo⟩ XR ⟨rfl,n,p,l,hR,hl⟩;let dn:∀WW,Rn O key kd a₀ WW [(0,a₀.o,p)]->(pendingOf WW).o<=1/\(arrOf WW).Perm a₀/\failedOf WW=none/\(arrOf WW).m.G (RK O key):=λWW ⟨r1,r2,r3,r4,r5⟩=>⟨by rw[r4];show XI _,r3,r2,by
   have:=m7 (r5 _<|Xc.mpr Z).2
   rwa[PZ,Yv (by simp;rw[r3.size_eq];show XI _)]at this⟩
  show Ys (Sw (Vt
   (I:=λx c WW=>c=(none,())/\((x=0/\WW=XR)\/(pendingOf WW).o<=1/\(arrOf WW).Perm a₀/\failedOf WW=none/\(arrOf WW).m.G (RK O key)))
   (Q:=λc WW=>c=(none,())/\(pendingOf WW).o<=1/\(arrOf WW).Perm a₀/\failedOf WW=none/\(arrOf WW).m.G (RK O key)) ?_ (λc WW zz=>by let(e,hc):=zz;exists e,hc.resolve_left J) ⟨Z,.inl ⟨Z,Z⟩⟩) ?_)
  .rintro x c WW _ hx ⟨rfl,hc⟩;show Ys (PU ?_);rcases hc with ⟨rfl,rfl⟩|d
   .rcases hl with rfl|⟨m,q,e,rfl⟩
    .let d:=dn WW hR;rw[Yi d.1];show YU ⟨Z,d⟩
    .let⟨r1,r2,r3,r4,r5⟩:=hR;let(a1,a2):=r5 _ Ya;let(b1,b2):=r5 _ (Yf _ Ya);let(z1,z2):=sl r3;rw[Yh (by rw[r4];show Nat.not_succ_le_self 1),r4];show Ys (gF L r1 r2 z2 (z1.l e.symm) a1 b1 r4 a2 b2 λVO h1 h2 h3 h4=>?_);show YU {Z,.inr {by simp_all,(LW.mpr h1).l r3,h3,h2}}
   .rw[Yi d.1];show YU ⟨Z,d⟩
  .rintro c WW ⟨rfl,_,d2,d3,d4⟩;show YU (h WW d2 d3 d4)
end
end PyProof.Rows
namespace L2
open PySem PySem.Spec PyProof.Rows
section
variable{prog:Program}{w:World}{A:Around}{E:Ae}{s:Shared}
def ZA6{key:Keyed->O.α}{kd:SortKind}{P:Fin->Shared->Prop}(ho:s.r.E a=some (seqObj "list" vs.C n))(hz:vs.f<128)
  (yU:∀h':Heap,sameBut a s.r h'->2<=vs.f->∀Q:SortKind->Shared->Prop,Q kd {s with heap:=h'}->wpAny (model prog w) A (keyKind' vs.C) Q E {s with heap:=h'})
  (L:∀h':Heap,sameBut a s.r h'->UR (model prog w) A E {s with heap:=h'} O key kd λx=>x∈(pairsOf vs).m)
  (h:∀out:Array Keyed,out.Perm (pairsOf vs)->out.m.G (RK O key)->P (.done<|.ret .none) {s with heap:=sortedHeap s.r a vs (out.H (·.2))}):wpAny (model prog w) A (Builtin.«list.sort» {[.ref a],[]}) P E s:=by
 let Jo:sizeLine=16777216:=RU;obtain⟨e1,Ak⟩:∃e1,(s.r.update a<|Obj.mapSeq λ_=>(#[]:Array Value)).E a=some (seqObj "list" #[] e1):={_,Fo ho λ_=>#[]};rw[list_sort_plain];show XT (Fl ho Z<|XT<|Ou ho Z ?_ B<|Yc _);show XT (seqEpoch_at Ak Z<|XT<|wpAny_newTuple ?_ J);show XT (NL<|SQ ?_);let sm:sameBut a s.r (((s.r.update a<|Obj.mapSeq λ_=>#[]).push (seqObj "tuple" vs.C 0)).push (seqObj "list" #[] 0)):=λb o hb e=>Xl _ (Xl _<|(YJ _ _<|XH hb).l e)
 let ud:(((s.r.update a<|Obj.mapSeq λ_=>#[]).push (seqObj "tuple" vs.C 0)).push (seqObj "list" #[] 0)).E a=some (seqObj "list" #[] e1):=Xl _ (Xl _ Ak);let UC:vs.C.o=vs.f:=Fe
 cases h2:vs.C.o<2
 .rw[Yi h2,Yi h2];show XT (Ye ?_);show XT (Ye ?_);show XT (seqEpoch_at ud Z<|XT<|Ou ud Z ?_ (Yc _) B);simp only[sI,FE,if_false];show Ye (h (pairsOf vs) (Fv _) ?_);show m6 (by rw[YI,pairsOf_size];omega)
 .rw[Yh h2,Yh h2];show XT (yU _ sm (by simp_all) _ ?_);show XT (Tq (ZY8 (L _ sm) (a₀:=pairsOf vs) (λx hx=>hx) (by rw[pairsOf_size];simp_all) (by rwa[pairsOf_size]) (st:=SortSt.mk' kd (vs.C.zip vs.C) #[] 7 none)
   (Q:=λ_ XR=>(arrOf XR).Perm (pairsOf vs)/\failedOf XR=none/\(arrOf XR).m.G (RK O key)) Z Z Z Z λXR a1 a2 a3=>⟨a1,a2,a3⟩) ?_ λ_ _ e=>e)
  rintro⟨⟨⟩,XR⟩ s' ⟨rfl,hp,hf,hs⟩;let hsz:(arrOf XR).o=vs.f:=hp.size_eq.l (pairsOf_size _)
  show XT (seqEpoch_at ud Z<|XT<|Ou ud Z ?_ (Yc _) B);rw[hf];simp only[sI,FE,if_false];show Ye (h _ hp hs)
def ZZ3{key:Keyed->O.α}{kd:SortKind}{Q:Ae}(hl:s.r.IsList l vs.C)(hz:vs.f<128)
  (yU:∀A h',(∀b o,s.r.E b=some o->h'.E b=some o)->2<=vs.f->∀E Q,Q kd {s with heap:=h'}->wpAny (model prog w) A (keyKind' vs.C) Q E {s with heap:=h'})
  (L:∀A' h' E,A'.units<=A.units+4->(∀b o,s.r.E b=some o->h'.E b=some o)->UR (model prog w) A' E {s with heap:=h'} O key kd λx=>x∈(pairsOf vs).m)
  (h:∀out:Array Keyed,out.Perm (pairsOf vs)->out.m.G (RK O key)->Q (.ref<|(~~~s)+1) {s with heap:=sortedAll s.r vs (out.H (·.2))}):wpAny (model prog w) A (call (.builtin "sorted") [.ref l]) Q E s:=by
 let hsz:((s.r.push<|seqObj "list" #[] 0).update (~~~s) (Obj.mapSeq (·++vs.C))).objs.o=(~~~s)+1:=by rw[rZ,size_push']
 let Oq:(((s.r.push<|seqObj "list" #[] 0).update (~~~s) (Obj.mapSeq (·++vs.C))).push (seqObj "list" vs.C 0)).E ((~~~s)+1)=some (seqObj "list" vs.C 0):=hsz▸Qd _ rfl;let Jo:sizeLine=16777216:=RU
 show sU kind_sorted plain_sorted entry_sorted (args_sorted1 _) ?_;show XT (m:=checkCount "sorted" 1 1 _) (Ye<|XT<|collect_list hl ?_ J);show XT (NL ?_ B);rw[hsz];let old:∀b o,s.r.E b=some o->(((s.r.push<|seqObj "list" #[] 0).update (~~~s) (Obj.mapSeq (·++vs.C))).push (seqObj "list" vs.C 0)).E b=some o:=λb o e=>
  Xl _ ((YJ _ _<|XH<|Yw<|Yk e).l (Xl _ e))
 let ne:∀b o,s.r.E b=some o->b≠(~~~s)+1:=λb o e=>Yw (Nat.lt_succ_of_lt<|Yk e);show XT (SQ<|QB wD ⟨_,Oq,Z⟩ wG (ZA6 (O:=O) (key:=key) (kd:=kd) Oq hz (λh' k h2 Q q=>yU _ h' (λb o e=>k b o (ne b o e)<|old b o e) h2 _ Q q) (λh' k=>L _ h' _ (by simp_all) λb o e=>k b o (ne b o e)<|old b o e) λout a1 a2=>{_,Z,?_})<|args_list_sort _);show Ye {_,Z,h out a1 a2}
end
end L2
namespace L2
open PySem PySem.Spec PyProof.Rows My
section
variable{X:Cx}
def Zv4(K:Ad)(hk:autoParam (X.K=K) D1._auto_1):VF X (.builtin "sorted") (λxs H Q=>∃(p:Addr)(ys:List V)(L:Ab)(R:V->Ac->Prop),xs=[.ref p]/\SqL K H p ys/\Bears R ys L/\(∀v l,R v l->∃a,v=.ref a/\SqT K H a (l.H V.int))/\(ys.f<2\/∀l∈L,l≠[])/\ys.f<128/\
  ∀(zs:List V)(M:Ab),Bears R zs M->M.Perm L->M.G (λa b=>HT.lexLt b a=false)->∀l,H l=none->Q ↑l (upd H l<|.lst zs)):=by
 subst hk;intro pins s σ H xs us Q I r h;let(p,ys,L,R,rfl,hq,hb,hR,XJ,hz,q):=h;let(u,rfl,ru):=Vi r;let rfl:u=Value.ref p:=ru;let(XS,rv,pl,hz'):=I.list hq;let Tu:ys.f=XS.f:=rv.f
 let uniq:∀{a:Addr}{l m:Ac},R ↑a l->R ↑a m->l=m:=λ{a l m} h1 h2=>by
  let(a1,e1,t1):=hR _ _ h1;let(a2,e2,t2):=hR _ _ h2;cases e1;cases e2;let(i1,r1,(o1,g1,c1,n1,d1),_):=I.tuple t1;let(i2,r2,(o2,g2,c2,n2,d2),_):=I.tuple t2;rw[g1]at g2;cases g2;rw[d1]at d2;let e:i1.C=i2.C:=by injection d2
  let e:i1=i2:=by simpa using YF Array.toList e
  subst e;show ZP5 (Zu r1) (Zu r2)
 classical
 obtain⟨f,hf⟩:∃f:Value->Ac,∀(a:Addr)(l:Ac),R ↑a l->f ↑a=l:=by
  exists λv=>if h:∃l,∃a,v=Value.ref a/\R ↑a l then Classical.choose h else [],λa l hl=>?_;let ex:∃l,∃b,Value.ref a=Value.ref b/\R ↑b l:=⟨l,a,Z,hl⟩
  grind
 let each:∀(i:Nat)(v:Value),XS[i]?=some v->∃a,v=.ref a/\ys[i]?=some ↑a/\R ↑a (f v)/\L[i]?=some (f v):=λi v e=>by let(hi,hv):=Xv.R e;let(y,ey,ry):=rv.at hi;rw[hv]at ry;let(l,el,hl):=hb.at ey;let(a,ea,_):=hR _ _ hl;subst ea;let rfl:v=Value.ref a:=ry;grind
 let eL:L=XS.H f:=by
  apply LP;intro i;rw[Yn];cases e:XS[i]? with
  |none=>
   show FI (by have:=hb.1;simp_all)
  |some v=>
   grind
 let tup:∀v∈XS,∃a o xs n,v=Value.ref a/\s.r.E a=some o/\o.cls=.type "tuple"/\o.data=.seq xs n/\IntsAre xs.m (f v):=λv hv=>by let(i,e):=Yx hv;let(a,rfl,_,hr,_):=each i v e;let(a1,e1,t1):=hR _ _ hr;cases e1;let(i1,r1,(o1,g1,c1,n1,d1),_):=I.tuple t1;exists a,o1,_,n1,Z,g1,c1,d1,by simpa using Zu r1
 let Mu:∀x∈(pairsOf XS).m,x.1∈XS/\x.2=x.1:=λx hx=>by let hx:x∈(XS.C.zip XS.C).m:=hx;rw[Array.toList_zip]at hx;let(i,e):=Yx hx;grind
 show ZZ3 (O:=m5) (key:=λk=>f k.1) (kd:=tuples'<|Value.type "int" != Value.type "tuple") pl.isList (by simp_all) (λA' h' keep h2 E' Q' q'=>?_) (λA' h' E' _ keep x y st Q' hx hy hkd q'=>?_) λout a1 a2=>?_
 .let Pk:∀v∈XS,f v≠[]:=λv hv=>by grind
  let(fs,t,l,k):=Zq2 (h:=h') (f:=f) (vs:=XS) λv hv=>by let(a,o,xs,n,e1,e2,e3,e4,e5):=tup v hv;exists a,o,xs,n,e1,keep a o e2,e3,e4,e5,Pk v hv
  show W.kat_kind (T:=.type "int") t J (λv hv=>?_) Z q';let(n,t,rfl):=k v hv;show W.Looks.now
 .let⟨ax,ox,xx,nx,e1,e2,e3,e4,e5⟩:=tup x.1 (Mu x hx).1;let(ay,oy,xy,ny,g1,g2,g3,g4,g5):=tup y.1 (Mu y hy).1;rw[lt'_eq];show Ys (PU ?_);rw[hkd,e1,g1];show Ys (wpS_lift<|NK<|W.kat_lt (keep ax ox e2) e4 (keep ay oy g2) g4<|CA 0 e5 g5 Fe ⟨Z,?_⟩);show YU q'
 .let⟨e,he⟩:=sortedAll_at s.r XS (out.H (·.2));let po:out.m.Perm (pairsOf XS).m:=LW.R a1
  let zip2:((pairsOf XS).m.H (·.2))=XS:=by change((XS.C.zip XS.C).m.H (·.2))=XS;rw[Array.toList_zip];show List.map_snd_zip Fe
  let pv:(out.H (·.2)).m.Perm XS:=by rw[Array.toList_map];show zip2▸po.H (·.2)
  let mo:∀v∈(out.H (·.2)).m,∃a,v=Value.ref a/\R ↑a (f v):=λv hv=>by let(i,e):=Yx (pv.mem_iff.R hv);grind
  obtain⟨zs,vz,bz⟩:∃zs:List V,Vals zs (out.H (·.2)).m/\Bears R zs ((out.H (·.2)).m.H f):=by
   generalize (out.H (·.2)).m=os at mo
   induction os with
   |nil=>exists [],.nil,Z,λi a e=>by simp at e
   |cons v os ih=>
    let(zs,vz,bz):=ih λy hy=>mo y (Yf _ hy);let(a,rfl,hr):=mo v Ya;show{.ref a::zs,.cons Z vz,by simp[bz.1],λi l e=>?_};cases i with
    |zero=>
     simp_all
    |succ i=>show bz.2 i l (by simpa using e)
  let Ck:zs.f=XS.f:=by rw[vz.f,pv.length_eq]
  exists .ref<|(~~~s)+1,_,I.laid (t':=s.toks) (o:=.lst zs) (λb o g=>sortedAll_old g) (Ts _) {?_,(out.H (·.2)).m,e,vz,?_},Z,q zs _ bz ?_ ?_ _<|I.hok.fresh<|Ts _
  .simp_all
  .show he
  .grind
  .rw[Array.toList_map,Ov,LQ];show Kk (λ{x y} hx hy Lk=>?_) a2;let h1:=(Mu x<|po.mem_iff.R hx).2
   let h2:=(Mu y<|po.mem_iff.R hy).2;change HT.lexLt (f y.2) (f x.2)=false
   rwa[h1,h2]
end
end L2
namespace My
open PySem L2
def top(i:Nat):(Stmt):=PySem.Challenge.pw_spanrow_k90_whole_text_to_trees.main.body.Q i (.Pass ⟨0,0,0,0⟩)
abbrev sZ8:Stmt:=Ec (top 20) 0
abbrev sZJ:Stmt:=Ec (top 65) 0
abbrev sZ91:Stmt:=top 96
set_option genInjectivity false in
structure Adr where
 (aZ0 aZ1 aZ2 aZ3 aZ4 aZ5 aZ6 aZ7 aZ8 aZ9 aZa aZb aZc aZd aZe aZf aZg aZh aZi aZj aZk aZl aZm aZn aZo aZp aZq aZr aZs aZt aZu aZv aZw aZx aZy aZz aZA aZB aZC aZD aZE aZF aZG aZH aZI aZJ aZK aZL aZM aZN aZO aZP aZQ aZR aZS aZT aZU aZV aZW aZX aZY aZZ aZ01 aZ11 aZ21 aZ31 aZ41 aZ51 aZ61 aZ71 aZ81 aZ91 A_Web A_Part:Addr)
 (dZ0 dZ1 dZ2 dZ3 dZ4 dZ5 dZ6 dZ7 dZ8 dZ9 dZa dZb dZc dZd dZe dZf dZg dZh dZi dZj dZk dZl dZm dZn dZo dZp dZq dZr dZs dZt dZu dZv dZw dZx dZy dZz dZA dZB dZC dZD dZE dZF dZG dZH dZI dZJ dZK dZL dZM dZN dZO dZP dZQ dZR dZS dZT dZU dZV dZW dZX dZY dZZ dZ01 dZ11 dZ21 dZ31 dZ41 dZ51 dZ61 dZ71 dZ81 dZ91:FuncData)
def Txt(K:Ad)(mg:Af)(t:Adr):(Prop):=(((((((DfA K mg "refuse_not_square" (top 11) t.aZ0 t.dZ0 ["table"]/\DfA K mg "row_taken_off" (top 12) t.aZ1 t.dZ1 ["row","pivot","last"])/\(DfA K mg "first_with_some" (top 13) t.aZ2 t.dZ2 ["rows"]/\DfA K mg "determinant" (top 14) t.aZ3 t.dZ3 ["table"]))/\((DfA K mg "row_without" (top 15) t.aZ4 t.dZ4 ["row","number"]/\DfA K mg "table_without" (top 16) t.aZ5 t.dZ5 ["table","number"])/\DfA K mg "is_tie" (top 22) t.aZ6 t.dZ6 ["web","number"]))/\(((DfA K mg "refuse_bad_web" (top 21) t.aZ7 t.dZ7 ["places","ties"]/\Fun K "__init__" "Web.__init__" sZ8 t.aZ8 t.dZ8)/\(Binds K t.dZ8 ["self","places","ties"] []/\DfA K mg "refuse_no_tie" (top 23) t.aZ9 t.dZ9 ["web","number"]))/\((DfA K mg "refuse_bad_row" (top 24) t.aZa t.dZa ["web","numbers"]/\DfA K mg "all_ties" (top 25) t.aZb t.dZb ["web"])/\DfA K mg "ties_beside" (top 26) t.aZc t.dZc ["web","ties"])))/\((((DfA K mg "ties_without" (top 27) t.aZd t.dZd ["ties","left_out"]/\DfA K mg "have_common" (top 28) t.aZe t.dZe ["one","other"])/\(DfA K mg "is_set" (top 29) t.aZf t.dZf ["web","ties"]/\DfA K mg "made_set" (top 30) t.aZg t.dZg ["web","ties"]))/\((DfA K mg "merged_marks" (top 31) t.aZh t.dZh ["web","marks","ties"]/\DfA K mg "piece_marks" (top 32) t.aZi t.dZi ["web","ties"])/\DfA K mg "pieces_of" (top 33) t.aZj t.dZj ["web","ties"]))/\(((DfA K mg "is_joined" (top 34) t.aZk t.dZk ["web","ties"]/\DfA K mg "weighted_table" (top 36) t.aZl t.dZl ["web","weights"])/\(DfA K mg "pull_table" (top 37) t.aZm t.dZm ["web"]/\DfA K mg "tree_count" (top 38) t.aZn t.dZn ["web"]))/\((DfA K mg "part_count" (top 39) t.aZo t.dZo ["web","inside","outside"]/\DfA K mg "count_with" (top 40) t.aZp t.dZp ["web","inside","outside"])/\DfA K mg "is_loop" (top 43) t.aZq t.dZq ["ends"]))))/\(((((DfA K mg "left_without" (top 44) t.aZr t.dZr ["web","tie"]/\DfA K mg "drawn_numbers" (top 45) t.aZs t.dZs ["places","low","high"])/\(DfA K mg "drawn_web" (top 46) t.aZt t.dZt ["places","ties","low","high"]/\DfA K mg "drawn_together" (top 47) t.aZu t.dZu ["web","tie"]))/\((DfA K mg "count_by_parting" (top 48) t.aZv t.dZv ["web"]/\DfA K mg "is_tree" (top 50) t.aZw t.dZw ["web","ties"])/\DfA K mg "refuse_no_tree" (top 51) t.aZx t.dZx ["web","tree"]))/\(((DfA K mg "grown_tree" (top 52) t.aZy t.dZy ["web","inside","order"]/\DfA K mg "tree_cut" (top 53) t.aZz t.dZz ["web","tree","tie"])/\(DfA K mg "ring_of" (top 54) t.aZA t.dZA ["web","tree","tie"]/\DfA K mg "least_in" (top 56) t.aZB t.dZB ["web","inside","outside"]))/\((DfA K mg "tree_at" (top 57) t.aZC t.dZC ["web","number"]/\DfA K mg "lesser_ties" (top 58) t.aZD t.dZD ["ties","bound"])/\DfA K mg "tree_behind" (top 59) t.aZE t.dZE ["web","tree"])))/\((((DfA K mg "refuse_below_nought" (top 60) t.aZF t.dZF ["number"]/\DfA K mg "trees_from" (top 61) t.aZG t.dZG ["web","number","most"])/\(DfA K mg "end_pieces" (top 63) t.aZH t.dZH ["web","marks","tie"]/\DfA K mg "open_ties" (top 64) t.aZI t.dZI ["web","marks","gone"]))/\((Fun K "__init__" "Part.__init__" sZJ t.aZJ t.dZJ/\Binds K t.dZJ ["self","web","kept","shut","lead"] [])/\DfA K mg "whole_part" (top 66) t.aZK t.dZK ["web"]))/\(((DfA K mg "half_without" (top 67) t.aZL t.dZL ["part"]/\DfA K mg "half_with" (top 68) t.aZM t.dZM ["part"])/\DfA K mg "part_size" (top 69) t.aZN t.dZN ["part"])/\((DfA K mg "trees_with_tie" (top 70) t.aZO t.dZO ["part","into"]/\DfA K mg "undivided_row" (top 71) t.aZP t.dZP ["part"])/\DfA K mg "trees_between" (top 72) t.aZQ t.dZQ ["part","size","start","stop"])))))/\((((((DfA K mg "row_from" (top 73) t.aZR t.dZR ["web","number","most"]/\DfA K mg "tree_sum" (top 75) t.aZS t.dZS ["web","weights"])/\(DfA K mg "factors_of" (top 76) t.aZT t.dZT ["number","base","many"]/\DfA K mg "sorts_of" (top 77) t.aZU t.dZU ["web","ties"]))/\((DfA K mg "is_number" (top 81) t.aZV t.dZV ["word"]/\DfA K mg "read_number" (top 82) t.aZW t.dZW ["word"])/\DfA K mg "read_line" (top 83) t.aZX t.dZX ["line","name","many"]))/\(((DfA K mg "read_web" (top 84) t.aZY t.dZY ["text"]/\DfA K mg "_law_cell" (top 86) t.aZZ t.dZZ ["script","k"])/\(DfA K mg "_law_mixed" (top 87) t.aZ01 t.dZ01 ["cell","k"]/\DfA K mg "_law_draws" (top 88) t.aZ11 t.dZ11 ["script","start","count","way"]))/\((DfA K mg "_law_ties" (top 89) t.aZ21 t.dZ21 ["draws","places","hang"]/\DfA K mg "_law_web" (top 90) t.aZ31 t.dZ31 ["script","most","count"])/\DfA K mg "_law_marks" (top 91) t.aZ41 t.dZ41 ["places","ties","some"])))/\((((DfA K mg "_law_all" (top 92) t.aZ51 t.dZ51 ["places","ties"]/\DfA K mg "_law_lengths" (top 93) t.aZ61 t.dZ61 ["script","count"])/\(DfA K mg "_law_text" (top 94) t.aZ71 t.dZ71 ["places","ties","lengths"]/\DfA K mg "_law_with_good" (top 95) t.aZ81 t.dZ81 ["web","count","trees"]))/\((DfA K mg "law" sZ91 t.aZ91 t.dZ91 ["script"]/\mg "Web"=some (.ref t.A_Web))/\Cls K t.A_Web))/\(((Mk K t.A_Web t.aZ8/\NoAttr K t.A_Web "places")/\NoAttr K t.A_Web "ties")/\((mg "Part"=some (.ref t.A_Part)/\Cls K t.A_Part)/\Mk K t.A_Part t.aZJ))))/\(((((NoAttr K t.A_Part "web"/\NoAttr K t.A_Part "kept")/\(NoAttr K t.A_Part "shut"/\NoAttr K t.A_Part "lead"))/\((NoAttr K t.A_Part "least"/\NoAttr K t.A_Part "incoming")/\NoAttr K t.A_Part "further"))/\((((∃tk,mg "MOST_PLACES"=some (.int 14 tk))/\(∃tk,mg "MOST_TIES"=some (.int 30 tk)))/\((∃tk,mg "MOST_PARTED_TIES"=some (.int 12 tk))/\(∃tk,mg "FIGURES"=some (.str "0123456789" tk))))/\(((∃tk,mg "MOST_FIGURES"=some (.int 60 tk))/\mg "any"=none)/\mg "enumerate"=none)))/\((((mg "int"=none/\mg "len"=none)/\(mg "list"=none/\mg "max"=none))/\((mg "min"=none/\mg "range"=none)/\mg "reversed"=none))/\(((mg "set"=none/\mg "sorted"=none)/\mg "str"=none)/\((mg "sum"=none/\mg "tuple"=none)/\mg "zip"=none))))))
section
variable(T:Txt K mg t)
def Txt.qZ0:=T.1.1.1.1.1.1.1
def Txt.qZ1:=T.1.1.1.1.1.1.2
def Txt.qZ2:=T.1.1.1.1.1.2.1
def Txt.qZ3:=T.1.1.1.1.1.2.2
def Txt.qZ4:=T.1.1.1.1.2.1.1
def Txt.qZ5:=T.1.1.1.1.2.1.2
def Txt.qZ6:=T.1.1.1.1.2.2
def Txt.qZ7:=T.1.1.1.2.1.1.1
def Txt.fZ8:=T.1.1.1.2.1.1.2
def Txt.bZ8:=T.1.1.1.2.1.2.1
def Txt.qZ9:=T.1.1.1.2.1.2.2
def Txt.qZa:=T.1.1.1.2.2.1.1
def Txt.qZb:=T.1.1.1.2.2.1.2
def Txt.qZc:=T.1.1.1.2.2.2
def Txt.qZd:=T.1.1.2.1.1.1.1
def Txt.qZe:=T.1.1.2.1.1.1.2
def Txt.qZf:=T.1.1.2.1.1.2.1
def Txt.qZg:=T.1.1.2.1.1.2.2
def Txt.qZh:=T.1.1.2.1.2.1.1
def Txt.qZi:=T.1.1.2.1.2.1.2
def Txt.qZj:=T.1.1.2.1.2.2
def Txt.qZk:=T.1.1.2.2.1.1.1
def Txt.qZl:=T.1.1.2.2.1.1.2
def Txt.qZm:=T.1.1.2.2.1.2.1
def Txt.qZn:=T.1.1.2.2.1.2.2
def Txt.qZo:=T.1.1.2.2.2.1.1
def Txt.qZp:=T.1.1.2.2.2.1.2
def Txt.qZq:=T.1.1.2.2.2.2
def Txt.qZr:=T.1.2.1.1.1.1.1
def Txt.qZs:=T.1.2.1.1.1.1.2
def Txt.qZt:=T.1.2.1.1.1.2.1
def Txt.qZu:=T.1.2.1.1.1.2.2
def Txt.qZv:=T.1.2.1.1.2.1.1
def Txt.qZw:=T.1.2.1.1.2.1.2
def Txt.qZx:=T.1.2.1.1.2.2
def Txt.qZy:=T.1.2.1.2.1.1.1
def Txt.qZz:=T.1.2.1.2.1.1.2
def Txt.qZA:=T.1.2.1.2.1.2.1
def Txt.qZB:=T.1.2.1.2.1.2.2
def Txt.qZC:=T.1.2.1.2.2.1.1
def Txt.qZD:=T.1.2.1.2.2.1.2
def Txt.qZE:=T.1.2.1.2.2.2
def Txt.qZF:=T.1.2.2.1.1.1.1
def Txt.qZG:=T.1.2.2.1.1.1.2
def Txt.qZH:=T.1.2.2.1.1.2.1
def Txt.qZI:=T.1.2.2.1.1.2.2
def Txt.fZJ:=T.1.2.2.1.2.1.1
def Txt.bZJ:=T.1.2.2.1.2.1.2
def Txt.qZK:=T.1.2.2.1.2.2
def Txt.qZL:=T.1.2.2.2.1.1.1
def Txt.qZM:=T.1.2.2.2.1.1.2
def Txt.qZN:=T.1.2.2.2.1.2
def Txt.qZO:=T.1.2.2.2.2.1.1
def Txt.qZP:=T.1.2.2.2.2.1.2
def Txt.qZQ:=T.1.2.2.2.2.2
def Txt.qZR:=T.2.1.1.1.1.1.1
def Txt.qZS:=T.2.1.1.1.1.1.2
def Txt.qZT:=T.2.1.1.1.1.2.1
def Txt.qZU:=T.2.1.1.1.1.2.2
def Txt.qZV:=T.2.1.1.1.2.1.1
def Txt.qZW:=T.2.1.1.1.2.1.2
def Txt.qZX:=T.2.1.1.1.2.2
def Txt.qZY:=T.2.1.1.2.1.1.1
def Txt.qZZ:=T.2.1.1.2.1.1.2
def Txt.qZ01:=T.2.1.1.2.1.2.1
def Txt.qZ11:=T.2.1.1.2.1.2.2
def Txt.qZ21:=T.2.1.1.2.2.1.1
def Txt.qZ31:=T.2.1.1.2.2.1.2
def Txt.qZ41:=T.2.1.1.2.2.2
def Txt.qZ51:=T.2.1.2.1.1.1.1
def Txt.qZ61:=T.2.1.2.1.1.1.2
def Txt.qZ71:=T.2.1.2.1.1.2.1
def Txt.qZ81:=T.2.1.2.1.1.2.2
def Txt.qZ91:=T.2.1.2.1.2.1.1
def Txt.c_Web:=T.2.1.2.1.2.1.2
def Txt.cl_Web:=T.2.1.2.1.2.2
def Txt.k_Web:=T.2.1.2.2.1.1.1
def Txt.n_Web_places:=T.2.1.2.2.1.1.2
def Txt.n_Web_ties:=T.2.1.2.2.1.2
def Txt.c_Part:=T.2.1.2.2.2.1.1
def Txt.cl_Part:=T.2.1.2.2.2.1.2
def Txt.k_Part:=T.2.1.2.2.2.2
def Txt.n_Part_web:=T.2.2.1.1.1.1.1
def Txt.n_Part_kept:=T.2.2.1.1.1.1.2
def Txt.n_Part_shut:=T.2.2.1.1.1.2.1
def Txt.n_Part_lead:=T.2.2.1.1.1.2.2
def Txt.n_Part_least:=T.2.2.1.1.2.1.1
def Txt.n_Part_incoming:=T.2.2.1.1.2.1.2
def Txt.n_Part_further:=T.2.2.1.1.2.2
def Txt.g_MOST_PLACES:=T.2.2.1.2.1.1.1
def Txt.g_MOST_TIES:=T.2.2.1.2.1.1.2
def Txt.g_MOST_PARTED_TIES:=T.2.2.1.2.1.2.1
def Txt.g_FIGURES:=T.2.2.1.2.1.2.2
def Txt.g_MOST_FIGURES:=T.2.2.1.2.2.1.1
def Txt.n_any:=T.2.2.1.2.2.1.2
def Txt.n_enumerate:=T.2.2.1.2.2.2
def Txt.n_int:=T.2.2.2.1.1.1.1
def Txt.n_len:=T.2.2.2.1.1.1.2
def Txt.n_list:=T.2.2.2.1.1.2.1
def Txt.n_max:=T.2.2.2.1.1.2.2
def Txt.n_min:=T.2.2.2.1.2.1.1
def Txt.n_range:=T.2.2.2.1.2.1.2
def Txt.n_reversed:=T.2.2.2.1.2.2
def Txt.n_set:=T.2.2.2.2.1.1.1
def Txt.n_sorted:=T.2.2.2.2.1.1.2
def Txt.n_str:=T.2.2.2.2.1.2
def Txt.n_sum:=T.2.2.2.2.2.1.1
def Txt.n_tuple:=T.2.2.2.2.2.1.2
def Txt.n_zip:=T.2.2.2.2.2.2
end
end My
namespace My
open PySem L2 PyProof.Rows
set_option maxHeartbeats 4000000
def gC(st:Stmt):(Pos):=match (Rh st).Q 9 (.Pass ⟨0,0,0,0⟩) with
 | .Assign _ (.Call _ _ [k] _) _=>(match k.value with
  | .Lambda _ _ _ p=>p
  |_=>⟨0,0,0,0⟩)
 |_=>⟨0,0,0,0⟩
def gB:(Str):=Str.ofString "Part.__init__"++Str.ofString ".<locals>."++Str.ofString "<lambda>"
abbrev Wf(H:Hp)(Pt:Addr):Prop:=TabH H Pt (gC sZJ) gB
inductive spZ91(K:Ad)(Pt:Addr)(vs:List V)(H:Hp)(Q:VK)(_:XK):Prop
 |mk (a:Addr) (ns:Ac) (_:vs=[.ref a]) (_:SqL K H a (IL ns)) (_:ns.f<=63) (_:Wf H Pt) (_:∀H',Q (.bl true) H')
structure Hk where
 (P:Program)(w:World)(K:Ad)(mg:Af)(base:Heap)(t:Adr)(Pt:Addr)
def Hk.is(c:Hk):(Prop):=∀(T:Txt c.K c.mg c.t)(hB:TR c.K c.mg c.base c.t.dZJ c.Pt),Xs c.P c.w c.base Xz T.qZ91 48 (spZ91 c.K c.Pt)
def KU:∃c:Hk,c.is->∀d:Hk,d.is:=(Classical.em (∀d:Hk,d.is)).elim (λh=>{{default,W.aWorld 0,[],λ_=>none,default,by constructor<;>show default,default},λ_=>h}) λh=>by let(c,h):=Classical.not_forall.R h;exists c,λk=>absurd k h
def hk:=KU.choose
def P:=hk.P
def w:=hk.w
def K:=hk.K
def mg:=hk.mg
def base:=hk.base
def t:=hk.t
def Pt:=hk.Pt
inductive spZ0(K:Ad)(vs:List V)(H:Hp)(Q:VK)(_:XK):Prop
 |mk (a kd xs L:_) (_:vs=[.ref a]) (_:SqK kd K H a xs) (_:Bears (BO K H) xs L) (_:((∀l∈L,l.f=L.f)->Q .non H)) (_:(¬(∀l∈L,l.f=L.f)->False))
def gz(T:Txt K mg t):Xs P w base Xz T.qZ0 1 (spZ0 K):=by
 show T.qZ0.okI ["table","row"] D λXF A outer s H vs Q E hr h=>?_
 .let⟨a,kd,xs,L,rfl,hS,hB,q,qe⟩:=h;show⟨_,(XM (WT YH Z (UA K<|pv 0) (Xm 1)
   (XM (WN (Zh Ue (Zc (Zf K) rN T.n_len Boot.«len»<|XX (pv 1) XW) (Zc (Zf K) rN T.n_len Boot.«len»<|XX (pv 0) XW)<|Zo _)
   (XM ZV)
   Zm)))),?_⟩
  let KS:=hB.1;exists _,Z,a,Z,DJ (K:=K) (k:=kd) (a:=a) (xs:=xs) (λi σ H2=>∃v1,σ=[some ↑a,v1]/\H2=H/\∀l∈L.M i,l.f=L.f) {none,Z,Z,λl h=>(by cases h)} (λi σ H2 _ zz=>by let(_,_,e,_):=zz;show e▸hS) ?_ ?_
  .rintro i v σ H2 hi ⟨v1,rfl,rfl,Ua⟩;let(l,hl,r,k,rfl,hr):=hB.at hi;show nm ?_;exists _,Z,r,_,Z,hr.or,_,Z,a,xs,Z,hS.or,Z,_,Z,?_;rw[Xh,ZH];show WQ (λe=>?_) (λe=>?_)
   .exists _,Z,Z,λm hm=>?_;grind
   .show qe λh=>e (by rw[h l (Xf hl),KS])
  grind
inductive spZ1(K:Ad)(vs:List V)(H:Hp)(Q:VK)(_:XK):Prop
 |mk (r p x y last l q:_) (_:vs=[.ref r,.ref p,.int last]) (_:SqL K H r (IL<|x::l)) (_:SqL K H p (IL<|y::q)) (_:l.f=q.f) (_:l.f<=1000) (_:last≠0) (_:last.natAbs<2^9000) (_:(∀z∈x::l,z.natAbs<2^9000)) (_:(∀z∈y::q,z.natAbs<2^9000)) (_:∀c H',Same H H'->H c=none->H' c=some (.lst<|IL<|OV y q last<|x::l)->Q ↑c H')
def gy(T:Txt K mg t):Xs P w base Xz T.qZ1 1 (spZ1 K):=by
 show T.qZ1.okI ["row","pivot","last"] D λXF A outer s H vs Q E hr h=>?_
 .let⟨r,p,x,y,last,l,q',rfl,hR,hP,hlq,hl,l0,l1,hx,hy,q⟩:=h;exists _,(XM<|Zk<|US Z (sc0:=Xo<|top 12) (N0:=["row","pivot","last"]) (N':=["own","other","pivot","row","last"]) (o:=2) (fr:=[1,0,2]) ⟨Z,D,D,D,Z,D⟩ (Li K Z T.n_zip<|XX (ZQ (ZU K) (pv 0) (Wd XN) Sr)<|XX (ZQ (ZU K) (pv 1) (Wd XN) Sr) XW) (DX<|Oj AP<|Oj AP DY) (λ_ _ _ _=>(Pl (n:=2) K Z<|Zx (Xm 0)<|Zx (Xm 1) PJ)) (λ_ _ _ _=>ZN) λ_ _ _ _=>(Zp ZC7 (Zp TF (Zp lC (ZA (Ze K) (pv 2) XN λ_ _=>rfl)<|pv 0)<|Zp lC (ZA (Ze K) (pv 3) XN λ_ _=>rfl)<|pv 1)<|pv 4)),?_;exists _,Z,_,Z,r,_,Z,hR,λp1 Vu=>?_;rw[ZA8];let s1:=XY (o:=.lst<|IL l) Vu
  exists _,Z,_,Z,p,_,Z,s1.seq hP,λp2 Wn=>?_;rw[ZA8];let s2:=XY (o:=.lst<|IL q') Wn
  let WE:=s1.l s2;let h1:=s2 _ _ (XZ (H:=H) (a:=p1) (o:=.lst<|IL l))
  let h2:(upd (upd H p1<|.lst<|IL l) p2<|.lst<|IL q') p2=some (.lst<|IL q'):=XZ;generalize upd (upd H p1<|.lst<|IL l) p2 (.lst<|IL q')=H2 at *;show⟨p1,p2,Z,{_,_,SqL.of h1,SqL.of h2},lT (K:=K) (a:=p1) (b:=p2) (xs:=IL l) (ys:=IL q') (λi zs H3=>Same H2 H3/\i<=l.f/\zs=IL ((OV y q' last<|x::l).M i)) {Same.refl _,Yc _,Z} (by simp_all) (Zi<|by rw[Xh];lia)
   (λi zs H3 hi zz=>by let(e,Ws,ez):=zz;show{SqL.of<|e _ _ h1,SqL.of<|e _ _ h2,by rw[ez,Xh,Yu];lia}) ?_ ?_⟩
  .rintro i u v zs H3 pt Se hu hv ⟨s3,Vm,rfl⟩ S Xy;let(own,rfl,ho):=UL hu;let(Jt,rfl,ht):=UL hv;let Xn:=(Xv.R ho).1
   let s4:=XY (o:=.tup [.int own,.int Jt]) Se;exists pt,_,Z,SqT.of XZ,Z,_,_,Z,_,_,Z,Z,?_;let QL:=WE.l (s3.l s4)
   let a1:=hy y Ya;let a2:=hx own (Yf _<|Xf ho)
   let a3:=hx x Ya;let a4:=hy Jt (Yf _<|Xf ht)
   exists _,Z,p,_,0,.int y,Z,Z,QL.seq hP,Zv (n:=0) Z Z,_,Z,_,_,Z,Z,⟨a1,a2⟩,_,Z,r,_,0,.int x,Z,Z,QL.seq hR,Zv (n:=0) Z Z,_,Z,_,_,Z,Z,⟨a3,a4⟩,_,_,Z,Z,_,Z,_,_,Z,Z,⟨l0,l1⟩,?_;show Xy _ _ {s3.l s4,Xn,?_};let e:(OV y q' last<|x::l)[i]?=some ((y*own-x*Jt).fdiv last):=by change(List.zipWith _ l q')[i]?=_;rw[LV,ho,ht];rfl
   rw[YA,e];show(Wh _ _).symm
  .rintro zs H3 ⟨s3,_,rfl⟩ c hc;rw[Xh,Yv (by rw[BP (by simp_all)];simp_all)];show q c _ (WE.l<|s3.l<|XY hc) ((WE.l s3).free hc) XZ
inductive spZ2(K:Ad)(vs:List V)(H:Hp)(Q:VK)(_:XK):Prop
 |mk (a ys R:_) (_:vs=[.ref a]) (_:SqL K H a ys) (_:Bears (RO H) ys R) (_:(∀l∈R,0<l.f)) (_:(∀H':Hp,Same H H'->(∀i,i<R.f->fnL R i 0=0)->Q .non H')) (_:(∀t H',Same H H'->t<R.f->fnL R t 0≠0->Q (.int t) H'))
def gx(T:Txt K mg t):Xs P w base Xz T.qZ2 1 (spZ2 K):=by
 show T.qZ2.okI ["rows","at","row"] D λXF A outer s H vs Q E hr h=>?_
 .let⟨a,ys,R,rfl,hS,hB,hp,q0,q1⟩:=h;show⟨_,(XO (WT YH Z (GN K Z T.n_enumerate<|XX (pv 0) XW) (Pl (n:=2) K Z<|Zx (Xm 1)<|Zx (Xm 2) PJ)
   (XM (WN (Zh Ue (ZA (Ze K) (pv 2) XN λ_ _=>rfl) XN<|Zo _)
   (XM<|Zk<|pv 1)
   Zm)))
   (XM<|Zk Ka)),?_⟩
  let Tu:=hB.1;exists _,Z,a,Z,{_,hS},aI (K:=K) (a:=a) (xs:=ys) (λi σ H2=>∃v1 v2,σ=[some ↑a,v1,v2]/\Same H H2/\∀j,j<i->fnL R j 0=0) {none,none,Z,Same.refl _,λj h=>absurd h<|VX _} (λi σ H2 _ zz=>by let(_,_,_,e,_):=zz;show e.seq hS) ?_ ?_
  .rintro i v σ H2 pt Se hi ⟨v1,v2,rfl,s2,hz⟩;let(l,hl,r,rfl,hr):=hB.at hi;let Mt:=hp l (Xf hl)
   obtain⟨x,l',rfl⟩:∃x l',l=x::l':=by
    cases l with
    |nil=>show absurd Mt (RX 0)
    |cons x l'=>lia
   let e0:fnL R i 0=x:=Qq hl rfl;let s3:=s2.l (XY (o:=.tup [.int i,.ref r]) Se)
   exists pt,_,Z,SqT.of XZ,Z,_,_,Z,_,_,Z,Z,?_;generalize upd H2 pt (.tup [.int i,.ref r])=H3 at *;exists _,Z,r,_,0,.int x,Z,Z,SqL.of<|s3 _ _ hr,Zv (n:=0) Z Z,Z,_,Z,?_;show WQ (λe=>?_) (λe=>?_)
   .exists _,_,Z,s3,λj hj=>?_;grind
   .exists _,Z,q1 i H3 s3 B<|by simp_all
  .rintro σ H2 ⟨v1,v2,rfl,s2,hz⟩;show q0 H2 s2 λi hi=>hz i (by simp_all)
inductive spZ3(K:Ad)(vs:List V)(H:Hp)(Q:VK)(_:XK):Prop
 |mk (a kd xs L:_) (_:vs=[.ref a]) (_:SqK kd K H a xs) (_:Bears (BO K H) xs L) (_:L.f<=16) (_:(∀i j,i<L.f->j<L.f->(fnL L i j).natAbs<=2^400)) (_:((∀l∈L,l.f=L.f)->∀H':Hp,Same H H'->Q (.int<|det L.f<|fnL L) H')) (_:(¬(∀l∈L,l.f=L.f)->∀H':Hp,Same H H'->False))
def gu{s rest:TS}{tB:Ends}{σ:L2.St}{H:Hp}(P:L2.St->Hp->Prop)(h1:∀σ' H',P σ' H'->rest tB σ' H')(h2:∀K:L2.St->Hp->Prop,(∀σ' H',P σ' H'->K σ' H')->s {tB with nx:=K} σ H):Nz s rest tB σ H:=h2 _ h1
def OO:FnScope ["table","rows","sign","last","at","pivot"] ["table"] (Xo (top 14)):=TQ D
def yT(T:Txt K mg t):Xs P w base Xz T.qZ3 2 (spZ3 K):=by
 show T.qZ3.okI ["table","rows","sign","last","at","pivot"] D λXF A outer s H vs Q E hr h=>?_
 .let⟨a,kd,xs,L,rfl,hS,hB,yS,hA0,q,qe⟩:=h;show⟨_,(XO (ZW<|XC (gz T) hr T.qZ0 Zs<|XX (pv 0) XW)
   (XO (Rg (i:=1) Z OO.nd Z Z (sc0:=Xo<|top 14) (N0:=["table","rows","sign","last","at","pivot"]) (N':=["row"]) (o:=1) (fr:=[]) ⟨Z,D,D,D,Z,D⟩ (UA K<|pv 0) (Zq AP) (λ_ _ _ _=>(Xm 0)) (λ_ _ _ _=>ZN) λ_ _ _ _=>(Zl (GO K) rN T.n_list Boot.«list»<|XX (pv 0) XW))
   (XO (Zd 2 XN)
   (XO (VP (i:=3) OO.nd Z (Or.inr Z) XN)
   (XO (bC YH (Zh Oo (Zc (Zf K) rN T.n_len Boot.«len»<|XX (pv 1) XW) XN<|Zo _)
   (XO (Zd 4<|XC (gx T) hr T.qZ2 Zs<|XX (pv 1) XW)
   (XO (WN (Zh EH (pv 4) Ka<|Zo _)
   (XM<|Zk XN)
   Zm)
   (XO (WN (Zh Rm (Zp ZX (pv 4) XN) XN<|Zo _)
   (XM<|Zd 2<|EM EJ<|pv 2)
   Zm)
   (XO (VP (i:=5) OO.nd Z (Or.inr Z)<|Uq K QP PySem.F.slot_list_pop PySem.F.type_list_pop qp (pv 1)<|XX (pv 4) XW)
   (XO (Rg (i:=1) Z OO.nd Z Z (sc0:=Xo<|top 14) (N0:=["table","rows","sign","last","at","pivot"]) (N':=["row","pivot","last"]) (o:=1) (fr:=[5,3]) ⟨Z,D,D,D,Z,D⟩ (ZD K<|pv 1) (Zq AP) (λ_ _ _ _=>(Xm 0)) (λ_ _ _ _=>ZN) λ_ _ _ _=>(XC (gy T) hr T.qZ1 Zs<|XX (pv 0)<|XX (pv 1)<|XX (pv 2) XW))
   (XM<|VP (i:=3) OO.nd Z (Or.inr Z)<|ZA (Ze K) (pv 5) XN λ_ _=>rfl)))))))
   (XM<|Zk<|Zp lC (pv 2)<|pv 3)))))),?_⟩
  let KS:=hB.1;exists _,Z,a,kd,xs,L,Z,hS,hB,λPb=>?_,λh=>qe h H<|Same.refl H;let q:=q Pb
  obtain⟨n,hn⟩:∃n,n=L.f:={_,Z};rw[<-hn]at q Pb hA0 yS;exists _,Z,a,Z,Pm (K:=K) (k:=kd) (a:=a) (xs:=xs) (λi zs H2=>Same H H2/\i<=xs.f/\Bears (RO H2) zs (L.M i)) {Same.refl _,Yc _,{Z,λi l e=>by simp at e}} (Zi J) (λi zs H2 hi zz=>by let(e,Ws,ez):=zz;show{hS.same e,by rw[ez.1,Yu];simp_all}) ?_ ?_
  .rintro i v zs H2 hi ⟨s2,Vm,hZ⟩ S Xy;let(l,hl,r,k,rfl,hr):=hB.at hi;let Xn:=(Xv.R hi).1
   show nm ?_;exists _,Z,r,_,Z,(hr.same s2).or,λc hc=>Xy _ _ {s2.l<|XY hc,Xn,?_};rw[YA,hl];show(hZ.imp λ_ _ zz=>by let(r',e,h):=zz;exists r',e,XY hc _ _ h).snoc ⟨c,Z,XZ⟩
  rintro zs H2 ⟨s2,_,hZ⟩ rA ON;rw[KS,Yy]at hZ;let s3:=s2.l (XY (o:=.lst zs) ON)
  exists λm σ H4=>∃A k rA ys R sgn last v4 v5,σ=[some ↑a,some<|.ref rA,some<|.int sgn,some<|.int last,v4,v5]/\Same H H4/\H rA=none/\H4 rA=some (.lst ys)/\Bears (LiV rA H4) ys R/\R.f=m/\(∀l∈R,l.f=m)/\k+m=n/\RJ A k m (fnL R) last/\det n (fnL L)=sgn*det n A/\(∀i j,i<n->j<n->(A i j).natAbs<=2^400)/\(m=0->last=det n A)/\(sgn=1\/sgn=-1)/\last.natAbs<2^9000,{n,fnL L,0,rA,zs,L,1,1,none,none,Z,s3,s2.free ON,XZ,?_,hn.symm,Pb,by simp_all,BW _ _,B,hA0,λe=>by rw[e];rfl,.inl Z,Nat.one_lt_two_pow AP},?_
  .show hZ.imp λv l zz=>by let(r,e,h):=zz;exists r,e,XY ON _ _ h,Za h ON
  rintro m σ H4 ⟨A,k,rA,ys,R,sgn,last,v4,v5,rfl,s4,UN,KR,hR,uc,Ms,t9,Mr,yR,hAb,hfin,hsg,hlb⟩;let Tu:=hR.1
  exists _,Z,rA,ys,Z,.inl<|SqL.of KR,_,_,Z,Z,_,Z,?_;show Xt (λIk=>?_) (λIk=>?_)
  .obtain⟨M,rfl⟩:∃M,m=M+1:={m-1,J};exists _,λσ' H' h=>{M,Ho M,h},?_;let gr:∀l∈R,∀z∈l,z.natAbs<2^9000:=λl hl z hz=>by
    let(i,hi):=Yx hl;let(j,hj):=Yx hz;let h1:=(Xv.R hi).1
    let h2:=(Xv.R hj).1
    have:=BQ Mr t9 yS hAb (i:=i) (j:=j) (by simp_all) (by simp_all)
    rwa[Qq hi hj]at this
   exists _,Z,rA,ys,R,Z,SqL.of KR,hR.imp λ_ _ h=>h.list,λl hl=>by simp_all,λH5 s5 h0=>?_,λt H5 s5 ht XJ=>?_
   .exists _,Z,Z,_,Z,?_;show pd (c:=V.non=V.non) Z ?_;let z:det n A=0:=by
     have:=lG Mr λi hi=>h0 i (by simp_all)
     rwa[show k+M+1=n by omega]at this
    rw[yR,z,RV]at q;show q H5 (s4.l s5)
   exists _,Z,Z,_,Z,?_;show DL (c:=V.int (t:Int)=V.non) (λz=>nomatch z) ?_;show nm ?_;dsimp only;show gu (λσ H6=>∃Mq:Int,H6=H5/\σ=[some ↑a,some<|.ref rA,some<|.int Mq,some<|.int last,some<|.int t,v5]/\Mq=sgn*sg t) ?_ ?_
   .rintro σ H6 ⟨Mq,rfl,rfl,gq⟩;let KQ:=s5 _ _ KR
    let hR6:=hR.imp λ_ _ h=>h.same s5;obtain⟨l,hl⟩:∃l,R[t]?=some l:={_,Xw ht};let Ve:=Ms l (Xf hl)
    obtain⟨y,p',rfl⟩:∃y p',l=y::p':=by
     cases l with
     |nil=>cases Ve
     |cons y p'=>lia
    let Us:p'.f=M:=by rw[YW]at Ve;simp_all
    let(v,hv,pA,rfl,Ij,hpn):=hR6.2 t _ hl;let hy0:y≠0:=by rwa[Qq hl Z]at XJ
    show{_,Z,.inl {Z,_,SqL.of KQ},_,Z,rA,ys,(t:Int),t,.ref pA,Z,Z,KQ,by simp_all,J,by rw[Ph (by simp_all) J,YX],hv,?_};let yQ:(upd H6 rA<|.lst<|ys.eraseIdx t) pA=some (.lst<|IL<|y::p'):=by rwa[Zb hpn]
    let s7:Same H (upd H6 rA<|.lst<|ys.eraseIdx t):=Zt UN (s4.l s5);let hR7:Bears (LiV rA<|upd H6 rA<|.lst<|ys.eraseIdx t) (ys.eraseIdx t) (R.eraseIdx t):=(hR6.erase t).imp λ_ _ h=>h.mut
    let yP:(upd H6 rA<|.lst<|ys.eraseIdx t) rA=some (.lst<|ys.eraseIdx t):=XZ;generalize upd H6 rA (.lst<|ys.eraseIdx t)=H7 at *;let eRl:(R.eraseIdx t).f=M:=by rw[sS,Yi ht];simp_all
    let Ii:∀l∈R.eraseIdx t,l.f=M+1:=λl h=>Ms l (cm h);let hy7:=hR7.1
    exists _,Z,rA,Z,{_,SqL.of yP},Wc (K:=K) (a:=rA) (xs:=ys.eraseIdx t) (λi zs H8=>Same H7 H8/\i<=(ys.eraseIdx t).f/\Bears (RO H8) zs (((R.eraseIdx t).M i).H (OV y p' last))) {Same.refl _,Yc _,{Z,λi l e=>by simp at e}} (Zi J) (λi zs H8 hi zz=>by let(e,Ws,ez):=zz;show{SqL.of<|e _ _ yP,by rw[ez.1,Yb,Yu];simp_all}) ?_ ?_
    .rintro i v zs H8 hi ⟨s8,Vm,t8⟩ S Xy;let(l,Lf,r,rfl,hr,_):=hR7.at hi;let Xn:=(Xv.R hi).1
     let SI:=Ii l (Xf Lf);obtain⟨x,l',rfl⟩:∃x l',l=x::l':=by
      cases l with
      |nil=>cases SI
      |cons x l'=>lia
     let PQ:l'.f=M:=by rw[YW]at SI;lia
     show nm ?_;exists _,Z,_,Z,_,Z,r,pA,x,y,last,l',p',Z,SqL.of<|s8 _ _ hr,SqL.of<|s8 _ _ yQ,J,J,Mr.1,hlb,gr _<|cm<|Xf Lf,gr _<|Xf hl,λc H9 s9 Qk hc=>Xy _ _ {s8.l s9,Xn,?_};rw[YA,Lf,YB];show(t8.imp λ_ _ zz=>by let(r',e,h):=zz;exists r',e,s9 _ _ h).snoc ⟨c,Z,hc⟩
    rintro zs H8 ⟨s8,_,t8⟩ cA gn;rw[hy7,Yy]at t8;let s9:=XY (o:=.lst zs) gn
    exists _,Z,pA,_,0,.int y,Z,Z,SqL.of<|s9 _ _<|s8 _ _ yQ,Zv (n:=0) Z Z,?_;let uU:RJ (λi=>A<|rotN k t i) k (M+1) (fnL<|(y::p')::R.eraseIdx t) last:=by rw[lu hl];show lH Mr (by simp_all)
    let KY:RJ (λi=>A<|rotN k t i) (k+1) M (fnL<|(R.eraseIdx t).H (OV y p' last)) y:=lJ uU hy0 λi j hi hj=>lr Us eRl Ii hi hj;let hdr:=lN (n:=n) (k:=k) (t:=t) (A:=A) J
    exists λi=>A<|rotN k t i,k+1,cA,zs,(R.eraseIdx t).H (OV y p' last),Mq,y,_,_,Z,s7.l<|s8.l s9,(s7.l s8).free gn,XZ,?_,by simp_all,λl h=>?_,J,KY,?_,λi j hi hj=>hAb _ _ ?_ hj,λe0=>?_,?_,gr _ (Xf hl) y Ya
    .show t8.imp λv l zz=>by let(r,e,h):=zz;exists r,e,s9 _ _ h,Za h gn
    .let⟨l0,h0,rfl⟩:=Yz.R h;rw[BP (by rw[Ii l0 h0,Us]),Us]
    .rw[hdr,yR,gq,RW,<-RW (sg t),lq,Sx]
    .unfold rotN;split
     .omega
     .split
      .lia
      .lia
    .subst e0
     have:=lF uU
     rwa[show k+1=n by omega]at this
    .let Wr:sg t=1\/sg t=-1:=by
      unfold sg;split
      .show .inl rfl
      .show .inr rfl
     lia
   .intro Kn hK;exists _,Z,_,_,Z,Z,(by simp_all),Z,_,Z,?_;rw[ZH];show Xt (λh1=>?_) (λh1=>?_)
    .exists _,Z,_,Z,hK _ _ {-sgn,Z,Z,?_};let e:sg t=-1:=by unfold sg;rw[Yh J]
     simp_all
    .show hK _ _ {sgn,Z,Z,?_};let e:sg t=1:=by unfold sg;rw[Yi J]
     simp_all
  .let QK:m=0:=by simp_all
   exists _,Z,_,Z,_,_,Z,Z,{?_,hlb},?_
   .rcases hsg with e|e<;>rw[e]<;>show Nat.one_lt_two_pow AP
   grind
inductive spZ4(K:Ad)(vs:List V)(H:Hp)(Q:VK)(_:XK):Prop
 |mk (a:Addr) (l:Ac) (i:Nat) (_:vs=[.ref a,.int i]) (_:SqL K H a (IL l)) (_:l.f<=1000) (_:∀r H',Same H H'->H r=none->H' r=some (.lst<|IL<|cutz l i)->Q ↑r H')
def gm(l:Ac)(z:Int):cutz (IL l) z=IL (cutz l z):=by
 unfold cutz
 simp_all
def gk(T:Txt K mg t):Xs P w base Xz T.qZ4 1 (spZ4 K):=by
 show T.qZ4.okI ["row","number"] D λXF A outer s H vs Q E hr h=>?_
 .let⟨a,l,i,rfl,hA,hl,q⟩:=h;exists _,(XM<|Zk<|Zp JJ (Zl (GO K) rN T.n_list Boot.«list»<|XX (ZQ (ZU K) (pv 0) Sr<|Wd<|pv 1) XW)<|Zl (GO K) rN T.n_list Boot.«list»<|XX (ZQ (ZU K) (pv 0) (Wd<|Zp UY (pv 1) XN) Sr) XW),?_;exists _,Z,_,Z,(i:Int),Z,a,_,Z,hA,λp1 Vu=>?_;let u1:=XY (o:=.lst<|XG (IL l) none<|some (i:Int)) Vu
  exists p1,_,Z,.inl<|SqL.of XZ,λp2 Wn=>?_;let u2:=XY (o:=.lst<|XG (IL l) none<|some (i:Int)) Wn
  exists _,Z,_,Z,_,_,Z,Z,_,Z,a,_,Z,(u1.l u2).seq hA,λp3 UI=>?_;let u3:=XY (o:=.lst<|XG (IL l) (some<|(i:Int)+1) none) UI
  exists p3,_,Z,.inl<|SqL.of XZ,λp4 QJ=>?_;let u4:=XY (o:=.lst<|XG (IL l) (some<|(i:Int)+1) none) QJ
  let c1:=Es (IL l) none (some (i:Int));let c2:=Es (IL l) (some<|(i:Int)+1) none
  rw[Xh]at c1 c2;exists p2,p4,_,_,Z,Z,(u3.l u4) _ _ XZ,XZ,Sq J,λp5 Gb=>?_;let u14:=u1.l (u2.l<|u3.l u4)
  show q p5 _ (u14.l<|XY Gb) (u14.free Gb) ?_;rw[XZ,Jc (by simp_all),gm]
inductive spZ5(K:Ad)(vs:List V)(H:Hp)(Q:VK)(_:XK):Prop
 |mk (a:Addr) (ys:List V) (L:Ab) (i:Nat) (_:vs=[.ref a,.int i]) (_:SqL K H a ys) (_:Bears (RO H) ys L) (_:L.f<=1000) (_:(∀l∈L,l.f<=1000)) (_:i<L.f) (_:∀r zs H',Same H H'->H' r=some (.lst zs)->Bears (RO H') zs ((cutz L i).H λl=>cutz l (i:Int))->Q ↑r H')
def Zb6{α:Type}{l:List α}{i j:Nat}{x:α}(hx:l[j]?=some x):cutz (l.M (j+1)) (i:Int)=cutz (l.M j) (i:Int)++(if j=i then [] else [x]):=by
 let hj:=(Xv.R hx).1;let e:l.M (j+1)=l.M j++[x]:=by rw[YA,hx];rfl
 let hl:(l.M j).f=j:=by rw[Yu];lia
 let short:∀m:List α,m.f<=i->cutz m (i:Int)=m:=λm hm=>by unfold cutz;rw[YX,Yv hm,FJ J,YS]
 cases c:j=i
 .subst c;rw[Yi Z,YS,short (l.M j) (by simp_all)];unfold cutz
  simp_all
 .rw[Yh c];cases d:j<i
  .grind
  .unfold cutz;grind
def yN(T:Txt K mg t):Xs P w base Xz T.qZ5 2 (spZ5 K):=by
 show T.qZ5.okI ["table","number"] D λXF A outer s H vs Q E hr h=>?_
 .let⟨a,ys,L,i,rfl,hA,hB,hL,yM,hi,q⟩:=h;exists _,(XM<|Zk<|US Z (sc0:=Xo<|top 16) (N0:=["table","number"]) (N':=["at","row","number"]) (o:=2) (fr:=[1]) ⟨Z,D,D,D,Z,D⟩ (GN K Z T.n_enumerate<|XX (pv 0) XW) (DX<|Oj AP<|Oj AP DY) (λ_ _ _ _=>(Pl (n:=2) K Z<|Zx (Xm 0)<|Zx (Xm 1) PJ)) (λ_ _ _ _=>(RR<|Zh Ue (pv 0) (pv 2)<|Zo _)) λ_ _ _ _=>(XC (gk T) hr T.qZ4 Zs<|XX (pv 1)<|XX (pv 2) XW)),?_;let Tu:=hB.1
  show⟨_,Z,a,Z,{_,hA},vw (K:=K) (a:=a) (xs:=ys) (λj zs H2=>Same H H2/\j<=ys.f/\Bears (RO H2) zs ((cutz (L.M j) (i:Int)).H λl=>cutz l (i:Int))) {Same.refl _,Yc _,by rw[show(cutz (L.M 0) (i:Int)).H (λl=>cutz l (i:Int))=[] by unfold cutz;simp];show{Z,λi l e=>by simp at e}} (Zi J) (λj zs H2 hj ⟨e,RI,ez⟩=>⟨e.seq hA,by
   rw[ez.1,Yb];show Yl (Zy8 _ _) ?_
   simp_all⟩) ?_ ?_⟩
  .rintro j v zs H2 pt Se hj ⟨s2,Qu,hZ⟩ S Xy;let(l,hl,r,rfl,hr):=hB.at hj;let Vv:=(Xv.R hj).1
   let s3:=XY (o:=.tup [.int j,.ref r]) Se;exists pt,_,Z,SqT.of XZ,Z,_,_,Z,_,_,Z,Z,?_;let hZ3:Bears (RO<|upd H2 pt<|.tup [.int j,.ref r]) zs ((cutz (L.M j) (i:Int)).H λl=>cutz l (i:Int)):=hZ.imp λ_ _ zz=>by let(r',e,h):=zz;exists r',e,s3 _ _ h
   let Ga:=s2.l s3;exists _,Z,_,Z,Z,_,Z,?_;show WQ (λe=>?_) (λe=>?_)
   .show Xy _ _ {Ga,Vv,?_};rwa[Zb6 hl,Yi J,YS]
   .exists _,Z,_,Z,r,l,i,Z,SqL.of<|Ga _ _ hr,yM l<|Xf hl,λc H4 s4 _ hc=>Xy _ _ {Ga.l s4,Vv,?_};rw[Zb6 hl,Yh J,YB];show(hZ3.imp λ_ _ zz=>by let(r',e,h):=zz;exists r',e,s4 _ _ h).snoc ⟨c,Z,hc⟩
  .rintro zs H2 ⟨s2,_,hZ⟩ p hp;rw[Tu,Yy]at hZ;show q p zs _ (s2.l<|XY hp) XZ (hZ.imp λ_ _ zz=>by let(r',e,h):=zz;exists r',e,XY hp _ _ h)
inductive spZ6(C:Addr)(vs:List V)(H:Hp)(Q:VK)(_:XK):Prop
 |mk (w n ps k:_) (_:vs=[.ref w,.int k]) (_:WebAt C H w n ps) (_:Q (.bl<|decide<|0<=k/\k<ps⁻¹) H)
def Ih(T:Txt K mg t):Xs P w base Xz T.qZ6 1 (spZ6 t.A_Web):=by
 show T.qZ6.okI ["web","number"] D λXF A outer s H vs Q E hr h=>?_
 .let⟨w,n,ps,k,rfl,⟨dx,tl,xs,h1,h2,h3⟩,q⟩:=h;exists _,(XM<|Zk<|qT Ti Qy XN (pv 1)<|Zc (Zf K) rN T.n_len Boot.«len»<|XX (Zj K (pv 0) Z) XW),?_;exists _,Z,_,_,Z,Z,_,Z,?_;show Eb (λhc=>?_) (λhc=>?_)
  .exists _,Z,w,_,dx,_,_,Z,h1,T.cl_Web,T.n_Web_ties,ZM _ _,tl,xs,Z,.inl<|SqL.of h2,_,_,Z,Z,?_;change Q (.bl<|decide<|k<xs⁻¹) H
   rwa[h3.1,show decide (k<ps⁻¹)=decide (0<=k/\k<ps⁻¹) from by simp[hc]]
  simp_all
inductive spZ7(K:Ad)(vs:List V)(H:Hp)(Q:VK)(_:XK):Prop
 |mk (n a kd xs ps:_) (_:vs=[.int n,.ref a]) (_:SqK kd K H a xs) (_:PairsV H xs ps) (_:GoodW n ps) (_:Q .non H)
def gj(T:Txt K mg t):Xs P w base Xz T.qZ7 1 (spZ7 K):=by
 show T.qZ7.okI ["places","ties","ends","end"] D λXF A outer s H vs Q E hr h=>?_
 .let⟨n,a,kd,xs,ps,rfl,hS,hp,⟨g1,g2,g3,g4⟩,q⟩:=h;show⟨_,(XO (WN (PL<|wd Ti Ti XN (pv 0)<|PM (v:=V.int 14) Z T.g_MOST_PLACES.choose_spec {_,Z})
   (XM ZV)
   Zm)
   (XO (WN (Zh Oo (Zc (Zf K) rN T.n_len Boot.«len»<|XX (pv 1) XW) (PM (v:=V.int 30) Z T.g_MOST_TIES.choose_spec {_,Z})<|Zo _)
   (XM ZV)
   Zm)
   (XM (WT YH Z (UA K<|pv 1) (Xm 2)
   (XM (WT YH Z (vN K<|pv 2) (Xm 3)
   (XM (WN (PL<|wd Ti Qy XN (pv 3)<|pv 0)
   (XM ZV)
   Zm)))))))),?_⟩
  exists _,Z,_,_,Z,Z,_,Z,?_;show pd g1 ?_;exists _,_,Z,Z,_,Z,?_;show GP g2 ?_;exists _,Z,a,xs,Z,hS.or,_,_,Z,Z,_,Z,?_;show DL (by rw[hp.1];lia) ?_;exists _,Z,a,Z,DJ (k:=kd) (K:=K) (xs:=xs) (λi σ H2=>∃v v2,σ=[some (.int n),some<|.ref a,v,v2]/\H2=H) ⟨none,none,Z,Z⟩ (λi σ H2 _ zz=>by let(_,_,_,e):=zz;show e▸hS) ?_ ?_
  .rintro i x σ H2 hi ⟨v,v2,rfl,rfl⟩;let(p,Pj,tt,rfl,ht):=hp.at hi;let(e1,e2,e3,e4):=g4 p (Xf Pj);exists _,Z,tt,Z,{_,SqT.of ht},qW (K:=K) (a:=tt) (xs:=[.int p.1,.int p.2]) (λj σ H3=>∃v v2,σ=[some (.int n),some<|.ref a,v,v2]/\H3=H2) {_,_,Z,Z} (λj σ H3 _ zz=>by let(_,_,_,e):=zz;show e▸SqT.of ht) ?_ ?_
   .rintro j y σ H3 hj ⟨v,v2,rfl,rfl⟩;let hy:∃z:Int,y=.int z/\0<=z/\z<n:=by
     match j,hj with
     |0,hj=>exists p.1,(Ym hj).symm,e1,e2
     |1,hj=>exists p.2,(Ym hj).symm,e3,e4
    let(z,rfl,z1,z2):=hy;exists _,Z,_,_,Z,Z,_,Z,?_;show pd z1 ?_;exists _,Z,_,_,Z,Z,_,Z,?_;show GP z2 ?_;exists _,_,Z,Z
   simp_all
  simp_all
inductive sp_Web_init(K:Ad)(C:Addr)(vs:List V)(H:Hp)(Q:VK)(_:XK):Prop
 |mk (w dx n a kd xs ps:_) (_:vs=[.ref w,.int n,.ref a]) (_:H w=some (.ins C dx [])) (_:(∀o,SqK kd K (upd H w o) a xs)) (_:PairsV H xs ps) (_:GoodW n ps) (_:∀H':Hp,WebAt C H' w n ps->(∀b o,H b=some o->b≠w->H' b=some o)->Q .non H')
def gh:FnScope ["self","places","ties"] ["self","places","ties"] (Xo sZ8):=TQ D
def Mp(T:Txt K mg t):FnOk P w K mg base Xz 2 t.aZ8 t.dZ8 ["self","places","ties"] (sp_Web_init K t.A_Web):=by
 show T.fZ8.ok gh (λvs H Q E h=>?_) (λXF A outer s H vs Q E hr h=>?_)
 .let⟨w,dx,n,a,kd,xs,ps,rfl,_⟩:=h;rfl
 .let⟨w,dx,n,a,kd,xs,ps,rfl,hw,hS,hp,g,q⟩:=h;let eH:upd H w (.ins t.A_Web dx [])=H:=by
   funext b
   cases hb:b=w
   .subst hb;rw[XZ,hw]
   .rw[Zb hb]
  let GI:SqK kd K H a xs:=by let z:=hS (.ins t.A_Web dx []);rwa[eH]at z
  show⟨_,(XO (ZW<|XC (gj T) hr T.qZ7 Zs<|XX (pv 1)<|XX (pv 2) XW)
   (XO (Nu (pv 0) (pv 1) Z)
   (XM<|Nu (pv 0) (US Z (sc0:=Xo sZ8) (N0:=["self","places","ties"]) (N':=["ends"]) (o:=1) (fr:=[]) ⟨Z,D,D,D,Z,D⟩ (UA K<|pv 2) (Zq AP) (λ_ _ _ _=>(Xm 0)) (λ_ _ _ _=>ZN) λ_ _ _ _=>(ZZ<|XX (ZA (ZC K) (pv 0) XN λ_ _=>rfl)<|XX (ZA (ZC K) (pv 0) XN λ_ _=>rfl) XW)) Z))),?_⟩
  exists _,Z,_,Z,n,a,kd,xs,ps,Z,GI,hp,g,?_;exists _,Z,_,Z,w,_,dx,[],Z,hw,T.cl_Web,T.n_Web_places,(by simp_all),?_;let Vu:PairsV (upd H w<|.ins t.A_Web dx<|XA "places" (.int n) []) xs ps:={hp.1,λi p e=>by let(v,e1,tt,e2,e3):=hp.2 i p e;show{v,e1,tt,e2,by rwa[Zb (PR e3 hw (λz=>nomatch z))]}}
  let sx:xs.f<sizeLine:=Zi (by rw[hp.1];have:=g.2.2.1;lia);show⟨_,Z,a,Z,Pm (k:=kd) (K:=K) (xs:=xs) (λi ys H2=>i<=xs.f/\ys.f=i/\Same (upd H w<|.ins t.A_Web dx<|XA "places" (.int n) []) H2/\PairsV H2 ys (ps.M i)) {Yc _,Z,Same.refl _,PairsV.nil} sx
   (λi ys H2 _ zz=>by let(_,hl,s2,_):=zz;exists (hS _).same s2,Nat.le_of_eq hl) ?_ ?_⟩
  .rintro i x ys H2 hi ⟨h1,hl,s2,hy⟩ S Xy;let(p,Pj,tt,rfl,ht):=Vu.at hi;let Qj:=s2 _ _ ht
   show Og ?_;exists _,Z,tt,_,0,.int p.1,Z,Z,SqT.of Qj,Z,_,Z,tt,_,1,.int p.2,Z,Z,SqT.of Qj,Z,(by change 2<=sizeLine;decide),λq hq=>?_;let Vm:i<xs.f:=(Xv.R hi).1
   show Xy _ _ {Vm,by simp_all,Zr s2 hq,?_};rw[YA,Pj];show(hy.same<|XY hq).snoc ⟨q,Z,XZ⟩
  .rintro ys H2 ⟨_,hl,s2,hy⟩ tl gf;let gd:=s2 w _ XZ
   let nwt:w≠tl:=Za gd gf;exists _,Z,w,_,dx,_,Z,(by rwa[Zb nwt]),T.cl_Web,T.n_Web_ties,(by change 1<1000;decide),?_;show q _ {dx,tl,ys,XZ,by rw[Zb (XH nwt),XZ],?_} λb ob e hb=>?_
   .let e1:ps.M xs.f=ps:=Yv (by rw[hp.1];simp_all);rw[e1]at hy;exists hy.1,λi p e=>?_;let(v,e2,tt,e3,e4):=hy.2 i p e;exists v,e2,tt,e3,by rwa[Zb (PR e4 gd (λz=>nomatch z)),Zb (Za e4 gf)]
   .let e2:=s2 b ob (by rwa[Zb hb]);rwa[Zb hb,Zb (Za e2 gf)]
inductive spZ9(C:Addr)(vs:List V)(H:Hp)(Q:VK)(_:XK):Prop
 |mk (w:Addr) (n:Int) (ps:Aa) (z:Int) (_:vs=[.ref w,.int z]) (_:WebAt C H w n ps) (_:-(10^70)<z) (_:z<10^70) (_:((0<=z/\z<ps⁻¹)->Q .non H)) (_:(¬(0<=z/\z<ps⁻¹)->False))
def yL(T:Txt K mg t):Xs P w base Xz T.qZ9 2 (spZ9 t.A_Web):=by
 show T.qZ9.okI ["web","number"] D λXF A outer s H vs Q E hr h=>?_
 .let⟨w,n,ps,z,rfl,hW,z0,z1,q,qe⟩:=h;show⟨_,(XM (WN (PL<|RT<|XC (Ih T) hr T.qZ6 Zs<|XX (pv 0)<|XX (pv 1) XW)
   (XM ZV)
   Zm)),?_⟩
  exists _,Z,_,Z,w,n,ps,z,Z,hW,_,Z,?_;show JB (λh=>?_) (λh=>?_)
  .show q (YO h)
  .show qe (of_decide_eq_false h)
inductive spZa(K:Ad)(C:Addr)(vs:List V)(H:Hp)(Q:VK)(_:XK):Prop
 |mk (w a:Addr) (n:Int) (ps:Aa) (kd:Bool) (ws:Ac) (_:vs=[.ref w,.ref a]) (_:WebAt C H w n ps) (_:SqK kd K H a (IL ws)) (_:(ws.f=ps.f->Q .non H)) (_:(ws.f≠ps.f->False))
def gc(T:Txt K mg t):Xs P w base Xz T.qZa 1 (spZa K t.A_Web):=by
 show T.qZa.okI ["web","numbers"] D λXF A outer s H vs Q E hr h=>?_
 .let⟨w,a,n,ps,kd,ws,rfl,⟨dx,tl,xs,h1,h2,h3⟩,hS,q,qe⟩:=h;show⟨_,(XM (WN (Zh Ue (Zc (Zf K) rN T.n_len Boot.«len»<|XX (pv 1) XW) (Zc (Zf K) rN T.n_len Boot.«len»<|XX (Zj K (pv 0) Z) XW)<|Zo _)
   (XM ZV)
   Zm)),?_⟩
  let hl:=h3.1;exists _,Z,a,_,Z,hS.or,_,Z,w,_,dx,_,_,Z,h1,T.cl_Web,T.n_Web_ties,ZM _ _,tl,xs,Z,.inl<|SqL.of h2,Z,_,Z,?_;show WQ (λhc=>?_) (λhc=>?_)
  .show q B
  simp_all
inductive spZb(K:Ad)(C:Addr)(vs:List V)(H:Hp)(Q:VK)(_:XK):Prop
 |mk (w n ps:_) (_:vs=[.ref w]) (_:WebAt C H w n ps) (_:ps.f<=1000) (_:∀r H',Same H H'->H r=none->H' r=some (.tup<|IL<|Wj ps.f)->Q ↑r H')
def gb(T:Txt K mg t):Xs P w base Xz T.qZb 1 (spZb K t.A_Web):=by
 show T.qZb.okI ["web"] D λXF A outer s H vs Q E hr h=>?_
 .let⟨w,n,ps,rfl,⟨dx,tl,xs,h1,h2,h3⟩,hl,q⟩:=h;exists _,(XM<|Zk<|Zl (ZN3 Z) rN T.n_tuple Boot.«tuple»<|XX (Zl vR rN T.n_range Boot.«range»<|XX (Zc (Zf K) rN T.n_len Boot.«len»<|XX (Zj K (pv 0) Z) XW) XW) XW),?_;let hx:=h3.1
  exists _,Z,w,_,dx,_,_,Z,h1,T.cl_Web,T.n_Web_ties,ZM _ _,tl,xs,Z,.inl<|SqL.of h2,_,Z,λr hr=>{r,0,_,Z,XZ,{AP,AP,by simp_all,J},J,λl hl=>?_};show q l _ (Zr (XY hr) hl) ((XY hr).free hl) ?_;rw[XZ,hx,nQ]
inductive spZc(K:Ad)(C:Addr)(vs:List V)(H:Hp)(Q:VK)(_:XK):Prop
 |mk (w a n ps kd T:_) (_:vs=[.ref w,.ref a]) (_:WebAt C H w n ps) (_:ps.f<=1000) (_:SqK kd K H a (IL T)) (_:∀tB,tB.G (·<·)->(∀z,z∈tB↔(0<=z/\z<ps⁻¹)/\z∉T)->∀r H',Same H H'->H' r=some (.tup<|IL tB)->Q ↑r H')
def yK(T:Txt K mg t):Xs P w base Xz T.qZc 1 (spZc K t.A_Web):=by
 show T.qZc.okI ["web","ties"] D λXF A outer s H vs Q E hr h=>?_
 .let⟨w,a,n,ps,kd,T',rfl,hW,hl,hA,q⟩:=h;exists _,(XM<|Zk<|Zl (ZI K) rN T.n_tuple Boot.«tuple»<|XX (US Z (sc0:=Xo<|top 26) (N0:=["web","ties"]) (N':=["tie","ties"]) (o:=1) (fr:=[1]) ⟨Z,D,D,D,Z,D⟩ (ZB Z T.n_range<|XX (Zc (Zf K) rN T.n_len Boot.«len»<|XX (Zj K (pv 0) Z) XW) XW) (Zq AP) (λ_ _ _ _=>(Xm 0)) (λ_ _ _ _=>(RR<|Zh (Jy K) (pv 0) (pv 1) Z)) λ_ _ _ _=>(pv 0)) XW),?_;let(dx,tl,xs,h1,h2,h3):=hW;let TV:=h3.1
  exists _,Z,w,_,dx,_,_,Z,h1,T.cl_Web,T.n_Web_ties,ZM _ _,tl,xs,Z,.inl<|SqL.of h2,_,Z,by simp_all,J,LB (lo:=0) (n:=(xs.f:Int).j) (λj ys H3=>H3=H/\∃tB:Ac,ys=IL tB/\tB.f<=j/\tB.G (·<·)/\∀z,z∈tB↔(0<=z/\z<(j:Int))/\z∉T') {Z,[],Z,XI _,.nil,λz=>{λh=>(by cases h),λh=>(by lia)}} (Zi J) (λj ys H3 _ zz=>by let(_,tB,e,hl,_):=zz;simp_all) ?_ ?_
  .rintro j ys H3 hj ⟨rfl,tB,rfl,hDl,hp,hm⟩ S Xy;let lt:∀z∈tB,z<(j:Int):=λz hz=>((hm z).R hz).1.2
   show nm ?_;exists _,Z,_,Z,a,_,Z,hA.or,Z,ZT _,_,Z,?_;rw[Vh,NH];show WQ (λWt=>?_) (λWt=>?_)
   .grind
   .exists _,Z,Xy _ _ {Z,tB++[(j:Int)],?_,by simp_all,?_,λz=>?_}
    .rw[Wh]
    .show NQ.mpr {hp,xg _ _,λa ha b hb=>by rw[Xc.R hb];show lt a ha}
    grind
  rintro ys H3 ⟨rfl,tB,rfl,hDl,hp,hm⟩ la yJ;rw[show(((xs.f:Int).j:Nat):Int)=ps⁻¹ by simp_all]at hm;exists la,_,Z,.inl {SqL.of XZ,λtp yH=>?_};show q tB hp hm tp _ ((XY yJ).l (XY yH)) XZ
inductive spZd(K:Ad)(vs:List V)(H:Hp)(Q:VK)(_:XK):Prop
 |mk (a kd ns z:_) (_:vs=[.ref a,.int z]) (_:SqK kd K H a (IL ns)) (_:ns.f<=1000) (_:∀r H',Same H H'->H r=none->H' r=some (.tup<|IL<|wo ns z)->Q ↑r H')
def yG(T:Txt K mg t):Xs P w base Xz T.qZd 1 (spZd K):=by
 show T.qZd.okI ["ties","left_out"] D λXF A outer s H vs Q E hr h=>?_
 .let⟨a,kd,ns,z,rfl,hS,hn,q⟩:=h;exists _,(XM<|Zk<|Zl (ZI K) rN T.n_tuple Boot.«tuple»<|XX (US Z (sc0:=Xo<|top 27) (N0:=["ties","left_out"]) (N':=["tie","left_out"]) (o:=1) (fr:=[1]) ⟨Z,D,D,D,Z,D⟩ (UA K<|pv 0) (Zq AP) (λ_ _ _ _=>(Xm 0)) (λ_ _ _ _=>(RR<|Zh Ue (pv 0) (pv 1)<|Zo _)) λ_ _ _ _=>(pv 0)) XW),?_;show⟨_,Z,a,Z,Pm (k:=kd) (K:=K) (xs:=IL ns) (λi ys H2=>H2=H/\i<=ns.f/\ys=IL (wo (ns.M i) z)) {Z,Yc _,Z} (Zi<|by rw[Xh];lia)
   (λi ys H2 hi zz=>by let(e,Ws,ey):=zz;show{e▸hS,by rw[ey,Xh];show Yl (Lw _ _)<|by simp_all}) ?_ ?_⟩
  .rintro i x ys H2 hi ⟨rfl,Vm,rfl⟩ S Xy;let(y,rfl,hy):=UL hi;let Xn:i<ns.f:=(Xv.R hy).1
   show nm ?_;exists _,Z,_,Z,Z,_,Z,?_;rw[ZH];show WQ (λhe=>?_) (λhe=>?_)
   .show Xy _ _ {Z,Xn,?_};rw[ag hy,Yh J,YS]
   .exists _,Z,Xy _ _ {Z,Xn,?_};rw[ag hy,Yi he,Wh]
  .rintro ys H2 ⟨rfl,_,rfl⟩ p hp;rw[Xh,Yy];exists p,_,Z,.inl {SqL.of XZ,λr hr=>?_};show q r _ (Zr (XY hp) hr) ((XY hp).free hr) XZ
inductive spZe(K:Ad)(vs:List V)(H:Hp)(Q:VK)(_:XK):Prop
 |mk (a b:Addr) (ns ms:Ac) (_:vs=[.ref a,.ref b]) (_:SqT K H a (IL ns)) (_:SqT K H b (IL ms)) (_:ns.f<=1000) (_:∀(c:Bool)(H':Hp),(c=true↔∃z∈ns,z∈ms)->Same H H'->Q (.bl c) H')
def f9(T:Txt K mg t):Xs P w base Xz T.qZe 1 (spZe K):=by
 show T.qZe.okI ["one","other"] D λXF A outer s H vs Q E hr h=>?_
 .let⟨a,b,ns,ms,rfl,hA,hB,hl,q⟩:=h;exists _,(XM<|Zk<|Zc (av K Z) rN T.n_any Boot.«any»<|XX (US Z (sc0:=Xo<|top 28) (N0:=["one","other"]) (N':=["tie","other"]) (o:=1) (fr:=[1]) ⟨Z,D,D,D,Z,D⟩ (vN K<|pv 0) (Zq AP) (λ_ _ _ _=>(Xm 0)) (λ_ _ _ _=>ZN) λ_ _ _ _=>(Px (DH K) (pv 0) (pv 1) Z)) XW),?_;show⟨_,Z,a,Z,{_,hA},Pn (K:=K) (a:=a) (xs:=IL ns) (λi us H2=>H2=H/\i<=ns.f/\us=((ns.M i).H λz=>decide<|z∈ms).H V.bl) {Z,Yc _,Z} (Zi<|by rw[Xh];lia)
   (λi us H2 hi zz=>by let(e,Ws,ey):=zz;show{e▸hA,by simp_all}) ?_ ?_⟩
  .rintro i v us H2 hi ⟨rfl,Vm,rfl⟩ S Xy;let(z,rfl,hz):=UL hi;show nm ?_;exists _,Z,_,Z,b,_,Z,.inr hB,Z,ZT _,?_;rw[Vh];show Xy _ _ {Z,(Xv.R hz).1,?_};rw[YA,hz,YB,YB];rfl
  .rintro us H2 ⟨rfl,_,rfl⟩ p hp;exists p,_,Z,SqL.of XZ,?_;show q _ _ ?_ (XY hp)
   simp_all
inductive spZf(K:Ad)(C:Addr)(vs:List V)(H:Hp)(Q:VK)(_:XK):Prop
 |mk (w a n ps kd ns:_) (_:vs=[.ref w,.ref a]) (_:WebAt C H w n ps) (_:SqK kd K H a (IL ns)) (_:∀b:Bool,(b=true↔IsSet ps.f ns)->Q (.bl b) H)
def yE(T:Txt K mg t):Xs P w base Xz T.qZf 2 (spZf K t.A_Web):=by
 show T.qZf.okI ["web","ties","last","tie"] D λXF A outer s H vs Q E hr h=>?_
 .let⟨w,a,n,ps,kd,ns,rfl,hW,hS,q⟩:=h;show⟨_,(XO (Zd 2<|EM EJ XN)
   (XO (WT YH Z (UA K<|pv 1) (Xm 3)
   (XO (WN (PW.pt<|Tn (Zh Ti (pv 3) (pv 2)<|Zo _)<|To<|PL<|RT<|XC (Ih T) hr T.qZ6 Zs<|XX (pv 0)<|XX (pv 3) XW)
   (XM<|Zk NA)
   Zm)
   (XM<|Zd 2<|pv 3)))
   (XM<|Zk NA))),?_⟩
  exists _,Z,?_;show⟨_,Z,a,Z,DJ (k:=kd) (K:=K) (xs:=IL ns) (λi σ H2=>∃l v,σ=[some ↑w,some<|.ref a,some<|.int l,v]/\H2=H/\(i=0->l=-1)/\(i≠0->ns[i-1]?=some l)/\∀j z,j<i->ns[j]?=some z->0<=z/\z<ps⁻¹/\∀y,j≠0->ns[j-1]?=some y->y<z)
   {-1,none,Z,Z,λ_=>rfl,λz=>absurd Z z,λj z hj=>absurd hj<|VX j} (λi σ H2 _ zz=>by let(_,_,_,e,_):=zz;show e▸hS) ?_ ?_⟩
  .rintro i x σ H2 hi ⟨l,v,rfl,rfl,NZ,SW,hp⟩;let(z,rfl,hz):=UL hi;exists _,Z,_,Z,_,_,Z,Z,_,Z,?_;show Xt (λhc=>?_) (λhc=>?_)
   .-- tie<=last
    show UU ?_;show q false {λz=>(nomatch z),λhs=>?_};let(b1,b2,b3):=hs i z hz;cases h0:i=0
    .lia
    .have:=b3 l h0 (SW h0);lia
   .exists _,Z,_,Z,w,n,ps,z,Z,hW,_,Z,?_;show WQ (λVn=>?_) (λVn=>?_)
    .exists _,Z,?_;show{z,_,Z,Z,λe=>(nomatch e),λ_=>by simpa using hz,λj y hj ey=>?_};cases uL:j<i
     .show hp j y uL ey
     grind
    .show q false {λz=>(nomatch z),λhs=>?_};let(b1,b2,b3):=hs i z hz;show absurd ⟨b1,b2⟩ Vn
  .rintro σ H2 ⟨l,v,rfl,rfl,NZ,SW,hp⟩;show q true {λ_ i z hz=>?_,λ_=>rfl};let hi:i<(IL ns).f:=by rw[Xh];show(Xv.R hz).1
   show hp i z hi hz
inductive spZg(K:Ad)(C:Addr)(vs:List V)(H:Hp)(Q:VK)(_:XK):Prop
 |mk (w a n ps kd ns:_) (_:vs=[.ref w,.ref a]) (_:WebAt C H w n ps) (_:SqK kd K H a (IL ns)) (_:IsSet ps.f ns) (_:∀r H',Same H H'->SqT K H' r (IL ns)->Q ↑r H')
def Mo(T:Txt K mg t):Xs P w base Xz T.qZg 3 (spZg K t.A_Web):=by
 show T.qZg.okI ["web","ties"] D λXF A outer s H vs Q E hr h=>?_
 .let⟨w,a,n,ps,kd,ns,rfl,hW,hS,hI,q⟩:=h;show⟨_,(XO (WN (PL<|RT<|XC (yE T) hr T.qZf Zs<|XX (pv 0)<|XX (pv 1) XW)
   (XM ZV)
   Zm)
   (XM<|Zk<|Zl (ZI K) rN T.n_tuple Boot.«tuple»<|XX (pv 1) XW)),?_⟩
  exists _,Z,_,Z,w,a,n,ps,kd,ns,Z,hW,hS,λb hb=>{_,Z,?_};show JB (λ_=>?_) (λz=>?_)
  .exists _,Z,a,IL ns,Z,?_;cases kd with
   |false=>show .inl {hS,λl hl=>q l _ (XY hl)<|SqT.of XZ}
   |true=>show .inr {hS,q a H (Same.refl H) hS}
  simp_all
inductive spZh(K:Ad)(C:Addr)(vs:List V)(H:Hp)(Q:VK)(_:XK):Prop
 |mk (w m a n ps M kd ns:_) (_:vs=[.ref w,.ref m,.ref a]) (_:WebAt C H w n ps) (_:GoodW n ps) (_:H m=some (.lst<|IL M)) (_:M.f=n.j) (_:SqK kd K H a (IL ns)) (_:(∀z∈ns,0<=z/\z<ps⁻¹)) (_:∀m' H',Same H H'->(m'=m\/H m'=none)->H' m'=some (.lst<|IL<|Oe M<|XQ ps ns)->Q ↑m' H')
def Ig:FnScope ["web","marks","ties","tie","ends","low","high"] ["web","marks","ties"] (Xo (top 31)):=TQ D
def yD(T:Txt K mg t):Xs P w base Xz T.qZh 1 (spZh K t.A_Web):=by
 show T.qZh.okI ["web","marks","ties","tie","ends","low","high"] D λXF A outer s H vs Q E hr h=>?_
 .let⟨w,m0,a,n,ps,M0,kd,ns,rfl,⟨dx,tl,xs,h1,h2,h3⟩,⟨g1,g2,g3,g4⟩,hm,hlM,hS,hI,q⟩:=h;show⟨_,(XO (WT YH Z (UA K<|pv 2) (Xm 3)
   (XO (Zd 4<|ZA (Ze K) (Zj K (pv 0) Z) (pv 3) λ_ _=>rfl)
   (XO (VP (i:=5) Ig.nd Z (Or.inr Z)<|Zc (wb Z) rN T.n_min Boot.«min»<|XX (ZA (Ze K) (pv 1) (ZA (ZC K) (pv 4) XN λ_ _=>rfl) λ_ _=>rfl)<|XX (ZA (Ze K) (pv 1) (ZA (ZC K) (pv 4) XN λ_ _=>rfl) λ_ _=>rfl) XW)
   (XO (VP (i:=6) Ig.nd Z (Or.inr Z)<|Zc (wc Z) rN T.n_max Boot.«max»<|XX (ZA (Ze K) (pv 1) (ZA (ZC K) (pv 4) XN λ_ _=>rfl) λ_ _=>rfl)<|XX (ZA (Ze K) (pv 1) (ZA (ZC K) (pv 4) XN λ_ _=>rfl) λ_ _=>rfl) XW)
   (XM (WN (Zh Qy (pv 5) (pv 6)<|Zo _)
   (XM<|Rg (i:=1) Z Ig.nd Z Z (sc0:=Xo<|top 31) (N0:=["web","marks","ties","tie","ends","low","high"]) (N':=["mark","high","low"]) (o:=1) (fr:=[6,5]) ⟨Z,D,D,D,Z,D⟩ (ZD K<|pv 1) (Zq AP) (λ_ _ _ _=>(Xm 0)) (λ_ _ _ _=>ZN) λ_ _ _ _=>(GX (Zh Rm (pv 0) (pv 1)<|Zo _) (pv 2)<|pv 0))
   Zm))))))
   (XM<|Zk<|pv 1)),?_⟩
  show⟨_,Z,a,Z,DJ (k:=kd) (K:=K) (a:=a) (xs:=IL ns) (λi σ H2=>∃m v3 v4 v5 v6,σ=[some ↑w,some<|.ref m,some<|.ref a,v3,v4,v5,v6]/\Same H H2/\(m=m0\/H m=none)/\H2 m=some (.lst<|IL<|Oe M0<|XQ ps<|ns.M i))
   {m0,none,none,none,none,Z,Same.refl _,.inl Z,hm} (λi σ H2 _ zz=>by let(_,_,_,_,_,_,s2,_):=zz;show hS.same s2) ?_ ?_⟩
  .rintro i x σ H2 hi ⟨m,v3,v4,v5,v6,rfl,s2,QK,WL⟩;let(z,rfl,hz):=UL hi;let(z0,z1):=hI z (Xf hz);obtain⟨p,hp⟩:∃p,ps[z.j]?=some p:={_,Xw<|by simp_all};let(v,hv,tt,rfl,Vk):=h3.2 z.j p hp;let(e1,e2,e3,e4):=g4 p (Xf hp);let ed:ps.Q z.j (0,0)=p:=VV hp
   exists _,Z,w,_,dx,_,_,Z,s2 _ _ h1,T.cl_Web,T.n_Web_ties,ZM _ _,_,Z,tl,xs,z,.ref tt,Z,Z,SqL.of<|s2 _ _ h2,Zv (n:=z.j) J hv,?_;let Qj:=s2 _ _ Vk
   let hl:(Oe M0<|XQ ps<|ns.M i).f=n.j:=(Zw7 _ _).l hlM;generalize hM:Oe M0 (XQ ps<|ns.M i)=M at *;let ha:M[p.1.j]?=some (mk M p.1.j):=Rb B
   let hb:M[p.2.j]?=some (mk M p.2.j):=Rb B;let iA:Wk (IL M) p.1=some (.int<|mk M p.1.j):=Zv (n:=p.1.j) J (by rw[Yn,ha];rfl)
   let iB:Wk (IL M) p.2=some (.int<|mk M p.2.j):=Zv (n:=p.2.j) J (by rw[Yn,hb];rfl);let t0:Wk ([.int p.1,.int p.2]:List V) 0=some (.int p.1):=rfl
   let t1:Wk ([.int p.1,.int p.2]:List V) 1=some (.int p.2):=rfl;exists _,rfl,_,rfl,tt,_,0,_,rfl,rfl,SqT.of Qj,t0,m,_,p.1,_,rfl,rfl,SqL.of WL,iA,_,rfl,_,rfl,tt,_,1,_,rfl,rfl,SqT.of Qj,t1,m,_,p.2,_,rfl,rfl,SqL.of WL,iB,_,_,rfl,?_;exists _,rfl,_,rfl,tt,_,0,_,rfl,rfl,SqT.of Qj,t0,m,_,p.1,_,rfl,rfl,SqL.of WL,iA,_,rfl,_,rfl,tt,_,1,_,rfl,rfl,SqT.of Qj,t1,m,_,p.2,_,rfl,rfl,SqL.of WL,iB,_,_,rfl,?_;let eL:(if mk M p.2.j<mk M p.1.j then mk M p.2.j else mk M p.1.j)=min (mk M p.1.j) (mk M p.2.j):=by rw[Int.min_def];split<;>split<;>lia
   let eH:(if mk M p.2.j>mk M p.1.j then mk M p.2.j else mk M p.1.j)=max (mk M p.1.j) (mk M p.2.j):=by rw[Int.max_def];split<;>split<;>lia
   exists _,Z,_,Z,_,_,Z,Z,_,Z,?_;rw[eL,eH];let step:Oe M0 (XQ ps<|ns.M<|i+1)=pm M p.1.j p.2.j:=by rw[aE hz,nR,hM,ed]
   show Xt (λhc=>?_) (λhc=>?_)
   .show⟨_,Z,m,Z,{_,SqL.of WL},Wc (K:=K) (a:=m) (xs:=IL M) (λj ys H3=>H3=H2/\j<=M.f/\ys=IL ((M.M j).H λk=>if k=max (mk M p.1.j) (mk M p.2.j) then min (mk M p.1.j) (mk M p.2.j) else k)) {Z,Yc _,Z} (Zi B)
     (λj ys H3 hj zz=>by let(e,Qu,ey):=zz;exists e▸SqL.of WL,B) ?_ ?_⟩
    .rintro j y ys H3 hj ⟨rfl,Qu,rfl⟩ S Xy;let(k,rfl,hk):=UL hj;show Og ?_;exists _,Z,_,Z,Z,_,Z,?_;let Vv:j<M.f:=(Xv.R hk).1
     let app:∀r:Int,r=(if k=max (mk M p.1.j) (mk M p.2.j) then min (mk M p.1.j) (mk M p.2.j) else k)->
       IL ((M.M j).H λk=>if k=max (mk M p.1.j) (mk M p.2.j) then min (mk M p.1.j) (mk M p.2.j) else k)++[.int r]=IL ((M.M<|j+1).H λk=>if k=max (mk M p.1.j) (mk M p.2.j) then min (mk M p.1.j) (mk M p.2.j) else k):=by intro r er;rw[YA,hk,er];simp
     show Xt (λhe=>?_) (λhe=>?_)
     .exists _,Z,Xy _ _ {Z,Vv,app _ ?_};lia
     .exists _,Z,Xy _ _ {Z,Vv,app _ ?_};lia
    .rintro ys H3 ⟨rfl,_,rfl⟩ p' OM;exists p',_,_,_,_,Z,Zr s2 OM,.inr<|s2.free OM,?_;rw[XZ,step,Xh,Yy];unfold pm;rw[Yi hc]
   .exists m,_,_,_,_,Z,s2,QK,?_;rw[WL,step];unfold pm;rw[Yh hc]
  .rintro σ H2 ⟨m,v3,v4,v5,v6,rfl,s2,QK,WL⟩;rw[Xh,Yy]at WL;exists _,Z,q m H2 s2 QK WL
inductive spZi(K:Ad)(C:Addr)(vs:List V)(H:Hp)(Q:VK)(_:XK):Prop
 |mk (w a n ps ns:_) (_:vs=[.ref w,.ref a]) (_:WebAt C H w n ps) (_:GoodW n ps) (_:SqT K H a (IL ns)) (_:(∀z∈ns,0<=z/\z<ps⁻¹)) (_:∀m H',Same H H'->H m=none->H' m=some (.lst<|IL<|Xr n.j<|XQ ps ns)->Q ↑m H')
def QI(T:Txt K mg t):Xs P w base Xz T.qZi 2 (spZi K t.A_Web):=by
 show T.qZi.okI ["web","ties"] D λXF A outer s H vs Q E hr h=>?_
 .let⟨w,a,n,ps,ns,rfl,hW,hG,hS,hI,q⟩:=h;exists _,(XM<|Zk<|XC (yD T) hr T.qZh Zs<|XX (pv 0)<|XX (Zl (pF Z) rN T.n_list Boot.«list»<|XX (Zl vR rN T.n_range Boot.«range»<|XX (Zj K (pv 0) Z) XW) XW)<|XX (pv 1) XW),?_;let(dx,tl,xs,h1,h2,h3):=id hW;let(g1,g2,g3,g4):=id hG;exists _,Z,_,Z,w,_,dx,_,_,Z,h1,T.cl_Web,T.n_Web_places,ZS _ _,n,Z,λr UN=>{r,0,n,Z,XZ,⟨AP,AP,J,J⟩,J,λm hm=>?_};let sm:Same H (upd (upd H r<|.rng 0 n) m<|.lst<|(Wx 0 n).H V.int):=Zr (XY UN) hm
  exists _,Z,w,m,a,n,ps,(List.range n.j).H λ(i:Nat)=>(i:Int),true,ns,Z,hW.same sm,hG,?_,Fe,ZP sm hS,hI,λm' H' s' hf GK=>?_
  .rw[XZ,aB]
  .show q m' H' (sm.l s') ?_ GK;rcases hf with rfl|hf
   .show(XY UN).free hm
   .show sm.free hf
inductive spZj(K:Ad)(C:Addr)(vs:List V)(H:Hp)(Q:VK)(_:XK):Prop
 |mk (w a n ps kd ns:_) (_:vs=[.ref w,.ref a]) (_:WebAt C H w n ps) (_:GoodW n ps) (_:SqK kd K H a (IL ns)) (_:IsSet ps.f ns) (_:∀r as H',Same H H'->H r=none->H' r=some (.lst<|as.H V.ref)->r∉as->GrpAt H H' (Jw<|Xr n.j<|XQ ps ns) as->Q ↑r H')
def f7(T:Txt K mg t):Xs P w base Xz T.qZj 4 (spZj K t.A_Web):=by
 show T.qZj.okI ["web","ties","pieces","place","mark"] D λXF A outer s H vs Q E hr h=>?_
 .let⟨w,a,n,ps,kd,ns,rfl,hW,hG,hS,hI,q⟩:=h;show⟨_,(XO (Zd 2 p7)
   (XO (WT YH Z (GN K Z T.n_enumerate<|XX (XC (QI T) hr T.qZi Zs<|XX (pv 0)<|XX (XC (Mo T) hr T.qZg Zs<|XX (pv 0)<|XX (pv 1) XW) XW) XW) (Pl (n:=2) K Z<|Zx (Xm 3)<|Zx (Xm 4) PJ)
   (XM<|ZW<|Uq K QP NR NS Np (Uq K b9 cz PySem.F.type_dict_setdefault Zf4 (pv 2)<|XX (pv 4)<|XX (WR XW) XW)<|XX (pv 3) XW))
   (XM<|Zk<|Zl (ZO3 Z) rN T.n_list Boot.«list»<|XX (DE K b9 cn PySem.F.type_dict_values Zv9<|pv 2) XW))),?_⟩
  intro d hd;let s0:Same H (upd H d<|.dK []):=XY hd
  exists _,Z,_,Z,_,Z,w,a,n,ps,kd,ns,Z,hW.same s0,hS.same s0,hI,λr H1 s1 Vd=>?_;exists w,r,n,ps,ns,Z,(hW.same s0).same s1,hG,Vd,hI.all,λm H2 s2 SG WL=>?_;let Qi:Same H H2:=(s0.l s1).l s2
  let hd2:H2 d=some (.dK []):=s2 _ _ (s1 _ _ XZ);let hl:(Xr n.j<|XQ ps ns).f=n.j:=ZF _ _
  generalize hM:Xr n.j (XQ ps ns)=M at *;let n14:M.f<=14:=by have:=hG.2.1;simp_all
  exists m,Z,{_,SqL.of WL},?_;show aI (K:=K) (a:=m) (xs:=IL M) (λi σ H3=>∃as v3 v4,σ=[some ↑w,some<|.ref a,some<|.ref d,v3,v4]/\i<=M.f/\Same H H3/\H3 m=some (.lst<|IL M)/\H3 d=some (.dK<|Uz (Xq M i) as)/\d∉as/\m∉as/\GrpAt H H3 (Xq M i) as/\as.f<=i)
   {[],none,none,Z,Yc _,Qi,WL,hd2,Fe,Fe,{Z,List.nodup_nil,λi kv a e=>B,λa ha=>by simp at ha},XI _} (λi σ H3 _ zz=>by let(_,_,_,_,_,_,h,_):=zz;show SqL.of h) ?_ ?_
  .rintro i x σ H3 pt Se hi ⟨as,v3,v4,rfl,Vm,s3,OL,NU,fZ,fY,gA,hal⟩;let(k,rfl,hk):=UL hi;let Wa:mk M i=k:=VV hk
   let Xn:i<M.f:=(Xv.R hk).1;let s4:Same H3 (upd H3 pt<|.tup [.int i,.int k]):=XY Se
   exists pt,_,Z,SqT.of XZ,Z,_,_,Z,_,_,Z,Z,?_;exists _,Z,.inr<|.inr<|.inl {Z,.inl {_,s4 _ _ NU}},_,Z,(by simp_all),λl NZ=>?_;let s5:Same H3 (upd (upd H3 pt<|.tup [.int i,.int k]) l<|.lst []):=Zr s4 NZ
   let hd5:=s5 _ _ NU;let Tt:H3 l=none:=s4.free NZ
   let ndl:d≠l:=Za NU Tt;let gl:=gA.len
   exists d,Uz (Xq M i) as,Sum.inl k,.ref l,Z,Z,hd5,?_,λv hv=>?_,λhv=>?_
   .rw[Ze8 gl];show Zi J
   .-- the mark has XS list
    rcases oU (g:=Xq M i) (as:=as) (k:=k) gl with ⟨h1,_⟩|⟨j,kv,b,e1,e2,e3,e4⟩
    .simp_all
    .rw[e4]at hv;cases hv;let hb5:=s5 _ _ (gA.at_ j kv b e1 e2)
     let t9:k∈(Xq M i).H (·.1):=Yz.mpr {kv,Xf e1,e3};let hlen:kv.2.f<=i:=Ju (Xf e1)
     exists .inl {Z,_,SqL.of hb5},_,Z,b,_,.int i,Z,Z,hb5,?_,?_
     .rw[Xh];show Zi J
     .let Ie:b∈as:=Xf e2;let Ss:d≠b:=λz=>fZ (z▸Ie)
      let hmb:m≠b:=λz=>fY (z▸Ie);let MK:=gA.new b Ie
      let KP:(Xq M<|i+1).H (·.1)=(Xq M i).H (·.1):=by change(RP (Xq M i) (i:Int)<|mk M i).H (·.1)=_;rw[vH,Wa,Yi t9]
      exists as,_,_,Z,Xn,Zt MK<|s3.l s5,by rw[Zb hmb];show s5 _ _ OL,by rw[Zb Ss,hd5,az KP],fZ,fY,{?_,gA.nd,?_,gA.new},J
      .have:=YF List.f KP
       grind
      .intro i2 t7 a2 f1 f2;let f1:(RP (Xq M i) (i:Int)<|mk M i)[i2]?=some t7:=f1
       unfold RP at f1;rw[Wa,Yi t9,Yn]at f1;cases f3:(Xq M i)[i2]? with
       |none=>rw[f3]at f1;cases f1
       |some FZ=>
        rw[f3]at f1;let f1:(if FZ.1=k then (FZ.1,FZ.2++[(i:Int)]) else FZ)=t7:=Ym f1
        cases hj:i2=j
        .subst hj;rw[e1]at f3;cases f3;rw[e2]at f2;cases f2;rw[Yi e3]at f1;subst f1;rw[XZ];simp
        .let Vq:a2≠b:=λz=>by subst z;show hj (Rc gA.nd f2 e2)
         let yU:¬FZ.1=k:=λz=>hj (Rc (Jv M i) (by rw[Yn,f3];show YF some z)<|by simp_all);rw[Yh yU]at f1;subst f1;rw[Zb Vq];show s5 _ _ (gA.at_ i2 FZ a2 f3 f2)
   .-- a new list
    rcases oU (g:=Xq M i) (as:=as) (k:=k) gl with ⟨h1,m9⟩|⟨j,kv,b,e1,e2,e3,e4⟩
    .let yC:(upd (upd (upd H3 pt<|.tup [.int i,.int k]) l<|.lst []) d<|.dK<|Uz (Xq M i) as++[(Sum.inl k,.ref l)]) l=some (.lst []):=by rw[Zb (XH ndl),XZ]
     exists .inl {Z,_,SqL.of yC},_,Z,l,[],.int i,Z,Z,yC,AP,?_;let fX:H l=none:=s3.free Tt
     let fW:l∉as:=λz=>by let(_,e):=gA.mem z;lia
     let Ds:m≠l:=Za OL Tt;let hmd:m≠d:=PR OL NU (λz=>nomatch z)
     let egr:Xq M (i+1)=Xq M i++[(k,[(i:Int)])]:=by change RP (Xq M i) (i:Int) (mk M i)=_;unfold RP;rw[Wa,Yh m9]
     let hdH:H d=none:=hd;exists as++[l],_,_,Z,Xn,Zt fX<|Zt hdH<|s3.l s5,by rw[Zb Ds,Zb hmd];show s5 _ _ OL,?_,?_,?_,{?_,?_,?_,?_},?_
     .rw[Zb ndl,XZ,egr,aw gl]
     .simp_all
     .grind
     .simp_all
     .show o6 gA.nd fW
     .intro i2 t7 a2 f1 f2;rw[egr]at f1;cases Ws:i2<(Xq M i).f
      .rw[YG Ws]at f1;rw[YG (by simp_all)]at f2;let e:=gA.at_ i2 t7 a2 f1 f2
       let n1:a2≠l:=Za e Tt;let n2:a2≠d:=PR e NU (λz=>nomatch z)
       rw[Zb n1,Zb n2];show s5 _ _ e
      .let h2:i2=(Xq M i).f:=by
        have:=(Xv.R f1).1
        rw[Xe,YK]at this;lia
       subst h2;rw[YD (XI _),UE]at f1;rw[YD (by simp_all),gl,UE]at f2;cases f1;cases f2;rw[XZ];rfl
     .intro a2 ha2;rcases Xk.R ha2 with z|z
      .show gA.new a2 z
      simp_all
     simp_all
    simp_all
  .rintro σ H3 ⟨as,v3,v4,rfl,Vm,s3,OL,NU,fZ,fY,gA,hal⟩;rw[Xh]at NU gA;exists _,Z,.inr<|.inr<|.inl {Z,.inl {_,NU}},d,_,Z,Z,NU,λp hp=>?_;let s6:Same H3 (upd H3 p<|Rf p d):=XY hp
   exists p,d,_,Z,XZ,s6 _ _ NU,λr UN=>?_;let s7:Same H3 (upd (upd H3 p<|Rf p d) r (.lst ((Uz (Xq M M.f) as).H (·.2)))):=Zr s6 UN
   show q r as _ (s3.l s7) ((s3.l s6).free UN) (by rw[XZ,Dy gA.len]) (λz=>?_) (gA.same s7);let(_,e):=gA.mem z;rw[s6.free UN]at e;cases e
inductive spZk(K:Ad)(C:Addr)(vs:List V)(H:Hp)(Q:VK)(_:XK):Prop
 |mk (w a n ps kd ns:_) (_:vs=[.ref w,.ref a]) (_:WebAt C H w n ps) (_:GoodW n ps) (_:SqK kd K H a (IL ns)) (_:IsSet ps.f ns) (_:∀b H',Same H H'->(b=true↔(Jw<|Xr n.j<|XQ ps ns).f=1)->Q (.bl b) H')
def fV(T:Txt K mg t):Xs P w base Xz T.qZk 5 (spZk K t.A_Web):=by
 show T.qZk.okI ["web","ties"] D λXF A outer s H vs Q E hr h=>?_
 .let⟨w,a,n,ps,kd,ns,rfl,hW,hG,hS,hI,q⟩:=h;exists _,(XM<|Zk<|Px Rm (Zc (Zf K) rN T.n_len Boot.«len»<|XX (XC (f7 T) hr T.qZj Zs<|XX (pv 0)<|XX (pv 1) XW) XW) XN<|Zo _),?_;exists _,Z,_,Z,w,a,n,ps,kd,ns,Z,hW,hG,hS,hI,λr as H' s1 UN Vd hnr gA=>?_;exists r,_,Z,.inl<|SqL.of Vd,Z,?_;rw[Yb,gA.len,ZH];grind
inductive spZl(K:Ad)(C:Addr)(vs:List V)(H:Hp)(Q:VK)(_:XK):Prop
 |mk (w b n ps ws:_) (_:vs=[.ref w,.ref b]) (_:WebAt C H w n ps) (_:GoodW n ps) (_:SqL K H b (IL ws)) (_:ws.f=ps.f) (_:∀r ys L H',Same H H'->H r=none->TabAt H r n.j H' ys L->(∀i j,i<n.j->j<n.j->fnL L i j=lapE (Wo ps ws) i j)->Q ↑r H')
def Zs7(x:V)(k:Nat):(List.U k [x]).flatten=List.U k x:=by
 simp_all
def fU(n i j:Nat):fnL (List.U n (List.U n 0)) i j=0:=by unfold fnL;grind
def TabAt.get{H0 H:Hp}{r:Addr}{n:Nat}{ys:List V}{L:Ab}(h:TabAt H0 r n H ys L){i j:Nat}(hi:i<n)(hj:j<n):∃A l x,ys[i]?=some ↑A/\H A=some (.lst (IL l))/\l[j]?=some x/\l.f=n/\x=fnL L i j/\H0 A=none/\∀y:Int,∃L':Ab,TabAt H0 r n (upd H A (.lst ((IL l).set j (.int y)))) ys L'/\∀a b,fnL L' a b=if a=i/\b=j then y else fnL L a b:=by
 let(A,l,y1,z1,hA,hl,hn,hr):=h.at hi;obtain⟨x,hx⟩:∃x,l[j]?=some x:={_,Xw<|by simp_all};exists A,l,x,y1,hA,hx,hl,(Qq z1 hx).symm,hn,λy=>{L.set i<|l.set j y,?_,kO z1<|by simp_all};let e:(IL l).set j (.int y)=IL (l.set j y):=(List.map_set ..).symm
 rw[e];show h.put y1 z1 hr (by simp_all)
def t6{xs:List V}{i:Int}(h0:0<=i)(h1:i<xs⁻¹):Ri xs.f i=some i.j:=by
 unfold Ri
 simp_all
def fS:FnScope ["web","weights","table","ends","weight","one","other"] ["web","weights"] (Xo (top 36)):=TQ D
def yB(T:Txt K mg t):Xs P w base Xz T.qZl 1 (spZl K t.A_Web):=by
 show T.qZl.okI ["web","weights","table","ends","weight","one","other"] D λXF A outer s H vs Q E hr h=>?_
 .let⟨w,b,n,ps,ws,rfl,hW,hG,hS,Ef,q⟩:=h;show⟨_,(XO (Rg (i:=2) Z fS.nd Z Z (sc0:=Xo<|top 36) (N0:=["web","weights","table","ends","weight","one","other"]) (N':=["place","web"]) (o:=1) (fr:=[0]) ⟨Z,D,D,D,Z,D⟩ (ZB Z T.n_range<|XX (Zj K (pv 0) Z) XW) (Zq AP) (λ_ _ _ _=>(Xm 0)) (λ_ _ _ _=>ZN) λ_ _ _ _=>(Zp vV (WR<|XX XN XW)<|Zj K (pv 1) Z))
   (XO (WT YH Z (Li K Z T.n_zip<|XX (Zj K (pv 0) Z)<|XX (pv 1) XW) (Pl (n:=2) K Z<|Zx (Xm 3)<|Zx (Xm 4) PJ)
   (XO (Zd 5<|ZA (ZC K) (pv 3) XN λ_ _=>rfl)
   (XO (Zd 6<|ZA (ZC K) (pv 3) XN λ_ _=>rfl)
   (XM (WN (Zh Ue (pv 5) (pv 6)<|Zo _)
   (XO (wk (ZA (Ze K) (pv 2) (pv 5) λ_ _=>rfl) (pv 5) (uX K) (pv 4) ES Nr)
   (XO (wk (ZA (Ze K) (pv 2) (pv 6) λ_ _=>rfl) (pv 6) (uX K) (pv 4) ES Nr)
   (XO (wk (ZA (Ze K) (pv 2) (pv 5) λ_ _=>rfl) (pv 6) (uX K) (pv 4) PH Nr)
   (XM<|wk (ZA (Ze K) (pv 2) (pv 6) λ_ _=>rfl) (pv 5) (uX K) (pv 4) PH Nr))))
   Zm)))))
   (XM<|Zk<|pv 2))),?_⟩
  let(dx,tl,xs,h1,h2,h3):=id hW;let hl:=h3.1
  let(g1,g2,g3,g4):=id hG;let one:1<=sizeLine:=AP
  exists _,Z,w,_,dx,_,_,Z,h1,T.cl_Web,T.n_Web_places,ZS _ _,n,Z,J,J,LB (lo:=0) (n:=n.j) (λi zs H2=>Same H H2/\Bears (RO H2) zs (List.U i<|List.U n.j 0)/\zs.Nodup/\∀A,V.ref A∈zs->H A=none/\∃o,H2 A=some o) {Same.refl _,{Z,λi l e=>by simp at e},.nil,λA h=>(by cases h)} (Zi J) (λi zs H2 _ zz=>by let(_,e,_):=zz;rw[e.1,UZ];lia) ?_ ?_
  .rintro i zs H2 hi ⟨s2,hZ,MI,Pr⟩ S Xy;show nm ?_;exists one,λp1 Vu=>?_;let u1:=XY (o:=.lst [.int 0]) Vu
   exists _,Z,w,_,dx,_,_,Z,u1 _ _<|s2 _ _ h1,T.cl_Web,T.n_Web_places,ZS _ _,p1,n,_,Z,Z,XZ,J,J,Sq (by change 1*n.j<=_;lia),λp2 Wn=>?_;let e0:(List.U n.j [V.int 0]).flatten=IL (List.U n.j 0):=by rw[Zs7];change _=(List.U n.j 0).H V.int;rw[List.map_replicate]
   rw[e0];let u2:=u1.l (XY (o:=.lst<|IL<|List.U n.j 0) Wn)
   let fR:H2 p2=none:=(XY Vu).free Wn;show Xy _ _ {s2.l u2,?_,?_,λA hA=>?_}
   .rw[List.replicate_succ'];show(hZ.imp λ_ _ zz=>by let(r',e,h):=zz;exists r',e,u2 _ _ h).snoc ⟨p2,Z,XZ⟩
   .grind
   .rcases Xk.R hA with e|e
    .let⟨a1,o,a2⟩:=Pr A e;exists a1,o,u2 _ _ a2
    .let e':A=p2:=by simpa using e
     rw[e'];exists s2.free fR,_,XZ
  rintro zs H2 ⟨s2,hZ,MI,Pr⟩ tA SV;let s3:=s2.l (XY (o:=.lst zs) SV)
  let OK:H tA=none:=s2.free SV;let hT:TabAt H tA n.j (upd H2 tA<|.lst zs) zs (List.U n.j<|List.U n.j 0):={XZ,hZ.imp λ_ _ zz=>by let(r',e,h):=zz;show{r',e,XY SV _ _ h,Za h SV},UZ,λl h=>B,MI,λA h=>(Pr A h).1}
  let hzero:∀i j,fnL (List.U n.j<|List.U n.j 0) i j=0:=λi j=>by
   have:=fU n.j i j
   show this
  generalize List.U n.j (List.U n.j (0:Int))=L0 at *;exists _,Z,w,_,dx,_,_,Z,s3 _ _ h1,T.cl_Web,T.n_Web_ties,ZM _ _,_,Z,tl,b,Z,{_,_,SqL.of<|s3 _ _ h2,s3.seq hS},kP (K:=K) (a:=tl) (b:=b) (xs:=xs) (ys:=IL ws) (by simp_all) (λi σ H4=>∃L v3 v4 v5 v6,σ=[some ↑w,some<|.ref b,some<|.ref tA,v3,v4,v5,v6]/\Same H H4/\TabAt H tA n.j H4 zs L/\∀x y,x<n.j->y<n.j->fnL L x y=lapE (Wo (ps.M i)<|ws.M i) x y) {L0,none,none,none,none,Z,s3,hT,λx y _ _=>hzero x y} (λi σ H4 _ zz=>by let(_,_,_,_,_,_,e,_):=zz;exists SqL.of<|e _ _ h2,e.seq hS) ?_ ?_
  .rintro i v v' σ H4 pt Se hi Ww ⟨L,v3,v4,v5,v6,rfl,s4,fQ,OJ⟩;let(p,hp,tt,rfl,Vk):=h3.at hi;let(wt,rfl,hwt):=UL Ww;let(e1,e2,e3,e4):=g4 p (Xf hp);let u1:=XY (o:=.tup [.ref tt,.int wt]) Se
   exists pt,_,Z,SqT.of XZ,Z,_,_,Z,_,_,Z,Z,?_;let fP:=fQ.same u1
   let s5:=s4.l u1;generalize upd H4 pt (.tup [.ref tt,.int wt])=H5 at *;exists _,Z,tt,_,0,.int p.1,Z,Z,SqT.of<|s5 _ _ Vk,Z,?_;exists _,Z,tt,_,1,.int p.2,Z,Z,SqT.of<|s5 _ _ Vk,Z,?_;exists _,Z,_,Z,Z,_,Z,?_;rw[ZH];let esn:=kN hp hwt
   show WQ (λheq=>?_) (λXJ=>?_)
   .exists L,_,_,_,_,Z,s5,fP,λx y hx hy=>?_;rw[esn,ZN5 J];show OJ x y hx hy
   let Pk:p.1.j≠p.2.j:=λe=>XJ B;let(A1,l1,x1,y1,Ly,hx1,SW,lI,Od,fO):=fP.get (i:=p.1.j) (j:=p.1.j) B J;exists _,Z,_,Z,tA,zs,p.1,.ref A1,Z,Z,SqL.of fP.tab,Zv (n:=p.1.j) J y1,_,Z,A1,_,p.1,.int x1,Z,Z,SqL.of Ly,rO,WK hx1,_,Z,_,_,Z,Z,A1,_,p.1,p.1.j,Z,Z,Ly,t6 J B,?_;let(L1,hT6,t5):=fO (x1+wt);let s6:Same H (upd H5 A1<|.lst<|(IL l1).set p.1.j (.int<|x1+wt)):=Zt Od s5
   generalize upd H5 A1 (.lst<|(IL l1).set p.1.j (.int<|x1+wt))=H6 at *;rw[lI]at t5;let(A2,l2,x2,y2,RN,hx2,SI,ex2,RS,put2):=hT6.get (i:=p.2.j) (j:=p.2.j) J J;exists _,Z,_,Z,tA,zs,p.2,.ref A2,Z,Z,SqL.of hT6.tab,Zv (n:=p.2.j) J y2,_,Z,A2,_,p.2,.int x2,Z,Z,SqL.of RN,rO,WK hx2,_,Z,_,_,Z,Z,A2,_,p.2,p.2.j,Z,Z,RN,t6 J B,?_;let(L2,hT7,Mn):=put2 (x2+wt);let s7:Same H (upd H6 A2<|.lst<|(IL l2).set p.2.j (.int<|x2+wt)):=Zt RS s6
   generalize upd H6 A2 (.lst<|(IL l2).set p.2.j (.int<|x2+wt))=H7 at *;rw[ex2]at Mn;let(A3,l3,x3,y3,Dm,hx3,Tt,ex3,hn3,put3):=hT7.get (i:=p.1.j) (j:=p.2.j) J J;exists _,Z,_,Z,tA,zs,p.1,.ref A3,Z,Z,SqL.of hT7.tab,Zv (n:=p.1.j) J y3,_,Z,A3,_,p.2,.int x3,Z,Z,SqL.of Dm,J,WK hx3,_,Z,_,_,Z,Z,A3,_,p.2,p.2.j,Z,Z,Dm,t6 J B,?_;let(L3,hT8,tZ):=put3 (x3-wt);let s8:Same H (upd H7 A3<|.lst<|(IL l3).set p.2.j (.int<|x3-wt)):=Zt hn3 s7
   generalize upd H7 A3 (.lst<|(IL l3).set p.2.j (.int<|x3-wt))=H8 at *;rw[ex3]at tZ;let(A4,l4,x4,y4,KO,tY,fN,ex4,fM,fL):=hT8.get (i:=p.2.j) (j:=p.1.j) J J;exists _,Z,_,Z,tA,zs,p.2,.ref A4,Z,Z,SqL.of hT8.tab,Zv (n:=p.2.j) J y4,_,Z,A4,_,p.1,.int x4,Z,Z,SqL.of KO,J,WK tY,_,Z,_,_,Z,Z,A4,_,p.1,p.1.j,Z,Z,KO,t6 J (by rw[Xh];grind),?_;let(L4,hT9,tX):=fL (x4-wt);let s9:Same H (upd H8 A4<|.lst<|(IL l4).set p.1.j (.int<|x4-wt)):=Zt fM s8
   rw[ex4]at tX;exists L4,_,_,_,_,Z,s9,hT9,λx y hx hy=>?_;rw[esn,lb,<-OJ x y hx hy];show four Pk x y t5 Mn tZ tX
  .rintro σ H4 ⟨L,v3,v4,v5,v6,rfl,s4,fQ,OJ⟩;rw[hl,Yy,<-Ef,Yy]at OJ;exists _,Z,q tA zs L H4 s4 OK fQ OJ
inductive spZm(K:Ad)(C:Addr)(vs:List V)(H:Hp)(Q:VK)(_:XK):Prop
 |mk (w n ps:_) (_:vs=[.ref w]) (_:WebAt C H w n ps) (_:GoodW n ps) (_:∀r ys L H',Same H H'->H r=none->TabAt H r n.j H' ys L->(∀i j,i<n.j->j<n.j->fnL L i j=lapE (Wo ps<|List.U ps.f 1) i j)->Q ↑r H')
def fK(T:Txt K mg t):Xs P w base Xz T.qZm 2 (spZm K t.A_Web):=by
 show T.qZm.okI ["web"] D λXF A outer s H vs Q E hr h=>?_
 .let⟨w,n,ps,rfl,hW,hG,q⟩:=h;exists _,(XM<|Zk<|XC (yB T) hr T.qZl Zs<|XX (pv 0)<|XX (Zp vV (WR<|XX XN XW)<|Zc (Zf K) rN T.n_len Boot.«len»<|XX (Zj K (pv 0) Z) XW) XW),?_;let(dx,tl,xs,h1,h2,h3):=id hW;let hl:=h3.1
  let g3:=hG.2.2.1;exists _,Z,AP,λp1 Vu=>?_;let u1:=XY (o:=.lst [.int 1]) Vu
  show{_,Z,w,_,dx,_,_,Z,u1 _ _ h1,T.cl_Web,T.n_Web_ties,ZM _ _,tl,xs,Z,.inl<|SqL.of<|u1 _ _ h2,p1,xs⁻¹,_,Z,Z,XZ,by simp_all,J,Sq (by change 1*_<=_;lia),λp2 Wn=>?_};let e0:(List.U (xs.f:Int).j [V.int 1]).flatten=IL (List.U ps.f 1):=by
   rw[YX,hl,Zs7];change _=(List.U ps.f 1).H V.int
   rw[List.map_replicate]
  rw[e0];let u2:=u1.l (XY (o:=.lst<|IL<|List.U ps.f 1) Wn)
  exists w,p2,n,ps,List.U ps.f 1,Z,hW.same u2,hG,SqL.of XZ,UZ,λr ys L H' s hr hT hf=>?_;show q r ys L H' (u2.l s) (u2.free hr) {hT.tab,hT.rows,hT.len,hT.all,hT.nd,λA h=>u2.free<|hT.new A h} hf
inductive spZn(K:Ad)(C:Addr)(vs:List V)(H:Hp)(Q:VK)(_:XK):Prop
 |mk (w n ps:_) (_:vs=[.ref w]) (_:WebAt C H w n ps) (_:GoodW n ps) (_:∀c H',TC n ps c->Same H H'->Q (.int c) H')
def yA(u v i:Nat):(ind u v i).natAbs<=1:=by unfold ind;split<;>split<;>decide
def yy:∀{E:List Ed},(∀e∈E,e.2.2=1)->∀i j,(lapE E i j).natAbs<=E.f
 |[],_,i,j=>XI 0
 |e::E,h,i,j=>by
  let ih:=yy (λf hf=>h f<|Yf _ hf) i j;let h1:=yA e.1 e.2.1 i
  let h2:=yA e.1 e.2.1 j;let h3:(ind e.1 e.2.1 i*ind e.1 e.2.1 j).natAbs<=1:=by rw[PY];show Qc h1 h2
  change(e.2.2*(ind e.1 e.2.1 i*ind e.1 e.2.1 j)+lapE E i j).natAbs<=(e::E).f;rw[h e Ya,Sx,YW]
  have:=sF (ind e.1 e.2.1 i*ind e.1 e.2.1 j) (lapE E i j)
  lia
def Zx8{α:Type}{l:List α}{i:Nat}(hi:l.f=i+1):cutz l (i:Int)=l.M i:=by
 unfold cutz
 simp_all
def QH(T:Txt K mg t):Xs P w base Xz T.qZn 3 (spZn K t.A_Web):=by
 show T.qZn.okI ["web"] D λXF A outer s H vs Q E hr h=>?_
 .let⟨w,n,ps,rfl,hW,hG,q⟩:=h;exists _,(XM<|Zk<|XC (yT T) hr T.qZ3 Zs<|XX (XC (yN T) hr T.qZ5 Zs<|XX (XC (fK T) hr T.qZm Zs<|XX (pv 0) XW)<|XX (Zp TF (Zj K (pv 0) Z) XN) XW) XW),?_;let(g1,g2,g3,g4):=id hG;exists _,Z,w,n,ps,Z,hW,hG,λr ys L H1 s1 hr hT hf=>?_;let(dx,tl,xs,h1,h2,h3):=id hW;exists _,Z,w,_,dx,_,_,Z,s1 _ _ h1,T.cl_Web,T.n_Web_places,ZS _ _,_,_,Z,Z,?_;obtain⟨k,hk⟩:∃k:Nat,n-1=(k:Int):={(n-1).j,J};let hnk:n.j=k+1:=B
  let yM:=hT.len;let fJ:Bears (RO H1) ys L:=hT.rows.imp λ_ _ h=>h.list
  exists r,ys,L,k,?_,SqL.of hT.tab,fJ,B,λl h=>by rw[hT.all l h];grind,by simp_all,λr2 zs H2 s2 VJ hZ=>?_
  .simp_all
  let w1:∀e∈Wo ps (List.U ps.f (1:Int)),e.2.2=1:=λe he=>by unfold Wo at he;let(i,hi):=Yx he;grind
  let el:(Wo ps<|List.U ps.f (1:Int)).f<=30:=by
   unfold Wo;rw[Kx,UZ]
   simp_all
  let hM:(cutz L (k:Int)).H (λl=>cutz l (k:Int))=(L.M k).H λl=>l.M k:=by rw[Zx8 (by simp_all)];show YQ λl hl=>Zx8 (by rw[hT.all l (LU hl)];omega)
  rw[hM]at hZ;let Sz:((L.M k).H λl=>l.M k).f=k:=by rw[Yb,Yu];simp_all
  let NB:∀i j,i<k->j<k->fnL ((L.M k).H λl=>l.M k) i j=lapE (Wo ps<|List.U ps.f 1) i j:=λi j hi hj=>by
   rw[<-hf i j B B];obtain⟨l,hl⟩:∃l,L[i]?=some l:={_,Xw B};let Ve:=hT.all l (Xf hl)
   obtain⟨x,hx⟩:∃x,l[j]?=some x:={_,Xw B};rw[Qq hl hx];show Qq (l:=l.M k) (by rw[Yn,Kv,Yi hi,hl];rfl) B
  exists r2,false,zs,(L.M k).H λl=>l.M k,Z,SqL.of VJ,hZ.imp (λ_ _ zz=>by let(r',e,h):=zz;exists r',false,e,SqL.of h),by rw[Sz];lia,λi j hi hj=>?_,λ_ H3 s3=>?_,λh=>absurd (λl hl=>?_) h
  .rw[Sz]at hi hj;rw[NB i j hi hj];show Yl (yy w1 i j) (Yl el<|Yl (by decide:30<=2^5)<|FH AP AP)
  .let hd:det ((L.M k).H λl=>l.M k).f (fnL<|(L.M k).H λl=>l.M k)=det (n-1).j (lapE<|Wo ps<|List.U ps.f 1):=by rw[Sz,show(n-1).j=k by simp_all];show Zn λi j hi hj=>NB i j hi hj
   obtain⟨c,M,a1,a2,a3⟩:∃c,TC n ps c:=by let(M,a1,a2,_):=Bx _ (n-1).j (Wo ps<|List.U ps.f 1) Z (IK hG _);exists M.f,M,a1,λl=>by rw[a2,IM g1 UZ],Z
   rw[hd,kR hG a1 a2,a3];show q c H3 ⟨M,a1,a2,a3⟩ (s1.l<|s2.l s3)
  .let⟨l0,h0,rfl⟩:=Yz.R hl;rw[Sz,Yu,hT.all l0 (LU h0)]
   simp_all
inductive spZo(K:Ad)(C:Addr)(vs:List V)(H:Hp)(Q:VK)(_:XK):Prop
 |mk (w a b n ps Is Os:_) (_:vs=[.ref w,.ref a,.ref b]) (_:WebAt C H w n ps) (_:GoodW n ps) (_:SqT K H a (IL Is)) (_:SqT K H b (IL Os)) (_:Is.Nodup) (_:(∀z∈Is,0<=z/\z<ps⁻¹)) (_:Os.f<=30) (_:(∀z∈Is,z∉Os)) (_:∀c H',PC n ps Is Os c->Same H H'->Q (.int c) H')
def fI{K:Ad}{H:Hp}{a b:Addr}{l m:Ac}{Q:VK}(ha:SqT K H a (IL l))(hb:SqT K H b (IL m))(hl:l.f+m.f<=1000)(k:∀r H',Same H H'->SqT K H' r (IL (l++m))->Q ↑r H'):Na K ↑a ↑b H Q:=by
 exists a,b,_,_,Z,Z,ha,hb,by rw[Xh,Xh];show Yl hl AP,λe=>?_,λ_ e=>?_,λ_ _ p hp=>?_
 .let el:l=[]:=Rw.R e;rw[el,Ks]at k;show k b H (Same.refl _) hb
 .let em:m=[]:=Rw.R e;rw[em,YS]at k;show k a H (Same.refl _) ha
 .show k p _ (XY hp) (SqT.of ?_);rw[XZ,vP]
def Zh8{gone:Ac}(j:Nat):XD (j+1) gone=XD j gone++(if ((j:Int)∈gone) then [] else [(j:Int)]):=by unfold XD;rw[mQ,VI];grind
def Mm:FnScope ["web","inside","outside","marks","firsts","numbers","gone","free"] ["web","inside","outside"] (Xo (top 39)):=TQ D
def Ic(T:Txt K mg t):Xs P w base Xz T.qZo 4 (spZo K t.A_Web):=by
 show T.qZo.okI ["web","inside","outside","marks","firsts","numbers","gone","free"] D λXF A outer s H vs Q E hr h=>?_
 .let⟨w,a,b,n,ps,Is,Os,rfl,hW,hG,hA,hB,hIn,WZ,hO,Vb,q⟩:=h;show⟨_,(XO (Zd 3<|XC (QI T) hr T.qZi Zs<|XX (pv 0)<|XX (pv 1) XW)
   (XO (VP (i:=4) Mm.nd Z (Or.inr Z)<|ZP4 K Z Z T.n_sorted Z T.n_set<|XX (pv 3) XW)
   (XO (WN (Zh Oo (Zp UY (Zc (Zf K) rN T.n_len Boot.«len»<|XX (pv 4) XW)<|Zc (Zf K) rN T.n_len Boot.«len»<|XX (pv 1) XW) (Zj K (pv 0) Z)<|Zo _)
   (XM<|Zk XN)
   Zm)
   (XO (VP (i:=5) Mm.nd Z (Or.inr Z)<|US Z (sc0:=Xo<|top 39) (N0:=["web","inside","outside","marks","firsts","numbers","gone","free"]) (N':=["mark","firsts"]) (o:=1) (fr:=[4]) ⟨Z,D,D,D,Z,D⟩ (ZD K<|pv 3) (Zq AP) (λ_ _ _ _=>(Xm 0)) (λ_ _ _ _=>ZN) λ_ _ _ _=>(Uq K QP PySem.F.slot_list_index PySem.F.type_list_index (Zx9 K) (pv 1)<|XX (pv 0) XW))
   (XO (VP (i:=6) Mm.nd Z (Or.inr Z)<|Zp (Pg K) (pv 1)<|pv 2)
   (XO (Rg (i:=7) Z Mm.nd Z Z (sc0:=Xo<|top 39) (N0:=["web","inside","outside","marks","firsts","numbers","gone","free"]) (N':=["tie","ends","gone"]) (o:=2) (fr:=[6]) ⟨Z,D,D,D,Z,D⟩ (GN K Z T.n_enumerate<|XX (Zj K (pv 0) Z) XW) (DX<|Oj AP<|Oj AP DY) (λ_ _ _ _=>(Pl (n:=2) K Z<|Zx (Xm 0)<|Zx (Xm 1) PJ)) (λ_ _ _ _=>(RR<|Zh (Jy K) (pv 0) (pv 2) Z)) λ_ _ _ _=>(pv 1))
   (XM<|Zk<|XC (QH T) hr T.qZn Zs<|XX (JO T.k_Web (Mp T) (hr.mono AP) Z T.c_Web T.bZ8 .nil Zs<|XX (Zc (Zf K) rN T.n_len Boot.«len»<|XX (pv 4) XW)<|XX (US Z (sc0:=Xo<|top 39) (N0:=["web","inside","outside","marks","firsts","numbers","gone","free"]) (N':=["ends","numbers"]) (o:=1) (fr:=[5]) ⟨Z,D,D,D,Z,D⟩ (ZD K<|pv 7) (Zq AP) (λ_ _ _ _=>(Xm 0)) (λ_ _ _ _=>ZN) λ_ _ _ _=>(ZZ<|XX (ZA (Ze K) (pv 1) (ZA (ZC K) (pv 0) XN λ_ _=>rfl) λ_ _=>rfl)<|XX (ZA (Ze K) (pv 1) (ZA (ZC K) (pv 0) XN λ_ _=>rfl) λ_ _=>rfl) XW)) XW) XW))))))),?_⟩
  let(g1,g2,g3,g4):=id hG;let(Js,KN,hJ2):=mL Is;let hJ:IsSet ps.f Js:=XU.mpr {λz hz=>WZ z<|KN.mem_iff.R hz,(hJ2.and<|KN.nodup_iff.mpr hIn).imp λh=>J}
  let uC:∀i j,Conn (XQ ps Js) i j↔Conn (XQ ps Is) i j:=λi j=>Lx λy=>KN.mem_iff;let hfr:XD ps.f (Js++Os)=XD ps.f (Is++Os):=Fz λz _=>B
  let back:∀c,PC n ps Js Os c->PC n ps Is Os c:=λc zz=>by let(L,l1,l2,l3):=zz;exists L,l1,λl=>(l2 l).l {λh=>{h.1,λz hz=>h.2.1 z<|KN.mem_iff.mpr hz,h.2.2},λh=>{h.1,λz hz=>h.2.1 z<|KN.mem_iff.R hz,h.2.2}},l3
  exists _,Z,_,Z,w,a,n,ps,Is,Z,hW,hG,hA,WZ,λmA H1 s1 QK SG=>?_;let Us:=ZF n.j (XQ ps Is)
  let Wt:=ZO (ns:=Is) hG WZ;let hel:(XQ ps Is).f=Is.f:=Yb ..
  show nm ?_;exists _,Z,mA,_,Z,SqL.of SG,B,λF hF Qm fA fH=>?_;let s2:=XY (o:=.lst<|IL F) fH
  let Mn:(upd H1 fA<|.lst<|IL F) fA=some (.lst<|IL F):=XZ;let WL:=s2 _ _ SG
  let Qi:=s1.l s2;show nm ?_;generalize upd H1 fA (.lst<|IL F)=H2 at *;let(g,hfg,fG,hgg):=jP Wt hF Qm;let(k1,kn,nk):=jM Wt J hF Qm;let RN:=ZP Qi hA
  let Jq:=ZP Qi hB;let(dx,tl,xs,h1,h2,h3):=hW.same Qi;exists _,Z,fA,_,Z,.inl<|SqL.of Mn,_,Z,a,_,Z,.inr RN,_,_,Z,Z,_,Z,w,_,dx,_,_,Z,h1,T.cl_Web,T.n_Web_places,ZS _ _,_,_,Z,Z,_,Z,?_;rw[Xh,Xh];show Xt (λhc=>?_) (λhc=>?_)
  .show q 0 H2 (back 0<|Bi hG hJ (λi j hi hj=>(hfg i j hi hj).l (uC i j).symm) fG hgg k1 kn<|by rw[KN.length_eq];omega) Qi
  exists _,Z,mA,Z,{_,SqL.of WL},Wc (K:=K) (a:=mA) (xs:=IL<|Xr n.j<|XQ ps Is) (λi zs H3=>H3=H2/\i<=n.j/\zs=IL (((Xr n.j<|XQ ps Is).M i).H λz=>(UJ F z:Int))) {Z,Yc _,Z} (Zi B) (λi zs H3 _ zz=>by let(e,hi,ez):=zz;show{e▸SqL.of WL,by simp_all}) ?_ ?_
  .rintro i v zs H3 hi ⟨rfl,hin3,rfl⟩ S Xy;let(z,rfl,hz):=UL hi;let vh:z∈F:=(Qm z).mpr (Xf hz)
   let Xx:=(Xv.R hz).1;show nm ?_;show{_,Z,.inl {Z,_,SqL.of Mn},_,Z,fA,F,z,UJ F z,Z,Z,SqL.of Mn,IE vh,λi hi e=>by have:=Rc (Sm hF) e (IE vh);simp_all,Xy _ _ {Z,J,?_}};rw[YA,hz,YB];show(Wh _ _).symm
  rintro zs H3 ⟨rfl,_,rfl⟩ nA tW;rw[Xh,Yy];let s3:=XY (o:=.lst<|IL<|(Xr n.j<|XQ ps Is).H λz=>(UJ F z:Int)) tW
  let fM:(upd H3 nA<|.lst<|IL<|(Xr n.j<|XQ ps Is).H λz=>(UJ F z:Int)) nA=some (.lst<|IL<|(Xr n.j<|XQ ps Is).H λz=>(UJ F z:Int)):=XZ;let tX:=s3 _ _ Mn
  let KO:=ZP s3 RN;let fF:=ZP s3 Jq
  let yx:=Qi.l s3;let nAt:∀x:Int,0<=x->x<n->((Xr n.j<|XQ ps Is).H λz=>(UJ F z:Int))[x.j]?=some (UJ F (mk (Xr n.j<|XQ ps Is) x.j):Int):=λx x0 x1=>by rw[Yn,Xw B];unfold mk;rw[We,Xw J];rfl
  show nm ?_;exists _,Z,_,Z,fI KO fF J λgA H5 s5 hg5=>?_;let yw:=yx.l s5
  let(dx,tl,xs,h1,h2,h3):=hW.same yw;let TV:=h3.1
  show nm ?_;show⟨_,Z,w,_,dx,_,_,Z,h1,T.cl_Web,T.n_Web_ties,ZM _ _,tl,Z,{_,SqL.of h2},vw (K:=K) (a:=tl) (xs:=xs) (λj zs H6=>Same H5 H6/\j<=ps.f/\PairsV H6 zs ((XD j<|Is++Os).H λz=>ps.Q z.j (0,0))) {Same.refl _,Yc _,PairsV.nil} (Zi J) (λj zs H6 hj ⟨e,RI,ez⟩=>⟨e.seq<|SqL.of h2,by
   rw[ez.1,Yb];show Yl (YL ..) ?_;rw[Zy]
   lia⟩) ?_ ?_⟩
  .rintro j v zs H6 pt Se hj ⟨s6,Qu,hZ⟩ S Xy;let(p,hp,tt,rfl,ht):=h3.at hj;let Vv:=(Xv.R hp).1
   let s7:=XY (o:=.tup [.int j,.ref tt]) Se;exists pt,_,Z,SqT.of XZ,Z,_,_,Z,_,_,Z,Z,?_;let yt:=hZ.same s7
   let TN:=s6.l s7;generalize upd H6 pt (.tup [.int j,.ref tt])=H7 at *;exists _,Z,_,Z,gA,_,Z,.inr<|ZP TN hg5,Z,ZT _,_,Z,?_;rw[Vh];show WQ (λIb=>?_) (λIb=>?_)
   .show Xy _ _ {TN,Vv,?_};rwa[Zh8,Yi Ib,YS]
   .exists _,Z,Xy _ _ {TN,Vv,?_};rw[Zh8,Yh Ib,YB];show yt.app ?_;change PairsV H7 [V.ref tt] [ps.Q ((j:Nat):Int).j (0,0)]
    rw[YX,VV hp];show PairsV.nil.snoc {tt,Z,TN _ _ ht}
  rintro zs H6 ⟨s6,_,hZ⟩ rA ON;rw[TV]at hZ;let s7:=XY (o:=.lst zs) ON
  let yP:(upd H6 rA<|.lst zs) rA=some (.lst zs):=XZ;let yt:=hZ.same s7
  let TN:=s6.l s7;generalize upd H6 rA (.lst zs)=H7 at *;let hf7:=TN _ _ (s5 _ _ tX)
  let hn7:=TN _ _ (s5 _ _ fM);let Ck:=yt.1
  let Oi:(XD ps.f<|Is++Os).f<=30:=by show Yl (YL ..) ?_;rw[Zy];omega
  rw[Yb]at Ck;show nm ?_;show⟨_,Z,fA,_,Z,.inl<|SqL.of hf7,_,Z,rA,Z,{_,SqL.of yP},Wc (K:=K) (a:=rA) (xs:=zs) (λi ws H8=>Same H7 H8/\i<=(XD ps.f<|Is++Os).f/\PairsV H8 ws (((XD ps.f<|Is++Os).M i).H λz=>((UJ F (mk (Xr n.j<|XQ ps Is) (Zz ps z).1):Int),(UJ F (mk (Xr n.j<|XQ ps Is) (Zz ps z).2):Int)))) {Same.refl _,Yc _,PairsV.nil} (Zi J)
   (λi ws H8 hi zz=>by let(e,Ws,ew):=zz;show{e.seq<|SqL.of yP,by rw[ew.1,Yb,Yu];simp_all}) ?_ ?_⟩
  .rintro i v ws H8 hi ⟨s8,Vm,Ml⟩ S Xy;let(p,hp,tt,rfl,ht):=yt.at hi;obtain⟨z,hz,ez⟩:∃z,(XD ps.f<|Is++Os)[i]?=some z/\ps.Q z.j (0,0)=p:=by
    simp_all
   let hz1:=(WU.R<|Xf hz).1;obtain⟨p',OM⟩:∃p,ps[z.j]?=some p:={_,Xw<|by simp_all};let epp:p'=p:=by rw[<-ez,VV OM]
   rw[epp]at OM;let(e1,e2,e3,e4):=g4 p (Xf OM);let ee:Zz ps z=(p.1.j,p.2.j):=by unfold Zz;rw[VV OM]
   let ht8:=s8 _ _ ht;let hn8:=s8 _ _ hn7
   show nm ?_;exists _,Z,_,Z,tt,_,0,.int p.1,Z,Z,SqT.of ht8,Z,nA,_,_,_,Z,Z,SqL.of hn8,Zv (n:=p.1.j) J<|WK<|nAt p.1 e1 e2,?_;exists _,Z,_,Z,tt,_,1,.int p.2,Z,Z,SqT.of ht8,Z,nA,_,_,_,Z,Z,SqL.of hn8,Zv (n:=p.2.j) J<|WK<|nAt p.2 e3 e4,(by change 2<=sizeLine;decide),λpp Sd=>?_;show Xy _ _ {s8.l<|XY Sd,B,?_};rw[YA,hz,YB];show(Ml.same<|XY Sd).snoc {pp,Z,?_};dsimp only;rw[ee];show XZ
  rintro ws H8 ⟨s8,_,Ml⟩ la yJ;rw[Ck,Yy]at Ml;let s9:=XY (o:=.lst ws) yJ
  let Mj:(upd H8 la<|.lst ws) la=some (.lst ws):=XZ;let hP9:=Ml.same s9
  let tV:=s8.l s9;generalize upd H8 la (.lst ws)=H9 at *;let hGc:=ZI8 (f:=λi=>UJ F<|mk (Xr n.j<|XQ ps Is) i) hG (Is++Os) fG k1 kn
  intro x OI nx Sy QG;let t1:Same H9 (upd (upd H9 OI<|.own x) x<|.ins t.A_Web OI []):=Zr (XY Sy) (by rwa[Zb (XH QG)])
  exists x,OI,F⁻¹,la,false,ws,_,by rw[Xh];rfl,XZ,λo=>?_,hP9.same t1,hGc,λtU hV k10=>{Z,?_}
  .show SqL.of (by rwa[Zb (Za Mj nx),Zb<|Za Mj nx,Zb (Za Mj Sy)])
  let yr:Same H9 tU:=λb o e=>k10 b o (t1 b o e) (Za e nx);exists x,_,_,Z,hV,hGc,λc KL hc Ia=>q c KL (back c<|jT hG hJ (λz hz=>Vb z<|KN.mem_iff.R hz) (λi j hi hj=>(hfg i j hi hj).l (uC i j).symm) fG hgg (by rw[KN.length_eq];grind)<|by rwa[hfr])<|yw.l<|TN.l<|tV.l<|yr.l Ia
inductive spZp(K:Ad)(C:Addr)(vs:List V)(H:Hp)(Q:VK)(_:XK):Prop
 |mk (w a b:Addr) (n:Int) (ps:Aa) (ka kb:Bool) (Is Os:Ac) (_:vs=[.ref w,.ref a,.ref b]) (_:WebAt C H w n ps) (_:GoodW n ps) (_:SqK ka K H a (IL Is)) (_:SqK kb K H b (IL Os)) (_:IsSet ps.f Is) (_:IsSet ps.f Os) (_:∀(c:Nat)(H':Hp),PC n ps Is Os c->Same H H'->Q (.int c) H')
def yq(T:Txt K mg t):Xs P w base Xz T.qZp 5 (spZp K t.A_Web):=by
 show T.qZp.okI ["web","inside","outside"] D λXF A outer s H vs Q E hr h=>?_
 .let⟨w,a,b,n,ps,ka,kb,Is,Os,rfl,hW,hG,hA,hB,hI,hO,q⟩:=h;show⟨_,(XO (Zd 1<|XC (Mo T) hr T.qZg Zs<|XX (pv 0)<|XX (pv 1) XW)
   (XO (Zd 2<|XC (Mo T) hr T.qZg Zs<|XX (pv 0)<|XX (pv 2) XW)
   (XO (WN (RT<|XC (f9 T) hr T.qZe Zs<|XX (pv 1)<|XX (pv 2) XW)
   (XM<|Zk XN)
   Zm)
   (XM<|Zk<|XC (Ic T) hr T.qZo Zs<|XX (pv 0)<|XX (pv 1)<|XX (pv 2) XW)))),?_⟩
  let g3:=hG.2.2.1;let l1:=hI.len
  let l2:=hO.len;exists _,Z,_,Z,w,a,n,ps,ka,Is,Z,hW,hA,hI,λr1 H1 s1 Vd=>?_;show nm ?_;exists _,Z,_,Z,w,b,n,ps,kb,Os,Z,hW.same s1,hB.same s1,hO,λr2 H2 s2 VJ=>?_;show nm ?_;let yp:=ZP s2 Vd
  let Qi:=s1.l s2;exists _,Z,_,Z,r1,r2,Is,Os,Z,yp,VJ,J,λc H3 hc s3=>{_,Z,?_};let TM:=Qi.l s3
  show o8 (λhb=>?_) (λhb=>?_)
  .let⟨z,h1,h2⟩:=hc.R hb;show q 0 H3 (Zq9 h1 h2) TM
  .exists _,Z,_,Z,_,Z,w,r1,r2,n,ps,Is,Os,Z,hW.same TM,hG,ZP s3 yp,ZP s3 VJ,hI.nodup,hI.all,J,λz h1 h2=>absurd (hc.mpr ⟨z,h1,h2⟩) J,λc H4 Mi s4=>q c H4 Mi<|TM.l s4
inductive spZq(K:Ad)(vs:List V)(H:Hp)(Q:VK)(_:XK):Prop
 |mk (a:Addr) (x y:Int) (_:vs=[.ref a]) (_:SqT K H a [.int x,.int y]) (_:Q (.bl<|decide<|x=y) H)
def yn(T:Txt K mg t):Xs P w base Xz T.qZq 1 (spZq K):=by
 show T.qZq.okI ["ends"] D λXF A outer s H vs Q E hr h=>?_
 .let⟨a,x,y,rfl,hS,q⟩:=h;exists _,(XM<|Zk<|Px Rm (ZA (ZC K) (pv 0) XN λ_ _=>rfl) (ZA (ZC K) (pv 0) XN λ_ _=>rfl)<|Zo _),?_;exists _,Z,a,_,0,.int x,Z,Z,hS,Z,_,Z,a,_,1,.int y,Z,Z,hS,Z,Z,?_
  simp_all
inductive spZr(K:Ad)(C:Addr)(vs:List V)(H:Hp)(Q:VK)(_:XK):Prop
 |mk (w:Addr) (n:Int) (ps:Aa) (z:Int) (_:vs=[.ref w,.int z]) (_:WebAt C H w n ps) (_:GoodW n ps) (_:-(10^70)<z) (_:z<10^70) (_:((0<=z/\z<ps⁻¹)->∀(r:Addr)(H':Hp),Same H H'->WebAt C H' r n (cutz ps z)->Q ↑r H')) (_:(¬(0<=z/\z<ps⁻¹)->False))
def fE(T:Txt K mg t):Xs P w base Xz T.qZr 4 (spZr K t.A_Web):=by
 show T.qZr.okI ["web","tie"] D λXF A outer s H vs Q E hr h=>?_
 .let⟨w,n,ps,z,rfl,hW,hG,z0,z1,q,qe⟩:=h;show⟨_,(XO (ZW<|XC (yL T) hr T.qZ9 Zs<|XX (pv 0)<|XX (pv 1) XW)
   (XM<|Zk<|JO T.k_Web (Mp T) (hr.mono AP) Z T.c_Web T.bZ8 .nil Zs<|XX (Zj K (pv 0) Z)<|XX (Zp JJ (ZQ (ZU K) (Zj K (pv 0) Z) Sr<|Wd<|pv 1)<|ZQ (ZU K) (Zj K (pv 0) Z) (Wd<|Zp UY (pv 1) XN) Sr) XW)),?_⟩
  exists _,Z,_,Z,w,n,ps,z,Z,hW,z0,z1,λhz=>?_,qe;let(dx,tl,xs,h1,h2,h3):=id hW;let hl:=h3.1
  let g3:=hG.2.2.1;let cl:∀lo hi,(XG xs lo hi).f<=30:=λlo hi=>Yl (Es xs lo hi) (by simp_all)
  exists _,Z,w,_,dx,_,_,Z,h1,T.cl_Web,T.n_Web_places,ZS _ _,?_;exists _,Z,w,_,dx,_,_,Z,h1,T.cl_Web,T.n_Web_ties,ZM _ _,_,Z,z,Z,tl,xs,Z,SqL.of h2,λp1 Vu=>?_;let s1:=XY (o:=.lst<|XG xs none<|some z) Vu
  exists _,Z,w,_,dx,_,_,Z,s1 _ _ h1,T.cl_Web,T.n_Web_ties,ZM _ _,_,Z,_,_,Z,Z,_,Z,tl,xs,Z,SqL.of<|s1 _ _ h2,λp2 Wn=>?_;let s2:=s1.l (XY (o:=.lst<|XG xs (some<|z+1) none) Wn)
  exists p1,p2,_,_,Z,Z,XY Wn _ _ XZ,XZ,Sq B,λp3 UI=>?_;let s3:=XY (o:=.lst<|XG xs none (some z)++XG xs (some<|z+1) none) UI
  let TM:=s2.l s3;let Tt:(upd (upd (upd H p1<|.lst<|XG xs none<|some z) p2<|.lst<|XG xs (some<|z+1) none) p3<|.lst<|XG xs none (some z)++XG xs (some<|z+1) none) p3=some (.lst<|cutz xs z):=by rw[XZ,Jc hz.1]
  generalize upd (upd (upd H p1<|.lst<|XG xs none<|some z) p2<|.lst<|XG xs (some<|z+1) none) p3 (.lst<|XG xs none (some z)++XG xs (some<|z+1) none)=H3 at *;intro x OI nx Sy QG;let t1:Same H3 (upd (upd H3 OI<|.own x) x<|.ins t.A_Web OI []):=Zr (XY Sy) (by rwa[Zb (XH QG)])
  exists x,OI,n,p3,false,cutz xs z,cutz ps z,Z,XZ,λo=>?_,(h3.same<|TM.l t1).cutz z,hG.cutz z,λH5 hV k5=>{Z,?_}
  .show SqL.of (by rwa[Zb (Za Tt nx),Zb<|Za Tt nx,Zb (Za Tt Sy)])
  show q hz x H5 (TM.l λb o e=>k5 b o (t1 b o e)<|Za e nx) hV
inductive spZs(K:Ad)(vs:List V)(H:Hp)(Q:VK)(_:XK):Prop
 |mk (n lo hi:Int) (_:vs=[.int n,.int lo,.int hi]) (_:n<=40) (_:0<=lo) (_:lo<hi) (_:hi<n) (_:∀(r:Addr)(H':Hp),Same H H'->H' r=some (.lst<|IL<|(Wj n.j).H (dn lo hi))->Q ↑r H')
def fD:FnScope ["places","low","high","numbers"] ["places","low","high"] (Xo (top 45)):=TQ D
def fC(T:Txt K mg t):Xs P w base Xz T.qZs 1 (spZs K):=by
 show T.qZs.okI ["places","low","high","numbers"] D λXF A outer s H vs Q E hr h=>?_
 .let⟨n,lo,hi,rfl,n14,l0,l1,h1,q⟩:=h;show⟨_,(XO (Rg (i:=3) Z fD.nd Z Z (sc0:=Xo<|top 45) (N0:=["places","low","high","numbers"]) (N':=["place","high"]) (o:=1) (fr:=[2]) ⟨Z,D,D,D,Z,D⟩ (ZB Z T.n_range<|XX (pv 0) XW) (Zq AP) (λ_ _ _ _=>(Xm 0)) (λ_ _ _ _=>ZN) λ_ _ _ _=>(GX (Zh Qy (pv 0) (pv 1)<|Zo _) (pv 0)<|Zp TF (pv 0) XN))
   (XO (Tj (pv 1)<|EV (pv 3) (pv 2) Nr)
   (XM<|Zk<|pv 3))),?_⟩
  show⟨_,Z,n,Z,J,rO,LB (lo:=0) (n:=n.j) (λi ws H2=>H2=H/\ws=IL ((Wj i).H λj=>if j<hi then j else j-1)) ⟨Z,Z⟩ (Zi J)
   (λi ws H2 hi zz=>by let(e,ew):=zz;rw[ew,Xh,Yb,Zy];simp_all) ?_ ?_⟩
  .rintro i ws H2 Wt ⟨rfl,rfl⟩ S Xy;let app:∀v:Int,v=(if (i:Int)<hi then (i:Int) else (i:Int)-1)->IL ((Wj i).H λj=>if j<hi then j else j-1)++[.int v]=IL ((Wj<|i+1).H λj=>if j<hi then j else j-1):=λv hv=>by rw[mQ,YB,SR,List.map_nil,Wh,hv]
   show nm ?_;exists _,Z,_,Z,_,_,Z,Z,_,Z,?_;show Xt (λhc=>?_) (λhc=>?_)
   .exists _,Z,Xy _ _ {Z,app _<|by simp_all}
   .exists _,Z,_,_,Z,Z,Xy _ _ {Z,app _ J}
  rintro ws H2 ⟨rfl,rfl⟩ p hp;exists _,Z,_,Z,_,Z,p,_,_,hi.j,Z,Z,XZ,?_,?_
  .rw[Xh,Yb,Zy];unfold Ri;grind
  exists _,Z,q p _ (Zt hp<|XY hp) ?_;rw[XZ];show YF (λl=>some<|HO.lst l) ?_;rw[<-mP J]
  simp_all
inductive spZt(K:Ad)(C:Addr)(vs:List V)(H:Hp)(Q:VK)(_:XK):Prop
 |mk (n lo hi:Int) (a:Addr) (xs:List V) (ps:Aa) (_:vs=[.int n,.ref a,.int lo,.int hi]) (_:SqL K H a xs) (_:PairsV H xs ps) (_:GoodW n ps) (_:0<=lo) (_:lo<hi) (_:hi<n) (_:∀(r:Addr)(H':Hp),Same H H'->WebAt C H' r (n-1) (ps.H<|Qs lo hi)->Q ↑r H')
def fB:FnScope ["places","ties","low","high","numbers"] ["places","ties","low","high"] (Xo (top 46)):=TQ D
def fw(T:Txt K mg t):Xs P w base Xz T.qZt 4 (spZt K t.A_Web):=by
 show T.qZt.okI ["places","ties","low","high","numbers"] D λXF A outer s H vs Q E hr h=>?_
 .let⟨n,lo,hi,a,xs,ps,rfl,hS,hP,hG,l0,l1,h1,q⟩:=h;show⟨_,(XO (VP (i:=4) fB.nd Z (Or.inr Z)<|XC (fC T) hr T.qZs Zs<|XX (pv 0)<|XX (pv 2)<|XX (pv 3) XW)
   (XM<|Zk<|JO T.k_Web (Mp T) (hr.mono AP) Z T.c_Web T.bZ8 .nil Zs<|XX (Zp TF (pv 0) XN)<|XX (US Z (sc0:=Xo<|top 46) (N0:=["places","ties","low","high","numbers"]) (N':=["ends","numbers"]) (o:=1) (fr:=[4]) ⟨Z,D,D,D,Z,D⟩ (ZD K<|pv 1) (Zq AP) (λ_ _ _ _=>(Xm 0)) (λ_ _ _ _=>ZN) λ_ _ _ _=>(ZZ<|XX (ZA (Ze K) (pv 1) (ZA (ZC K) (pv 0) XN λ_ _=>rfl) λ_ _=>rfl)<|XX (ZA (Ze K) (pv 1) (ZA (ZC K) (pv 0) XN λ_ _=>rfl) λ_ _=>rfl) XW)) XW)),?_⟩
  let(g1,g2,g3,g4):=id hG;let hl:=hP.1
  exists _,Z,_,Z,_,Z,n,lo,hi,Z,J,l0,l1,h1,λnA H1 s1 tW=>?_;show⟨_,Z,_,_,Z,Z,_,Z,a,Z,{_,s1.seq hS},Wc (K:=K) (a:=a) (xs:=xs) (λi ws H2=>Same H1 H2/\i<=ps.f/\PairsV H2 ws ((ps.M i).H (Qs lo hi))) {Same.refl _,Yc _,PairsV.nil} (Zi J)
   (λi ws H2 hi zz=>by let(e,Ws,ew):=zz;show{(s1.l e).seq hS,by rw[ew.1,Yb,Yu];simp_all}) ?_ ?_⟩
  .rintro i x ws H2 hix ⟨s2,Vm,Ml⟩ S Xy;let(p,hp,tt,rfl,ht):=hP.at hix;let Qj:=(s1.l s2) _ _ ht
   let(e1,e2,e3,e4):=g4 p (Xf hp);show nm ?_;exists _,Z,_,Z,tt,_,0,.int p.1,Z,Z,SqT.of Qj,Z,nA,_,_,_,Z,Z,SqL.of<|s2 _ _ tW,Zv (n:=p.1.j) J<|WK<|Cr e1 J,?_;exists _,Z,_,Z,tt,_,1,.int p.2,Z,Z,SqT.of Qj,Z,nA,_,_,_,Z,Z,SqL.of<|s2 _ _ tW,Zv (n:=p.2.j) J<|WK<|Cr e3 J,(by change 2<=sizeLine;decide),λpp Sd=>?_;show Xy _ _ {s2.l<|XY Sd,B,?_};rw[YA,hp,YB];show(Ml.same<|XY Sd).snoc ⟨pp,Z,XZ⟩
  rintro ws H2 ⟨s2,_,Ml⟩ la yJ;rw[hl,Yy]at Ml;let s3:=XY (o:=.lst ws) yJ
  let Mh:(upd H2 la<|.lst ws) la=some (.lst ws):=XZ;let hP3:=Ml.same s3
  let tS:=(s1.l s2).l s3;generalize upd H2 la (.lst ws)=H3 at *;intro x OI nx Sy QG;let t1:Same H3 (upd (upd H3 OI<|.own x) x<|.ins t.A_Web OI []):=Zr (XY Sy) (by rwa[Zb (XH QG)])
  exists x,OI,n-1,la,false,ws,ps.H<|Qs lo hi,Z,XZ,λo=>?_,hP3.same t1,Cs hG l0 l1 h1,λH5 hV k5=>{Z,?_}
  .show SqL.of (by rwa[Zb (Za Mh nx),Zb<|Za Mh nx,Zb (Za Mh Sy)])
  show q x H5 (tS.l λb o e=>k5 b o (t1 b o e)<|Za e nx) hV
inductive spZu(K:Ad)(C:Addr)(vs:List V)(H:Hp)(Q:VK)(_:XK):Prop
 |mk (w:Addr) (n:Int) (ps:Aa) (z:Int) (_:vs=[.ref w,.int z]) (_:WebAt C H w n ps) (_:GoodW n ps) (_:-(10^70)<z) (_:z<10^70) (_:(∀p:Int×Int,0<=z->ps[z.j]?=some p->p.1≠p.2->∀(lo hi:Int),lo<=hi->((lo=p.1/\hi=p.2)\/(lo=p.2/\hi=p.1))->∀(r:Addr)(H':Hp),Same H H'->WebAt C H' r (n-1) ((cutz ps z).H (Qs lo hi))->Q ↑r H')) (_:(∀p:Int×Int,0<=z->ps[z.j]?=some p->p.1=p.2->False)) (_:(¬(0<=z/\z<ps⁻¹)->False))
def fv(T:Txt K mg t):Xs P w base Xz T.qZu 5 (spZu K t.A_Web):=by
 show T.qZu.okI ["web","tie","ends"] D λXF A outer s H vs Q E hr h=>?_
 .let⟨w,n,ps,z,rfl,hW,hG,z0,z1,q,q2,qe⟩:=h;show⟨_,(XO (ZW<|XC (yL T) hr T.qZ9 Zs<|XX (pv 0)<|XX (pv 1) XW)
   (XO (Zd 2<|ZA (Ze K) (Zj K (pv 0) Z) (pv 1) λ_ _=>rfl)
   (XO (WN (RT<|XC (yn T) hr T.qZq Zs<|XX (pv 2) XW)
   (XM ZV)
   Zm)
   (XM<|Zk<|XC (fw T) hr T.qZt Zs<|XX (Zj K (pv 0) Z)<|XX (Zp JJ (ZQ (ZU K) (Zj K (pv 0) Z) Sr<|Wd<|pv 1)<|ZQ (ZU K) (Zj K (pv 0) Z) (Wd<|Zp UY (pv 1) XN) Sr)<|XX (Zc (ZQ8 K Z) rN T.n_min Boot.«min»<|XX (pv 2) XW)<|XX (Zc (ZR8 K Z) rN T.n_max Boot.«max»<|XX (pv 2) XW) XW)))),?_⟩
  exists _,Z,_,Z,w,n,ps,z,Z,hW,z0,z1,λhz=>?_,qe;let(dx,tl,xs,h1,h2,h3):=id hW;let hl:=h3.1
  let(g1,g2,g3,g4):=id hG;let cl:∀lo hi,(XG xs lo hi).f<=30:=λlo hi=>Yl (Es xs lo hi) (by simp_all)
  obtain⟨p,hp⟩:∃p,ps[z.j]?=some p:={_,Xw<|by simp_all};let(v,hv,tt,rfl,ht):=h3.2 _ p hp;let(e1,e2,e3,e4):=g4 p (Xf hp);exists _,Z,w,_,dx,_,_,Z,h1,T.cl_Web,T.n_Web_ties,ZM _ _,_,Z,tl,xs,z,.ref tt,Z,Z,SqL.of h2,Zv (n:=z.j) J hv,?_;exists _,Z,tt,p.1,p.2,Z,SqT.of ht,_,Z,?_;show Xt (λhc=>?_) (λhc=>?_)
  .show(q2 p hz.1 hp hc).elim
  exists _,Z,w,_,dx,_,_,Z,h1,T.cl_Web,T.n_Web_places,ZS _ _,?_;exists _,Z,w,_,dx,_,_,Z,h1,T.cl_Web,T.n_Web_ties,ZM _ _,_,Z,z,Z,tl,xs,Z,SqL.of h2,λp1 Vu=>?_;let s1:=XY (o:=.lst<|XG xs none<|some z) Vu
  exists _,Z,w,_,dx,_,_,Z,s1 _ _ h1,T.cl_Web,T.n_Web_ties,ZM _ _,_,Z,_,_,Z,Z,_,Z,tl,xs,Z,SqL.of<|s1 _ _ h2,λp2 Wn=>?_;let s2:=s1.l (XY (o:=.lst<|XG xs (some<|z+1) none) Wn)
  exists p1,p2,_,_,Z,Z,XY Wn _ _ XZ,XZ,Sq B,λp3 UI=>?_;let s3:=XY (o:=.lst<|XG xs none (some z)++XG xs (some<|z+1) none) UI
  let TM:=s2.l s3;let Tt:(upd (upd (upd H p1<|.lst<|XG xs none<|some z) p2<|.lst<|XG xs (some<|z+1) none) p3<|.lst<|XG xs none (some z)++XG xs (some<|z+1) none) p3=some (.lst<|cutz xs z):=by rw[XZ,Jc hz.1]
  show{_,Z,tt,[p.1,p.2],Z,SqT.of<|TM _ _ ht,by change 0<2;decide,λlo ft ym=>?_};show{_,Z,tt,[p.1,p.2],Z,SqT.of<|TM _ _ ht,by change 0<2;decide,λhi fq yk=>?_};let l1:=ym p.1 Fe
  let l2:=ym p.2 Fe;let l3:=yk p.1 Fe
  let l4:=yk p.2 Fe;let m1:lo=p.1\/lo=p.2:=by simpa using ft
  let m2:hi=p.1\/hi=p.2:=by simpa using fq
  exists n,lo,hi,p3,cutz xs z,cutz ps z,Z,SqL.of Tt,(h3.same TM).cutz z,hG.cutz z,J,J,B,λr H4 s4 hV=>?_;show q p hz.1 hp hc lo hi J J r H4 (TM.l s4) hV
def spP(C:Addr)(m:Nat):(Sp):=λvs H Q _=>∃(w:Addr)(n:Int)(ps:Aa),vs=[.ref w]/\WebAt C H w n ps/\GoodW n ps/\(ps.f<=12->ps.f<=m)/\
 (ps.f<=12->∀(c:Nat)(H':Hp),TC n ps c->Same H H'->Q (.int c) H')/\(12<ps.f->False)
inductive spZv(C:Addr)(vs:List V)(H:Hp)(Q:VK)(_:XK):Prop
 |mk (w:Addr) (n:Int) (ps:Aa) (_:vs=[.ref w]) (_:WebAt C H w n ps) (_:GoodW n ps) (_:(ps.f<=12->∀(c:Nat)(H':Hp),TC n ps c->Same H H'->Q (.int c) H')) (_:(12<ps.f->False))
def yj{α:Type}(l:List α)(p:α):cutz (l++[p]) ((l.f:Nat):Int)=l:=by
 unfold cutz
 simp_all
def Zk1(T:Txt K mg t)(m:Nat){sp:Sp}(Mg:Txt K mg t->Xs P w base Xz T.qZv (6+m) sp)
  (Uc:∀(x:Addr)(n:Int)(ps:Aa)(H:Hp)(Q:VK)(E:XK),WebAt t.A_Web H x n ps->GoodW n ps->ps.f<=12->ps.f<m->(∀(c:Nat)(H':Hp),TC n ps c->Same H H'->Q (.int c) H')->sp [.ref x] H Q E):
  Xs P w base Xz T.qZv (6+m+1) (spP t.A_Web m):=by
 show T.qZv.ok ["web","last","without"] D (λvs H Q E h=>?_) (λXF A outer s H vs Q E hr h=>?_)
 .let⟨x,n,ps,rfl,_⟩:=h;rfl
 .let⟨x,n,ps,rfl,hW,hG,hm,q,qe⟩:=h;show⟨_,(XO (WN (Zh Oo (Zc (Zf K) rN T.n_len Boot.«len»<|XX (Zj K (pv 0) Z) XW) (PM (v:=V.int 12) Z T.g_MOST_PARTED_TIES.choose_spec {_,Z})<|Zo _)
   (XM ZV)
   Zm)
   (XO (WN (Zh Rm (Zc (Zf K) rN T.n_len Boot.«len»<|XX (Zj K (pv 0) Z) XW) XN<|Zo _)
   (XM<|Zk<|GX (Zh Rm (Zj K (pv 0) Z) XN<|Zo _) XN XN)
   Zm)
   (XO (Zd 1<|Zp TF (Zc (Zf K) rN T.n_len Boot.«len»<|XX (Zj K (pv 0) Z) XW) XN)
   (XO (Zd 2<|Qx (Mg T) (hr.mono rO) Z T.qZv.mm T.qZv.fn.kp T.qZv.bi .nil Zs<|XX (Qx (fE T) (hr.mono rO) Z T.qZr.mm T.qZr.fn.kp T.qZr.bi .nil Zs<|XX (pv 0)<|XX (pv 1) XW) XW)
   (XO (WN (RT<|Qx (yn T) (hr.mono rO) Z T.qZq.mm T.qZq.fn.kp T.qZq.bi .nil Zs<|XX (ZA (Ze K) (Zj K (pv 0) Z) (pv 1) λ_ _=>rfl) XW)
   (XM<|Zk<|pv 2)
   Zm)
   (XM<|Zk<|Zp UY (pv 2)<|Qx (Mg T) (hr.mono rO) Z T.qZv.mm T.qZv.fn.kp T.qZv.bi .nil Zs<|XX (Qx (fv T) (hr.mono rO) Z T.qZu.mm T.qZu.fn.kp T.qZu.bi .nil Zs<|XX (pv 0)<|XX (pv 1) XW) XW)))))),?_⟩
  let(dx,tl,xs,h1,h2,h3):=id hW;let hl:=h3.1
  let(g1,g2,g3,g4):=id hG;exists _,Z,x,_,dx,_,_,Z,h1,T.cl_Web,T.n_Web_ties,ZM _ _,tl,xs,Z,.inl<|SqL.of h2,_,_,Z,Z,_,Z,?_;show Xt (λhc=>?_) (λhc=>?_)
  .show(qe J).elim
  let fo:ps.f<=12:=by simp_all
  let hm:=hm fo;let q:=q fo
  exists _,Z,x,_,dx,_,_,Z,h1,T.cl_Web,T.n_Web_ties,ZM _ _,tl,xs,Z,.inl<|SqL.of h2,Z,_,Z,?_;rw[ZH];show Xt (λh0=>?_) (λh0=>?_)
  .let hps:ps=[]:=UG.R (by simp_all);subst hps;exists _,Z,x,_,dx,_,_,Z,h1,T.cl_Web,T.n_Web_places,ZS _ _,Z,_,Z,?_;rw[ZH];show Xt (λhn=>?_) (λhn=>?_)
   .subst hn;show q 1 H mf (Same.refl H)
   .show q 0 H (me hn) (Same.refl H)
  obtain⟨qs,p,rfl⟩:∃qs p,ps=qs++[p]:={ps.dropLast,ps.getLast (λe=>by simp_all),(tu _).symm};let ql:(qs++[p]).f=qs.f+1:=by rw[Xe];rfl
  let ez:xs⁻¹-1=((qs.f:Nat):Int):=by simp_all
  let HZ:cutz (qs++[p]) (xs⁻¹-1)=qs:=by rw[ez];show yj qs p
  let hp:(qs++[p])[(xs⁻¹-1).j]?=some p:=by rw[ez,YX,YD<|XI _,UE];rfl
  let hGq:GoodW n qs:=HZ▸hG.cutz (xs⁻¹-1);exists _,Z,x,_,dx,_,_,Z,h1,T.cl_Web,T.n_Web_ties,ZM _ _,tl,xs,Z,.inl<|SqL.of h2,_,_,Z,Z,?_;exists _,Z,_,Z,x,n,qs++[p],(xs⁻¹-1),Z,hW,hG,J,J,λ_ r1 H1 s1 hV1=>?_,λhz=>absurd {by simp_all,J} hz;rw[HZ]at hV1;show Uc r1 n qs H1 _ _ hV1 hGq B B λc1 H2 FY s2=>?_;let WE:=s1.l s2
  let(v,hv,tt,rfl,ht):=h3.2 _ p hp;let(e1,e2,e3,e4):=g4 p Fe;exists _,Z,x,_,dx,_,_,Z,WE _ _ h1,T.cl_Web,T.n_Web_ties,ZM _ _,_,Z,tl,xs,(xs⁻¹-1),.ref tt,Z,Z,SqL.of<|WE _ _ h2,Zv (n:=(xs⁻¹-1).j) (by simp_all) hv,?_;exists tt,p.1,p.2,Z,SqT.of<|WE _ _ ht,_,Z,?_;show Xt (λMt=>?_) (λMt=>?_)
  .exists _,Z,q c1 H2 (l6 hG Mt FY) WE
  exists _,Z,_,Z,_,Z,x,n,qs++[p],(xs⁻¹-1),Z,hW.same WE,hG,rO,rO,λp' _ OM XJ lo hi hlh Ol r2 H3 s3 hV3=>?_,λp' _ OM he=>?_,λhz=>absurd ⟨rO,rO⟩ hz
  .rw[hp]at OM;let rfl:=Ym OM;rw[HZ]at hV3;let l0:0<=lo:=J
   let l1:lo<hi:=J;let lh:hi<n:=J
   show Uc r2 (n-1) (qs.H<|Qs lo hi) H3 _ _ hV3 (Cs hGq l0 l1 lh) (by rw[Yb];grind) (by rw[Yb];grind) λc2 H4 Vn s4=>?_;exists _,_,Z,Z,?_;show q (c1+c2) H4 (lZ hG l0 l1 lh Ol FY Vn) (WE.l<|s3.l s4)
  lia
def Zi1(T:Txt K mg t):∀m:Nat,Xs P w base Xz T.qZv (6+m+1) (spP t.A_Web m)
 |0=>Zk1 T 0 (sp:=λ_ _ _ _=>False) (λ_=>{λ_ _ _ _ h=>h.elim,λ_ _ _ _ _ _ _ _ _ _ _ _ _ h=>h.elim}) λ_ _ _ _ _ _ _ _ _ h=>absurd h (VX _)
 |m+1=>Zk1 T (m+1) (λT=>Zi1 T m) λx n ps H Q E hW hG fo Xx q=>{x,n,ps,Z,hW,hG,λ_=>J,λ_=>q,λh=>absurd h J}
def Mg(T:Txt K mg t):Xs P w base Xz T.qZv 19 (spZv t.A_Web):=
 (Zi1 T 12).imp λvs H Q E zz=>by let(x,n,ps,e,hW,hG,q,qe):=zz;exists x,n,ps,e,hW,hG,id,q,qe
inductive spZw(K:Ad)(C:Addr)(vs:List V)(H:Hp)(Q:VK)(_:XK):Prop
 |mk (w a n ps kd ns:_) (_:vs=[.ref w,.ref a]) (_:WebAt C H w n ps) (_:GoodW n ps) (_:SqK kd K H a (IL ns)) (_:∀b H',Same H H'->(b=true↔Zg n ps ns)->Q (.bl b) H')
def fk(T:Txt K mg t):Xs P w base Xz T.qZw 6 (spZw K t.A_Web):=by
 show T.qZw.okI ["web","ties"] D λXF A outer s H vs Q E hr h=>?_
 .let⟨w,a,n,ps,kd,ns,rfl,hW,hG,hS,q⟩:=h;exists _,(XM<|Zk<|LJ (XC (yE T) hr T.qZf Zs<|XX (pv 0)<|XX (pv 1) XW)<|LJ (Px Rm (Zc (Zf K) rN T.n_len Boot.«len»<|XX (pv 1) XW) (Zp TF (Zj K (pv 0) Z) XN)<|Zo _)<|LK<|XC (fV T) hr T.qZk Zs<|XX (pv 0)<|XX (pv 1) XW),?_;exists _,Z,_,Z,w,a,n,ps,kd,ns,Z,hW,hS,λb hb=>{b,Z,?_};show o8 (λe=>?_) (λe=>?_)
  .let hI:=hb.R e;let(dx,tl,xs,h1,h2,h3):=id hW;exists _,Z,a,_,Z,hS.or,_,Z,w,_,dx,_,_,Z,h1,T.cl_Web,T.n_Web_places,ZS _ _,_,_,Z,Z,Z,_,Z,?_;rw[Xh,ZH];show Xt (λhl=>?_) (λhl=>?_)
   .exists _,Z,_,Z,w,a,n,ps,kd,ns,Z,hW,hG,hS,hI,λb2 H' s KY=>q b2 H' s ?_;rw[KY,oo J (ZO hG hI.all)];exists λz=>⟨hI,hl,z⟩,λz=>z.2.2
   .show q false H (Same.refl H) {λz=>(nomatch z),λz=>absurd z.2.1 hl}
  .show q false H (Same.refl H) {λz=>(nomatch z),λz=>by rw[hb.mpr z.1]at e;cases e}
inductive spZx(K:Ad)(C:Addr)(vs:List V)(H:Hp)(Q:VK)(_:XK):Prop
 |mk (w a n ps kd ns:_) (_:vs=[.ref w,.ref a]) (_:WebAt C H w n ps) (_:GoodW n ps) (_:SqK kd K H a (IL ns)) (_:(Zg n ps ns->∀H':Hp,Same H H'->Q .non H')) (_:(¬Zg n ps ns->∀H':Hp,Same H H'->False))
def fj(T:Txt K mg t):Xs P w base Xz T.qZx 7 (spZx K t.A_Web):=by
 show T.qZx.okI ["web","tree"] D λXF A outer s H vs Q E hr h=>?_
 .let⟨w,a,n,ps,kd,ns,rfl,hW,hG,hS,q,qe⟩:=h;show⟨_,(XM (WN (PL<|RT<|XC (fk T) hr T.qZw Zs<|XX (pv 0)<|XX (pv 1) XW)
   (XM ZV)
   Zm)),?_⟩
  exists _,Z,_,Z,w,a,n,ps,kd,ns,Z,hW,hG,hS,λb H' s hb=>{_,Z,?_};show JB (λz=>?_) (λz=>?_)
  .show q (hb.R z) H' s
  simp_all
inductive spZy(K:Ad)(C:Addr)(vs:List V)(H:Hp)(Q:VK)(_:XK):Prop
 |mk (w a b n ps ka kb ns os:_) (_:vs=[.ref w,.ref a,.ref b]) (_:WebAt C H w n ps) (_:GoodW n ps) (_:SqK ka K H a (IL ns)) (_:SqK kb K H b (IL os)) (_:ns.f<=1000) (_:os.f<=1000) (_:(∀z∈ns++os,0<=z/\z<ps⁻¹)) (_:(((WI n.j ps<|ns++os).M ns.f≠ns\/((WI n.j ps<|ns++os).f:Int)<n-1)->∀H':Hp,Same H H'->Q .non H')) (_:((WI n.j ps<|ns++os).M ns.f=ns->¬((WI n.j ps<|ns++os).f:Int)<n-1->∀r ms H',ms.Perm (WI n.j ps<|ns++os)->ms.G (·<=·)->Same H H'->H r=none->H' r=some (.tup<|IL ms)->Q ↑r H'))
def fi(T:Txt K mg t):Xs P w base Xz T.qZy 3 (spZy K t.A_Web):=by
 show T.qZy.okI ["web","inside","order","marks","grown","tie","ends"] D λXF A outer s H vs Q E hr h=>?_
 .let⟨w,a,b,n,ps,ka,kb,ns,os,rfl,hW,hG,hS,Dr,Ge,Nj,hI,q0,q1⟩:=h;show⟨_,(XO (Zd 3<|XC (QI T) hr T.qZi Zs<|XX (pv 0)<|XX (ZZ XW) XW)
   (XO (Zd 4<|WR XW)
   (XO (WT YH Z (ZD K<|Zp JJ (Zl (GO K) rN T.n_list Boot.«list»<|XX (pv 1) XW)<|Zl (GO K) rN T.n_list Boot.«list»<|XX (pv 2) XW) (Xm 5)
   (XO (Zd 6<|ZA (Ze K) (Zj K (pv 0) Z) (pv 5) λ_ _=>rfl)
   (XM (WN (Zh Ue (ZA (Ze K) (pv 3) (ZA (ZC K) (pv 6) XN λ_ _=>rfl) λ_ _=>rfl) (ZA (Ze K) (pv 3) (ZA (ZC K) (pv 6) XN λ_ _=>rfl) λ_ _=>rfl)<|Zo _)
   (XO (Zd 3<|XC (yD T) hr T.qZh Zs<|XX (pv 0)<|XX (pv 3)<|XX (ZZ<|XX (pv 5) XW) XW)
   (XM<|ZW<|Uq K QP NR NS Np (pv 4)<|XX (pv 5) XW))
   Zm))))
   (XO (WN (PW.pt<|Tn (Zh (o3 K<|DM hr) (ZQ (ZU K) (pv 4) Sr<|Wd<|Zc (Zf K) rN T.n_len Boot.«len»<|XX (pv 1) XW) (Zl (GO K) rN T.n_list Boot.«list»<|XX (pv 1) XW)<|Zo _)<|To<|Zh Qy (Zc (Zf K) rN T.n_len Boot.«len»<|XX (pv 4) XW) (Zp TF (Zj K (pv 0) Z) XN)<|Zo _)
   (XM<|Zk Ka)
   Zm)
   (XM<|Zk<|Zl (ZI K) rN T.n_tuple Boot.«tuple»<|XX (Zc (oK K) rN T.n_sorted Boot.«sorted»<|XX (pv 4) XW) XW))))),?_⟩
  let(g1,g2,g3,g4):=id hG;let one:1<=sizeLine:=AP
  exists _,Z,Yc _,λr0 UN=>?_;let s0:=XY (o:=.tup []) UN
  exists w,r0,n,ps,[],Z,hW.same s0,hG,SqT.of XZ,λ_ e=>(nomatch e),λm H1 s1 QK SG=>?_;let s01:=s0.l s1
  exists Yc _,λgl hgl=>?_;let s2:=XY (o:=.lst []) hgl
  let Qi:=s01.l s2;let hgf:=s01.free hgl
  exists _,Z,a,_,Z,(hS.same Qi).or,λl1 SW=>?_;let s3:=XY (o:=.lst<|IL ns) SW
  let TM:=Qi.l s3;exists _,Z,b,_,Z,(Dr.same TM).or,λl2 SI=>?_;let s4:=XY (o:=.lst<|IL os) SI
  let yx:=TM.l s4;exists l1,l2,_,_,Z,Z,s4 _ _ XZ,XZ,Sq B,λcl OT=>?_;let s5:=XY (o:=.lst<|IL ns++IL os) OT
  let yw:=yx.l s5;let eI:IL ns++IL os=IL (ns++os):=(vP _ _).symm
  let yi:=s5 _ _ (s4 _ _<|s3 _ _<|XZ (H:=H1) (a:=gl) (o:=.lst []));let tR:=s5 _ _ (s4 _ _<|s3 _ _<|s2 _ _ SG)
  let HY:=XZ (H:=upd (upd (upd H1 gl<|.lst []) l1<|.lst<|IL ns) l2<|.lst<|IL os) (a:=cl) (o:=.lst<|IL ns++IL os);let ncg:cl≠gl:=λe=>by rw[e]at OT;show absurd ((s4 _ _<|s3 _ _<|XZ (H:=H1) (a:=gl) (o:=.lst [])).symm.l OT) Fe
  let nmg:m≠gl:=λe=>by simp_all
  rw[eI]at s5 yw yi tR HY ⊢;show⟨cl,Z,{_,SqL.of HY},wg (K:=K) (a:=cl) (xs:=IL<|ns++os) (λi σ H2=>∃mc v5 v6,σ=[some ↑w,some<|.ref a,some<|.ref b,some<|.ref mc,some<|.ref gl,v5,v6]/\Same H H2/\mc≠gl/\
    H2 cl=some (.lst<|IL<|ns++os)/\H2 mc=some (.lst<|IL<|Xr n.j<|XQ ps<|WI n.j ps<|(ns++os).M i)/\H2 gl=some (.lst<|IL<|WI n.j ps<|(ns++os).M i))
   ⟨m,none,none,Z,yw,nmg,HY,tR,yi⟩ (λi σ H2 _ zz=>by let(_,_,_,_,_,_,e,_):=zz;show SqL.of e) ?_ ?_⟩
  .rintro i x σ H2 hi ⟨mc,v5,v6,rfl,s2,XJ,Vn,WL,MA⟩;let(z,rfl,hz):=UL hi;let(z0,z1):=hI z (Xf hz);let hIt:∀y∈(ns++os).M i,0<=y/\y<ps⁻¹:=λy hy=>hI y (LU hy)
   let est:(ns++os).M (i+1)=(ns++os).M i++[z]:=by rw[YA,hz];rfl
   let eG:WI n.j ps ((ns++os).M (i+1))=QZ n.j ps (WI n.j ps<|(ns++os).M i) z:=by rw[est,Lr]
   let Wt:=GD hG hIt;let yh:=CV hG hIt
   generalize WI n.j ps ((ns++os).M i)=G at *;let(dx,tl,xs,h1,h2,h3):=hW.same s2;obtain⟨p,hp⟩:∃p,ps[z.j]?=some p:={_,Xw J};let(v,hv,tt,rfl,Vk):=h3.2 z.j p hp;let(e1,e2,e3,e4):=g4 p (Xf hp);let ed:Zz ps z=(p.1.j,p.2.j):=by unfold Zz;rw[VV hp]
   let hl:(Xr n.j<|XQ ps G).f=n.j:=ZF _ _;let iA:Wk (IL<|Xr n.j<|XQ ps G) p.1=some (.int<|mk (Xr n.j<|XQ ps G) p.1.j):=Zv (n:=p.1.j) J (WK<|Rb B)
   let iB:Wk (IL<|Xr n.j<|XQ ps G) p.2=some (.int<|mk (Xr n.j<|XQ ps G) p.2.j):=Zv (n:=p.2.j) J (WK<|Rb B);let t0:Wk ([.int p.1,.int p.2]:List V) 0=some (.int p.1):=rfl
   let t1:Wk ([.int p.1,.int p.2]:List V) 1=some (.int p.2):=rfl;let key:mk (Xr n.j<|XQ ps G) p.1.j=mk (Xr n.j<|XQ ps G) p.2.j↔mk (WY n.j<|XQ ps G) (Zz ps z).1=mk (WY n.j<|XQ ps G) (Zz ps z).2:=by rw[ed,Ra Wt B B,VT Wt B B]
   exists _,Z,w,_,dx,_,_,Z,h1,T.cl_Web,T.n_Web_ties,ZM _ _,_,Z,tl,xs,z,.ref tt,Z,Z,SqL.of h2,Zv (n:=z.j) J hv,?_;exists _,Z,_,Z,tt,_,0,_,Z,Z,SqT.of Vk,t0,mc,_,p.1,_,Z,Z,SqL.of WL,iA,_,Z,_,Z,tt,_,1,_,Z,Z,SqT.of Vk,t1,mc,_,p.2,_,Z,Z,SqL.of WL,iB,Z,_,Z,?_;rw[ZH];show WQ (λhe=>?_) (λhe=>?_)
   .exists mc,_,_,Z,s2,XJ,Vn,?_,?_
    .rw[eG];unfold QZ;rwa[Yi (key.R he)]
    .rw[eG];unfold QZ;rwa[Yi (key.R he)]
   .let eG2:WI n.j ps ((ns++os).M (i+1))=G++[z]:=by rw[eG];unfold QZ;rw[Yh λe=>he (key.mpr e)]
    exists _,Z,_,Z,_,Z,one,λp2 Wn=>?_;let s6:=XY (o:=.tup [.int z]) Wn
    show{w,mc,p2,n,ps,_,true,[z],Z,(hW.same s2).same s6,hG,s6 _ _ WL,hl,SqT.of XZ,λy hy=>by rw[Xc.R hy];show⟨z0,z1⟩,λm' H7 s7 hf FX=>?_};let Mf:=s6.l s7
    let hg7:=Mf _ _ MA;let hc7:=Mf _ _ Vn
    let nm':m'≠gl:=by
     rcases hf with rfl|hf
     .show XJ
     .show λe=>absurd ((s6 _ _ MA).symm.l (e▸hf)) Fe
    exists _,Z,.inl {Z,_,SqL.of hg7},_,Z,gl,_,_,Z,Z,hg7,Zi (by rw[Xh];lia),?_;exists m',_,_,Z,Zt hgf<|s2.l Mf,nm',?_,?_,?_
    .rw[Zb ncg];show hc7
    .rw[Zb nm',FX,eG2,Lv,oX];rfl
    .rw[XZ,eG2,Wh]
  .rintro σ H2 ⟨mc,v5,v6,rfl,s2,XJ,Vn,WL,MA⟩;rw[Xh,Yy]at MA;let yh:=CV hG hI
   generalize WI n.j ps (ns++os)=G at *;exists _,Z,_,Z,a,_,Z,(hS.same s2).or,_,Z,gl,_,Z,SqL.of MA,λr1 Vd=>?_;let ec:XG (IL G) none (some ((IL ns).f:Int))=IL (G.M ns.f):=by rw[Yz8 J,YX,Xh,DN]
   rw[ec];let s3:=XY (o:=.lst<|IL<|G.M ns.f) Vd
   exists _,Z,a,_,Z,(hS.same<|s2.l s3).or,λr2 VJ=>?_;let s4:=XY (o:=.lst<|IL ns) VJ
   exists 1,_,r1,r2,Z,Z,AP,au (SqL.of<|s4 _ _ XZ)<|SqL.of XZ,_,Z,?_;let KJ:=s2.l (s3.l s4)
   show WQ (λhe=>?_) (λhe=>?_)
   .let⟨dx,tl,xs,h1,h2,h3⟩:=hW.same KJ;let hg4:=s4 _ _ (s3 _ _ MA)
    exists _,Z,gl,_,Z,.inl<|SqL.of hg4,_,Z,w,_,dx,_,_,Z,h1,T.cl_Web,T.n_Web_places,ZS _ _,_,_,Z,Z,_,_,Z,Z,_,Z,?_;rw[Xh];show Xt (λhc=>?_) (λhc=>?_)
    .show q0 (.inr hc) _ KJ
    .exists _,Z,gl,G,Z,SqL.of hg4,J,λms Vu Wn l hl=>?_;let s5:=XY (o:=.lst<|IL ms) hl
     exists l,_,Z,.inl {SqL.of XZ,λr hr=>?_};show q1 he hc r ms _ Vu Wn ((KJ.l s5).l (XY hr)) ((KJ.l s5).free hr) XZ
   .show UU ?_;show q0 (.inl he) _ KJ
inductive spZz(K:Ad)(C:Addr)(vs:List V)(H:Hp)(Q:VK)(_:XK):Prop
 |mk (w a n ps kd ns z:_) (_:vs=[.ref w,.ref a,.int z]) (_:WebAt C H w n ps) (_:GoodW n ps) (_:SqK kd K H a (IL ns)) (_:IsSet ps.f ns) (_:∀r H',Same H H'->H r=none->H' r=some (.tup<|IL<|unlike (WY n.j<|XQ ps<|wo ns z) ps ps.f)->Q ↑r H')
def fh:FnScope ["web","tree","tie","marks"] ["web","tree","tie"] (Xo (top 53)):=TQ D
def fg(T:Txt K mg t):Xs P w base Xz T.qZz 3 (spZz K t.A_Web):=by
 show T.qZz.okI ["web","tree","tie","marks"] D λXF A outer s H vs Q E hr h=>?_
 .let⟨w,a,n,ps,kd,ns,z,rfl,hW,hG,hS,hI,q⟩:=h;show⟨_,(XO (VP (i:=3) fh.nd Z (Or.inr Z)<|XC (QI T) hr T.qZi Zs<|XX (pv 0)<|XX (XC (yG T) hr T.qZd Zs<|XX (pv 1)<|XX (pv 2) XW) XW)
   (XM<|Zk<|Zl (ZI K) rN T.n_tuple Boot.«tuple»<|XX (US Z (sc0:=Xo<|top 53) (N0:=["web","tree","tie","marks"]) (N':=["number","ends","marks"]) (o:=2) (fr:=[3]) ⟨Z,D,D,D,Z,D⟩ (GN K Z T.n_enumerate<|XX (Zj K (pv 0) Z) XW) (DX<|Oj AP<|Oj AP DY) (λ_ _ _ _=>(Pl (n:=2) K Z<|Zx (Xm 0)<|Zx (Xm 1) PJ)) (λ_ _ _ _=>(RR<|Zh Ue (ZA (Ze K) (pv 2) (ZA (ZC K) (pv 1) XN λ_ _=>rfl) λ_ _=>rfl) (ZA (Ze K) (pv 2) (ZA (ZC K) (pv 1) XN λ_ _=>rfl) λ_ _=>rfl)<|Zo _)) λ_ _ _ _=>(pv 0)) XW)),?_⟩
  let(g1,g2,g3,g4):=id hG;let hln:=hI.len
  let hb:∀y∈wo ns z,0<=y/\y<ps⁻¹:=λy hy=>hI.all y (Xj.R hy).1;exists _,Z,_,Z,_,Z,a,kd,ns,z,Z,hS,J,λr1 H1 s1 UN Vd=>?_;exists w,r1,n,ps,wo ns z,Z,hW.same s1,hG,SqT.of Vd,hb,λm H2 s2 QK WL=>?_;let Wt:=ZO hG hb
  let e0:=Zw6 (M:=Xr n.j<|XQ ps<|wo ns z) hG (ZF _ _) (vJ Wt);let hl:(Xr n.j<|XQ ps<|wo ns z).f=n.j:=ZF _ _
  rw[<-e0]at q;generalize Xr n.j (XQ ps<|wo ns z)=M at *;let WE:=s1.l s2
  let(dx,tl,xs,h1,h2,h3):=hW.same WE;let TV:=h3.1
  show⟨_,Z,w,_,dx,_,_,Z,h1,T.cl_Web,T.n_Web_ties,ZM _ _,tl,Z,{_,SqL.of h2},vw (K:=K) (a:=tl) (xs:=xs) (λi ys H3=>Same H2 H3/\i<=xs.f/\ys=IL (unlike M ps i)) {Same.refl _,Yc _,Z} (Zi J)
   (λi ys H3 _ zz=>by let(e,_,ey):=zz;show{SqL.of<|e _ _ h2,by rw[ey,Xh];show om _ _ _}) ?_ ?_⟩
  .rintro i x ys H3 pt Se hi ⟨s3,Vm,rfl⟩ S Xy;let(p,Pj,tt,rfl,Vk):=h3.at hi;let(e1,e2,e3,e4):=g4 p (Xf Pj);let Xn:i<xs.f:=(Xv.R hi).1
   let s4:Same H3 (upd H3 pt<|.tup [.int i,.ref tt]):=XY Se;let QL:=s3.l s4
   let OH:=QL _ _ Vk;let yg:=QL _ _ WL
   let ed:ps.Q i (0,0)=p:=VV Pj;let t0:Wk ([.int p.1,.int p.2]:List V) 0=some (.int p.1):=rfl
   let t1:Wk ([.int p.1,.int p.2]:List V) 1=some (.int p.2):=rfl;let iA:Wk (IL M) p.1=some (.int<|mk M p.1.j):=Zv (n:=p.1.j) J (WK<|Rb B)
   let iB:Wk (IL M) p.2=some (.int<|mk M p.2.j):=Zv (n:=p.2.j) J (WK<|Rb B);exists pt,_,Z,SqT.of XZ,Z,_,_,Z,_,_,Z,Z,?_;exists _,Z,_,Z,tt,_,0,_,Z,Z,SqT.of OH,t0,m,_,p.1,_,Z,Z,SqL.of yg,iA,_,Z,_,Z,tt,_,1,_,Z,Z,SqT.of OH,t1,m,_,p.2,_,Z,Z,SqL.of yg,iB,Z,_,Z,?_;rw[ZH];show WQ (λhe=>?_) (λhe=>?_)
   .show Xy _ _ {QL,Xn,?_};rw[ah,ed,Yh J,YS]
   .exists _,Z,Xy _ _ {QL,Xn,?_};rw[ah,ed,Yi he,Wh]
  .rintro ys H3 ⟨s3,_,rfl⟩ p hp;rw[TV];exists p,_,Z,.inl {SqL.of XZ,λr hr=>?_};show q r _ (WE.l<|s3.l<|Zr (XY hp) hr) ((WE.l<|s3.l<|XY hp).free hr) XZ
inductive spZA(K:Ad)(C:Addr)(vs:List V)(H:Hp)(Q:VK)(_:XK):Prop
 |mk (w a n ps kd ns z:_) (_:vs=[.ref w,.ref a,.int z]) (_:WebAt C H w n ps) (_:GoodW n ps) (_:SqK kd K H a (IL ns)) (_:-(10^70)<z) (_:z<10^70) (_:(Zg n ps ns->z∉ns->0<=z->z<ps⁻¹->∀ms,ms.Perm (SH n ps ns z ns++[z])->ms.G (·<=·)->∀r H',Same H H'->H r=none->H' r=some (.tup<|IL ms)->Q ↑r H')) (_:(Zg n ps ns->(z∈ns\/¬(0<=z/\z<ps⁻¹))->∀H':Hp,Same H H'->False)) (_:(¬Zg n ps ns->∀H':Hp,Same H H'->False))
def ff(T:Txt K mg t):Xs P w base Xz T.qZA 8 (spZA K t.A_Web):=by
 show T.qZA.okI ["web","tree","tie"] D λXF A outer s H vs Q E hr h=>?_
 .let⟨w,a,n,ps,kd,ns,z,rfl,hW,hG,hS,z0,z1,q,q1,q2⟩:=h;show⟨_,(XO (ZW<|XC (fj T) hr T.qZx Zs<|XX (pv 0)<|XX (pv 1) XW)
   (XO (WN (PW.pt<|Tn (Zh (DH K) (pv 2) (pv 1) Z)<|To<|PL<|RT<|XC (Ih T) hr T.qZ6 Zs<|XX (pv 0)<|XX (pv 2) XW)
   (XM ZV)
   Zm)
   (XM<|Zk<|Zl (ZI K) rN T.n_tuple Boot.«tuple»<|XX (Zc (oK K) rN T.n_sorted Boot.«sorted»<|XX (Zp JJ (US Z (sc0:=Xo<|top 54) (N0:=["web","tree","tie"]) (N':=["out","tie","web","tree"]) (o:=1) (fr:=[2,0,1]) ⟨Z,D,D,D,Z,D⟩ (UA K<|pv 1) (Zq AP) (λ_ _ _ _=>(Xm 0)) (λ_ _ _ _=>(RR<|Zh (DH K) (pv 1) (XC (fg T) hr T.qZz Zs<|XX (pv 2)<|XX (pv 3)<|XX (pv 0) XW) Z)) λ_ _ _ _=>(pv 0))<|WR<|XX (pv 2) XW) XW) XW))),?_⟩
  exists _,Z,_,Z,w,a,n,ps,kd,ns,Z,hW,hG,hS,λhT H1 s1=>?_,q2;let one:1<=sizeLine:=AP
  let tl:ns.f<=20:=by have:=hT.2.1;have:=hG.2.1;lia
  exists _,Z,_,Z,a,_,Z,(hS.same s1).or,Z,ZT _,_,Z,?_;rw[Vh];show Xt (λhc=>?_) (λhc=>?_)
  .show UU (q1 hT (.inl hc) H1 s1)
  .exists _,Z,_,Z,w,n,ps,z,Z,hW.same s1,_,Z,?_;show WQ (λht=>?_) (λht=>?_)
   .show⟨_,Z,a,Z,Pm (k:=kd) (K:=K) (xs:=IL ns) (λi ys H2=>Same H1 H2/\i<=ns.f/\ys=IL (SH n ps ns z<|ns.M i)) {Same.refl _,Yc _,Z} (Zi<|by rw[Xh];lia)
     (λi ys H2 hi zz=>by let(e,Ws,ey):=zz;show{(hS.same s1).same e,by rw[ey,Xh];show Yl (GH ..)<|by simp_all}) ?_ ?_⟩
    .rintro i x ys H2 hi ⟨s2,Vm,rfl⟩ S Xy;let(y,rfl,hy):=UL hi;let Xn:i<ns.f:=(Xv.R hy).1
     let WE:=s1.l s2;show nm ?_;exists _,Z,_,Z,_,Z,_,Z,w,a,n,ps,kd,ns,y,Z,hW.same WE,hG,hS.same WE,hT.1,λr H3 s3 UN RE=>?_;exists r,_,Z,.inr<|SqT.of RE,Z,ZT _,_,Z,?_;rw[Vh];show Xt (λhe=>?_) (λhe=>?_)
     .exists _,Z,Xy _ _ {s2.l s3,Xn,?_};rw[Dl hy,Yi he,Wh]
     .show Xy _ _ {s2.l s3,Xn,?_};rw[Dl hy,Yh he,YS]
    .rintro ys H2 ⟨s2,_,rfl⟩ p hp;rw[Xh,Yy];let rl:=GH n ps ns z ns
     exists _,Z,one,λp2 Wn=>?_;show oM (l2:=[z]) (by rw[Zb (Za XZ Wn)];show XZ) XZ B λp3 UI=>?_;exists p3,_,Z,SqL.of XZ,B,λms TY MX p4 QJ=>?_;exists p4,IL ms,Z,.inl {SqL.of XZ,λr hr=>?_};let s6:=(s1.l s2).l (Zr (Zr (XY (o:=.lst<|IL<|SH n ps ns z ns) hp) (o:=.lst<|IL [z]) Wn) (o:=.lst<|IL<|SH n ps ns z ns++[z]) UI)
     show q hT hc ht.1 ht.2 ms TY MX r _ (s6.l<|Zr (XY QJ) hr) ((s6.l<|XY QJ).free hr) XZ
   .show q1 hT (.inr ht) H1 s1
inductive spZB(K:Ad)(C:Addr)(vs:List V)(H:Hp)(Q:VK)(_:XK):Prop
 |mk (w a b n ps I O:_) (_:vs=[.ref w,.ref a,.ref b]) (_:WebAt C H w n ps) (_:GoodW n ps) (_:SqT K H a (IL I)) (_:SqT K H b (IL O)) (_:I.Nodup) (_:(∀z∈I,0<=z/\z<ps⁻¹)) (_:(∀z∈I,z∉O)) (_:(∀H':Hp,Same H H'->(∀U,¬With n ps I O U)->Q .non H')) (_:(∀r F H',Same H H'->H' r=some (.tup<|IL F)->With n ps I O F->(∀U,With n ps I O U->HT.lexLt U F=false)->Q ↑r H'))
def HX(T:Txt K mg t):Xs P w base Xz T.qZB 4 (spZB K t.A_Web):=by
 show T.qZB.okI ["web","inside","outside"] D λXF A outer s H vs Q E hr h=>?_
 .let⟨w,a,b,n,ps,I,O,rfl,hW,hG,hA,hB,hIn,WZ,hd,q0,q1⟩:=h;exists _,(XM<|Zk<|XC (fi T) hr T.qZy Zs<|XX (pv 0)<|XX (pv 1)<|XX (XC (yK T) hr T.qZc Zs<|XX (pv 0)<|XX (pv 2) XW) XW),?_;let g3:=hG.2.2.1
  exists _,Z,_,Z,_,Z,_,Z,w,b,n,ps,true,O,Z,hW,J,hB,λtB tQ hD dA H1 s1 fe=>?_;let fc:IsSet ps.f tB:=XU.mpr {λz hz=>((hD z).R hz).1,tQ}
  let hb:∀z∈I++tB,0<=z/\z<ps⁻¹:=λz hz=>(Xk.R hz).elim (WZ z) λh=>((hD z).R h).1;let il:I.f<=ps.f:=by
   have:=Gu (m:=Wj ps.f) hIn λz hz=>Xp.mpr (WZ z hz)
   rwa[Zy]at this
  let dl:=fc.len;exists w,a,dA,n,ps,true,true,I,tB,Z,hW.same s1,hG,ZP s1 hA,SqT.of fe,J,J,hb,λh H2 s2=>q0 H2 (s1.l s2) λU hU=>?_,λht hl r ms H2 TY MX s2 UN hr=>?_
  .have:=mF hG hU.1 hIn hU.2.1 (hU.sub hD) hb
   simp_all
  .let hF:With n ps I O ms:={ZL6 hG hb hl TY MX,λz hz=>TY.mem_iff.mpr<|LU<|ht▸hz,λz hz h=>(Xk.R<|(vn _ _ _).subset (TY.mem_iff.R h)).elim (λh=>hd z h hz) λh=>((hD z).R h).2 hz};show q1 r ms H2 (s1.l s2) hr hF λU hU=>Zb8 hG hU.1 hU.2.1 (hU.sub hD) hb tQ hF.1 TY hF.2.1
inductive spZC(K:Ad)(C:Addr)(vs:List V)(H:Hp)(Q:VK)(_:XK):Prop
 |mk (w:Addr) (n:Int) (ps:Aa) (z:Int) (_:vs=[.ref w,.int z]) (_:WebAt C H w n ps) (_:GoodW n ps) (_:-(10^70)<z) (_:z<10^70) (_:(∀c:Nat,TC n ps c->0<=z->z<(c:Int)->∀(U:Ac)(r:Addr)(H':Hp),Zg n ps U->Rk n ps U z.j->Same H H'->H' r=some (.tup<|IL U)->Q ↑r H')) (_:((z<0\/∃c:Nat,TC n ps c/\(c:Int)<=z)->∀H':Hp,Same H H'->False))
def fb{K:Ad}{H:Hp}{a b:Addr}{l m:Ac}{Q:VK}(ha:H a=some (.tup (IL l)))(hb:H b=some (.tup (IL m)))(hl:l.f+m.f<=1000)(k:∀(r:Addr)(H':Hp),Same H H'->H' r=some (.tup (IL (l++m)))->Q ↑r H'):Na K ↑a ↑b H Q:=by
 exists a,b,_,_,Z,Z,SqT.of ha,SqT.of hb,by rw[Xh,Xh];show Yl hl AP,λe=>?_,λ_ e=>?_,λ_ _ p hp=>?_
 .let el:l=[]:=Rw.R e;rw[el,Ks]at k;show k b H (Same.refl _) hb
 .let em:m=[]:=Rw.R e;rw[em,YS]at k;show k a H (Same.refl _) ha
 .show k p _ (XY hp) ?_;rw[XZ,vP]
def e9:FnScope ["web","number","inside","outside","tie","size"] ["web","number"] (Xo (top 57)):=TQ D
def e8(T:Txt K mg t):Xs P w base Xz T.qZC 9 (spZC K t.A_Web):=by
 show T.qZC.okI ["web","number","inside","outside","tie","size"] D λXF A outer s H vs Q E hr h=>?_
 .let⟨w,n,ps,z,rfl,hW,hG,z0,z1,q,qe⟩:=h;show⟨_,(XO (WN (PL<|wd Ti Qy XN (pv 1)<|XC (QH T) hr T.qZn Zs<|XX (pv 0) XW)
   (XM ZV)
   Zm)
   (XO (Zd 2<|ZZ XW)
   (XO (Zd 3<|ZZ XW)
   (XO (WT YH Z (vN K<|XC (gb T) hr T.qZb Zs<|XX (pv 0) XW) (Xm 4)
   (XO (Zd 5<|XC (Ic T) hr T.qZo Zs<|XX (pv 0)<|XX (Zp (Pg K) (pv 2)<|ZZ<|XX (pv 4) XW)<|XX (pv 3) XW)
   (XM (WN (Zh Qy (pv 1) (pv 5)<|Zo _)
   (XM<|Zd 2<|Zp (Pg K) (pv 2)<|ZZ<|XX (pv 4) XW)
   (XO (rh (i:=1) e9.nd Z (Or.inl Z) (pv 5) PH)
   (XM<|Zd 3<|Zp (Pg K) (pv 3)<|ZZ<|XX (pv 4) XW))))))
   (XM<|Zk<|pv 2))))),?_⟩
  let(g1,g2,g3,g4):=id hG;let one:1<=sizeLine:=AP
  exists _,Z,_,_,Z,Z,_,Z,?_;show Xt (λzp=>?_) λzn=>?_;rotate_left
  .exists _,Z,?_;show UU ?_;show qe (.inl<|by simp_all) H (Same.refl _)
  exists _,Z,w,n,ps,Z,hW,hG,λc H1 hc s1=>{_,_,Z,Z,_,Z,?_};show WQ (λzc=>?_) λzc=>?_;rotate_left
  .show qe (.inr {c,hc,by simp_all}) H1 s1
  exists Yc _,λiA hiA=>{Yc _,λoA hoA=>?_};let u1:=XY (o:=.tup<|IL []) hiA
  let u2:=XY (o:=.tup<|IL []) hoA;let s2:=s1.l (u1.l u2)
  let Ws:=u2 _ _ (XZ (H:=H1) (a:=iA) (o:=.tup<|IL []));let Ub:=XZ (H:=upd H1 iA<|.tup<|IL []) (a:=oA) (o:=.tup<|IL [])
  show nm ?_;exists _,Z,w,n,ps,Z,hW.same s2,J,λtA H3 s3 _ SV=>?_;let TM:=s2.l s3
  exists tA,Z,{_,SqT.of SV},qW (K:=K) (a:=tA) (xs:=IL<|Wj ps.f) (λi σ H4=>∃(Is Os:Ac)(iA oA:Addr)(r d b:Nat)(v4 v5:Option V),σ=[some ↑w,some<|.int r,some<|.ref iA,some<|.ref oA,v4,v5]/\Same H3 H4/\H4 iA=some (.tup<|IL Is)/\SqT K H4 oA (IL Os)/\IsSet i Is/\IsSet i Os/\(∀y,y∈Os↔(0<=y/\y<(i:Int))/\y∉Is)/\PC n ps Is Os d/\r<d/\BL n ps Is (i:Int) b/\b+r=z.j) ?_ ?_ ?_ ?_
  .exists [],[],iA,oA,z.j,c,0,none,none,by rw[sO zp];rfl,Same.refl _,s3 _ _ Ws,SqT.of<|s3 _ _ Ub,IsSet.nil _,IsSet.nil _,λy=>{λh=>(by cases h),λh=>(by lia)},hc.pc,by simp_all,jG Z,by simp_all
  .intro i σ H4 _ h;let(_,_,_,_,_,_,_,_,_,_,s4,_):=h;show SqT.of (s4 _ _ SV)
  .rintro i v σ H4 hi ⟨Is,Os,iA,oA,r,d,b,v4,v5,rfl,s4,yf,tP,NT,ye,Vb,yd,pY,x9,hbr⟩;let(y,rfl,hy):=UL hi;let hi3:i<ps.f:=by have:=(Xv.R hi).1;rwa[Xh,Zy]at this
   let ey:y=(i:Int):=by rw[mR hi3]at hy;show(Ym hy).symm
   subst ey;let l1:=NT.len
   let l2:=ye.len;let yx:=TM.l s4
   show nm ?_;exists _,Z,_,Z,_,Z,one,λtp yH=>?_;let v1:=XY (o:=.tup<|IL [(i:Int)]) yH
   show fI (l:=Is) (m:=[(i:Int)]) (SqT.of<|v1 _ _ yf) (SqT.of XZ) B λjA H5 s5 hj5=>?_;let FW:=v1.l s5
   let hIi:IsSet ps.f (Is++[(i:Int)]):=by
    have:=NT.snoc
    show XU.mpr {λy hy=>by have:=this.all y hy;lia,(XU.R this).2}
   exists _,Z,w,jA,oA,n,ps,Is++[(i:Int)],Os,Z,hW.same<|yx.l FW,hG,hj5,ZP FW tP,hIi.nodup,hIi.all,J,λy h1 h2=>?_,λc1 H6 FY s6=>?_
   .simp_all
   let x8:=FW.l s6;show nm ?_;exists _,Z,_,Z,_,_,Z,Z,_,Z,?_;let(c2,Vn):=jI (Is:=Is) (Os:=(i:Int)::Os) hc;let hs:=yd.uniq (jL (FY.congr (λy=>B) λy=>Iff.rfl) Vn)
   let tO:=s4.l x8;show Xt (λXx=>?_) (λTd=>?_)
   .exists _,Z,_,Z,one,λtq eZ=>?_;let x1:=XY (o:=.tup<|IL [(i:Int)]) eZ
    show fb (l:=Is) (m:=[(i:Int)]) (x1 _ _<|x8 _ _ yf) XZ B λkA H7 s7 eY=>?_;let Mf:=x1.l s7
    show{Is++[(i:Int)],Os,kA,oA,r,c1,b,_,_,Z,tO.l Mf,eY,ZP (x8.l Mf) tP,NT.snoc,ye.up,λy=>?_,FY,by simp_all,jF NT x9,hbr};grind
   .exists _,Z,_,Z,r,c1,Z,Z,?_;exists _,Z,_,Z,one,λtq eZ=>?_;let x1:=XY (o:=.tup<|IL [(i:Int)]) eZ
    show fI (l:=Os) (m:=[(i:Int)]) (ZP x1<|ZP x8 tP) (SqT.of XZ) B λkA H7 s7 eY=>?_;let Mf:=x1.l s7
    let hIn:(i:Int)∉Is:=λq=>by have:=NT.all _ q;simp_all
    exists Is,Os++[(i:Int)],iA,kA,r-c1,c2,b+c1,some<|.int (i:Int),some<|.int (c1:Int),?_,tO.l Mf,(x8.l Mf) _ _ yf,eY,NT.up,ye.snoc,λy=>?_,Vn.congr (λy=>Iff.rfl) λy=>B,J,jE hi3 NT Vb x9 FY,J
    .grind
    grind
  .rintro σ H4 ⟨Is,Os,iA,oA,r,d,b,v4,v5,rfl,s4,yf,tP,NT,ye,Vb,yd,pY,x9,hbr⟩;rw[Xh,Zy]at NT ye Vb x9;let(e1,e2,e3):=jD NT Vb x9 yd pY;exists _,Z,q c hc zp zc Is iA H4 e1 ?_ (TM.l s4) yf
   simp_all
inductive spZD(K:Ad)(vs:List V)(H:Hp)(Q:VK)(_:XK):Prop
 |mk (a:Addr) (b:Int) (kd:Bool) (l:Ac) (_:vs=[.ref a,.int b]) (_:SqK kd K H a (IL l)) (_:l.f<=1000) (_:∀(r:Addr)(H':Hp),Same H H'->H' r=some (.tup<|IL<|Uv l b)->Q ↑r H')
def x6(T:Txt K mg t):Xs P w base Xz T.qZD 1 (spZD K):=by
 show T.qZD.okI ["ties","bound"] D λXF A outer s H vs Q E hr h=>?_
 .let⟨a,b,kd,l,rfl,hA,hl,q⟩:=h;exists _,(XM<|Zk<|Zl (ZI K) rN T.n_tuple Boot.«tuple»<|XX (US Z (sc0:=Xo<|top 58) (N0:=["ties","bound"]) (N':=["tie","bound"]) (o:=1) (fr:=[1]) ⟨Z,D,D,D,Z,D⟩ (UA K<|pv 0) (Zq AP) (λ_ _ _ _=>(Xm 0)) (λ_ _ _ _=>(RR<|Zh Qy (pv 0) (pv 1)<|Zo _)) λ_ _ _ _=>(pv 0)) XW),?_;show⟨_,Z,a,Z,Pm (K:=K) (k:=kd) (a:=a) (xs:=IL l) (λi us H2=>H2=H/\i<=l.f/\us=IL (Uv (l.M i) b)) {Z,Yc _,Z} (Zi B) (λi us H2 hi ⟨e,Ws,ey⟩=>⟨e▸hA,by
   rw[ey,Xh];show Yl (YL ..) ?_
   simp_all⟩) ?_ ?_⟩
  .rintro i v us H2 hi ⟨rfl,Vm,rfl⟩ S Xy;let(z,rfl,hz):=UL hi;let Xn:=(Xv.R hz).1
   show nm ?_;exists _,Z,_,Z,_,_,Z,Z,_,Z,?_;let e:Uv (l.M<|i+1) b=Uv (l.M i) b++(if z<b then [z] else []):=by
    unfold Uv;rw[YA,hz,VI];show YF _ ?_;change List.filter _ [z]=_
    rw[xb];cases h:z<b
    .simp_all
    .simp_all
   show Xt (λh=>?_) (λh=>?_)
   .exists _,Z,Xy _ _ {Z,Xn,?_}
    simp_all
   .show Xy _ _ {Z,Xn,?_}
    simp_all
  .rintro us H2 ⟨rfl,_,rfl⟩ p hp;rw[Xh,Yy];exists p,_,Z,.inl {SqL.of XZ,λl hl=>q l _ (Zr (XY hp) hl) XZ}
inductive spZE(K:Ad)(C:Addr)(vs:List V)(H:Hp)(Q:VK)(_:XK):Prop
 |mk (w a:Addr) (n:Int) (ps:Aa) (kd:Bool) (ts:Ac) (_:vs=[.ref w,.ref a]) (_:WebAt C H w n ps) (_:GoodW n ps) (_:SqK kd K H a (IL ts)) (_:Zg n ps ts) (_:∀(v:V)(o:Option Ac)(H':Hp),Same H H'->Cg H' v o->mh n ps ts o->Q v H')
def eX(T:Txt K mg t):Xs P w base Xz T.qZE 8 (spZE K t.A_Web):=by
 show T.qZE.okI ["web","tree","beside","tie","found"] D λXF A outer s H vs Q E hr h=>?_
 .let⟨w,a,n,ps,kd,ts,rfl,hW,hG,hS,hT,q⟩:=h;show⟨_,(XO (Zd 2<|XC (yK T) hr T.qZc Zs<|XX (pv 0)<|XX (pv 1) XW)
   (XO (WT YH Z (Cm K Z T.n_reversed<|XX (pv 1) XW) (Xm 3)
   (XO (Zd 4<|XC (HX T) hr T.qZB Zs<|XX (pv 0)<|XX (XC (x6 T) hr T.qZD Zs<|XX (pv 1)<|XX (pv 3) XW)<|XX (Zp (mN K) (XC (x6 T) hr T.qZD Zs<|XX (pv 2)<|XX (pv 3) XW)<|ZZ<|XX (pv 3) XW) XW)
   (XM (WN (Zh EG (pv 4) Ka<|Zo _)
   (XM<|Zk<|pv 4)
   Zm))))
   (XM<|Zk Ka))),?_⟩
  let g3:=hG.2.2.1;let tl:=hT.1.len
  let aT:=MT hT;exists _,Z,_,Z,w,a,n,ps,kd,ts,Z,hW,J,hS,λtB tQ hD dA H1 s1 fe=>?_;let fc:IsSet ps.f tB:=XU.mpr {λz hz=>((hD z).R hz).1,tQ}
  let dl:=fc.len;show⟨_,Z,a,Z,mx (K:=K) (k:=kd) (a:=a) (xs:=IL ts) B (λi σ H2=>∃v3 v4,σ=[some ↑w,some<|.ref a,some<|.ref dA,v3,v4]/\Same H1 H2/\∀(j:Nat) t',ts[j]?=some t'->ts.f<=j+i->∀U,Zg n ps U->¬Dp t' ts U)
   {_,_,Z,Same.refl _,λj t' hj h=>absurd (Xv.R hj).1 (by simp_all)} (λi σ H2 _ zz=>by let(_,_,_,e,_):=zz;show hS.same<|s1.l e) ?_ ?_⟩
  .rintro i v σ H2 hv hi ⟨v3,v4,rfl,s2,Up⟩;let(t,rfl,ht):=UL hv;rw[Xh]at ht hi;let htT:=Xf ht
   let WE:=s1.l s2;let eW:∀t'∈ts,t<t'->∀U,Zg n ps U->¬Dp t' ts U:=λt' h' Xx=>by
    let(j,hj):=Yx h';show Up j t' hj ?_;let(h1,e1):=Xv.R hj;let(h2,e2):=Xv.R ht;let hp:=UH.R aT
    rcases(by lia:ts.f<=j+i\/j=ts.f-1-i\/j<ts.f-1-i) with e|e|e
    .show e
    .simp_all
    grind
   show nm ?_;exists _,Z,_,Z,_,Z,a,t,kd,ts,Z,hS.same WE,J,λrA H3 s3 ON=>?_;exists _,Z,_,Z,dA,t,true,tB,Z,SqT.of<|(s2.l s3) _ _ fe,J,λrB H4 s4 hrB=>?_;exists _,Z,(by change 1<=sizeLine;decide),λrC hrC=>?_;let s5:=XY (o:=.tup [.int t]) hrC
   let dll:(Uv tB t).f<=tB.f:=YL ..;exists rB,rC,_,_,Z,Z,s5 _ _ hrB,XZ,Sq B,λrD H6 s6 hrD=>?_;let eV:=s2.l (s3.l<|s4.l<|s5.l s6)
   let tO:=s4.l (s5.l s6);let hI1:IsSet ps.f (Uv ts t):=XU.mpr {λz hz=>hT.1.all z (Wq.R hz).1,aT.filter _}
   let hd1:∀z∈Uv ts t,z∉Uv tB t++[t]:=λz hz h=>by
    let a:=Wq.R hz;rcases Xk.R h with e|e
    .show((hD z).R (Wq.R e).1).2 a.1
    simp_all
   let eC:IL (Uv tB t)++[.int t]=IL (Uv tB t++[t]):=(Wh _ _).symm;rw[eC]at hrD;exists w,rA,rD,n,ps,Uv ts t,Uv tB t++[t],Z,hW.same<|s1.l eV,hG,SqT.of<|tO _ _ ON,SqT.of hrD,hI1.nodup,hI1.all,hd1,λH7 s7 h7=>?_,λr F H7 s7 hr hF hl=>?_
   .exists _,Z,Z,_,Z,?_;show GP (c:=V.non=V.non) Z ?_;exists _,_,Z,eV.l s7,λj t' hj WB U hU hd=>?_;cases e:ts.f<=j+i
    .show Up j t' hj e U hU hd
    .let ej:j=ts.f-1-i:=B;rw[ej,ht]at hj;let rfl:=Ym hj;show h7 U ((mw hT hD htT).mpr ⟨hU,hd⟩)
   .exists _,Z,Z,_,Z,?_;show o9 (c:=V.ref r=V.non) (λz=>nomatch z) ?_;exists _,Z,q ↑r (some F) H7 (s1.l<|eV.l s7) ⟨r,Z,hr⟩<|mq hT hD htT eW hF hl
  .rintro σ H2 ⟨v3,v4,rfl,s2,Up⟩;show q .non none H2 (s1.l s2) Z (ml hT λt' h'=>?_);let(j,hj):=Yx h';grind
inductive spZF(vs:List V)(H:Hp)(Q:VK)(_:XK):Prop
 |mk (z:Int) (_:vs=[.int z]) (_:-(10^70)<z) (_:z<10^70) (_:(0<=z->Q .non H)) (_:(z<0->False))
def xZ(T:Txt K mg t):Xs P w base Xz T.qZF 1 spZF:=by
 show T.qZF.okI ["number"] D λXF A outer s H vs Q E hr h=>?_
 .let⟨z,rfl,z0,z1,q,qe⟩:=h;show⟨_,(XM (WN (Zh Qy (pv 0) XN<|Zo _)
   (XM ZV)
   Zm)),?_⟩
  exists _,Z,_,_,Z,Z,_,Z,?_;show Xt (λh=>?_) (λh=>?_)
  .show qe h
  .show q (by simp_all)
inductive spZG(K:Ad)(C:Addr)(vs:List V)(H:Hp)(Q:VK)(_:XK):Prop
 |mk (w:Addr) (n:Int) (ps:Aa) (z mo:Int) (L:Ab) (_:vs=[.ref w,.int z,.int mo]) (_:WebAt C H w n ps) (_:GoodW n ps) (_:-(10^70)<z) (_:z<10^70) (_:(∀l,l∈L↔Zg n ps l)) (_:L.G WV) (_:L.f<=300000) (_:0<=mo) (_:(0<=z->∀(r:Addr)(ys:List V)(H':Hp),Same H H'->H r=none->H' r=some (.lst ys)->TupsV H' ys ((L.drop z.j).M mo.j)->Q ↑r H')) (_:(z<0->∀H':Hp,Same H H'->False))
def eS(T:Txt K mg t):Xs P w base Xz T.qZG 11 (spZG K t.A_Web):=by
 show T.qZG.okI ["web","number","most","trees","tree"] D λXF A outer s H vs Q E hr h=>?_
 .let⟨w,n,ps,z,mo,L,rfl,hW,hG,z0,z1,hmem,Wv,IG,hmo,q,qe⟩:=h;show⟨_,(XO (ZW<|XC (xZ T) hr T.qZF Zs<|XX (pv 1) XW)
   (XO (WN (Zh Py (pv 1) (XC (QH T) hr T.qZn Zs<|XX (pv 0) XW)<|Zo _)
   (XM<|Zk<|WR XW)
   Zm)
   (XO (Zd 3<|WR XW)
   (XO (Zd 4<|XC (e8 T) hr T.qZC Zs<|XX (pv 0)<|XX (pv 1) XW)
   (XO (bC YH (PW.pt<|GY (Zh EG (pv 4) Ka<|Zo _)<|GZ<|Zh Qy (Zc (Zf K) rN T.n_len Boot.«len»<|XX (pv 3) XW) (pv 2)<|Zo _)
   (XO (ZW<|Uq K QP NR NS Np (pv 3)<|XX (pv 4) XW)
   (XM<|Zd 4<|XC (eX T) hr T.qZE Zs<|XX (pv 0)<|XX (pv 4) XW)))
   (XM<|Zk<|pv 3)))))),?_⟩
  let hTC:TC n ps L.f:={L,Je Wv,hmem,Z};exists _,Z,z,Z,z0,z1,λzp=>?_,λzn=>qe zn H<|Same.refl _;exists _,Z,_,Z,w,n,ps,Z,hW,hG,λc H1 hc s1=>{_,_,Z,Z,_,Z,?_};let rfl:=hc.uniq hTC;show Xt (λTd=>?_) (λXx=>?_)
  .exists Yc _,λr hr=>?_;show q zp r [] _ (s1.l<|XY hr) (s1.free hr) XZ ?_;rw[bU (by simp_all),List.take_nil];show TupsV.nil
  exists Yc _,λtA SV=>?_;let s2:=s1.l (XY (o:=.lst []) SV)
  let OK:H tA=none:=s1.free SV;let Qj:=XZ (H:=H1) (a:=tA) (o:=.lst [])
  show nm ?_;obtain⟨U,hU⟩:∃U,L[z.j]?=some U:={_,Xw<|by simp_all};let hUt:=(hmem U).R (Xf hU)
  exists _,Z,_,Z,w,n,ps,z,Z,hW.same s2,hG,z0,z1,λc2 Vn _ _ U2 fA H3 hU2 VJ s3 tZ=>?_,λh=>?_;rotate_left
  .rcases h with h|⟨c2,Vn,h⟩
   .simp_all
   .have:=Vn.uniq hTC
    grind
  let rfl:U2=U:=jB hU2 hUt VJ (jC hmem Wv hU);show nm ?_;let TM:=s2.l s3
  exists λm σ H4=>∃(j:Nat)(ys:List V)(o:Option Ac)(v:V),σ=[some ↑w,some<|.int z,some<|.int mo,some<|.ref tA,some v]/\Same H H4/\H4 tA=some (.lst ys)/\TupsV H4 ys ((L.drop z.j).M j)/\(j:Int)<=mo/\Cg H4 v o/\L[z.j+j]?=o/\z.j+j<=L.f/\m=L.f-(z.j+j),{L.f-z.j,0,[],some U2,.ref fA,Z,TM,s3 _ _ Qj,by show TupsV.nil,hmo,⟨fA,Z,tZ⟩,hU,B,Z},?_;rintro m σ H4 ⟨j,ys,o,v,rfl,s4,HW,eR,hjm,hv,ho,Qu,rfl⟩;let Tu:=eR.1
  rw[Yu,RZ]at Tu;let fin:L.f<=z.j+j\/¬(j:Int)<mo->(L.drop z.j).M mo.j=(L.drop z.j).M j:=λh=>by
   rcases h with h|h
   .rw[Yv B,Yv B]
   .rw[show mo.j=j by lia]
  exists _,Z,Z,_,Z,?_;cases o with
  |none=>
   let ev:v=.non:=hv;subst ev;show GP (c:=V.non=V.non) Z ?_;show Vr ?_;exists _,Z,q zp tA ys H4 s4 OK HW ?_;rwa[fin (.inl<|by simp_all)]
  |some U3=>
   let(c,rfl,Mi):=(show WA H4 v U3 from hv);let hU3:=(hmem U3).R (Xf ho)
   let hlt3:=(Xv.R ho).1;show WQ (λe=>by cases e) λ_=>?_;exists _,Z,tA,ys,Z,.inl<|SqL.of HW,_,Z,_,_,Z,Z,_,Z,?_;show Xt (λXx=>?_) (λTd=>?_)
   .exists _,λσ' H' h=>{L.f-(z.j+(j+1)),B,h},?_;exists _,Z,.inl {Z,_,SqL.of HW},_,Z,tA,ys,_,Z,Z,HW,Zi B,?_;let XJ:c≠tA:=PR Mi HW (λz=>nomatch z)
    let s5:Same H (upd H4 tA<|.lst<|ys++[.ref c]):=Zt OK s4;let tN:(upd H4 tA<|.lst<|ys++[.ref c]) c=some (.tup<|IL U3):=by rwa[Zb XJ]
    let ht5:=XZ (H:=H4) (a:=tA) (o:=.lst<|ys++[.ref c]);let eQ:TupsV (upd H4 tA<|.lst<|ys++[.ref c]) (ys++[.ref c]) ((L.drop z.j).M (j+1)):=by rw[YA,LR,ho];show(eR.mut HW).snoc ⟨c,Z,tN⟩
    exists _,Z,_,Z,w,c,n,ps,true,U3,Z,hW.same s5,hG,SqT.of tN,hU3,λv' o' H6 s6 GU hN=>?_;let TH:L[z.j+(j+1)]?=o':=by
     cases o' with
     |none=>show mi hmem Wv ho hN
     |some F=>show mj hmem Wv ho hN
    exists j+1,ys++[.ref c],o',v',Z,s5.l s6,s6 _ _ ht5,eQ.same s6,J,GU,TH,B,Z
   .exists _,Z,q zp tA ys H4 s4 OK HW ?_;grind
inductive spZH(K:Ad)(C:Addr)(vs:List V)(H:Hp)(Q:VK)(_:XK):Prop
 |mk (w m n ps M z:_) (_:vs=[.ref w,.ref m,.int z]) (_:WebAt C H w n ps) (_:GoodW n ps) (_:H m=some (.lst<|IL M)) (_:M.f=n.j) (_:0<=z) (_:z<ps⁻¹) (_:∀r l H',l.Perm [mk M (ps.Q z.j (0,0)).1.j,mk M (ps.Q z.j (0,0)).2.j]->l.G (·<=·)->Same H H'->H' r=some (.lst<|IL l)->Q ↑r H')
def xY(T:Txt K mg t):Xs P w base Xz T.qZH 1 (spZH K t.A_Web):=by
 show T.qZH.okI ["web","marks","tie","ends"] D λXF A outer s H vs Q E hr h=>?_
 .let⟨w,m,n,ps,M,z,rfl,hW,hG,hM,Sz,z0,z1,q⟩:=h;show⟨_,(XO (Zd 3<|ZA (Ze K) (Zj K (pv 0) Z) (pv 2) λ_ _=>rfl)
   (XM<|Zk<|Zc (oK K) rN T.n_sorted Boot.«sorted»<|XX (WR<|XX (ZA (Ze K) (pv 1) (ZA (ZC K) (pv 3) XN λ_ _=>rfl) λ_ _=>rfl)<|XX (ZA (Ze K) (pv 1) (ZA (ZC K) (pv 3) XN λ_ _=>rfl) λ_ _=>rfl) XW) XW)),?_⟩
  let(g1,g2,g3,g4):=id hG;let(dx,tl,xs,h1,h2,h3):=id hW;obtain⟨p,hp⟩:∃p,ps[z.j]?=some p:={_,Xw<|by simp_all};let ep:ps.Q z.j (0,0)=p:=VV hp
  rw[ep]at q;let(v,hv,tt,rfl,Vk):=h3.2 _ p hp;let(e1,e2,e3,e4):=g4 p (Xf hp);let t0:Wk ([.int p.1,.int p.2]:List V) 0=some (.int p.1):=rfl
  let t1:Wk ([.int p.1,.int p.2]:List V) 1=some (.int p.2):=rfl;let iA:Wk (IL M) p.1=some (.int<|mk M p.1.j):=Zv (n:=p.1.j) J (WK<|Rb B)
  let iB:Wk (IL M) p.2=some (.int<|mk M p.2.j):=Zv (n:=p.2.j) J (WK<|Rb B);exists _,Z,w,_,dx,_,_,Z,h1,T.cl_Web,T.n_Web_ties,ZM _ _,_,Z,tl,_,_,.ref tt,Z,Z,SqL.of h2,Zv (n:=z.j) J hv,?_;show nm ?_;exists _,Z,_,Z,tt,_,0,_,Z,Z,SqT.of Vk,t0,m,_,p.1,_,Z,Z,SqL.of hM,iA,_,Z,_,Z,tt,_,1,_,Z,Z,SqT.of Vk,t1,m,_,p.2,_,Z,Z,SqL.of hM,iB,(by change 2<=sizeLine;decide),λa ha=>?_;let s1:=XY (o:=.lst<|IL [mk M p.1.j,mk M p.2.j]) ha
  exists a,[mk M p.1.j,mk M p.2.j],Z,SqL.of XZ,(by change 2<64;decide),λl hl hs r hr=>?_;show q r l _ hl hs (s1.l<|XY hr) XZ
inductive spZI(K:Ad)(C:Addr)(vs:List V)(H:Hp)(Q:VK)(_:XK):Prop
 |mk (w m a n ps M g:_) (_:vs=[.ref w,.ref m,.ref a]) (_:WebAt C H w n ps) (_:GoodW n ps) (_:H m=some (.lst<|IL M)) (_:M.f=n.j) (_:SqT K H a (IL g)) (_:∀r H',Same H H'->H r=none->H' r=some (.lst<|IL<|Mz M ps g ps.f)->Q ↑r H')
def xX(T:Txt K mg t):Xs P w base Xz T.qZI 1 (spZI K t.A_Web):=by
 show T.qZI.okI ["web","marks","gone"] D λXF A outer s H vs Q E hr h=>?_
 .let⟨w,m,a,n,ps,M,g,rfl,hW,hG,hM,Sz,hA,q⟩:=h;exists _,(XM<|Zk<|US Z (sc0:=Xo<|top 64) (N0:=["web","marks","gone"]) (N':=["tie","ends","gone","marks"]) (o:=2) (fr:=[2,1]) ⟨Z,D,D,D,Z,D⟩ (GN K Z T.n_enumerate<|XX (Zj K (pv 0) Z) XW) (DX<|Oj AP<|Oj AP DY) (λ_ _ _ _=>(Pl (n:=2) K Z<|Zx (Xm 0)<|Zx (Xm 1) PJ)) (λ_ _ _ _=>(RR<|PW.pt<|GY (Zh (Jy K) (pv 0) (pv 2) Z)<|GZ<|Zh Ue (ZA (Ze K) (pv 3) (ZA (ZC K) (pv 1) XN λ_ _=>rfl) λ_ _=>rfl) (ZA (Ze K) (pv 3) (ZA (ZC K) (pv 1) XN λ_ _=>rfl) λ_ _=>rfl)<|Zo _)) λ_ _ _ _=>(pv 0)),?_;let(g1,g2,g3,g4):=id hG;let(dx,tl,xs,h1,h2,h3):=id hW;let TV:=h3.1
  show⟨_,Z,w,_,dx,_,_,Z,h1,T.cl_Web,T.n_Web_ties,ZM _ _,tl,Z,{_,SqL.of h2},vw (K:=K) (a:=tl) (xs:=xs) (λi ys H3=>Same H H3/\i<=xs.f/\ys=IL (Mz M ps g i)) {Same.refl _,Yc _,Z} (Zi J)
   (λi ys H3 _ h=>by let(e,_,ey):=h;show{SqL.of<|e _ _ h2,by rw[ey,Xh];show g9 _ _ _ _}) ?_ ?_⟩
  .rintro i x ys H3 pt Se hi ⟨s3,Vm,rfl⟩ S Xy;let(p,Pj,tt,rfl,Vk):=h3.at hi;let(e1,e2,e3,e4):=g4 p (Xf Pj);let Xn:i<xs.f:=(Xv.R hi).1
   let s4:Same H3 (upd H3 pt<|.tup [.int i,.ref tt]):=XY Se;let QL:=s3.l s4
   let OH:=QL _ _ Vk;let yg:=QL _ _ hM
   let KO:=SqK.same (k:=true) QL hA;let ed:ps.Q i (0,0)=p:=VV Pj
   let t0:Wk ([.int p.1,.int p.2]:List V) 0=some (.int p.1):=rfl;let t1:Wk ([.int p.1,.int p.2]:List V) 1=some (.int p.2):=rfl
   let iA:Wk (IL M) p.1=some (.int<|mk M p.1.j):=Zv (n:=p.1.j) J (WK<|Rb B);let iB:Wk (IL M) p.2=some (.int<|mk M p.2.j):=Zv (n:=p.2.j) J (WK<|Rb B)
   let hs:=ic M ps g i;rw[ed]at hs;exists pt,_,Z,SqT.of XZ,Z,_,_,Z,_,_,Z,Z,?_;exists _,Z,_,Z,a,_,Z,.inr KO,Z,ZT _,_,Z,?_;rw[Vh];show WQ (λhe=>?_) (λhe=>?_)
   .show Xy _ _ {QL,Xn,?_};rw[hs,Yh λh=>h.1 he,YS]
   exists _,Z,_,Z,tt,_,0,_,Z,Z,SqT.of OH,t0,m,_,p.1,_,Z,Z,SqL.of yg,iA,_,Z,_,Z,tt,_,1,_,Z,Z,SqT.of OH,t1,m,_,p.2,_,Z,Z,SqL.of yg,iB,Z,_,Z,?_;rw[ZH];show WQ (λhx=>?_) (λhx=>?_)
   .grind
   .exists _,Z,Xy _ _ {QL,Xn,?_};rw[hs,Yi ⟨he,hx⟩,Wh]
  .rintro ys H3 ⟨s3,_,rfl⟩ p hp;rw[TV];show q p _ (s3.l<|XY hp) (s3.free hp) XZ
inductive sp_Part_init(K:Ad)(CP C Pt:Addr)(vs:List V)(H:Hp)(Q:VK)(_:XK):Prop
 |mk (x dx w a b n ps I O ld:_) (_:vs=[.ref x,.ref w,.ref a,.ref b,WC ld]) (_:H x=some (.ins CP dx [])) (_:WebAt C H w n ps) (_:GoodW n ps) (_:Wf H Pt) (_:SqT K H a (IL I)) (_:SqT K H b (IL O)) (_:I.Nodup) (_:(∀z∈I,0<=z/\z<ps⁻¹)) (_:(∀z∈I,z∉O)) (_:O.f<=30) (_:(∃U,With n ps I O U)) (_:(∀y,ld=some y->0<=y/\y<ps⁻¹)) (_:(ld=none->∀F,With n ps I O F->(∀U,With n ps I O U->HT.lexLt U F=false)->Wz n ps I O F=[])) (_:∀F inc fu l i H',With n ps I O F->(∀U,With n ps I O U->HT.lexLt U F=false)->Qn (λz=>PyProof.Rows.b2i<|decide<|ld=some z) (Sg n ps I O F ld) inc->(fu=none↔Vl n ps I O F ld=[])->(∀y,fu=some y->y∈Vl n ps I O F ld/\∀z∈Vl n ps I O F ld,y<=z)->H' x=some (.ins CP dx<|uw ↑w ↑a ↑b (WC ld) ↑l ↑i<|WC fu)->H' l=some (.tup<|IL F)->H' i=some (.lst<|IL inc)->(∀b o,b≠x->b≠Pt->H b=some o->H' b=some o)->Wf H' Pt->Q .non H')
def Me:FnScope ["self","web","kept","shut","lead","marks","opened","alike","unlike"] ["self","web","kept","shut","lead"] (Xo sZJ):=TQ D
def HV(T:Txt K mg t)(hB:TR K mg base t.dZJ Pt):FnOk P w K mg base Xz 8 t.aZJ t.dZJ ["self","web","kept","shut","lead"] (sp_Part_init K t.A_Part t.A_Web Pt):=by
 let(cA,Ul,hC,hBa,Aq):=hB;show T.fZJ.okL Ul Me (λvs H Q E h=>?_) (λA outer s H vs Q E hr h=>?_)
 .let⟨x,dx,w,a,b,n,ps,I,O,ld,rfl,_⟩:=h;rfl
 .let⟨x,dx,w,a,b,n,ps,I,O,ld,rfl,hx,hW,hG,hT,hA,QF,hIn,WZ,Vb,KI,⟨U0,FV⟩,hld,Up,q⟩:=h;show⟨_,(XO (Nu (pv 0) (pv 1) Z)
   (XO (Nu (pv 0) (pv 2) Z)
   (XO (Nu (pv 0) (pv 3) Z)
   (XO (Nu (pv 0) (pv 4) Z)
   (XO (Nu (pv 0) (XC (HX T) hr T.qZB Zs<|XX (pv 1)<|XX (pv 2)<|XX (pv 3) XW) Z)
   (XO (VP (i:=5) Me.nd Z (Or.inr Z)<|XC (QI T) hr T.qZi Zs<|XX (pv 1)<|XX (pv 2) XW)
   (XO (Zd 6<|XC (xX T) hr T.qZI Zs<|XX (pv 1)<|XX (pv 5)<|XX (Zp (Pg K) (Zp (Pg K) (pv 2)<|pv 3)<|Zj K (pv 0) Z) XW)
   (XO (VP (i:=7) Me.nd Z (Or.inr Z)<|US Z (sc0:=Xo sZJ) (N0:=["self","web","kept","shut","lead","marks","opened","alike","unlike"]) (N':=["tie","web","marks","lead"]) (o:=1) (fr:=[1,5,4]) ⟨Z,D,D,D,Z,D⟩ (ZD K<|pv 6) (Zq AP) (λ_ _ _ _=>(Xm 0)) (λ_ _ _ _=>(RR<|Zh (DG K<|DM hr) (XC (xY T) hr T.qZH Zs<|XX (pv 1)<|XX (pv 2)<|XX (pv 0) XW) (XC (xY T) hr T.qZH Zs<|XX (pv 1)<|XX (pv 2)<|XX (pv 3) XW)<|Zo _)) λ_ _ _ _=>(pv 0))
   (XO (Rg (i:=8) Z Me.nd Z Z (sc0:=Xo sZJ) (N0:=["self","web","kept","shut","lead","marks","opened","alike","unlike"]) (N':=["tie","alike"]) (o:=1) (fr:=[7]) ⟨Z,D,D,D,Z,D⟩ (ZD K<|pv 6) (Zq AP) (λ_ _ _ _=>(Xm 0)) (λ_ _ _ _=>(RR<|Zh (Jy K) (pv 0) (pv 1) Z)) λ_ _ _ _=>(pv 0))
   (XO (Nu (pv 0) (ZE6 (k:=0) (i:=4) (v:="tie") (x:="lead") (pv 7) rN T.n_sorted (hr.mono AP) rfl rfl hC hBa Aq (LamScope.of rfl rfl rfl (by first|show .inl rfl|show .inr rfl) AP) rfl rfl (λ_ _ _ _=>rfl) rfl rfl rfl λ_ _ _ _ _ _ hr=>(Px Rm (pv 0) (pv 1)<|Zo _)) rfl)
   (XM<|Nu (pv 0) (z7 Z rN T.n_min<|pv 8) Z))))))))))),?_⟩
  let(g1,g2,g3,g4):=id hG;exists _,Z,_,Z,x,_,dx,[],Z,hx,T.cl_Part,T.n_Part_web,AP,?_;exists _,Z,_,Z,x,_,dx,_,Z,XZ,T.cl_Part,T.n_Part_kept,(by change 1<1000;decide),?_;exists _,Z,_,Z,x,_,dx,_,Z,XZ,T.cl_Part,T.n_Part_shut,(by change 2<1000;decide),?_;exists _,Z,_,Z,x,_,dx,_,Z,XZ,T.cl_Part,T.n_Part_lead,(by change 3<1000;decide),?_;let KH:SameX x H (upd (upd (upd (upd H x<|.ins t.A_Part dx<|XA "web" ↑w []) x<|.ins t.A_Part dx<|XA "kept" ↑a<|XA "web" ↑w []) x<|.ins t.A_Part dx<|XA "shut" ↑b<|XA "kept" ↑a<|XA "web" ↑w []) x<|.ins t.A_Part dx<|XA "lead" (WC ld)<|XA "shut" ↑b<|XA "kept" ↑a<|XA "web" ↑w []):=((Wu.l Wu).l Wu).l Wu
  let tY:(upd (upd (upd (upd H x<|.ins t.A_Part dx<|XA "web" ↑w []) x<|.ins t.A_Part dx<|XA "kept" ↑a<|XA "web" ↑w []) x<|.ins t.A_Part dx<|XA "shut" ↑b<|XA "kept" ↑a<|XA "web" ↑w []) x<|.ins t.A_Part dx<|XA "lead" (WC ld)<|XA "shut" ↑b<|XA "kept" ↑a<|XA "web" ↑w []) x=some (.ins t.A_Part dx [("web",.ref w),("kept",.ref a),("shut",.ref b),("lead",WC ld)]):=XZ;let hW4:=hW.but hx KH
  let KO:=z5 hA hx KH;let fF:=z5 QF hx KH
  let il:I.f<=ps.f:=by
   have:=Gu (m:=Wj ps.f) hIn λz hz=>Xp.mpr (WZ z hz)
   rwa[Zy]at this
  exists _,Z,_,Z,_,Z,w,a,b,n,ps,I,O,Z,hW4,hG,KO,fF,hIn,WZ,Vb,λH5 s5 h=>absurd FV<|h U0,λl F H5 s5 hl hF Qm=>?_;exists _,Z,x,_,dx,_,Z,s5 _ _ tY,T.cl_Part,T.n_Part_least,(by change 4<1000;decide),?_;let xW:SameX x H H5:=KH.l (SameX.same s5)
  let tL:SameX x H (upd H5 x<|.ins t.A_Part dx<|XA "least" ↑l [("web",.ref w),("kept",.ref a),("shut",.ref b),("lead",WC ld)]):=xW.l Wu;let hx6:(upd H5 x<|.ins t.A_Part dx<|XA "least" ↑l [("web",.ref w),("kept",.ref a),("shut",.ref b),("lead",WC ld)]) x=some (.ins t.A_Part dx [("web",.ref w),("kept",.ref a),("shut",.ref b),("lead",WC ld),("least",.ref l)]):=XZ
  let yC:(upd H5 x<|.ins t.A_Part dx<|XA "least" ↑l [("web",.ref w),("kept",.ref a),("shut",.ref b),("lead",WC ld)]) l=some (.tup<|IL F):=by rwa[Zb (λe=>by rw[e,s5 _ _ tY]at hl;cases hl)]
  exists _,Z,_,Z,w,a,n,ps,I,Z,hW.but hx tL,hG,z5 hA hx tL,WZ,λm H7 s7 QK FX=>?_;show nm ?_;let eO:SameX x H H7:=tL.l (SameX.same s7)
  let hF1:F.f<=ps.f:=hF.1.1.len;let Sz:(Xr n.j<|XQ ps I).f=n.j:=ZF _ _
  exists _,Z,_,Z,_,Z,_,Z,?_;show z4 (l:=I) (m:=O) (z5 hA hx eO) (z5 QF hx eO) J λr1 H8 s8 Vd=>?_;let sx8:SameX x H H8:=eO.l (SameX.same s8)
  let eN:=s7.l s8;exists _,Z,x,_,dx,_,.ref l,Z,eN _ _ hx6,T.cl_Part,T.n_Part_least,Z,?_;show z4 (l:=I++O) (m:=F) Vd (SqT.of<|eN _ _ yC) B λr2 H9 s9 VJ=>?_;let s69:=eN.l s9
  let HU:SameX x H H9:=sx8.l (SameX.same s9);let tV:=s8.l s9
  exists w,m,r2,n,ps,Xr n.j<|XQ ps I,I++O++F,Z,hW.but hx HU,hG,tV _ _ FX,Sz,VJ,λpA tU yr hp0 HS=>?_;show nm ?_;let sxA:SameX x H tU:=HU.l (SameX.same yr)
  let s6A:=s69.l yr;let hmA:=(tV.l yr) _ _ FX
  let MJ:∀z∈Wz n ps I O F,0<=z/\z<ps⁻¹:=λz hz=>z3 hz;let Nj:(Wz n ps I O F).f<=ps.f:=g9 _ _ _ _
  show⟨_,Z,pA,Z,{_,SqL.of HS},Wc (K:=K) (a:=pA) (xs:=IL<|Wz n ps I O F) (λi ws KL=>Same tU KL/\i<=(Wz n ps I O F).f/\ws=IL (((Wz n ps I O F).M i).filter λz=>decide<|∃y,ld=some y/\Tv (Xr n.j<|XQ ps I) ps z=Tv (Xr n.j<|XQ ps I) ps y)) ⟨Same.refl _,Yc _,Z⟩ (Zi<|by rw[Xh];lia)
   (λi ws KL hi h=>by let(e,Ws,ew):=h;exists SqL.of<|e _ _ HS,B) ?_ ?_⟩
  .rintro i v ws KL hi ⟨Ia,Vm,rfl⟩ S Xy;let(z,rfl,hz):=UL hi;let(z0,z1):=MJ z (Xf hz);let Xn:i<(Wz n ps I O F).f:=(Xv.R hz).1
   obtain⟨y,rfl⟩:∃y,ld=some y:=by
    cases ld with
    |some y=>lia
    |none=>
     rw[Up Z F hF Qm]at Xn;show absurd Xn (VX _)
   let(y0,y1):=hld y rfl;show nm ?_;exists _,Z,_,Z,_,Z,w,m,n,ps,_,z,Z,hW.but hx<|sxA.l<|SameX.same Ia,hG,Ia _ _ hmA,Sz,z0,z1,λe1 l1 H12 SW hs1 WE Bu=>?_;let HR:=Ia.l WE
   exists _,Z,_,Z,_,Z,w,m,n,ps,_,y,Z,hW.but hx<|sxA.l<|SameX.same HR,hG,HR _ _ hmA,Sz,y0,y1,λe2 l2 H13 SI UC tS JD=>?_;exists 1,_,e1,e2,Z,Z,AP,au (SqL.of<|tS _ _ Bu)<|SqL.of JD,_,Z,?_;let ed:decide (l1=l2)=decide (∃y_1,some y=some y_1/\Tv (Xr n.j<|XQ ps I) ps z=Tv (Xr n.j<|XQ ps I) ps y_1):=by
    rw[ZY3 SW hs1,ZY3 SI UC,sD];constructor
    .intro e;injection e with e1 e2
     injection e2 with e2 _;exists y,Z,Prod.ext e1 e2
    .rintro⟨y',e,e'⟩;cases e;let(e1,e2):=Prod.mk.inj e';rw[e1,e2]
   let xV:=HR.l tS;rw[ed];show Xt (λhc=>?_) (λhc=>?_)
   .exists _,Z,Xy _ _ {xV,Xn,?_};rw[Jb hz,Yi<|YE hc,Wh]
   .show Xy _ _ {xV,Xn,?_};rw[Jb hz,Yh (by simpa using hc),YS]
  rintro ws KL ⟨Ia,_,rfl⟩ kA hkA;rw[Xh,Yy];let ea:((Wz n ps I O F).filter λz=>decide<|∃y,ld=some y/\Tv (Xr n.j<|XQ ps I) ps z=Tv (Xr n.j<|XQ ps I) ps y)=Sg n ps I O F ld:=rfl
  rw[ea];let hal:(Sg n ps I O F ld).f<=ps.f:=Yl (YL ..) Nj
  let v1:=XY (o:=.lst<|IL<|Sg n ps I O F ld) hkA;let kK:(upd KL kA<|.lst<|IL<|Sg n ps I O F ld) kA=some (.lst<|IL<|Sg n ps I O F ld):=XZ
  show nm ?_;let sAB:=Ia.l v1
  generalize upd KL kA (.lst<|IL<|Sg n ps I O F ld)=H14 at *;let FU:=sAB _ _ HS
  show⟨_,Z,pA,Z,{_,SqL.of FU},Wc (K:=K) (a:=pA) (xs:=IL<|Wz n ps I O F) (λi ws HQ=>HQ=H14/\i<=(Wz n ps I O F).f/\ws=IL (((Wz n ps I O F).M i).filter λz=>decide<|z∉Sg n ps I O F ld)) {Z,Yc _,Z} (Zi<|by rw[Xh];lia)
   (λi ws HQ hi h=>by let(e,Ws,ew):=h;exists e▸SqL.of FU,B) ?_ ?_⟩
  .rintro i v ws HQ hi ⟨rfl,Vm,rfl⟩ S Xy;let(z,rfl,hz):=UL hi;let Xn:i<(Wz n ps I O F).f:=(Xv.R hz).1
   show nm ?_;exists _,Z,_,Z,kA,_,Z,.inl<|SqL.of kK,Z,ZT _,_,Z,?_;rw[Vh];show WQ (λhe=>?_) (λhe=>?_)
   .show Xy _ _ {Z,Xn,?_};rw[Jb hz,Yh J,YS]
   .exists _,Z,Xy _ _ {Z,Xn,?_};rw[Jb hz,Yi<|YE he,Wh]
  rintro ws HQ ⟨rfl,_,rfl⟩ uA huA;rw[Xh,Yy];let eu:((Wz n ps I O F).filter λz=>decide<|z∉Sg n ps I O F ld)=Vl n ps I O F ld:=rfl
  rw[eu];let v2:=XY (o:=.lst<|IL<|Vl n ps I O F ld) huA
  let kU:(upd HQ uA<|.lst<|IL<|Vl n ps I O F ld) uA=some (.lst<|IL<|Vl n ps I O F ld):=XZ;show nm ?_;let eM:=(s6A.l sAB).l v2
  let kKU:=v2 _ _ kK;let sxU:SameX x H (upd HQ uA<|.lst<|IL<|Vl n ps I O F ld):=tL.l (SameX.same eM)
  let Ja:=eM _ _ hx6;let hlU:=eM _ _ yC
  generalize upd HQ uA (.lst<|IL<|Vl n ps I O F ld)=H16 at *;let Md:Wf H16 Pt:=g8 hT hx sxU
  exists _,Z,kA,Sg n ps I O F ld,WC ld,λz=>decide<|ld=some z,Z,SqL.of kKU,J,Md,Z,λxU OG z hz=>?_,λinc iA xU Wr OG xT eK=>?_
  .exists _,rfl,_,rfl,(by cases ld<;>rfl),?_,rfl
   cases ld with
   |none=>rfl
   |some y=>
    change V.bl (decide<|V.int z=V.int y)=V.bl (decide<|some y=some z);congr 1;lia
  let hxP:x≠Pt:=Md.ne Ja Fe;let v3:=XY (o:=.lst<|IL inc) eK
  let eJ:=v3 _ _ (OG _ _ hxP Ja);let xS:=v3 _ _ (OG _ _ (Md.ne hlU Fe) hlU)
  let xR:=v3 _ _ (OG _ _ (Md.ne kU Fe) kU);let xQ:(upd xU iA<|.lst<|IL inc) iA=some (.lst<|IL inc):=XZ
  let xP:Wf (upd xU iA<|.lst<|IL inc) Pt:=xT.same v3;let HP:∀b o,b≠x->b≠Pt->H b=some o->(upd xU iA<|.lst<|IL inc) b=some o:=λb o h1 h2 e=>v3 _ _ (OG _ _ h2<|sxU _ _ h1 e)
  generalize upd xU iA (.lst<|IL inc)=xO at *;exists _,Z,x,_,dx,_,Z,eJ,T.cl_Part,T.n_Part_incoming,(by change 5<1000;decide),?_;let OF:∀c o,xO c=some o->(∀a b fs,o≠.ins a b fs)->c≠x:=λc o h ho e=>B
  let eE:(upd xO x<|.ins t.A_Part dx<|XA "incoming" ↑iA [("web",.ref w),("kept",.ref a),("shut",.ref b),("lead",WC ld),("least",.ref l)]) uA=some (.lst<|IL<|Vl n ps I O F ld):=by rw[Zb (OF _ _ xR Fe)];show xR
  let fin:∀fu:Option Int,(fu=none↔Vl n ps I O F ld=[])->(∀y,fu=some y->y∈Vl n ps I O F ld/\∀z∈Vl n ps I O F ld,y<=z)->Q .non (upd (upd xO x<|.ins t.A_Part dx<|XA "incoming" ↑iA [("web",.ref w),("kept",.ref a),("shut",.ref b),("lead",WC ld),("least",.ref l)]) x<|.ins t.A_Part dx<|uw ↑w ↑a ↑b (WC ld) ↑l ↑iA<|WC fu):=λfu h1 h2=>by
   let up:∀c o,c≠x->xO c=some o->(upd (upd xO x<|.ins t.A_Part dx<|XA "incoming" ↑iA [("web",.ref w),("kept",.ref a),("shut",.ref b),("lead",WC ld),("least",.ref l)]) x<|.ins t.A_Part dx<|uw ↑w ↑a ↑b (WC ld) ↑l ↑iA<|WC fu) c=some o:=λc o h e=>by rw[Zb h,Zb h];show e
   let(tp,t1,t2,t3):=id xP;show q F inc fu l iA _ hF Qm Wr h1 h2 XZ (up _ _ (OF _ _ xS Fe) xS) (up _ _ (OF _ _ xQ Fe) xQ) (λb o b1 b2 e=>up _ _ b1<|HP b o b1 b2 e) ⟨tp,up _ _ (OF _ _ t1 Fe) t1,t2,?_⟩;rcases t3 with h|⟨c,h,h'⟩
   .show .inl h
   .show .inr {c,h,up _ _ (OF _ _ h'<|by unfold Gh;simp) h'}
  exists _,Z,uA,Vl n ps I O F ld,Z,SqL.of eE,λe=>?_,λmn SG WL=>?_
  .exists _,Z,x,_,dx,_,Z,XZ,T.cl_Part,T.n_Part_further,(by change 6<1000;decide),?_;show fin none {λ_=>e,λ_=>rfl} λy h=>by cases h
  .exists _,Z,x,_,dx,_,Z,XZ,T.cl_Part,T.n_Part_further,(by change 6<1000;decide),?_;show fin (some mn) {λh=>(by cases h),λh=>(by simp_all)} λy h=>(by cases h;exists SG,WL)
inductive spZK(K:Ad)(CP C Pt:Addr)(vs:List V)(H:Hp)(Q:VK)(_:XK):Prop
 |mk (w n ps:_) (_:vs=[.ref w]) (_:WebAt C H w n ps) (_:GoodW n ps) (_:Wf H Pt) (_:(∃U,Zg n ps U)) (_:∀x F inc ld fu H',PartOk n ps [] [] ld F inc fu->(ld=none↔Wz n ps [] [] F=[])->(∀y,ld=some y->y∈Wz n ps [] [] F/\∀z∈Wz n ps [] [] F,y<=z)->PartAt K CP C H' x n ps [] [] F inc ld fu->SameX Pt H H'->Wf H' Pt->Q ↑x H')
def eD(T:Txt K mg t)(hB:TR K mg base t.dZJ Pt):Xs P w base Xz T.qZK 10 (spZK K t.A_Part t.A_Web Pt):=by
 show T.qZK.okI ["web","opened"] D λXF A outer s H vs Q E hr h=>?_
 .let⟨w,n,ps,rfl,hW,hG,hT,⟨U0,FV⟩,q⟩:=h;show⟨_,(XO (Zd 1<|XC (xX T) hr T.qZI Zs<|XX (pv 0)<|XX (XC (QI T) hr T.qZi Zs<|XX (pv 0)<|XX (ZZ XW) XW)<|XX (XC (HX T) hr T.qZB Zs<|XX (pv 0)<|XX (ZZ XW)<|XX (ZZ XW) XW) XW)
   (XM<|Zk<|JO T.k_Part (HV T hB) (hr.mono AP) Z T.c_Part T.bZJ .nil Zs<|XX (pv 0)<|XX (ZZ XW)<|XX (ZZ XW)<|XX (z7 Z rN T.n_min<|pv 1) XW)),?_⟩
  let hU1:With n ps [] [] U0:={FV,λz h=>(by cases h),λz h=>(by cases h)};exists _,Z,_,Z,Yc _,λe1 Bu=>?_;let s1:=XY (o:=.tup []) Bu
  exists w,e1,n,ps,[],Z,hW.same s1,hG,SqT.of XZ,λz h=>(by cases h),λm H2 s2 QK WL=>?_;let WE:=s1.l s2
  exists _,Z,Yc _,λe2 JD=>{Yc _,λe3 he3=>?_};let s3:=XY (o:=.tup []) JD
  let s4:=XY (o:=.tup []) he3;let FT:=WE.l (s3.l s4)
  exists w,e2,e3,n,ps,[],[],Z,hW.same FT,hG,SqT.of<|s4 _ _ XZ,SqT.of XZ,.nil,λz h=>(by cases h),λz h=>(by cases h),λH5 s5 h=>absurd hU1<|h U0,λl F H5 s5 hl hF Qm=>?_;let s15:=FT.l s5
  let tR:=((s3.l s4).l s5) _ _ WL;let Sz:(Xr n.j<|XQ ps []).f=n.j:=ZF _ _
  exists w,m,l,n,ps,Xr n.j<|XQ ps [],F,Z,hW.same s15,hG,tR,Sz,SqT.of hl,λpA H6 s6 hp0 eh=>?_;show nm ?_;let s16:=s15.l s6
  let MJ:∀z∈Wz n ps [] [] F,0<=z/\z<ps⁻¹:=λz hz=>z3 hz;exists _,Z,Yc _,λf1 t5=>{Yc _,λf2 Mn=>?_};let s7:=XY (o:=.tup []) t5
  let s8:=XY (o:=.tup []) Mn;let HN:(upd (upd H6 f1<|.tup []) f2<|.tup []) f1=some (.tup []):=s8 _ _ XZ
  let HM:(upd (upd H6 f1<|.tup []) f2<|.tup []) f2=some (.tup []):=XZ;let tK:=s16.l (s7.l s8)
  let hp8:=(s7.l s8) _ _ eh;generalize upd (upd H6 f1<|.tup []) f2 (.tup [])=H8 at *;let main:∀ld:Option Int,(ld=none↔Wz n ps [] [] F=[])->(∀y,ld=some y->y∈Wz n ps [] [] F/\∀z∈Wz n ps [] [] F,y<=z)->∀x dx,H8 x=none->H8 dx=none->dx≠x->sp_Part_init K t.A_Part t.A_Web Pt [.ref x,.ref w,.ref f1,.ref f2,WC ld] (upd (upd H8 dx<|.own x) x<|.ins t.A_Part dx []) (λv H2=>v=.non/\Q ↑x H2) E0:=by
   intro ld hn hs x dx nx Sy QG;let s9:Same H8 (upd (upd H8 dx<|.own x) x<|.ins t.A_Part dx []):=Zr (XY Sy) (by rwa[Zb (XH QG)])
   let s19:=tK.l s9;exists x,dx,w,f1,f2,n,ps,[],[],ld,Z,XZ,hW.same s19,hG,hT.same s19,SqT.of<|s9 _ _ HN,SqT.of<|s9 _ _ HM,.nil,λz h=>(by cases h),λz h=>(by cases h),Yc _,⟨U0,hU1⟩,λy hy=>MJ y (hs y hy).1,λe F' Sj SU=>?_,λF' inc fu l' i' H' Sj SU Wr h1 h2 UT PQ Ww keep OE=>{Z,?_}
   .let eF:F'=F:=WJ (Qm F' Sj) (SU F hF)
    simp_all
   .let eF:F'=F:=WJ (Qm F' Sj) (SU F hF);subst eF;let sx:SameX Pt H8 H':=λb o hb e=>keep b o (Za e nx) hb (s9 _ _ e)
    let TK:Wf H8 Pt:=hT.same tK;show q x F' inc ld fu H' ⟨Sj,SU,Wr,h1,h2⟩ hn hs {dx,w,f1,f2,l',i',UT,(hW.same tK).samex TK sx,SqT.of<|sx _ _ (TK.ne HN Fe) HN,SqT.of<|sx _ _ (TK.ne HM Fe) HM,PQ,Ww} ((SameX.same tK).l sx) OE
  exists _,Z,pA,Wz n ps [] [] F,Z,SqL.of hp8,λe=>?_,λmn h1 h2=>?_
  .show main none {λ_=>e,λ_=>rfl} λy h=>by cases h
  .show main (some mn) {λh=>(by cases h),λh=>(by simp_all)} λy h=>(by cases h;exists h1,h2)
inductive spZL(K:Ad)(CP C Pt:Addr)(vs:List V)(H:Hp)(Q:VK)(_:XK):Prop
 |mk (x n ps I O F inc z y:_) (_:vs=[.ref x]) (_:PartAt K CP C H x n ps I O F inc (some z) (some y)) (_:GoodW n ps) (_:Wf H Pt) (_:(I).Nodup) (_:(∀v∈I,0<=v/\v<ps⁻¹)) (_:(∀v∈I,v∉O++[z])) (_:(O++[z]).f<=30) (_:(∃U,With n ps (I) (O++[z]) U)) (_:0<=y) (_:y<ps⁻¹) (_:∀x' F' VN fu H',PartOk n ps (I) (O++[z]) (some y) F' VN fu->PartAt K CP C H' x' n ps (I) (O++[z]) F' VN (some y) fu->SameX Pt H H'->Wf H' Pt->Q ↑x' H')
def d9(T:Txt K mg t)(hB:TR K mg base t.dZJ Pt):Xs P w base Xz T.qZL 10 (spZL K t.A_Part t.A_Web Pt):=by
 show T.qZL.okI ["part"] D λXF A outer s H vs Q E hr h=>?_
 .let⟨x,n,ps,I,O,F,inc,z,y,rfl,⟨dx,w,a,b,l,i,hx,hW,hA,QF,hl,hi⟩,hG,hT,hIn,WZ,Vb,KI,hex,y0,y1,q⟩:=h;exists _,(XM<|Zk<|JO T.k_Part (HV T hB) (hr.mono AP) Z T.c_Part T.bZJ .nil Zs<|XX (Zj K (pv 0) Z)<|XX (Zj K (pv 0) Z)<|XX (Zp (Pg K) (Zj K (pv 0) Z)<|ZZ<|XX (Zj K (pv 0) Z) XW)<|XX (Zj K (pv 0) Z) XW),?_;exists _,Z,x,_,dx,_,.ref w,Z,hx,T.cl_Part,T.n_Part_web,Z,_,Z,x,_,dx,_,.ref a,Z,hx,T.cl_Part,T.n_Part_kept,Z,_,Z,x,_,dx,_,.ref b,Z,hx,T.cl_Part,T.n_Part_shut,Z,_,Z,x,_,dx,_,.int z,Z,hx,T.cl_Part,T.n_Part_lead,Z,(by change 1<=sizeLine;decide),λp hp=>?_;let s1:=XY (o:=.tup<|IL [z]) hp
  show z4 (l:=O) (m:=[z]) (SqK.same (k:=true) s1 QF) (SqT.of XZ) B λr1 H2 s2 Vd=>?_;let WE:=s1.l s2
  exists _,Z,x,_,dx,_,.int y,Z,WE _ _ hx,T.cl_Part,T.n_Part_further,Z,?_;intro x' Mc nx Sy QG;let s9:Same H2 (upd (upd H2 Mc<|.own x') x'<|.ins t.A_Part Mc []):=Zr (XY Sy) (by rwa[Zb (XH QG)])
  let VM:Wf H2 Pt:=hT.same WE;exists x',Mc,w,a,r1,n,ps,I,O++[z],some y,Z,XZ,hW.same<|WE.l s9,hG,VM.same s9,SqK.same (k:=true) (WE.l s9) hA,SqK.same (k:=true) s9 Vd,hIn,WZ,Vb,KI,hex,λv e=>(by simp_all),λe=>(by cases e),λF' VN fu l' i' H' Sj SU Wr h1 h2 UT PQ Ww keep OE=>{Z,?_};let sx:SameX Pt H2 H':=λb o hb e=>keep b o (Za e nx) hb (s9 _ _ e)
  show q x' F' VN fu H' ⟨Sj,SU,Wr,h1,h2⟩ {Mc,w,a,r1,l',i',UT,(hW.same WE).samex VM sx,SqK.samex (kd:=true) (SqK.same (k:=true) WE hA) VM sx,SqK.samex (kd:=true) (Vd) VM sx,PQ,Ww} ((SameX.same WE).l sx) OE
inductive spZM(K:Ad)(CP C Pt:Addr)(vs:List V)(H:Hp)(Q:VK)(_:XK):Prop
 |mk (x n ps I O F inc z y:_) (_:vs=[.ref x]) (_:PartAt K CP C H x n ps I O F inc (some z) (some y)) (_:GoodW n ps) (_:Wf H Pt) (_:(I++[z]).Nodup) (_:(∀v∈I++[z],0<=v/\v<ps⁻¹)) (_:(∀v∈I++[z],v∉O)) (_:(O).f<=30) (_:(∃U,With n ps (I++[z]) (O) U)) (_:0<=y) (_:y<ps⁻¹) (_:∀x' F' VN fu H',PartOk n ps (I++[z]) (O) (some y) F' VN fu->PartAt K CP C H' x' n ps (I++[z]) (O) F' VN (some y) fu->SameX Pt H H'->Wf H' Pt->Q ↑x' H')
def d8(T:Txt K mg t)(hB:TR K mg base t.dZJ Pt):Xs P w base Xz T.qZM 10 (spZM K t.A_Part t.A_Web Pt):=by
 show T.qZM.okI ["part"] D λXF A outer s H vs Q E hr h=>?_
 .let⟨x,n,ps,I,O,F,inc,z,y,rfl,⟨dx,w,a,b,l,i,hx,hW,hA,QF,hl,hi⟩,hG,hT,hIn,WZ,Vb,KI,hex,y0,y1,q⟩:=h;exists _,(XM<|Zk<|JO T.k_Part (HV T hB) (hr.mono AP) Z T.c_Part T.bZJ .nil Zs<|XX (Zj K (pv 0) Z)<|XX (Zp (Pg K) (Zj K (pv 0) Z)<|ZZ<|XX (Zj K (pv 0) Z) XW)<|XX (Zj K (pv 0) Z)<|XX (Zj K (pv 0) Z) XW),?_;let hI30:I.f<=30:=by
   have:=Gu (m:=Wj ps.f) hIn λv hv=>Xp.mpr (WZ v hv)
   let e:=hG.2.2.1;rw[Zy]at this
   try simp only[Xe,YK]at this
   lia
  exists _,Z,x,_,dx,_,.ref w,Z,hx,T.cl_Part,T.n_Part_web,Z,_,Z,x,_,dx,_,.ref a,Z,hx,T.cl_Part,T.n_Part_kept,Z,_,Z,x,_,dx,_,.int z,Z,hx,T.cl_Part,T.n_Part_lead,Z,(by change 1<=sizeLine;decide),λp hp=>?_;let s1:=XY (o:=.tup<|IL [z]) hp
  show z4 (l:=I) (m:=[z]) (SqK.same (k:=true) s1 hA) (SqT.of XZ) B λr1 H2 s2 Vd=>?_;let WE:=s1.l s2
  exists _,Z,x,_,dx,_,.ref b,Z,WE _ _ hx,T.cl_Part,T.n_Part_shut,Z,_,Z,x,_,dx,_,.int y,Z,WE _ _ hx,T.cl_Part,T.n_Part_further,Z,?_;intro x' Mc nx Sy QG;let s9:Same H2 (upd (upd H2 Mc<|.own x') x'<|.ins t.A_Part Mc []):=Zr (XY Sy) (by rwa[Zb (XH QG)])
  let VM:Wf H2 Pt:=hT.same WE;exists x',Mc,w,r1,b,n,ps,I++[z],O,some y,Z,XZ,hW.same<|WE.l s9,hG,VM.same s9,SqK.same (k:=true) s9 Vd,SqK.same (k:=true) (WE.l s9) QF,hIn,WZ,Vb,KI,hex,λv e=>(by simp_all),λe=>(by cases e),λF' VN fu l' i' H' Sj SU Wr h1 h2 UT PQ Ww keep OE=>{Z,?_};let sx:SameX Pt H2 H':=λb o hb e=>keep b o (Za e nx) hb (s9 _ _ e)
  show q x' F' VN fu H' ⟨Sj,SU,Wr,h1,h2⟩ {Mc,w,r1,b,l',i',UT,(hW.same WE).samex VM sx,SqK.samex (kd:=true) (Vd) VM sx,SqK.samex (kd:=true) (SqK.same (k:=true) WE QF) VM sx,PQ,Ww} ((SameX.same WE).l sx) OE
inductive spZN(K:Ad)(CP C:Addr)(vs:List V)(H:Hp)(Q:VK)(_:XK):Prop
 |mk (x n ps I O F inc ld fu:_) (_:vs=[.ref x]) (_:PartAt K CP C H x n ps I O F inc ld fu) (_:GoodW n ps) (_:I.Nodup) (_:(∀z∈I,0<=z/\z<ps⁻¹)) (_:O.f<=30) (_:(∀z∈I,z∉O)) (_:∀c H',PC n ps I O c->Same H H'->Q (.int c) H')
def d7(T:Txt K mg t):Xs P w base Xz T.qZN 8 (spZN K t.A_Part t.A_Web):=by
 show T.qZN.okI ["part"] D λXF A outer s H vs Q E hr h=>?_
 .let⟨x,n,ps,I,O,F,inc,ld,fu,rfl,⟨dx,w,a,b,l,i,hx,hW,hA,QF,hl,hi⟩,hG,hI,WZ,hO,Vb,q⟩:=h;exists _,(XM<|Zk<|XC (Ic T) hr T.qZo Zs<|XX (Zj K (pv 0) Z)<|XX (Zj K (pv 0) Z)<|XX (Zj K (pv 0) Z) XW),?_;exists _,Z,x,_,dx,_,.ref w,Z,hx,T.cl_Part,T.n_Part_web,Z,_,Z,x,_,dx,_,.ref a,Z,hx,T.cl_Part,T.n_Part_kept,Z,_,Z,x,_,dx,_,.ref b,Z,hx,T.cl_Part,T.n_Part_shut,Z,?_;exists w,a,b,n,ps,I,O,Z,hW,hG,hA,QF,hI,WZ,hO,Vb,q
def d6{n:Int}{ps:Aa}{I F ms:Ac}{z:Int}(hF:Zg n ps F)(hz:z∉F)(hp:ms.Perm (SH n ps F z F++[z]))(hs:ms.G (·<=·)):(ms.filter λt=>decide (t≠z/\t∉I))=UO n ps I F z:=by
 show vt ((hp.filter _).l ?_) (hs.filter _) ?_
 .rw[VI,List.filter_cons_of_neg Fe,List.filter_nil,YS];show List.Perm.of_eq (Fz λt ht=>?_)
  have:t≠z:=λe=>hz (e▸(Vp.R ht).1)
  simp_all
 .show((XU.R hF.1).2.filter _).filter _ |>.imp λh=>J
inductive spZO(K:Ad)(CP C:Addr)(vs:List V)(H:Hp)(Q:VK)(_:XK):Prop
 |mk (x n ps I O F inc ld fu z:_) (_:vs=[.ref x,.int z]) (_:PartAt K CP C H x n ps I O F inc ld fu) (_:GoodW n ps) (_:Zg n ps F) (_:z∉F) (_:0<=z) (_:z<ps⁻¹) (_:∀r xs H',Same H H'->H r=none->H' r=some (.lst xs)->Bears (WA H') xs ((UO n ps I F z).H λo=>xchT F o z)->Q ↑r H')
def d5:FnScope ["part","into","leaving"] ["part","into"] (Xo (top 70)):=TQ D
def dZ(T:Txt K mg t):Xs P w base Xz T.qZO 9 (spZO K t.A_Part t.A_Web):=by
 show T.qZO.okI ["part","into","leaving"] D λXF A outer s H vs Q E hr h=>?_
 .let⟨x,n,ps,I,O,F,inc,ld,fu,z,rfl,⟨dx,w,a,b,l,i,hx,hW,hA,QF,hl,hi⟩,hG,hF,hz,z0,z1,q⟩:=h;show⟨_,(XO (Rg (i:=2) Z d5.nd Z Z (sc0:=Xo<|top 70) (N0:=["part","into","leaving"]) (N':=["tie","into","part"]) (o:=1) (fr:=[1,0]) ⟨Z,D,D,D,Z,D⟩ (vN K<|XC (ff T) hr T.qZA Zs<|XX (Zj K (pv 0) Z)<|XX (Zj K (pv 0) Z)<|XX (pv 1) XW) (Zq AP) (λ_ _ _ _=>(Xm 0)) (λ_ _ _ _=>(RR<|PW.pt<|GY (Zh Ue (pv 0) (pv 1)<|Zo _)<|GZ<|Zh (Jy K) (pv 0) (Zj K (pv 2) Z) Z)) λ_ _ _ _=>(pv 0))
   (XM<|Zk<|US Z (sc0:=Xo<|top 70) (N0:=["part","into","leaving"]) (N':=["out","part","into"]) (o:=1) (fr:=[0,1]) ⟨Z,D,D,D,Z,D⟩ (ZD K<|pv 2) (Zq AP) (λ_ _ _ _=>(Xm 0)) (λ_ _ _ _=>ZN) λ_ _ _ _=>(Zl (ZI K) rN T.n_tuple Boot.«tuple»<|XX (Zc (Zc5 K) rN T.n_sorted Boot.«sorted»<|XX (Zp (Pg K) (XC (yG T) hr T.qZd Zs<|XX (Zj K (pv 1) Z)<|XX (pv 0) XW)<|ZZ<|XX (pv 2) XW) XW) XW))),?_⟩
  let g3:=hG.2.2.1;exists _,Z,x,_,dx,_,.ref w,Z,hx,T.cl_Part,T.n_Part_web,Z,_,Z,x,_,dx,_,.ref l,Z,hx,T.cl_Part,T.n_Part_least,Z,_,Z,?_;exists w,l,n,ps,true,F,z,Z,hW,hG,SqT.of hl,J,J,λ_ _ _ _ ms SG WL rA H1 s1 UN ON=>?_,λ_ h=>absurd h λh=>h.elim hz λh=>h ⟨z0,z1⟩,λh=>absurd hF h;let hm30:ms.f<=40:=by
   rw[SG.length_eq,Xe,YK]
   have:=GH n ps F z F
   have:=hF.1.len
   lia
  show⟨rA,Z,{_,SqT.of ON},Pn (K:=K) (a:=rA) (xs:=IL ms) (λj ws H2=>H2=H1/\j<=ms.f/\ws=IL ((ms.M j).filter λt=>decide<|t≠z/\t∉I)) {Z,Yc _,Z} (Zi<|by rw[Xh];lia)
   (λj ws H2 hj h=>by let(e,RI,ew):=h;exists e▸SqT.of ON,B) ?_ ?_⟩
  .rintro j v ws H2 hj ⟨rfl,Qu,rfl⟩ S Xy;let(y,rfl,hy):=UL hj;let Vv:j<ms.f:=(Xv.R hy).1
   show nm ?_;exists _,Z,_,Z,Z,_,Z,?_;rw[ZH];show WQ (λhe=>?_) (λhe=>?_)
   .show Xy _ _ {Z,Vv,?_};rw[Jb hy,Yh J,YS]
   exists _,Z,_,Z,x,_,dx,_,.ref a,Z,s1 _ _ hx,T.cl_Part,T.n_Part_kept,Z,a,_,Z,.inr<|SqK.same (k:=true) s1 hA,Z,ZT _,_,Z,?_;rw[Vh];show WQ (λhc=>?_) (λhc=>?_)
   .show Xy _ _ {Z,Vv,?_};rw[Jb hy,Yh J,YS]
   .exists _,Z,Xy _ _ {Z,Vv,?_};rw[Jb hy,Yi<|YE ⟨he,hc⟩,Wh]
  rintro ws H2 ⟨rfl,_,rfl⟩ lA dY;rw[Xh,Yy,d6 hF hz SG WL];let u1:=XY (o:=.lst<|IL<|UO n ps I F z) dY
  let kL:(upd H2 lA<|.lst<|IL<|UO n ps I F z) lA=some (.lst<|IL<|UO n ps I F z):=XZ;show nm ?_;let s2:=s1.l u1
  generalize upd H2 lA (.lst<|IL<|UO n ps I F z)=H3 at *;let lvl:(UO n ps I F z).f<=30:=Yl (YL ..) (by have:=GH n ps F z F;have:=hF.1.len;lia)
  let hFl:F.f<=30:=by have:=hF.1.len;lia
  show⟨_,Z,lA,Z,{_,SqL.of kL},Wc (K:=K) (a:=lA) (xs:=IL<|UO n ps I F z) (λj ys H4=>Same H3 H4/\j<=(UO n ps I F z).f/\Bears (WA H4) ys (((UO n ps I F z).M j).H λo=>xchT F o z)) {Same.refl _,Yc _,{Z,λi l e=>by simp at e}} (Zi<|by rw[Xh];lia)
   (λj ys H4 hj h=>by let(e,RI,ey):=h;show{SqL.of<|e _ _ kL,by rw[ey.1,Yb,Yu];simp_all}) ?_ ?_⟩
  .rintro j v ys H4 hj ⟨s4,Qu,hY⟩ S Xy;let(o,rfl,ho):=UL hj;let Vv:j<(UO n ps I F z).f:=(Xv.R ho).1
   let KJ:=s2.l s4;show nm ?_;exists _,Z,x,_,dx,_,.ref l,Z,KJ _ _ hx,T.cl_Part,T.n_Part_least,Z,_,Z,l,true,F,o,Z,SqT.of<|KJ _ _ hl,J,λr1 H5 s5 hr10 Vd=>?_;let wl:=Lw F o
   exists _,Z,(by change 1<=sizeLine;decide),λp2 Wn=>?_;let s6:=XY (o:=.tup<|IL [z]) Wn
   show z4 (l:=wo F o) (m:=[z]) (SqT.of<|s6 _ _ Vd) (SqT.of XZ) B λr3 H7 s7 RE=>?_;exists r3,wo F o++[z],Z,RE,B,λns Od RS p4 QJ=>?_;let en:ns=xchT F o z:=vt (Od.l (zw F o z).symm) RS (uu F o z)
   subst en;let s8:=XY (o:=.lst<|IL<|xchT F o z) QJ
   exists p4,_,Z,.inl {SqL.of XZ,λp5 Gb=>?_};let s9:=XY (o:=.tup<|IL<|xchT F o z) Gb
   let sA:=(s5.l s6).l (s7.l<|s8.l s9);show Xy _ _ {s4.l sA,Vv,?_};rw[YA,ho,YB];show(hY.imp λ_ _ h=>by let(q,e,hq):=h;exists q,e,sA _ _ hq).snoc ⟨p5,Z,XZ⟩
  .rintro ys H4 ⟨s4,_,hY⟩ d hd;rw[Xh,Yy]at hY;let s5:=XY (o:=.lst ys) hd
   show q d ys _ (s2.l<|s4.l s5) ((s2.l s4).free hd) XZ (hY.imp λ_ _ h=>by let(q,e,hq):=h;exists q,e,s5 _ _ hq)
def Zp6{α:Type}{R:V->α->Prop}{xs ys:List V}{l m:List α}(h1:Bears R xs l)(h2:Bears R ys m):Bears R (xs++ys) (l++m):=by
 show{by rw[Xe,Xe,h1.1,h2.1],λi a e=>?_};cases c:i<l.f
 .rw[YG c]at e;let(v,hv,r):=h1.2 i a e;exists v,B,r
 .rw[YD (by simp_all)]at e;let(v,hv,r):=h2.2 _ a e;exists v,by rw[YD (by rw[h1.1];simp_all),h1.1];show hv,r
def Zo6{α:Type}{R:V->α->Prop}{xs:List V}{l:List α}(h:Bears R xs l):Bears R xs.reverse l.reverse:=by
 show{by rw[LS,LS,h.1],λi a e=>?_};let hi:i<l.f:=by have:=(Xv.R e).1;rwa[LS]at this
 rw[bO hi]at e;let(v,hv,r):=h.2 _ a e;exists v,by rw[bO (by rwa[h.1]),h.1];show hv,r
inductive spZP(K:Ad)(CP C:Addr)(vs:List V)(H:Hp)(Q:VK)(_:XK):Prop
 |mk (x n ps I O F inc ld fu:_) (_:vs=[.ref x]) (_:PartAt K CP C H x n ps I O F inc ld fu) (_:GoodW n ps) (_:Zg n ps F) (_:inc.f<=30) (_:(∀z∈inc,z∉F/\0<=z/\z<ps⁻¹)) (_:∀r xs H',Same H H'->H r=none->H' r=some (.lst xs)->Bears (WA H') xs (uq n ps I F inc)->Q ↑r H')
def dX(T:Txt K mg t):Xs P w base Xz T.qZP 10 (spZP K t.A_Part t.A_Web):=by
 show T.qZP.okI ["part","row","ascending","into","trees"] D λXF A outer s H vs Q E hr h=>?_
 .let⟨x,n,ps,I,O,F,inc,ld,fu,rfl,KG,hG,hF,Vm,SX,q⟩:=h;show⟨_,(XO (Zd 1<|WR<|XX (Zj K (pv 0) Z) XW)
   (XO (Zd 2<|Px Rm (Zp ZX (Zc (Zf K) rN T.n_len Boot.«len»<|XX (Zj K (pv 0) Z) XW) XN) XN<|Zo _)
   (XO (WT YH Z (ZD K<|Zj K (pv 0) Z) (Xm 3)
   (XO (Zd 4<|XC (dZ T) hr T.qZO Zs<|XX (pv 0)<|XX (pv 3) XW)
   (XO (ZW<|Uq K QP tj tm qr (pv 1)<|XX (GX (RT<|pv 2) (pv 4)<|Dq K Z Z T.n_list Z T.n_reversed<|XX (pv 4) XW) XW)
   (XM<|Zd 2<|Fb<|pv 2))))
   (XM<|Zk<|pv 1)))),?_⟩
  let(dx,w,a,b,l,i,hx,hW,hA,QF,hl,hi):=id KG;exists _,Z,x,_,dx,_,.ref l,Z,hx,T.cl_Part,T.n_Part_least,Z,(by change 1<=sizeLine;decide),λr hr=>?_;let s1:=XY (o:=.lst [.ref l]) hr
  show nm ?_;exists _,Z,x,_,dx,_,.ref i,Z,s1 _ _ hx,T.cl_Part,T.n_Part_incoming,Z,i,_,Z,.inl<|SqL.of<|s1 _ _ hi,_,_,Z,Z,(by simp_all),Z,?_;show nm ?_;let ea:decide (V.int ((IL inc).f%2:Int)=V.int 1)=(inc.f%2 == 1):=by rw[ZH,Xh,Tp,Qg,wF];omega
  change Nz _ _ _ [some ↑x,some<|.ref r,some<|.bl<|decide<|V.int ((IL inc).f%2:Int)=V.int 1,none,none] (upd H r<|.lst [.ref l]);rw[ea];generalize Wv:(inc.f%2 == 1)=asc at *;let kr:(upd H r<|.lst [.ref l]) r=some (.lst [.ref l]):=XZ
  generalize upd H r (.lst [.ref l])=H1 at *;let lU:=s1 _ _ hi
  let fresh:∀b o,H b=some o->b≠r:=λb o e=>Za e hr;show⟨_,Z,x,_,dx,_,.ref i,Z,s1 _ _ hx,T.cl_Part,T.n_Part_incoming,Z,i,Z,{_,SqL.of lU},wg (K:=K) (a:=i) (xs:=IL inc) (λj σ H2=>∃xs v3 v4,σ=[some ↑x,some<|.ref r,some<|.bl<|asc != (j%2 == 1),v3,v4]/\Same H H2/\H2 r=some (.lst xs)/\Bears (WA H2) xs (F::SA n ps I F (inc.M j) asc)) ⟨[.ref l],none,none,by simp_all,s1,kr,⟨Z,λj m e=>by
   match j,e with
   |0,e=>show{_,Z,l,Z,by rw[<-Ym e];show s1 _ _ hl}⟩⟩ (λj σ H2 _ h=>by let(_,_,_,_,e,_):=h;show SqL.of<|e _ _ hi) ?_ ?_⟩
  rotate_left
  .rintro σ H2 ⟨xs,v3,v4,rfl,s2,VJ,hX⟩;rw[Xh,Yy]at hX;show Qr ?_;exists _,Z,?_;rw[<-Wv]at hX;show q r xs H2 s2 hr VJ hX
  rintro j v σ H2 hj ⟨xs,v3,v4,rfl,s2,VJ,hX⟩;let(z,rfl,hz):=UL hj;let(zF,z0,z1):=SX z (Xf hz);let Nc:j<inc.f:=(Xv.R hz).1
  show nm ?_;dsimp only[List.set];exists _,Z,_,Z,x,n,ps,I,O,F,inc,ld,fu,z,Z,{dx,w,a,b,l,i,s2 _ _ hx,hW.same s2,SqK.same (k:=true) s2 hA,SqK.same (k:=true) s2 QF,s2 _ _ hl,s2 _ _ hi},hG,hF,zF,z0,z1,λtA ys H3 s3 ht0 SV hY=>?_;show nm ?_;dsimp only[List.set];let RE:=s3 _ _ VJ
  let xN:F.f<=30:=by have:=hF.1.len;have:=hG.2.2.1;lia
  let xl:xs.f<=1000:=by
   rw[hX.1,YW];let h1:=zt n ps I F (inc.M j) asc
   let h2:(inc.M j).f*F.f<=30*30:=Qc B xN;lia
  let yl:ys.f<=30:=by rw[hY.1,Yb];show Yl (YL ..) (Yl (GH n ps F z F) xN)
  let dW:SA n ps I F (inc.M<|j+1) asc=SA n ps I F (inc.M j) asc++SD n ps I F (asc != (j%2 == 1)) z:=by
   let e:inc.M (j+1)=inc.M j++[z]:=by rw[YA,hz];rfl
   let el:(inc.M j).f=j:=by rw[Yu];lia
   rw[e,Za7,el]
  let flip:(!(asc != (j%2 == 1)))=(asc != ((j+1)%2 == 1)):=by rcases(by lia:j%2=0/\(j+1)%2=1\/j%2=1/\(j+1)%2=0) with ⟨a,b⟩|⟨a,b⟩<;>rw[a,b]<;>cases asc<;>rfl
  let fin:∀zs H4,Same H3 H4->zs.f=ys.f->Bears (WA H4) zs (SD n ps I F (asc != (j%2 == 1)) z)->Same H (upd H4 r<|.lst<|xs++zs)/\Bears (WA<|upd H4 r<|.lst<|xs++zs) (xs++zs) (F::SA n ps I F (inc.M<|j+1) asc):=λzs H4 s4 Ck hZ=>by
   let KR:=s4 _ _ RE;exists Zt hr<|(s2.l s3).l s4,?_;rw[dW];let hX4:Bears (WA H4) xs (F::SA n ps I F (inc.M j) asc):=hX.imp λ_ _ h=>by let(c,e,hc):=h;exists c,e,(s3.l s4) _ _ hc
   show(Zp6 hX4 hZ).imp λ_ _ h=>by let(c,e,hc):=h;exists c,e,by rwa[Zb (PR hc KR Fe)]
  exists _,Z,.inl {Z,_,SqL.of RE},?_;cases hb:(asc != (j%2 == 1)) with
  |true=>
   rw[hb]at fin flip;exists _,Z,_,Z,?_;show UU ?_;exists _,Z,?_;let(f1,f2):=fin ys H3 (Same.refl _) Z hY;exists r,tA,xs,ys,Z,Z,RE,SV,Sq J,?_;exists _,Z,_,Z,?_;exists xs++ys,_,_,by rw[<-flip];rfl,f1,XZ,f2
  |false=>
   rw[hb]at fin flip;exists _,Z,_,Z,?_;show Vr ?_;exists _,Z,tA,ys,Z,SqL.of SV,λd hd=>?_;let s4:=XY (o:=.lst ys.reverse) hd
   let(f1,f2):=fin ys.reverse _ s4 (LS) (Zo6<|hY.imp λ_ _ h=>by let(c,e,hc):=h;exists c,e,s4 _ _ hc);exists r,d,xs,ys.reverse,Z,Z,s4 _ _ RE,XZ,Sq (by rw[LS];lia),?_;exists _,Z,_,Z,?_;exists xs++ys.reverse,_,_,by rw[<-flip];rfl,f1,XZ,f2
inductive spZQ(K:Ad)(CP C Pt:Addr)(d:Nat)(vs:List V)(H:Hp)(Q:VK)(_:XK):Prop
 |mk (x n ps I O F inc ld fu R size start stop:_) (_:vs=[.ref x,.int size,.int start,.int stop]) (_:PartAt K CP C H x n ps I O F inc ld fu) (_:PartOk n ps I O ld F inc fu) (_:GoodW n ps) (_:Wf H Pt) (_:RowR n ps d I O ld R) (_:size=R.f) (_:0<=start) (_:stop<=size) (_:stop-start<=100000) (_:∀r xs H',SameX Pt H H'->Wf H' Pt->H r=none->H' r=some (.lst xs)->Bears (WA H') xs ((R.drop start.j).M (stop-start).j)->Q ↑r H')
def dU(xs:List V){a b:Nat}(h2:b<=xs.f):XG xs (some (a:Int)) (some (b:Int))=(xs.drop a).M (b-a):=by
 let e1:HT.UB xs.f 0 (some (a:Int))=min a xs.f:=rfl;let e2:HT.UB xs.f xs.f (some (b:Int))=min b xs.f:=rfl
 unfold XG;rw[e1,e2,Kc h2];rcases Nat.le_total a xs.f with c|c
 .simp_all
 simp_all
def xM{α:Type}{R:V->α->Prop}{xs:List V}{l:List α}(h:Bears R xs l)(a b:Nat):Bears R ((xs.drop a).M b) ((l.drop a).M b):=by
 show{by rw[Yu,Yu,RZ,RZ,h.1],λi x e=>?_};rw[Kv]at e;cases c:i<b
 .rw[Yi c,LR]at e;let(v,hv,r):=h.2 _ x e;exists v,by simp_all,r
 simp_all
def dS{α:Type}(A rH:List α){a b:Nat}(h:b<=A.f):((A++rH).drop a).M (b-a)=(A.drop a).M (b-a):=by
 rcases Nat.le_total a A.f with c|c
 .rw[cB c,List.take_append_of_le_length (by simp_all)]
 .rw[Nat.sub_eq_zero_of_le (Yl h c),so,so]
def ZB8{α:Type}(rH:List α){i k:Nat}(h:i+k<=rH.f):((rH.reverse).drop i).M k=((rH.drop (rH.f-i-k)).M k).reverse:=by rw[List.drop_reverse,List.take_reverse,Yu,Kc<|Nat.sub_le _ _,sj,Nat.sub_sub_self (Nat.le_sub_of_add_le' h)]
def dR{α:Type}(A rH:List α){a b c:Nat}(hc:(a<=A.f/\c=A.f)\/(A.f<=a/\c=a))(dQ:c<=b)(hb:b<=A.f+rH.f):((A++rH.reverse).drop a).M (b-a)=A.drop a++((rH.drop (A.f+rH.f-b)).M (b-c)).reverse:=by
 rcases hc with ⟨h,rfl⟩|⟨h,rfl⟩
 .rw[cB h,List.take_append,Yv (by rw[RZ];show Nat.sub_le_sub_right dQ a),RZ,Nat.sub_sub_sub_cancel_right h]
  have:=ZB8 rH (i:=0) (k:=b-A.f) B
  grind
 .rw[List.drop_append,bU h,Ks,Ks,ZB8 rH B,show rH.f-(c-A.f)-(b-c)=A.f+rH.f-b by grind]
def dP{x y:Int}:∃m,(if x<y then x else y)=m/\m<=x/\m<=y/\(x<y->m=x)/\(¬x<y->m=y):=by
 cases c:x<y
 .exists x,Yi c,Ko _,Rt c,λ_=>rfl,λh=>absurd c h
 .exists y,Yh c,Hc.R c,Ko _,λh=>absurd h c,λ_=>rfl
def xK{H H2:Hp}{Pt r:Addr}{pos:Pos}{qual:Str}(t:TabH H2 Pt pos qual)(s:SameX Pt H H2)(h:H2 r=none):H r=none:=by
 cases e:H r with
 |none=>rfl
 |some o=>
  let XJ:r≠Pt:=λe'=>by
   let(p,h1,_):=t
   simp_all
  rw[s _ _ XJ e]at h;cases h
def dO(T:Txt K mg t)(hB:TR K mg base t.dZJ Pt)(d:Nat):Xs P w base Xz T.qZQ (11+d) (spZQ K t.A_Part t.A_Web Pt d):=by
 let key:∀d k sp,Xs P w base Xz T.qZQ k sp->k<=10+d->(∀e,d=e+1->sp=spZQ K t.A_Part t.A_Web Pt e)->Xs P w base Xz T.qZQ (11+d) (spZQ K t.A_Part t.A_Web Pt d):=by
  intro d k sp ih hk Uc;rw[show 11+d=10+d+1 by lia];show T.qZQ.ok ["part","size","start","stop","first","middle","trees","turned"] D (λvs H Q E h=>?_) (λXF A outer s H vs Q E hr h=>?_)
  .let⟨x,n,ps,I,O,F,inc,ld,fu,R,size,start,stop,rfl,_⟩:=h;rfl
  .let⟨x,n,ps,I,O,F,inc,ld,fu,R,size,start,stop,rfl,KG,NV,hG,hT,hR,hsz,GJ,Vc,WW,q⟩:=h;show⟨_,(XO (WN (Zh Py (pv 2) (pv 3)<|Zo _)
   (XM<|Zk<|WR XW)
   Zm)
   (XO (WN (Zh EH (Zj K (pv 0) Z) Ka<|Zo _)
   (XM<|Zk<|ZQ (ZU K) (Qx (dX T) (hr.mono rO) Z T.qZP.mm T.qZP.fn.kp T.qZP.bi .nil Zs<|XX (pv 0) XW) (Wd<|pv 2)<|Wd<|pv 3)
   Zm)
   (XO (Zd 4<|Qx (d9 T hB) (hr.mono rO) Z T.qZL.mm T.qZL.fn.kp T.qZL.bi .nil Zs<|XX (pv 0) XW)
   (XO (Zd 5<|Qx (d7 T) (hr.mono rO) Z T.qZN.mm T.qZN.fn.kp T.qZN.bi .nil Zs<|XX (pv 4) XW)
   (XO (Zd 6<|Qx ih (hr.mono rO) Z T.qZQ.mm T.qZQ.fn.kp T.qZQ.bi .nil Zs<|XX (pv 4)<|XX (pv 5)<|XX (pv 2)<|XX (Zc (wb Z) rN T.n_min Boot.«min»<|XX (pv 3)<|XX (pv 5) XW) XW)
   (XO (WN (Zh Oo (pv 3) (pv 5)<|Zo _)
   (XO (Zd 7<|Qx ih (hr.mono rO) Z T.qZQ.mm T.qZQ.fn.kp T.qZQ.bi .nil Zs<|XX (Qx (d8 T hB) (hr.mono rO) Z T.qZM.mm T.qZM.fn.kp T.qZM.bi .nil Zs<|XX (pv 0) XW)<|XX (Zp TF (pv 1)<|pv 5)<|XX (Zp TF (pv 1)<|pv 3)<|XX (Zp TF (pv 1)<|Zc (wc Z) rN T.n_max Boot.«max»<|XX (pv 2)<|XX (pv 5) XW) XW)
   (XM<|ZW<|Uq K QP tj tm qr (pv 6)<|XX (Dq K Z Z T.n_list Z T.n_reversed<|XX (pv 7) XW) XW))
   Zm)
   (XM<|Zk<|pv 6))))))),?_⟩
   let(dx,w0,a,b,l,i,hx,hW,hA,QF,hl,hi):=id KG;exists _,Z,_,Z,_,_,Z,Z,_,Z,?_;show Xt (λTd=>?_) (λXx=>?_)
   .exists Yc _,λr hr=>?_;let s1:=XY (o:=.lst []) hr
    show q r [] _ (SameX.same s1) (hT.same s1) hr XZ ?_;rw[show(stop-start).j=0 by lia,so];exists Z,λi l e=>by simp at e
   show Qr ?_;let(a0,rfl):=sY GJ;let(b0,rfl):=sY (show 0<=stop by lia);let Vq:a0<=b0:=J
   let dM:b0<=R.f:=by rw[hsz]at Vc;show Int.ofNat_le.R Vc
   let e0:((b0:Int)-(a0:Int)).j=b0-a0:=Int.toNat_sub _ _;rw[YX,e0]at q;subst hsz;exists _,Z,x,_,dx,_,WC fu,Z,hx,T.cl_Part,T.n_Part_further,Z,Z,_,Z,?_;cases hR with
   |und Sb Vm hiz=>
    let(rfl,rfl,rfl):=NV.uniq Sb;show UU ?_;exists _,Z,x,n,ps,I,O,F,inc,ld,none,Z,KG,hG,NV.tr.1,Vm,hiz,λr xs H1 s1 UN Vd hX=>?_;let KS:=hX.1
    exists _,Z,_,Z,_,Z,_,Z,r,xs,Z,SqL.of Vd,λq1 Gw=>?_;rw[dU xs (by rwa[KS])];let s2:=XY (o:=.lst<|(xs.drop a0).M (b0-a0)) Gw
    let WE:=s1.l s2;show q q1 _ _ (SameX.same WE) (hT.same WE) (s1.free Gw) XZ ?_;show(xM hX _ _).imp λ_ _ h=>by let(c,e,hc):=h;exists c,e,s2 _ _ hc
   |div Sb hIn WZ Vb KI dJ dI y0 y1 yd hRA hRB=>
    rename_i e F' VN z y A' rH;let(rfl,rfl,rfl):=NV.uniq Sb;let esp:=Uc e rfl
    subst esp;show Vr ?_;show Qr ?_;let MI:=VG.R hIn
    let xJ:I.Nodup:=MI.1;let xI:∀v∈I,0<=v/\v<ps⁻¹:=λv hv=>WZ v (Yj _ hv)
    let xH:∀v∈I,v∉O++[z]:=λv hv h=>(Xk.R h).elim (Vb v<|Yj _ hv) λh=>MI.2.2 v hv z Fe (Xc.R h);let Ip:O.f<=30:=by rw[Xe,YK]at KI;lia
    rw[Xe,LS]at dM;let Ms:(((A'++rH.reverse).f:Nat):Int)=A'⁻¹+rH.f:=by rw[Xe,LS,Int.natCast_add]
    let(m,em,m1,m2,m3,m4):=dP (x:=A'⁻¹) (y:=(b0:Int));exists _,Z,x,n,ps,I,O,F,inc,z,y,Z,KG,hG,hT,xJ,xI,xH,KI,dI,y0,y1,λx1 F1 Mw uh H1 II Ly sx1 Mb=>?_;show nm ?_;exists _,Z,x1,n,ps,I,O++[z],F1,Mw,some y,uh,Z,Ly,hG,xJ,xI,KI,xH,λc H2 hc s2=>?_;let ec:=hc.uniq yd
    subst ec;show nm ?_;let xG:SameX Pt H H2:=sx1.l (SameX.same s2)
    let VM:=Mb.same s2;exists _,Z,_,Z,_,Z,_,Z,_,Z,_,_,Z,?_;exists x1,n,ps,I,O++[z],F1,Mw,some y,uh,A',_,_,_,Z,Ly.samex Mb<|SameX.same s2,II,hG,VM,hRA,Z,GJ,(by rwa[em]),(by rw[em];show Fp (Int.sub_le_sub_right m2 _) WW),λr xs H3 dH QE UN RE hX=>?_;show nm ?_;let HL:=xG.l dH
    let dG:H r=none:=xK VM xG UN;rw[YX,em]at hX;exists _,Z,_,Z,_,_,Z,Z,_,Z,?_;show Xt (λhgt=>?_) λhle=>?_;rotate_left
    .show Qr ?_;exists _,Z,?_;let dF:¬A'⁻¹<(b0:Int):=hle
     rw[m4 dF,e0]at hX;rw[dS A' rH.reverse (by simp_all)]at q;show q r xs H3 HL QE dG RE hX
    let xF:A'⁻¹<(b0:Int):=hgt;rw[m3 xF,Int.toNat_sub,Yv (by simp_all)]at hX;clear m1 m2 m3 m4 em m;exists _,Z,x,n,ps,I,O,F,inc,z,y,Z,KG.samex hT HL,hG,QE,hIn,WZ,Vb,Ip,dJ,y0,y1,λx2 F2 Io gM H4 zg RN KH HK=>?_;exists _,Z,_,Z,_,_,Z,Z,_,Z,_,Z,_,_,Z,Z,_,Z,_,Z,_,Z,_,_,Z,_,_,Z,Z,?_;obtain⟨c0,ec,Qk,dQ⟩:∃c0:Nat,(if A'⁻¹>(a0:Int) then A'⁻¹ else (a0:Int))=(c0:Int)/\((a0<=A'.f/\c0=A'.f)\/(A'.f<=a0/\c0=a0))/\c0<=b0:=by
     cases c:A'⁻¹>(a0:Int)
     .exists A'.f,Yi c,.inl {Ow<|Int.ofNat_lt.R c,Z},Ow<|Int.ofNat_lt.R xF
     .exists a0,Yh c,.inr {Int.ofNat_le.R<|Hc.R c,Z},Vq
    rw[dR A' rH Qk dQ dM]at q;let hAc:A'.f<=c0:=by rcases Qk with h|h<;>simp_all
    let hac:a0<=c0:=by rcases Qk with h|h<;>simp_all
    clear Qk;exists x2,n,ps,I++[z],O,F2,Io,some y,gM,rH,_,_,_,Z,RN,zg,hG,HK,hRB,(by rw[Ms];lia),(by rw[Ms];simp_all),(by rw[ec,Ms];simp_all),(by rw[ec,Ms];lia),λr2 ys H5 xW HI hr20 hr5 hY=>?_;show nm ?_;let KR:=KH _ _ (QE.ne RE Fe) RE
    let xE:=xW _ _ (HK.ne KR Fe) KR;let dE:=(HL.l KH).l xW
    let e2:(A'⁻¹+rH.f-(b0:Int)).j=A'.f+rH.f-b0:=B;let e3:(A'⁻¹+rH.f-(c0:Int)-(A'⁻¹+rH.f-(b0:Int))).j=b0-c0:=B
    rw[ec,Ms,e2,e3]at hY;let KS:xs.f<=100000:=by rw[hX.1,RZ];lia
    let Tu:ys.f<=100000:=by rw[hY.1,Yu];lia
    exists _,Z,.inl {Z,_,SqL.of xE},_,Z,r2,ys,Z,SqL.of hr5,λdA hd=>?_;let s6:=XY (o:=.lst ys.reverse) hd
    let KQ:=s6 _ _ xE;let z1:1000000<=sizeLine:=AP
    exists r,dA,xs,ys.reverse,Z,Z,KQ,XZ,B,?_;exists _,Z,?_;show q r (xs++ys.reverse) _ (λb o hb e=>?_) ((HI.same s6).put KQ) dG XZ ?_
    .rw[Zb (Za e dG)];show s6 _ _ (dE _ _ hb e)
    .let f1:Bears (WA<|upd H5 dA<|.lst ys.reverse) xs (A'.drop a0):=hX.imp λ_ _ h=>by
      let(c,e,hc):=h;let Mi:=KH _ _ (QE.ne hc Fe) hc
      exists c,e,s6 _ _<|xW _ _ (HK.ne Mi Fe) Mi
     let f2:Bears (WA<|upd H5 dA<|.lst ys.reverse) ys.reverse ((rH.drop<|A'.f+rH.f-b0).M (b0-c0)).reverse:=Zo6 (hY.imp λ_ _ h=>by let(c,e,hc):=h;exists c,e,s6 _ _ hc)
     show(Zp6 f1 f2).imp λ_ _ h=>by let(c,e,hc):=h;exists c,e,by rwa[Zb (PR hc KQ Fe)]
 induction d with
 |zero=>show key 0 0 _ gK (by simp_all) λe h=>(by cases h)
 |succ d ih=>show key (d+1) (11+d) _ ih J λe h=>(by simp_all)
inductive spZR(K:Ad)(CP C Pt:Addr)(vs:List V)(H:Hp)(Q:VK)(_:XK):Prop
 |mk (w:Addr) (n:Int) (ps:Aa) (num most:Int) (R:Ab) (_:vs=[.ref w,.int num,.int most]) (_:WebAt C H w n ps) (_:GoodW n ps) (_:Wf H Pt) (_:0<=num) (_:num<10^70) (_:0<=most) (_:most<=100000) (_:((∃U,Zg n ps U)->RowW n ps R)) (_:((∀U,¬Zg n ps U)->R=[])) (_:∀(r:Addr)(xs:List V)(H':Hp),SameX Pt H H'->Wf H' Pt->H r=none->H' r=some (.lst xs)->Bears (WA H') xs ((R.drop num.j).M most.j)->Q ↑r H')
def dD(T:Txt K mg t)(hB:TR K mg base t.dZJ Pt):Xs P w base Xz T.qZR 44 (spZR K t.A_Part t.A_Web Pt):=by
 show T.qZR.okI ["web","number","most","size"] D λXF A outer s H vs Q E hr h=>?_
 .let⟨w,n,ps,num,most,R,rfl,hW,hG,hT,n0,n1,m0,m1,hRw,xD,q⟩:=h;show⟨_,(XO (ZW<|XC (xZ T) hr T.qZF Zs<|XX (pv 1) XW)
   (XO (Zd 3<|XC (QH T) hr T.qZn Zs<|XX (pv 0) XW)
   (XO (WN (Zh Py (pv 1) (pv 3)<|Zo _)
   (XM<|Zk<|WR XW)
   Zm)
   (XM<|Zk<|XC (dO T hB 31) hr T.qZQ Zs<|XX (XC (eD T hB) hr T.qZK Zs<|XX (pv 0) XW)<|XX (pv 3)<|XX (pv 1)<|XX (Zc (wb Z) rN T.n_min Boot.«min»<|XX (Zp UY (pv 1)<|pv 2)<|XX (pv 3) XW) XW)))),?_⟩
  exists _,Z,num,Z,J,n1,λ_=>?_,λh=>absurd h J;exists _,Z,w,n,ps,Z,hW,hG,λc H1 hc s1=>?_;show nm ?_;let Ms:R.f=c:=by
   cases hex:∃U,Zg n ps U
   .let⟨_,_,_,_,_,_,_,_,h⟩:=hRw hex;show h.uniq hc
   .let Up:∀U,¬Zg n ps U:=λU hU=>hex ⟨U,hU⟩;rw[xD Up,(iC hc).mpr Up];rfl
  exists _,Z,_,Z,_,_,Z,Z,_,Z,?_;show Xt (λTd=>?_) (λXx=>?_)
  .exists Yc _,λr hr=>?_;let s2:=XY (o:=.lst []) hr
   let WE:=s1.l s2;show q r [] _ (SameX.same WE) (hT.same WE) (s1.free hr) XZ ?_;rw[FJ (by simp_all),List.take_nil];exists Z,λi l e=>by simp at e
  show Qr ?_;obtain⟨U0,FV⟩:∃U,Zg n ps U:=Yt λno=>by grind
  let(ld,F,inc,fu,NV,hn,hs,hRR,_):=hRw ⟨U0,FV⟩;let Mb:=hT.same s1
  exists _,Z,w,n,ps,Z,hW.same s1,hG,Mb,⟨U0,FV⟩,λx F' VN Gf Gg H2 Sb Ot VL KG xG VM=>?_;let eF:F'=F:=WJ (NV.least F' Sb.tr) (Sb.least F NV.tr)
  subst eF;let el:=zf Ot VL hn hs
  subst el;exists _,rfl,_,rfl,_,rfl,_,rfl,_,_,rfl,rfl,_,rfl,_,_,rfl,?_;exists x,n,ps,[],[],F',VN,Gf,Gg,R,_,_,_,rfl,KG,Sb,hG,VM,hRR,by simp_all,n0,(by split<;>simp_all),(by split<;>lia),λr xs H3 dH QE UN RE hX=>?_
  let e1:((R.drop num.j).M ((if (c:Int)<num+most then (c:Int) else num+most)-num).j)=(R.drop num.j).M most.j:=by rw[List.take_eq_take_iff,RZ];split<;>grind
  rw[e1]at hX;show q r xs H3 ((SameX.same s1).l (xG.l dH)) QE (xK VM ((SameX.same s1).l xG) UN) RE hX
inductive spZS(K:Ad)(C:Addr)(vs:List V)(H:Hp)(Q:VK)(_:XK):Prop
 |mk (w b:Addr) (n:Int) (ps:Aa) (ws:Ac) (_:vs=[.ref w,.ref b]) (_:WebAt C H w n ps) (_:GoodW n ps) (_:SqL K H b (IL ws)) (_:(∀x∈ws,x.natAbs<=2^200)) (_:(ws.f=ps.f->∀(s:Int)(H':Hp),WS n ps ws s->s.natAbs<2^9000->Same H H'->Q (.int s) H')) (_:(ws.f≠ps.f->False))
def Zc6{α:Type}{l:List α}{i:Nat}(hi:l.f=i+1):cutz l (i:Int)=l.M i:=by
 unfold cutz
 simp_all
def xC(T:Txt K mg t):Xs P w base Xz T.qZS 3 (spZS K t.A_Web):=by
 show T.qZS.okI ["web","weights"] D λXF A outer s H vs Q E hr h=>?_
 .let⟨w,b,n,ps,ws,rfl,hW,hG,hS,hwb,q0,q1⟩:=h;show⟨_,(XO (ZW<|XC (gc T) hr T.qZa Zs<|XX (pv 0)<|XX (pv 1) XW)
   (XM<|Zk<|XC (yT T) hr T.qZ3 Zs<|XX (XC (yN T) hr T.qZ5 Zs<|XX (XC (yB T) hr T.qZl Zs<|XX (pv 0)<|XX (pv 1) XW)<|XX (Zp TF (Zj K (pv 0) Z) XN) XW) XW)),?_⟩
  let(g1,g2,g3,g4):=id hG;exists _,Z,_,Z,w,b,n,ps,false,ws,Z,hW,hS,λhw=>?_,λh=>q1 h;let q:=q0 hw
  exists _,Z,_,Z,w,b,n,ps,ws,Z,hW,hG,hS,hw,λr ys L H1 s1 hr hT hf=>?_;let(dx,tl,xs,h1,h2,h3):=id hW;exists _,Z,w,_,dx,_,_,Z,s1 _ _ h1,T.cl_Web,T.n_Web_places,ZS _ _,_,_,Z,Z,?_;obtain⟨k,hk⟩:∃k:Nat,n-1=(k:Int):={(n-1).j,J};let yM:=hT.len
  let fJ:Bears (RO H1) ys L:=hT.rows.imp λ_ _ h=>h.list;exists r,ys,L,k,?_,SqL.of hT.tab,fJ,B,λl h=>by rw[hT.all l h];lia,J,λr2 zs H2 s2 VJ hZ=>?_
  .simp_all
  let w1:∀e∈Wo ps ws,e.2.2.natAbs<=2^200:=λe he=>by unfold Wo at he;let(i,hi):=Yx he;grind
  let el:(Wo ps ws).f<=30:=by
   unfold Wo;rw[Kx]
   simp_all
  let hM:(cutz L (k:Int)).H (λl=>cutz l (k:Int))=(L.M k).H λl=>l.M k:=by rw[Zc6 B];show YQ λl hl=>Zc6 (by rw[hT.all l (LU hl)];grind)
  rw[hM]at hZ;let Sz:((L.M k).H λl=>l.M k).f=k:=by rw[Yb,Yu];lia
  let NB:∀i j,i<k->j<k->fnL ((L.M k).H λl=>l.M k) i j=lapE (Wo ps ws) i j:=λi j hi hj=>by
   rw[<-hf i j B B];obtain⟨l,hl⟩:∃l,L[i]?=some l:={_,Xw B};let Ve:=hT.all l (Xf hl)
   obtain⟨x,hx⟩:∃x,l[j]?=some x:={_,Xw B};rw[Qq hl hx];show Qq (l:=l.M k) (by rw[Yn,Kv,Yi hi,hl];rfl) B
  exists r2,false,zs,(L.M k).H λl=>l.M k,Z,SqL.of VJ,hZ.imp (λ_ _ zz=>by let(r',e,h):=zz;exists r',false,e,SqL.of h),J,λi j hi hj=>?_,λ_ H3 s3=>?_,λh=>absurd (λl hl=>?_) h
  .rw[Sz]at hi hj;rw[NB i j hi hj];show Yl (jv w1 i j) (Yl (Nat.mul_le_mul_right _ el)<|Yl (by decide:30*2^200<=2^210)<|FH AP AP)
  .let hd:det ((L.M k).H λl=>l.M k).f (fnL<|(L.M k).H λl=>l.M k)=det (n-1).j (lapE<|Wo ps ws):=by rw[Sz,show(n-1).j=k by simp_all];show Zn λi j hi hj=>NB i j hi hj
   rw[hd];show q _ H3 (jw hG hw) (BR J λi j _ _=>?_) (s1.l<|s2.l s3);show Yl (jv w1 i j) (Yl (Nat.mul_le_mul_right _ el)<|Yl (by decide:30*2^200<=2^210)<|FH AP AP)
  .let⟨l0,h0,rfl⟩:=Yz.R hl;rw[Sz,Yu,hT.all l0 (LU h0)]
   simp_all
inductive spZT(K:Ad)(vs:List V)(H:Hp)(Q:VK)(_:XK):Prop
 |mk (b:Int) (l:Ac) (_:vs=[.int (ev b l),.int b,.int l.f]) (_:l.f<=100) (_:b.natAbs<2^9000) (_:(∀x∈l,0<=x/\x<b)) (_:∀(r:Addr)(H':Hp),Same H H'->H' r=some (.tup<|IL l)->Q ↑r H')
def dC(T:Txt K mg t):Xs P w base Xz T.qZT 1 (spZT K):=by
 show T.qZT.okI ["number","base","many","factors","power"] D λXF A outer s H vs Q E hr h=>?_
 .let⟨b,l,rfl,hl,hb,hx,q⟩:=h;show⟨_,(XO (Zd 3<|WR XW)
   (XO (WT YH Z (ZB Z T.n_range<|XX (pv 2) XW) (Xm 4)
   (XO (ZW<|Uq K QP NR NS Np (pv 3)<|XX (Zp ZX (pv 0)<|pv 1) XW)
   (XM<|Zd 0<|Zp ZC7 (pv 0)<|pv 1)))
   (XM<|Zk<|Zl (ZI K) rN T.n_tuple Boot.«tuple»<|XX (pv 3) XW))),?_⟩
  exists Yc _,λf hf=>?_;exists _,Z,l.f,Z,by simp_all,J,ZY (lo:=0) (n:=(l.f:Int).j) (λi σ H2=>∃v:Option V,σ=[some (.int<|ev b<|l.drop i),some<|.int b,some<|.int l.f,some<|.ref f,v]/\Same H H2/\H2 f=some (.lst<|IL<|l.M i)) {none,Z,XY hf,XZ} ?_ ?_
  .rintro i σ H2 hi ⟨v,rfl,s2,h2⟩;obtain⟨d,hd⟩:∃d,l[i]?=some d:={_,Xw<|by simp_all};let(d0,d1):=hx d (Xf hd);let e:=jr (b:=b) hd
   exists _,Z,.inl {Z,_,SqL.of h2},_,Z,_,Z,_,_,Z,Z,J,f,_,_,Z,Z,h2,?_,?_
   .show Zi B
   let em:ev b (l.drop i)%b=d:=by rw[e];show jt d0 d1
   let ed:(ev b<|l.drop i).fdiv b=ev b (l.drop<|i+1):=by rw[cy _ J,e];show js d0 d1
   exists _,Z,_,Z,_,_,Z,Z,⟨J,hb⟩,?_;exists some<|.int<|0+(i:Int),?_,Zt hf s2,?_
   .rw[<-ed];rfl
   .rw[XZ,YA,hd,<-em];grind
  .rintro σ H2 ⟨v,rfl,s2,h2⟩;rw[YX,Yy]at h2;exists _,Z,f,_,Z,.inl {SqL.of h2,λr hr=>?_};show q r _ (s2.l<|XY hr) XZ
inductive spZU(K:Ad)(C:Addr)(vs:List V)(H:Hp)(Q:VK)(_:XK):Prop
 |mk (w b:Addr) (n:Int) (ps:Aa) (kd:Bool) (S:Ac) (_:vs=[.ref w,.ref b]) (_:WebAt C H w n ps) (_:GoodW n ps) (_:SqK kd K H b (IL S)) (_:(IsSet ps.f S->∃L:Ab,L.Nodup/\(∀T,T∈L↔Zg n ps T)/\∀(r:Addr)(H':Hp),Same H H'->H' r=some (.tup<|IL<|VR n.j S L)->Q ↑r H')) (_:(¬IsSet ps.f S->False))
def HH:FnScope ["web","ties","base","weights"] ["web","ties"] (Xo (top 77)):=TQ D
def dB(T:Txt K mg t):Xs P w base Xz T.qZU 4 (spZU K t.A_Web):=by
 show T.qZU.okI ["web","ties","base","weights"] D λXF A outer s H vs Q E hr h=>?_
 .let⟨w,b,n,ps,kd,S,rfl,hW,hG,hS,q0,qe⟩:=h;show⟨_,(XO (VP (i:=1) HH.nd Z (Or.inr Z)<|XC (Mo T) hr T.qZg Zs<|XX (pv 0)<|XX (pv 1) XW)
   (XO (VP (i:=2) HH.nd Z (Or.inr Z)<|Zp UY (XC (QH T) hr T.qZn Zs<|XX (pv 0) XW) XN)
   (XO (Rg (i:=3) Z HH.nd Z Z (sc0:=Xo<|top 77) (N0:=["web","ties","base","weights"]) (N':=["tie","ties","base"]) (o:=1) (fr:=[1,2]) ⟨Z,D,D,D,Z,D⟩ (ZB Z T.n_range<|XX (Zc (Zf K) rN T.n_len Boot.«len»<|XX (Zj K (pv 0) Z) XW) XW) (Zq AP) (λ_ _ _ _=>(Xm 0)) (λ_ _ _ _=>ZN) λ_ _ _ _=>(GX (Zh (DH K) (pv 0) (pv 1) Z) (pv 2) XN))
   (XM<|Zk<|XC (dC T) hr T.qZT Zs<|XX (XC (xC T) hr T.qZS Zs<|XX (pv 0)<|XX (pv 3) XW)<|XX (pv 2)<|XX (Zj K (pv 0) Z) XW)))),?_⟩
  let hI:IsSet ps.f S:=Yt λh=>qe h;exists _,Z,_,Z,w,b,n,ps,kd,S,Z,hW,hS,hI,λr H1 s1 hr=>?_;let(L,OD,xB,q):=q0 hI;let(g1,g2,g3,g4):=id hG;show nm ?_;exists _,Z,w,n,ps,Z,hW.same s1,hG,λc H2 hc s2=>?_;exists _,_,Z,Z,?_;show nm ?_;let hW2:=(hW.same s1).same s2
  let(dx,tl,xs,h1,h2,h3):=id hW2;let hl:=h3.1
  let VJ:=ZP s2 hr;exists _,Z,w,_,dx,_,_,Z,h1,T.cl_Web,T.n_Web_ties,ZM _ _,tl,xs,Z,.inl<|SqL.of h2,_,Z,by simp_all,J,LB (lo:=0) (n:=(xs.f:Int).j) (λi zs H3=>H3=H2/\zs=IL (wS ((c:Int)+1) S i)) ⟨Z,Z⟩ (Zi J) (λi zs H3 _ zz=>by let(_,e):=zz;rw[e,Xh,Ba];simp_all) ?_ ?_
  .rintro i zs H3 hi ⟨rfl,rfl⟩ SS Xy;show nm ?_;let hS3:∀i:Nat,wS ((c:Int)+1) S (i+1)=wS ((c:Int)+1) S i++[if ((i:Nat):Int)∈S then (c:Int)+1 else 1]:=λi=>by unfold wS;rw[NN,YB];rfl
   exists _,Z,_,Z,r,_,Z,.inr VJ,Z,ZT _,_,Z,?_;rw[Vh];show Xt (λh=>?_) (λh=>?_)
   .exists _,Z,Xy _ _ {Z,?_}
    simp_all
   .show Xy _ _ {Z,?_}
    simp_all
  rintro zs H3 ⟨rfl,rfl⟩ wA hwA;rw[YX,hl];let s4:=XY (o:=.lst<|IL<|wS ((c:Int)+1) S ps.f) hwA
  let hw4:=XZ (H:=H3) (a:=wA) (o:=.lst<|IL<|wS ((c:Int)+1) S ps.f);show nm ?_;let cs:=jy hG hc
  let cb:((c:Int)+1).natAbs<=2^200:=Yl (by omega:((c:Int)+1).natAbs<=10^20) AP;let hLc:L.f=c:=TC.uniq ⟨L,OD,xB,Z⟩ hc
  exists _,Z,_,Z,w,wA,n,ps,_,Z,hW2.same s4,hG,SqL.of hw4,λz hz=>?_,λ_ s H5 hs iN s5=>?_,λh=>absurd (Ba ..) h
  .let⟨i,_,rfl⟩:=Yz.R hz;split
   .show cb
   .decide
  let rfl:=hs.uniq (AX ((c:Int)+1) S OD xB);let FW:=s4.l s5
  exists _,Z,_,Z,w,_,dx,_,_,Z,FW _ _ h1,T.cl_Web,T.n_Web_places,ZS _ _,(c:Int)+1,VR n.j S L,?_,?_,Kw cb<|Nat.pow_lt_pow_right AP AP,λz hz=>?_,λr2 H6 s6 KQ=>?_
  .rw[jo,sO J];rfl
  .rw[jo];grind
  .have:=jk n.j S L z hz
   grind
  .show q r2 H6 (s1.l<|s2.l<|FW.l s6) KQ
inductive spZV(vs:List V)(H:Hp)(Q:VK)(_:XK):Prop
 |mk (w:Str) (_:vs=[.str w]) (_:(w.cps.all λc=>decide<|c<128)=true) (_:w.f<=100000) (_:∀H':Hp,Same H H'->Q (.bl<|Gk w.cps.m) H')
def KD(x y:Str):decide (V.str x=V.str y)=decide (x.cps.m=y.cps.m):=sD.mpr {λe=>J,λe=>by rw[AM e]}
def dz{cs:List Nat}{c:Nat}(h:c∈VZ cs):c∈cs:=by
 unfold VZ at h;split at h
 .show List.mem_of_mem_tail h
 .show h
def dy(cs:List Nat):(VZ cs).f<=cs.f:=by unfold VZ;grind
def Ma{l:List Nat}{f:Nat->Bool}:(l.H λc=>!f c).any id=false↔∀c∈l,f c=true:=by
 simp_all
def dw(T:Txt K mg t):Xs P w base Xz T.qZV 1 spZV:=by
 show T.qZV.okI ["word","figures"] D λXF A outer s H vs Q E hr h=>?_
 .let⟨w,rfl,ha,hl,q⟩:=h;show⟨_,(XO (Zd 1<|GX (RT<|Uq K Qa PySem.F.slot_str_startswith PySem.F.type_str_startswith Zw9 (pv 0)<|XX PN XW) (ZQ jb (pv 0) (Wd XN) Sr)<|pv 0)
   (XO (WN (PW.pt<|Tn (PL<|wd Ti Ti XN (Zc Ze5 rN T.n_len Boot.«len»<|XX (pv 1) XW)<|PM (v:=V.int 60) Z T.g_MOST_FIGURES.choose_spec {_,Z})<|To<|RT<|Zc (av K Z) rN T.n_any Boot.«any»<|XX (US Z (sc0:=Xo<|top 81) (N0:=["word","figures"]) (N':=["sign"]) (o:=1) (fr:=[]) ⟨Z,D,D,D,Z,D⟩ (AS<|pv 1) (Zq AP) (λ_ _ _ _=>(Xm 0)) (λ_ _ _ _=>ZN) λ_ _ _ _=>(Px ZS4 (pv 0) (PM (v:=V.str "0123456789") Z T.g_FIGURES.choose_spec {_,Z}) Z)) XW)
   (XM<|Zk NA)
   Zm)
   (XM<|Zk<|rE (Px Rm (pv 0) PN<|Zo _)<|LK<|Px Ue (ZA qy (pv 1) XN λ_ _=>rfl) PN<|Zo _))),?_⟩
  let hw:=KZ w;let z1:100000<=sizeLine:=AP
  show jz (λσ H'=>H'=H/\∃F:Str,σ=[some (.str w),some (.str F)]/\F.cps.m=VZ w.cps.m) ?_ ?_;rotate_left
  .intro Kn hK;exists _,Z,Z,_,_,Z,Z,_,Z,?_;rw[Zd9];show Xt (λhs=>?_) (λhs=>?_)
   .let Ik:1<=w.cps.m.f:=by
     cases e:w.cps.m with
     |nil=>simp_all
     |cons c r=>simp
    let et:=Zk7 Ik;exists _,Z,_,Z,w,Z,?_,hK _ _ {Z,_,Z,?_}
    .rw[KZ,et,List.length_tail];grind
    .rw[et];unfold VZ;simp_all
   .exists _,Z,hK _ _ {Z,_,Z,?_};unfold VZ;simp_all
  rintro σ H' ⟨rfl,F,rfl,hF⟩;let hFl:=KZ F
  let Oi:=dy w.cps.m;let hFa:(F.cps.all λc=>decide<|c<128)=true:=by rw[<-Array.all_toList,NO]at ha ⊢;intro c hc;rw[hF]at hc;show ha c (dz hc)
  let bad:¬(1<=(VZ w.cps.m).f/\(VZ w.cps.m).f<=60/\∀c∈VZ w.cps.m,48<=c/\c<=57)->∀H2:Hp,Same H' H2->Q (.bl false) H2:=λh H2 s2=>by
   let e:Gk w.cps.m=false:=Fw λz=>h ⟨z.1,z.2.1,z.2.2.1⟩
   simp_all
  exists _,Z,F,Z,J,_,_,Z,Z,_,Z,?_;show Xt (λh1=>?_) λh1=>?_;rotate_left
  .exists _,Z,?_;show UU ?_;show UU ?_;show bad (λz=>h1 J) _ (Same.refl _)
  exists _,_,Z,Z,_,Z,?_;show WQ (λh60=>?_) λh60=>?_;rotate_left
  .show UU ?_;show bad (λz=>h60 J) _ (Same.refl _)
  exists _,Z,F,Z,hFa,ja (λi ys H2=>H2=H'/\ys=((F.cps.m.M i).H λc=>!decide (48<=c/\c<=57)).H V.bl) ⟨Z,Z⟩ B (λi ys H2 _ zz=>by let(_,e):=zz;grind) ?_ ?_
  .rintro i c ys H2 hc ⟨rfl,rfl⟩ S Xy;show Og ?_;exists _,Z,_,_,Z,Z,?_;rw[ZV9];show Xy _ _ {Z,?_};let Vj:F.cps.m[i]?=some c:=by rwa[YM]
   rw[YA,Vj,YB,YB];rfl
  rintro ys H2 ⟨rfl,rfl⟩ p hp;rw[Yv (by show XI _)];exists p,_,Z,SqL.of XZ,_,Z,?_;let s3:=XY (o:=.lst<|(F.cps.m.H λc=>!decide (48<=c/\c<=57)).H V.bl) hp
  generalize upd H2 p (.lst<|(F.cps.m.H λc=>!decide (48<=c/\c<=57)).H V.bl)=H3 at *;cases hb:(F.cps.m.H λc=>!decide (48<=c/\c<=57)).any id with
  |true=>
   show UU ?_;show bad (λz=>?_) _ s3;grind
  |false=>
   show Vr ?_;let Ua:=Ma.R hb
   rw[hF]at Ua hFl;show Qr ?_;cases hf:VZ w.cps.m with
   |nil=>simp_all
   |cons c r=>
    let hF0:Wk F.cps.m 0=some c:=by rw[hF,hf];show Zv (n:=0) AP rfl
    exists _,Z,Z,_,Z,?_;rw[KD];let e0:(Str.ofString "0").cps.m=[48]:=rN
    let fin:∀b:Bool,(b=true↔w.cps.m=[48]\/c≠48)->Q (.bl b) H3:=λb KY=>by
     let e:Gk w.cps.m=b:=by
      rw[Tp,KY];unfold Gk;rw[Qg];constructor
      .grind
      .grind
     simp_all
    show Xt (λh0=>?_) (λh0=>?_)
    .simp_all
    .exists _,Z,F,0,c,Z,Z,B,hF0,Z,?_;rw[KD,e0];grind
inductive spZW(vs:List V)(H:Hp)(Q:VK)(_:XK):Prop
 |mk (i:Int) (_:vs=[.str (nT i)]) (_:-(10^60)<i) (_:i<10^60) (_:∀H':Hp,Same H H'->Q (.int i) H')
def dv(T:Txt K mg t):Xs P w base Xz T.qZW 2 spZW:=by
 show T.qZW.okI ["word"] D λXF A outer s H vs Q E hr h=>?_
 .let⟨i,rfl,h1,h2,q⟩:=h;show⟨_,(XO (WN (PL<|RT<|XC (dw T) hr T.qZV Zs<|XX (pv 0) XW)
   (XM ZV)
   Zm)
   (XM<|Zk<|Zl AU rN T.n_int Boot.«int»<|XX (pv 0) XW)),?_⟩
  let hl:=AL (k:=60) AP h1 h2;exists _,Z,nT i,Z,iZ i,J,λH1 s1=>{_,Z,?_};rw[AQ,i5 h1 h2];show Vr ?_;show Qr ?_;exists _,Z,nT i,i,Z,i8 (k:=60) AP AP h1 h2,J,q H1 s1
inductive spZX(K:Ad)(vs:List V)(H:Hp)(Q:VK)(_:XK):Prop
 |mk (name l:_) (_:vs=[.str (Str.join NX<|name::l.H nT),.str name,.int l.f]) (_:32∉name.cps.m) (_:name.f<=100) (_:l.f<=10) (_:Told l) (_:∀r H',Same H H'->H' r=some (.lst<|IL l)->Q ↑r H')
def xA(T:Txt K mg t):Xs P w base Xz T.qZX 3 (spZX K):=by
 show T.qZX.okI ["line","name","many","words"] D λXF A outer s H vs Q E hr h=>?_
 .let⟨name,l,rfl,hn,Ge,Ve,hl,q⟩:=h;show⟨_,(XO (Zd 3<|Uq K Qa Qb bY ZJ7 (pv 0)<|XX PN XW)
   (XO (WN (PW.pt<|Tn (Zh Ue (ZA (Ze K) (pv 3) XN λ_ _=>rfl) (pv 1)<|Zo _)<|To<|Zh Ue (Zc (Zf K) rN T.n_len Boot.«len»<|XX (pv 3) XW) (Zp UY (pv 2) XN)<|Zo _)
   (XM ZV)
   Zm)
   (XM<|Zk<|US Z (sc0:=Xo<|top 83) (N0:=["line","name","many","words"]) (N':=["word"]) (o:=1) (fr:=[]) ⟨Z,D,D,D,Z,D⟩ (ZD K<|ZQ (ZU K) (pv 3) (Wd XN) Sr) (Zq AP) (λ_ _ _ _=>(Xm 0)) (λ_ _ _ _=>ZN) λ_ _ _ _=>(XC (dv T) hr T.qZW Zs<|XX (pv 0) XW)))),?_⟩
  let Uc:=iW (l:=l) hn;let hlen:(Str.join NX<|name::l.H nT).f<=2000:=by
   rw[ZS8];show Yl (iY (rH:=100) λa ha=>?_) B;rcases Yo.R ha with e|e
   .rw[e];show Ge
   .have:=iX hl a e;lia
  let z1:2000<=sizeLine:=AP;exists _,Z,Z,_,_,Z,Z,Z,J,?_,λp hp=>?_
  .change(Txt.split _ NX).f<=_;grind
  let e:Txt.split (Str.join NX<|name::l.H nT) (Str.ofString " ")=name::l.H nT:=Uc;rw[e];let u1:=XY (o:=.lst<|TL<|name::l.H nT) hp
  let Vu:(upd H p<|.lst<|TL<|name::l.H nT) p=some (.lst<|TL<|name::l.H nT):=XZ;generalize upd H p (.lst<|TL<|name::l.H nT)=H1 at *;show nm ?_;exists _,Z,p,_,0,.str name,Z,Z,SqL.of Vu,Zv (n:=0) AP Z,_,Z,Z,_,Z,?_;show GP Z ?_;exists _,Z,p,_,Z,.inl<|SqL.of Vu,_,Z,_,_,Z,Z,Z,_,Z,?_;rw[Gj,YW,Yb,ZH];show GP (by simp_all) ?_;show Qr ?_;exists _,Z,_,Z,p,_,Z,SqL.of Vu,λp2 Wn=>?_;rw[vj AP];let e2:(TL<|name::l.H nT).drop (1:Int).j=TL (l.H nT):=rfl
  rw[e2];let u2:=XY (o:=.lst<|TL<|l.H nT) Wn
  let UI:(upd H1 p2<|.lst<|TL<|l.H nT) p2=some (.lst<|TL<|l.H nT):=XZ;generalize upd H1 p2 (.lst<|TL<|l.H nT)=H2 at *;exists p2,Z,{_,SqL.of UI},Wc (K:=K) (a:=p2) (xs:=TL<|l.H nT) (λi ys H3=>Same H2 H3/\ys=IL (l.M i)) {Same.refl _,Z} (Zi<|by rw[Gj,Yb];lia) (λi ys H3 _ zz=>by let(e,ey):=zz;exists SqL.of<|e _ _ UI,B) ?_ ?_
  .rintro i v ys H3 hi ⟨s3,rfl⟩ S Xy;let(x,rfl,hx):=AB hi;rw[Yn]at hx;let(z,hz,rfl):=Option.map_eq_some_iff.R hx;let hb:=hl z (Xf hz)
   show Og ?_;exists _,Z,z,Z,hb.1,hb.2,λH4 s4=>Xy _ _ {s3.l s4,?_};rw[YA,hz]
   simp_all
  rintro ys H3 ⟨s3,rfl⟩ p3 QJ;rw[Gj,Yb,Yy];show q p3 _ (u1.l<|u2.l<|s3.l<|XY QJ) XZ
inductive spZY(K:Ad)(C:Addr)(vs:List V)(H:Hp)(Q:VK)(_:XK):Prop
 |mk (n ps ls:_) (_:vs=[.str (QQ n ps ls)]) (_:GoodW n ps) (_:ls.f=ps.f) (_:Told ls) (_:∀t w a H',Same H H'->H a=none->H' t=some (.tup [.ref w,.ref a])->WebAt C H' w n ps->H' a=some (.lst<|IL ls)->Q ↑t H')
def du:FnScope ["text","lines","places","ties"] ["text"] (Xo (top 84)):=TQ D
def dt(T:Txt K mg t):Xs P w base Xz T.qZY 4 (spZY K t.A_Web):=by
 show T.qZY.okI ["text","lines","places","ties"] D λXF A outer s H vs Q E hr h=>?_
 .let⟨n,ps,ls,rfl,hG,hl,hT,q⟩:=h;show⟨_,(XO (Zd 1<|Uq K Qa Qb bY ZJ7 (pv 0)<|XX PN XW)
   (XO (Zd 2<|XC (xA T) hr T.qZX Zs<|XX (ZA (Ze K) (pv 1) XN λ_ _=>rfl)<|XX PN<|XX XN XW)
   (XO (Rg (i:=3) Z du.nd Z Z (sc0:=Xo<|top 84) (N0:=["text","lines","places","ties"]) (N':=["line"]) (o:=1) (fr:=[]) ⟨Z,D,D,D,Z,D⟩ (ZD K<|ZQ (ZU K) (pv 1) (Wd XN) Sr) (Zq AP) (λ_ _ _ _=>(Xm 0)) (λ_ _ _ _=>ZN) λ_ _ _ _=>(XC (xA T) hr T.qZX Zs<|XX (pv 0)<|XX PN<|XX XN XW))
   (XM<|Zk<|ZZ<|XX (JO T.k_Web (Mp T) (hr.mono AP) Z T.c_Web T.bZ8 .nil Zs<|XX (ZA (Ze K) (pv 2) XN λ_ _=>rfl)<|XX (US Z (sc0:=Xo<|top 84) (N0:=["text","lines","places","ties"]) (N':=["tie"]) (o:=1) (fr:=[]) ⟨Z,D,D,D,Z,D⟩ (ZD K<|pv 3) (Zq AP) (λ_ _ _ _=>(Xm 0)) (λ_ _ _ _=>ZN) λ_ _ _ _=>(ZZ<|XX (ZA (Ze K) (pv 0) XN λ_ _=>rfl)<|XX (ZA (Ze K) (pv 0) XN λ_ _=>rfl) XW)) XW)<|XX (US Z (sc0:=Xo<|top 84) (N0:=["text","lines","places","ties"]) (N':=["tie"]) (o:=1) (fr:=[]) ⟨Z,D,D,D,Z,D⟩ (ZD K<|pv 3) (Zq AP) (λ_ _ _ _=>(Xm 0)) (λ_ _ _ _=>ZN) λ_ _ _ _=>(ZA (Ze K) (pv 0) XN λ_ _=>rfl)) XW)))),?_⟩
  let dr:=hG.2.2.1;let Od:=hG.1
  let RS:=hG.2.1;let two:2<=sizeLine:=AP
  let z1:100000<=sizeLine:=AP;let wl:=IB (n:=n) hl
  let Uc:=AD (n:=n) (ps:=ps) (ls:=ls);let tlen:(QQ n ps ls).f<=100000:=by unfold QQ;rw[i3];show Yl (iY (rH:=400)<|Az hG hT) (by rw[wl];lia)
  exists _,Z,Z,_,_,Z,Z,Z,J,?_,λp hp=>?_
  .change(Txt.split _ uJ).f<=_;lia
  let e:Txt.split (QQ n ps ls) (Str.ofString "\n")=Wg n ps ls:=Uc;rw[e];let u1:=XY (o:=.lst<|TL<|Wg n ps ls) hp
  let Vu:(upd H p<|.lst<|TL<|Wg n ps ls) p=some (.lst<|TL<|Wg n ps ls):=XZ;show nm ?_;exists _,Z,p,_,0,.str<|Str.ofString "places "++nT n,Z,Z,SqL.of Vu,Zv (n:=0) AP Z,Str.ofString "places",[n],rN,AP,AP,(show 1<=10 by decide),λz hz=>B,λpA H2 s2 Ij=>?_;show nm ?_;let Wn:=s2 _ _ Vu
  exists _,Z,_,Z,p,_,Z,SqL.of Wn,λp2 UI=>?_;rw[vj AP];let e2:(TL<|Wg n ps ls).drop (1:Int).j=TL (List.zipWith Qo ps ls):=rfl
  rw[e2];let u3:=XY (o:=.lst<|TL<|List.zipWith Qo ps ls) UI
  let h3:(upd H2 p2<|.lst<|TL<|List.zipWith Qo ps ls) p2=some (.lst<|TL<|List.zipWith Qo ps ls):=XZ;let dq:=u3 _ _ Ij
  generalize upd H2 p2 (.lst<|TL<|List.zipWith Qo ps ls)=H3 at *;let zl:(List.zipWith Qo ps ls).f=ps.f:=by rw[Kx];simp_all
  obtain⟨R,hR⟩:∃R,R=List.zipWith (λ(p:Int×Int) l=>[p.1,p.2,l]) ps ls:={_,Z};let Rl:R.f=ps.f:=by rw[hR,Kx];grind
  let Rat:∀(i:Nat)(p:Int×Int)(l:Int),ps[i]?=some p->ls[i]?=some l->R[i]?=some [p.1,p.2,l]:=λi p l h1 h2=>by rw[hR,LV,h1,h2]
  exists p2,Z,{_,SqL.of h3},Wc (K:=K) (a:=p2) (xs:=TL<|List.zipWith Qo ps ls) (λi ys H4=>Same H3 H4/\i<=ps.f/\Bears (RO H4) ys (R.M i)) {Same.refl _,Yc _,{Z,λi a e=>by simp at e}} (Zi<|by rw[Gj,zl];lia) (λi ys H4 _ zz=>by let(e,hi,h):=zz;show{SqL.of<|e _ _ h3,by rw[h.1,Yu];simp_all}) ?_ ?_
  .rintro i v ys H4 hi ⟨s4,Vm,hB⟩ S Xy;let(x,rfl,hx):=AB hi;let Ws:i<ps.f:=by rw[<-zl];show(Xv.R hx).1
   obtain⟨pp,Sd⟩:∃pp,ps[i]?=some pp:={_,Xw Ws};obtain⟨l,Ve⟩:∃l,ls[i]?=some l:={_,Xw<|by simp_all};rw[LV,Sd,Ve]at hx;let rfl:Qo pp l=x:=Ym hx;show Og ?_;exists _,Z,Str.ofString "tie",[pp.1,pp.2,l],Z,AP,AP,(show 3<=10 by decide),iT hG hT Sd Ve,λr H5 s5 hr=>Xy _ _ {s4.l s5,Ws,?_};rw[YA,Rat i pp l Sd Ve];show(hB.imp λ_ _ zz=>by let(r,e,h):=zz;exists r,e,s5 _ _ h).snoc ⟨r,Z,hr⟩
  rintro ys H4 ⟨s4,_,hB⟩ p3 QJ;rw[Gj,zl,Yv (by simp_all)]at hB;let u5:=XY (o:=.lst ys) QJ
  let h5:(upd H4 p3<|.lst ys) p3=some (.lst ys):=XZ;let dk:Bears (RO<|upd H4 p3<|.lst ys) ys R:=hB.imp λ_ _ zz=>by let(r,e,h):=zz;exists r,e,u5 _ _ h
  let di:=(s4.l u5) _ _ dq;let sH5:=u1.l (s2.l<|u3.l<|s4.l u5)
  generalize upd H4 p3 (.lst ys)=H5 at *;let Tu:=dk.1
  show nm ?_;let xw:∀i row,R[i]?=some row->∃(p:Int×Int)(l:Int),ps[i]?=some p/\ls[i]?=some l/\row=[p.1,p.2,l]:=λi row h=>by
   let Ws:i<ps.f:=by rw[<-Rl];show(Xv.R h).1
   obtain⟨pp,Sd⟩:∃pp,ps[i]?=some pp:={_,Xw Ws};obtain⟨l,Ve⟩:∃l,ls[i]?=some l:={_,Xw<|by simp_all};rw[Rat i pp l Sd Ve]at h;exists pp,l,Sd,Ve,(Ym h).symm
  exists _,Z,pA,_,0,.int n,Z,Z,SqL.of di,Zv (n:=0) AP Z,_,Z,p3,Z,{_,SqL.of h5},Wc (K:=K) (a:=p3) (xs:=ys) (λi us H6=>Same H5 H6/\i<=ys.f/\PairsV H6 us (ps.M i)) {Same.refl _,Yc _,PairsV.nil} (Zi J) (λi us H6 _ zz=>by let(e,hi,h):=zz;show{SqL.of<|e _ _ h5,by rw[h.1,Yu];simp_all}) ?_ ?_
  .rintro i v us H6 hi ⟨s6,Vm,hU⟩ S Xy;let(row,HG,r,rfl,hr):=dk.at hi;let(pp,l,Sd,Ve,rfl):=xw i row HG;let Xn:=(Xv.R hi).1
   show Og ?_;exists _,Z,r,_,0,.int pp.1,Z,Z,SqL.of<|s6 _ _ hr,Zv (n:=0) AP Z,_,Z,r,_,1,.int pp.2,Z,Z,SqL.of<|s6 _ _ hr,Zv (n:=1) AP Z,two,λc hc=>Xy _ _ {s6.l<|XY hc,Xn,?_};rw[YA,Sd];show(hU.same<|XY hc).snoc ⟨c,Z,XZ⟩
  rintro us H6 ⟨s6,_,hU⟩ lA dY;rw[Tu,Rl,Yy]at hU;let u7:=XY (o:=.lst us) dY
  let h7:(upd H6 lA<|.lst us) lA=some (.lst us):=XZ;let hU7:=hU.same u7
  let TN:=s6.l u7;generalize upd H6 lA (.lst us)=H7 at *;intro x dx nx Sy QG;let t1:Same H7 (upd (upd H7 dx<|.own x) x<|.ins t.A_Web dx []):=Zr (XY Sy) (by rwa[Zb (XH QG)])
  exists x,dx,n,lA,false,us,ps,Z,XZ,λo=>?_,hU7.same t1,hG,λH8 hW k3=>{Z,?_}
  .show(Zt nx t1).seq (SqL.of h7)
  let s8:Same H7 H8:=λb o e=>k3 b o (t1 b o e) (Za e nx);let h8:=(TN.l s8) _ _ h5
  let hB8:Bears (RO H8) ys R:=dk.imp λ_ _ zz=>by let(r,e,h):=zz;exists r,e,(TN.l s8) _ _ h
  exists _,Z,p3,Z,{_,SqL.of h8},Wc (K:=K) (a:=p3) (xs:=ys) (λi us H9=>H9=H8/\us=IL (ls.M i)) ⟨Z,Z⟩ (Zi J) (λi us H9 _ zz=>by let(e,h):=zz;show{e▸SqL.of h8,by simp_all}) ?_ ?_
  .rintro i v us H9 hi ⟨rfl,rfl⟩ S Xy;let(row,HG,r,rfl,hr):=hB8.at hi;let(pp,l,Sd,Ve,rfl):=xw i row HG;show Og ?_;exists _,Z,r,_,2,.int l,Z,Z,SqL.of hr,Zv (n:=2) AP Z,Xy _ _ {Z,?_};rw[YA,Ve];grind
  rintro us9 H9 ⟨rfl,rfl⟩ aA haA;rw[Tu,Rl,<-hl,Yy];let u9:=XY (o:=.lst<|IL ls) haA
  let sH9:=sH5.l (TN.l s8);exists two,λtA SV=>?_;let dh:=XY (o:=.tup [.ref x,.ref aA]) SV
  show q tA x aA _ (sH9.l<|u9.l dh) (sH9.free haA) XZ (hW.same<|u9.l dh) (dh _ _ XZ)
inductive spZZ(K:Ad)(vs:List V)(H:Hp)(Q:VK)(_:XK):Prop
 |mk (a ns k:_) (_:vs=[.ref a,.int k]) (_:SqL K H a (IL ns)) (_:0<=k) (_:∀r:Int,0<=r->r<10^60->Q (.int r) H)
def df(T:Txt K mg t):Xs P w base Xz T.qZZ 1 (spZZ K):=by
 show T.qZZ.okI ["script","k"] D λXF A outer s H vs Q E hr h=>?_
 .let⟨a,ns,k,rfl,hS,hk,q⟩:=h;show⟨_,(XO (WN (Zh Qy (pv 1) (Zc (Zf K) rN T.n_len Boot.«len»<|XX (pv 0) XW)<|Zo _)
   (XM<|Zk<|Zp ZX (ZA (Ze K) (pv 0) (pv 1) λ_ _=>rfl)<|Zp JU XN XN)
   Zm)
   (XM<|Zk XN)),?_⟩
  exists _,Z,_,Z,a,_,Z,.inl hS,_,_,Z,Z,_,Z,?_;show Eb (λhc=>?_) (λ_=>?_)
  .obtain⟨z,hz⟩:∃z,ns[k.j]?=some z:={_,Xw<|by simp_all};exists _,Z,_,Z,a,_,k,.int z,Z,Z,hS,Zv (n:=k.j) J (by rw[Yn,hz];rfl),_,_,Z,Z,⟨AP,AP,AP⟩,_,_,Z,Z,?_,?_
   .simp_all
   grind
  .show q 0 AP AP
inductive spZ01(vs:List V)(H:Hp)(Q:VK)(_:XK):Prop
 |mk (c k:_) (_:vs=[.int c,.int k]) (_:∀r:Int,0<=r->r<2147483587->Q (.int r) H)
def xu(T:Txt K mg t):Xs P w base Xz T.qZ01 1 spZ01:=by
 show T.qZ01.okI ["cell","k","first","second"] D λXF A outer s H vs Q E hr h=>?_
 .let⟨c,k,rfl,q⟩:=h;show⟨_,(XO (Zd 2<|Zp ZX (Zp PB (Zp UY (Zp UY (pv 0)<|Zp PB XN<|pv 1) XN) XN) XN)
   (XO (Zd 3<|Zp ZX (Zp UY (Zp UY (Zp PB (pv 2)<|pv 2)<|Zp PB XN<|pv 1) XN) XN)
   (XM<|Zk<|Zp Pz (Zp ZX (Zp PB (pv 3)<|pv 3) XN) XN))),?_⟩
  exists _,Z,_,Z,_,_,Z,Z,.inl ⟨AP,AP⟩,_,_,Z,Z,_,_,Z,Z,_,_,Z,Z,.inr ⟨AP,AP⟩,_,_,Z,Z,(by simp_all),?_;exists _,Z,_,Z,_,_,Z,Z,.inl ⟨B,B⟩,_,Z,_,_,Z,Z,.inl ⟨AP,AP⟩,_,_,Z,Z,_,_,Z,Z,_,_,Z,Z,(by simp_all),?_;exists _,Z,_,Z,_,_,Z,Z,.inl ⟨B,B⟩,_,_,Z,Z,(by simp_all),_,_,Z,Z,⟨AP,AP⟩,?_;grind
def de{p:Int->Prop}{l:Ac}{x:Int}(h:∀z∈l,p z)(hx:p x):∀z∈l++[x],p z:=λz hz=>by grind
inductive spZ11(K:Ad)(vs:List V)(H:Hp)(Q:VK)(_:XK):Prop
 |mk (a:Addr) (ns:Ac) (st c:Nat) (way:Int) (_:vs=[.ref a,.int st,.int c,.int way]) (_:SqL K H a (IL ns)) (_:ns.f<=63) (_:st<=63) (_:c<=100) (_:∀l ds H',Same H H'->H l=none->H' l=some (.lst<|IL ds)->ds.f=c->(∀z∈ds,0<=z)->Q ↑l H')
def xt:FnScope ["script","start","count","way","total","folded","k","at","told"] ["script","start","count","way"] (Xo (top 88)):=TQ D
def dc(T:Txt K mg t):Xs P w base Xz T.qZ11 2 (spZ11 K):=by
 show T.qZ11.okI ["script","start","count","way","total","folded","k","at","told"] D λXF A outer s H vs Q E hr h=>?_
 .let⟨a,ns,st,c,way,rfl,hS,hn,Wr,hc,q⟩:=h;show⟨_,(XO (Zd 4<|Zp ZX (Zc (aH K Z) rN T.n_sum Boot.«sum»<|XX (US Z (sc0:=Xo<|top 88) (N0:=["script","start","count","way","total","folded","k","at","told"]) (N':=["cell"]) (o:=1) (fr:=[]) ⟨Z,D,D,D,Z,D⟩ (ZD K<|ZQ (ZU K) (pv 0) (Wd<|pv 1) Sr) (Zq AP) (λ_ _ _ _=>(Xm 0)) (λ_ _ _ _=>ZN) λ_ _ _ _=>(Zp ZX (pv 0)<|Zp JU XN XN)) XW)<|Zp JU XN XN)
   (XO (Rg (i:=5) Z xt.nd Z Z (sc0:=Xo<|top 88) (N0:=["script","start","count","way","total","folded","k","at","told"]) (N':=["k"]) (o:=1) (fr:=[]) ⟨Z,D,D,D,Z,D⟩ (ZB Z T.n_range<|XX (pv 2) XW) (Zq AP) (λ_ _ _ _=>(Xm 0)) (λ_ _ _ _=>ZN) λ_ _ _ _=>(Zp UY (Zp PB XN<|pv 0) XN))
   (XO (WT YH Z (bu Z T.n_range<|XX (pv 1)<|XX (Zc (Zf K) rN T.n_len Boot.«len»<|XX (pv 0) XW) XW) (Xm 6)
   (XO (Zd 7<|Zp ZX (pv 6)<|Zc (wc Z) rN T.n_max Boot.«max»<|XX XN<|XX (pv 2) XW)
   (XM (WN (Zh Oo (pv 2) XN<|Zo _)
   (XM<|Tj (Zp ZX (Zp UY (Zp PB (ZA (Ze K) (pv 5) (pv 7) λ_ _=>rfl) XN)<|ZA (Ze K) (pv 0) (pv 6) λ_ _=>rfl)<|Zp JU XN XN)<|EV (pv 5) (pv 7) Nr)
   Zm))))
   (XO (Zd 8<|WR XW)
   (XO (WT YH Z (ZB Z T.n_range<|XX (pv 2) XW) (Xm 6)
   (XM (WN (PW.pt<|GY (Zh Rm (pv 3) XN<|Zo _)<|GZ<|Zh Oo (pv 4) XN<|Zo _)
   (XO (ZW<|Uq K QP NR NS Np (pv 8)<|XX (Zp ZX (pv 4) XN) XW)
   (XM<|Zd 4<|Zp Pz (pv 4) XN))
   (XM<|ZW<|Uq K QP NR NS Np (pv 8)<|XX (XC (xu T) hr T.qZ01 Zs<|XX (ZA (Ze K) (pv 5) (pv 6) λ_ _=>rfl)<|XX (pv 6) XW) XW))))
   (XM<|Zk<|pv 8)))))),?_⟩
  exists _,Z,_,Z,(st:Int),Z,a,IL ns,Z,hS,λl1 SW=>?_;let s1:Same H (upd H l1<|.lst<|XG (IL ns) (some (st:Int)) none):=XY SW
  obtain⟨ms,hms,Ds⟩:∃ms:Ac,XG (IL ns) (some (st:Int)) none=IL ms/\ms.f<=63:=by
   exists (ns.drop<|HT.UB (IL ns).f 0 (some (st:Int))).M (HT.UB (IL ns).f (IL ns).f none-HT.UB (IL ns).f 0 (some (st:Int))),?_,?_
   .unfold XG;rw[DN,pf]
   .rw[Yu,RZ];lia
  show⟨l1,Z,{_,SqL.of XZ},Wc (K:=K) (a:=l1) (xs:=XG (IL ns) (some (st:Int)) none) (λi ys H2=>H2=upd H l1 (.lst<|XG (IL ns) (some (st:Int)) none)/\∃rs:Ac,ys=IL rs/\rs.f=i/\i<=ms.f) {Z,[],Z,Z,Yc _} (by rw[hms,Xh];show Zi J)
   (λi ys H2 _ zz=>by let(e,rs,ey,el,_):=zz;show{e▸SqL.of XZ,by simp_all}) ?_ ?_⟩
  .rintro i x ys H2 hi ⟨rfl,rs,rfl,el,Vm⟩ S Xy;rw[hms]at hi;let(z,rfl,hz):=UL hi;let Xx:=(Xv.R hz).1
   show Og ?_;exists _,Z,_,_,Z,Z,⟨AP,AP,AP⟩,_,_,Z,Z,(by simp_all),?_;show Xy _ _ {Z,rs++[z%10^60],?_,?_,Xx}
   .show(Wh _ _).symm
   simp_all
  .rintro ys H2 ⟨rfl,rs,rfl,el,_⟩ l2 SI;let s2:=Zr (o:=.lst<|IL rs) s1 SI
   exists l2,rs,Z,SqL.of XZ,_,_,Z,Z,⟨AP,AP,AP⟩,_,_,Z,Z,(by simp_all),?_;let t0:0<=rs.sum%(10:Int)^((60:Int).j):=Qe _ AP
   show⟨_,Z,(c:Int),Z,by simp_all,J,LB (lo:=0) (n:=((c:Int)).j) (λi ys H3=>H3=upd (upd H l1<|.lst<|XG (IL ns) (some (st:Int)) none) l2 (.lst<|IL rs)/\∃fs:Ac,ys=IL fs/\fs.f=i) {Z,[],Z,Z} (Zi J)
    (λi ys H3 _ zz=>by let(_,fs,e,el):=zz;simp_all) ?_ ?_⟩
   .rintro i ys H3 hi ⟨rfl,fs,rfl,FR⟩ S Xy;show Og ?_;exists _,Z,_,_,Z,Z,.inl ⟨AP,AP⟩,_,_,Z,Z,?_;show Xy _ _ {Z,fs++[7*(0+(i:Int))+5],?_,?_}
    .show(Wh _ _).symm
    .rw[Xe,FR];rfl
   .rintro ys H3 ⟨rfl,fs,rfl,FR⟩ l3 Tt;let s3:=Zr (o:=.lst<|IL fs) s2 Tt
    let c9:H l3=none:=s2.free Tt;exists _,Z,_,Z,a,_,Z,.inl<|s3.seq hS,(st:Int),((IL ns).f:Int),Z,{by simp_all,J,by simp_all,by rw[Xh];lia},?_;show ZY (lo:=(st:Int)) (n:=(((IL ns).f:Int)-(st:Int)).j) (λj σ H4=>∃fs v6 v7,σ=[some ↑a,some<|.int st,some<|.int c,some<|.int way,some<|.int<|rs.sum%(10:Int)^((60:Int).j),some<|.ref l3,v6,v7,none]/\Same H H4/\H4 l3=some (.lst<|IL fs)/\fs.f=c)
     {fs,none,none,Z,s3,XZ,by rw[FR];simp} ?_ ?_
    .rintro j σ H4 hj ⟨gs,v6,v7,rfl,s4,h4,eg⟩;rw[Xh]at hj;exists _,Z,_,Z,_,_,Z,_,_,Z,Z,?_,?_
     .lia
     .exists _,Z,_,_,Z,Z,_,Z,?_;show Xt (λQk=>?_) (λQk=>?_)
      .let c8:(if (c:Int)>1 then (c:Int) else 1)=(c:Int):=by split<;>lia
       let at0:0<=((st:Int)+(j:Int))%(c:Int):=Qe _ J;let at1:((st:Int)+(j:Int))%(c:Int)<(c:Int):=Ku _ Qk
       rw[c8];generalize xr:((st:Int)+(j:Int))%(c:Int)=at' at *;obtain⟨f,hf⟩:∃f,gs[at'.j]?=some f:={_,Xw<|by simp_all};obtain⟨z,hz⟩:∃z,ns[st+j]?=some z:={_,Xw J};exists _,Z,_,Z,l3,_,_,_,Z,Z,SqL.of h4,Zv (n:=at'.j) J (by rw[Yn,hf];rfl),_,_,Z,Z,.inr ⟨AP,AP⟩,_,Z,_,Z,a,_,_,_,Z,Z,s4.seq hS,Zv (n:=st+j) (by simp_all) (by rw[Yn,hz];rfl),_,_,Z,Z,_,_,Z,Z,⟨AP,AP,AP⟩,_,_,Z,Z,J,?_;exists _,Z,_,Z,l3,_,_,at'.j,Z,Z,h4,?_,?_
       .try rw[xr]
        unfold Ri
        simp_all
       .show{gs.set at'.j<|(f*31+z)%(10:Int)^((60:Int).j),_,_,Z,Zt c9 s4,?_,by simp_all};rw[XZ,JC]
      .exists gs,_,_,Z,s4,h4,eg
    .rintro σ H4 ⟨gs,v6,v7,rfl,s4,h4,eg⟩;exists Yc _,λl5 LZ=>?_;let Sa:H l5=none:=s4.free LZ
     let FP:l3≠l5:=Za h4 LZ;show⟨_,Z,(c:Int),Z,J,J,ZY (lo:=0) (n:=((c:Int)).j) (λj σ H6=>∃xq ds v6 v7,σ=[some ↑a,some<|.int st,some<|.int c,some<|.int way,some<|.int xq,some<|.ref l3,v6,v7,some ↑l5]/\Same H H6/\H6 l3=some (.lst<|IL gs)/\H6 l5=some (.lst<|IL ds)/\ds.f=j/\(∀z∈ds,0<=z)/\0<=xq)
      {_,[],_,_,Z,Zr s4 LZ,by rw[Zb FP];show h4,XZ,Z,λz hz=>(by cases hz),t0} ?_ ?_⟩
     .rintro j σ H6 hj ⟨xq,ds,w6,w7,rfl,s6,Lu,KC,edl,Ni,HD⟩;let app:∀r:Int,(upd H6 l5<|.lst<|IL ds++[.int r]) l5=some (.lst<|IL<|ds++[r]):=λr=>by rw[XZ,Wh]
      let HA:(IL ds).f<sizeLine:=by rw[Xh];show Zi J
      obtain⟨f,hf⟩:∃f,gs[j]?=some f:={_,Xw<|by simp_all};exists _,Z,Z,_,Z,?_;show Xt (λhw=>?_) (λhw=>?_)
      .exists _,Z,_,_,Z,Z,_,Z,?_;show Xt (λyH=>?_) (λyH=>?_)
       .exists _,Z,.inl {Z,_,SqL.of KC},_,Z,_,_,Z,Z,(by simp_all),l5,_,_,Z,Z,KC,HA,?_;exists _,Z,_,_,Z,Z,⟨AP,AP⟩,?_;show{_,ds++[xq%210],_,_,Z,Zt Sa s6,by rw[Zb FP];show Lu,app _,by simp_all,de Ni<|Qe _ AP,?_};lia
       .exists _,Z,.inl {Z,_,SqL.of KC},_,Z,_,Z,l3,_,_,_,Z,Z,SqL.of Lu,Zv (n:=j) (by simp_all) (by rw[Yn,hf];rfl),_,Z,_,_,Z,λr r0 r1=>?_;exists l5,_,_,Z,Z,KC,HA,?_;exists _,ds++[r],_,_,Z,Zt Sa s6,by rw[Zb FP];show Lu,app _,by simp_all,de Ni r0,HD
      .exists _,Z,.inl {Z,_,SqL.of KC},_,Z,_,Z,l3,_,_,_,Z,Z,SqL.of Lu,Zv (n:=j) J (by rw[Yn,hf];rfl),_,Z,_,_,Z,λr r0 r1=>?_;exists l5,_,_,Z,Z,KC,HA,?_;exists _,ds++[r],_,_,Z,Zt Sa s6,by rw[Zb FP];show Lu,app _,by simp_all,de Ni r0,HD
     .rintro σ H6 ⟨xq,ds,w6,w7,rfl,s6,Lu,KC,edl,Ni,HD⟩;exists _,Z,q l5 ds H6 s6 Sa KC (by simp_all) Ni
def PairsV.good{H:Hp}{xs:List V}{ps:Aa}{v:V}{p:Int×Int}{n:Int}(h:∀p∈ps,0<=p.1/\p.1<n/\0<=p.2/\p.2<n)(hp:0<=p.1/\p.1<n/\0<=p.2/\p.2<n):∀q∈ps++[p],0<=q.1/\q.1<n/\0<=q.2/\q.2<n:=λq hq=>by
 rcases Xk.R hq with z|z
 .show h q z
 .rw[Xc.R z];show hp
inductive spZ21(K:Ad)(vs:List V)(H:Hp)(Q:VK)(_:XK):Prop
 |mk (a ds n hang:_) (_:vs=[.ref a,.int n,.bl hang]) (_:SqL K H a (IL ds)) (_:ds.f<=100) (_:(∀z∈ds,0<=z)) (_:1<=n) (_:n<=1000) (_:∀l xs ps H',Same H H'->H l=none->H' l=some (.lst xs)->PairsV H' xs ps->ps.f=ds.f->(∀p∈ps,0<=p.1/\p.1<n/\0<=p.2/\p.2<n)->Q ↑l H')
def c7(T:Txt K mg t):Xs P w base Xz T.qZ21 1 (spZ21 K):=by
 show T.qZ21.okI ["draws","places","hang","ties","k","one","other","ends","turn"] D λXF A outer s H vs Q E hr h=>?_
 .let⟨a,ds,n,hang,rfl,hS,ko,Ni,n1,n2,q⟩:=h;show⟨_,(XO (Zd 3<|WR XW)
   (XO (WT YH Z (ZB Z T.n_range<|XX (Zc (Zf K) rN T.n_len Boot.«len»<|XX (pv 0) XW) XW) (Xm 4)
   (XO (Zd 5<|Zp ZX (ZA (Ze K) (pv 0) (pv 4) λ_ _=>rfl)<|pv 1)
   (XO (Zd 6<|Zp ZX (Zp Pz (ZA (Ze K) (pv 0) (pv 4) λ_ _=>rfl)<|pv 1)<|pv 1)
   (XO (WN (PW.pt<|GY (RT<|pv 2)<|GZ<|Zh Qy (pv 4) (Zp TF (pv 1) XN)<|Zo _)
   (XO (Zd 7<|ZZ<|XX (Zp ZX (ZA (Ze K) (pv 0) (pv 4) λ_ _=>rfl)<|Zp UY (pv 4) XN)<|XX (Zp UY (pv 4) XN) XW)
   (XO (Zd 5<|ZA (ZC K) (pv 7) (Zp ZX (Zp Pz (ZA (Ze K) (pv 0) (pv 4) λ_ _=>rfl) XN) XN) λ_ _=>rfl)
   (XM<|Zd 6<|ZA (ZC K) (pv 7) (Zp TF XN<|Zp ZX (Zp Pz (ZA (Ze K) (pv 0) (pv 4) λ_ _=>rfl) XN) XN) λ_ _=>rfl)))
   Zm)
   (XM<|ZW<|Uq K QP NR NS Np (pv 3)<|XX (ZZ<|XX (pv 5)<|XX (pv 6) XW) XW)))))
   (XO (Zd 8<|Zp ZX (Zc (aH K Z) rN T.n_sum Boot.«sum»<|XX (pv 0) XW)<|Zc (wc Z) rN T.n_max Boot.«max»<|XX XN<|XX (Zc (Zf K) rN T.n_len Boot.«len»<|XX (pv 3) XW) XW)
   (XM<|Zk<|Zp JJ (ZQ (ZU K) (pv 3) (Wd<|pv 8) Sr)<|ZQ (ZU K) (pv 3) Sr<|Wd<|pv 8)))),?_⟩
  exists Yc _,λl hl=>?_;show⟨_,Z,a,_,Z,.inl<|(XY hl).seq hS,_,Z,by simp_all,B,ZY (lo:=0) (n:=((IL ds).f:Int).j) (λi σ H2=>∃xs ps v4 v5 v6 v7,σ=[some ↑a,some<|.int n,some<|.bl hang,some<|.ref l,v4,v5,v6,v7,none]/\Same H H2/\H2 l=some (.lst xs)/\PairsV H2 xs ps/\ps.f=i/\∀p∈ps,0<=p.1/\p.1<n/\0<=p.2/\p.2<n)
   {[],[],none,none,none,none,Z,XY hl,XZ,PairsV.nil,Z,λp hp=>(by cases hp)} ?_ ?_⟩
  .rintro i σ H2 hi ⟨xs,ps,v4,v5,v6,v7,rfl,s2,h2,hP,Mt,hb⟩;let Ww:i<ds.f:=by rw[Xh]at hi;simp_all
   obtain⟨d,hd⟩:∃d,ds[i]?=some d:={_,Xw Ww};let iD:Wk (IL ds) (0+(i:Int))=some (.int d):=Zv (n:=i) J (WK hd)
   let xl:xs.f<sizeLine:=Zi (by rw[hP.1];lia);let put:∀x y H3 r,Same H2 H3->H3 r=none->0<=x->x<n->0<=y->y<n->∀u5 u6 u7:Option V,∃xs' c6 v4 v5 v6 v7,
     ([some ↑a,some<|.int n,some<|.bl hang,some<|.ref l,some<|.int<|0+(i:Int),u5,u6,u7,none]:List (Option V))=[some ↑a,some<|.int n,some<|.bl hang,some<|.ref l,v4,v5,v6,v7,none]/\
     Same H (upd (upd H3 r<|.tup [.int x,.int y]) l<|.lst<|xs++[.ref r])/\(upd (upd H3 r<|.tup [.int x,.int y]) l<|.lst<|xs++[.ref r]) l=some (.lst xs')/\PairsV (upd (upd H3 r<|.tup [.int x,.int y]) l<|.lst<|xs++[.ref r]) xs' c6/\c6.f=i+1/\∀p∈c6,0<=p.1/\p.1<n/\0<=p.2/\p.2<n:=by
    intro x y H3 r s3 hr x0 x1 y0 y1 u5 u6 u7;let h3:=s3 _ _ h2
    let s4:=Zr (o:=.tup [.int x,.int y]) s3 hr;let nlr:l≠r:=Za h3 hr
    show{xs++[.ref r],ps++[(x,y)],_,_,_,_,Z,Zt hl<|s2.l s4,XZ,?_,by rw[Xe,Mt];rfl,PairsV.good (H:=H) (xs:=[]) (v:=.non) hb ⟨x0,x1,y0,y1⟩};let tJ:PairsV (upd H3 r<|.tup [.int x,.int y]) (xs++[.ref r]) (ps++[(x,y)]):=(hP.same s4).snoc ⟨r,Z,XZ⟩
    exists tJ.1,λj p e=>?_;let(v,e1,tt,e2,e3):=tJ.2 j p e;exists v,e1,tt,e2,by rwa[Zb (PR e3 (s4 _ _ h2) (λz=>nomatch z))]
   exists _,Z,_,Z,a,_,_,_,Z,Z,s2.seq hS,iD,_,Z,_,_,Z,Z,J,?_;exists _,Z,_,Z,a,_,_,_,Z,Z,s2.seq hS,iD,_,Z,_,_,Z,Z,⟨B,J⟩,_,Z,_,_,Z,Z,J,?_;let o0:0<=d%n:=Qe _ J
   let o1:d%n<n:=Ku _ B;let q0:0<=d/n%n:=Qe _ J
   let q1:d/n%n<n:=Ku _ rO;exists _,Z,_,Z,?_;show o8 (λhh=>?_) (λhh=>?_)
   .exists _,Z,_,Z,_,_,Z,Z,_,_,Z,Z,_,Z,?_;show Xt (λhk=>?_) (λhk=>?_)
    .let k1:(0:Int)<0+(i:Int)+1:=by simp_all
     let r0:0<=d%(0+(i:Int)+1):=Qe _ J;let r1:d%(0+(i:Int)+1)<0+(i:Int)+1:=Ku _ k1
     exists _,Z,_,Z,a,_,_,_,Z,Z,s2.seq hS,iD,_,Z,_,_,Z,Z,_,_,Z,Z,k1,_,Z,_,_,Z,Z,(by change 2<=sizeLine;decide),λe he=>?_;let se:=XY (o:=.tup [.int (d%(0+(i:Int)+1)),.int (0+(i:Int)+1)]) he
     obtain⟨x,hx,x0,x1⟩:∃x:Int,Wk ([.int (d%(0+(i:Int)+1)),.int (0+(i:Int)+1)]:List V) (d/105%2)=some (.int x)/\0<=x/\x<n:=by
      rcases(by lia:d/105%2=0\/d/105%2=1) with e|e
      .rw[e];exists _,Z,r0,J
      .rw[e];exists _,Z,J,J
     obtain⟨y,hy,y0,y1⟩:∃y:Int,Wk ([.int (d%(0+(i:Int)+1)),.int (0+(i:Int)+1)]:List V) (1-d/105%2)=some (.int y)/\0<=y/\y<n:=by
      rcases(by lia:d/105%2=0\/d/105%2=1) with e|e
      .rw[e];exists _,Z,J,J
      .rw[e];exists _,Z,r0,J
     let c2:EK d 105:=⟨AP,AP⟩;exists _,Z,_,Z,_,Z,a,_,_,_,Z,Z,(s2.l se).seq hS,iD,_,_,Z,Z,c2,_,_,Z,Z,J,e,_,_,_,Z,Z,SqT.of XZ,hx,?_;exists _,Z,_,Z,_,Z,a,_,_,_,Z,Z,(s2.l se).seq hS,iD,_,_,Z,Z,c2,_,_,Z,Z,J,_,_,Z,Z,e,_,_,_,Z,Z,SqT.of XZ,hy,?_;exists _,Z,.inl {Z,_,SqL.of<|se _ _ h2},_,Z,_,Z,(by change 2<=sizeLine;decide),λr hr=>?_;exists l,xs,_,Z,Z,(Zr se hr) _ _ h2,xl,put x y _ r se hr x0 x1 y0 y1 _ _ _
    .exists _,Z,.inl {Z,_,SqL.of h2},_,Z,_,Z,(by change 2<=sizeLine;decide),λr hr=>?_;exists l,xs,_,Z,Z,(XY hr) _ _ h2,xl,put _ _ _ r (Same.refl _) hr o0 o1 q0 q1 _ _ _
   .exists _,Z,.inl {Z,_,SqL.of h2},_,Z,_,Z,(by change 2<=sizeLine;decide),λr hr=>?_;exists l,xs,_,Z,Z,(XY hr) _ _ h2,xl,put _ _ _ r (Same.refl _) hr o0 o1 q0 q1 _ _ _
  .rintro σ H2 ⟨xs,ps,v4,v5,v6,v7,rfl,s2,h2,hP,Mt,hb⟩;let Mt:ps.f=ds.f:=by rw[Mt,Xh];simp
   exists _,Z,a,ds,Z,s2.seq hS,_,Z,l,xs,Z,.inl<|SqL.of h2,_,_,Z,_,_,Z,Z,?_,?_
   .lia
   .generalize hT:ds.sum%(if xs⁻¹>1 then xs⁻¹ else 1)=T0;let T1:0<=T0:=by rw[<-hT];show Qe _ J
    let T2:T0.j<=xs.f:=by
     have:T0<(if xs⁻¹>1 then xs⁻¹ else 1):=by rw[<-hT];show Ku _ J
     split at this<;>grind
    let e1:XG xs (some T0) none=xs.drop T0.j:=o5 T1 T2;let e2:XG xs none (some T0)=xs.M T0.j:=o4 T1 T2
    exists _,rfl,_,rfl,T0,(by first|rfl|show YF V.int hT),l,xs,rfl,SqL.of h2,λr1 Vd=>?_
    let s3:=XY (o:=.lst<|XG xs (some T0) none) Vd;exists _,rfl,_,rfl,T0,(by first|rfl|show YF V.int hT),l,xs,rfl,SqL.of<|s3 _ _ h2,λr2 VJ=>?_
    let s4:=Zr (o:=.lst<|XG xs none<|some T0) s3 VJ;let n12:r1≠r2:=Za XZ VJ
    exists r1,r2,_,_,Z,Z,by rw[Zb n12,XZ],XZ,?_,λr hr=>?_
    .rw[e1,e2,RZ,Yu];show Sq (by rw[hP.1];grind)
    .let s5:=Zr (o:=.lst<|XG xs (some T0) none++XG xs none (some T0)) s4 hr;show q r _ (ps.drop T0.j++ps.M T0.j) _ (s2.l s5) ((s2.l s4).free hr) XZ ?_ ?_ λp hp=>?_
     .let z:=((hP.same s5).drop T0.j).app ((hP.same s5).M T0.j);lia
     .grind
     .rcases Xk.R hp with z|z
      .show hb p (List.mem_of_mem_drop z)
      .show hb p (LU z)
inductive spZ31(K:Ad)(vs:List V)(H:Hp)(Q:VK)(_:XK):Prop
 |mk (a ns most count:_) (_:vs=[.ref a,.int most,.int count]) (_:SqL K H a (IL ns)) (_:ns.f<=63) (_:1<=most) (_:most<=14) (_:0<=count) (_:count<=30) (_:∀r l n xs ps H',Same H H'->H' r=some (.tup [.int n,.ref l])->H l=none->H' l=some (.lst xs)->PairsV H' xs ps->GoodW n ps->n<=most->ps⁻¹<=count->Q ↑r H')
def c5(T:Txt K mg t):Xs P w base Xz T.qZ31 3 (spZ31 K):=by
 show T.qZ31.okI ["script","most","count","head","places","many","draws"] D λXF A outer s H vs Q E hr h=>?_
 .let⟨a,ns,most,count,rfl,hS,hn,m1,m2,c1,c2,q⟩:=h;show⟨_,(XO (Zd 3<|XC (df T) hr T.qZZ Zs<|XX (pv 0)<|XX XN XW)
   (XO (Zd 4<|Zp UY XN<|Zp ZX (pv 3)<|pv 1)
   (XO (Zd 5<|Zc (wb Z) rN T.n_min Boot.«min»<|XX (pv 2)<|XX (Zp UY (Zp ZX (Zp Pz (pv 3)<|pv 1)<|Zp UY (pv 2) XN)<|Zp PB (Zp ZX (Zp Pz (pv 3) XN) XN)<|pv 4) XW)
   (XO (Zd 6<|XC (dc T) hr T.qZ11 Zs<|XX (pv 0)<|XX XN<|XX (pv 5)<|XX (Zp ZX (Zp Pz (pv 3) XN) XN) XW)
   (XM<|Zk<|ZZ<|XX (pv 4)<|XX (XC (c7 T) hr T.qZ21 Zs<|XX (pv 6)<|XX (pv 4)<|XX (Px Oo (Zp ZX (Zp Pz (pv 3) XN) XN) XN<|Zo _) XW) XW))))),?_⟩
  exists _,Z,a,ns,0,Z,hS,AP,λhd h0 h1=>?_;let n0:0<=hd%most:=Qe _ J
  let n1:hd%most<most:=Ku _ J;exists _,Z,_,Z,_,_,Z,Z,J,_,_,Z,Z,?_;exists _,Z,_,Z,_,Z,_,_,Z,Z,⟨J,J⟩,_,Z,_,_,Z,Z,_,_,Z,Z,J,_,Z,_,_,Z,Z,⟨AP,AP⟩,_,_,Z,Z,(by simp_all),_,Z,_,_,Z,Z,.inr ⟨J,J⟩,_,_,Z,Z,_,_,Z,?_;let e0:0<=hd/most%(count+1):=Qe _ J
  let f0:0<=hd/97%2:=Qe _ AP;let g0:0<=hd/97%2*(1+hd%most):=Int.mul_nonneg f0 J
  obtain⟨c,hc⟩:∃c:Nat,(if hd/most%(count+1)+hd/97%2*(1+hd%most)<count then hd/most%(count+1)+hd/97%2*(1+hd%most) else count)=(c:Int):=
   {(if hd/most%(count+1)+hd/97%2*(1+hd%most)<count then hd/most%(count+1)+hd/97%2*(1+hd%most) else count).j,J}
  let k1:(c:Int)<=count:=by rw[<-hc];split<;>grind
  exists _,Z,_,Z,_,Z,_,_,Z,Z,⟨AP,AP⟩,_,_,Z,Z,J,a,ns,1,c,_,YF (λz:Int=>[V.ref a,V.int 1,V.int z,V.int (hd/194%2)]) hc,hS,hn,AP,J,λl ds H1 s1 NZ SW edl Ni=>?_;exists _,Z,_,Z,_,Z,_,Z,_,_,Z,Z,⟨AP,AP⟩,_,_,Z,Z,(by simp_all),_,_,Z,Z,l,ds,_,_,Z,SqL.of SW,J,Ni,J,J,λl2 xs ps H2 s2 cZ cY hP ePl hb=>?_;exists (by change 2<=sizeLine;decide),λr hr=>?_;let s3:=XY (o:=.tup [.int (1+hd%most),.ref l2]) hr
  show q r l2 (1+hd%most) xs ps _ ((s1.l s2).l s3) XZ (s1.free cZ) (s3 _ _ cY) (hP.same s3) ⟨J,J,J,hb⟩ J (by simp_all)
inductive spZ41(K:Ad)(vs:List V)(H:Hp)(Q:VK)(_:XK):Prop
 |mk (n:Int) (a b:Addr) (xs:List V) (ps:Aa) (kd:Bool) (ns:Ac) (_:vs=[.int n,.ref a,.ref b]) (_:SqL K H a xs) (_:PairsV H xs ps) (_:GoodW n ps) (_:SqK kd K H b (IL ns)) (_:(∀z∈ns,0<=z/\z<ps⁻¹)) (_:∀(m:Addr)(H':Hp),Same H H'->H m=none->H' m=some (.lst<|IL<|WY n.j<|XQ ps ns)->Q ↑m H')
def cX(T:Txt K mg t):Xs P w base Xz T.qZ41 1 (spZ41 K):=by
 show T.qZ41.okI ["places","ties","some","marks","tie","one","other","gone","kept","place"] D λXF A outer s H vs Q E hr h=>?_
 .let⟨n,a,b,xs,ps,kd,ns,rfl,hA,h3,⟨g1,g2,g3,g4⟩,hS,hI,q⟩:=h;show⟨_,(XO (Zd 3<|Zl (pF Z) rN T.n_list Boot.«list»<|XX (Zl vR rN T.n_range Boot.«range»<|XX (pv 0) XW) XW)
   (XO (WT YH Z (UA K<|pv 2) (Xm 4)
   (XO (Tj (ZA (Ze K) (pv 1) (pv 4) λ_ _=>rfl)<|Pl (n:=2) K Z<|Zx (Xm 5)<|Zx (Xm 6) PJ)
   (XM (WN (Zh Ue (ZA (Ze K) (pv 3) (pv 5) λ_ _=>rfl) (ZA (Ze K) (pv 3) (pv 6) λ_ _=>rfl)<|Zo _)
   (XO (Zd 7<|ZA (Ze K) (pv 3) (pv 6) λ_ _=>rfl)
   (XO (Zd 8<|ZA (Ze K) (pv 3) (pv 5) λ_ _=>rfl)
   (XM (WT YH Z (ZB Z T.n_range<|XX (pv 0) XW) (Xm 9)
   (XM (WN (Zh Rm (ZA (Ze K) (pv 3) (pv 9) λ_ _=>rfl) (pv 7)<|Zo _)
   (XM<|Tj (pv 8)<|EV (pv 3) (pv 9) Nr)
   Zm))))))
   Zm))))
   (XM<|Zk<|pv 3))),?_⟩
  exists _,Z,n,Z,λr UN=>{r,0,n,Z,XZ,⟨AP,AP,J,J⟩,J,λm hm=>?_};let sm:Same H (upd (upd H r<|.rng 0 n) m<|.lst<|(Wx 0 n).H V.int):=Zr (XY UN) hm
  let QK:H m=none:=(XY UN).free hm;show⟨_,Z,b,Z,DJ (k:=kd) (K:=K) (a:=b) (xs:=IL ns) (λi σ H2=>∃(v4 v5 v6 v7 v8 v9:Option V),σ=[some (.int n),some<|.ref a,some<|.ref b,some<|.ref m,v4,v5,v6,v7,v8,v9]/\Same H H2/\H2 m=some (.lst<|IL<|WY n.j<|XQ ps<|ns.M i))
   {none,none,none,none,none,none,Z,sm,?_} (λi σ H2 _ zz=>by let(_,_,_,_,_,_,_,s2,_):=zz;show hS.same s2) ?_ ?_⟩
  .rw[XZ,aB];rfl
  .rintro i x σ H2 hi ⟨v4,v5,v6,v7,v8,v9,rfl,s2,WL⟩;let(z,rfl,hz):=UL hi;let(z0,z1):=hI z (Xf hz);obtain⟨p,hp⟩:∃p,ps[z.j]?=some p:={_,Xw<|by simp_all};let(v,hv,tt,rfl,Vk):=h3.2 z.j p hp;let(e1,e2,e3,e4):=g4 p (Xf hp);let ed:ps.Q z.j (0,0)=p:=VV hp
   exists _,Z,_,Z,a,xs,z,.ref tt,Z,Z,s2.seq hA,Zv (n:=z.j) J hv,tt,_,Z,SqT.of<|s2 _ _ Vk,Z,_,_,Z,_,_,Z,Z,?_;let hl:(WY n.j<|XQ ps<|ns.M i).f=n.j:=ZG _ _
   generalize hM:WY n.j (XQ ps<|ns.M i)=M at *;let ha:M[p.1.j]?=some (mk M p.1.j):=Rb B
   let hb:M[p.2.j]?=some (mk M p.2.j):=Rb B;let iA:Wk (IL M) p.1=some (.int<|mk M p.1.j):=Zv (n:=p.1.j) J (by rw[Yn,ha];rfl)
   let iB:Wk (IL M) p.2=some (.int<|mk M p.2.j):=Zv (n:=p.2.j) J (by rw[Yn,hb];rfl);let step:WY n.j (XQ ps<|ns.M<|i+1)=lm M p.1.j p.2.j:=by rw[aE hz,Nf,hM,ed]
   exists _,Z,_,Z,m,_,p.1,_,Z,Z,SqL.of WL,iA,_,Z,_,Z,m,_,p.2,_,Z,Z,SqL.of WL,iB,Z,_,Z,?_;rw[ZH];show WQ (λhc=>?_) (λhc=>?_)
   .exists _,_,_,_,_,_,Z,s2,?_;rw[WL,step];unfold lm;lia
   .exists _,Z,_,Z,m,_,p.2,_,Z,Z,SqL.of WL,iB,?_;exists _,Z,_,Z,m,_,p.1,_,Z,Z,SqL.of WL,iA,?_;show⟨_,Z,n,Z,J,J,ZY (lo:=0) (n:=n.j) (λj σ H3=>∃(v4 v5 v6 v9:Option V),σ=[some (.int n),some<|.ref a,some<|.ref b,some<|.ref m,v4,v5,v6,some<|.int<|mk M p.2.j,some<|.int<|mk M p.1.j,v9]/\Same H H3/\
      H3 m=some (.lst<|IL<|(M.M j).H (λk=>if k=mk M p.2.j then mk M p.1.j else k)++M.drop j)) {_,_,_,_,Z,s2,by rw[WL];rfl} ?_ ?_⟩
    .rintro j σ H3 hj ⟨w4,w5,w6,w9,rfl,s3,OL⟩;let tH:M[j]?=some (mk M j):=Rb J
     let Xx:((M.M j).H λk=>if k=mk M p.2.j then mk M p.1.j else k).f=j:=by rw[Yb,Yu];grind
     let hjv:((M.M j).H (λk=>if k=mk M p.2.j then mk M p.1.j else k)++M.drop j)[j]?=some (mk M j):=by rwa[YD J,Xx,LR,UE,ND]
     let ezj:(0:Int)+(j:Int)=(j:Int):=NH _;let iJ:Wk (IL<|(M.M j).H (λk=>if k=mk M p.2.j then mk M p.1.j else k)++M.drop j) (0+(j:Int))=some (.int<|mk M j):=Zv (n:=j) ezj (by rw[Yn,hjv];rfl)
     let dj:M.drop j=mk M j::M.drop (j+1):=by
      rw[FL J];congr 1
      have:=tH
      rw[Xw J]at this;show Ym this
     exists _,Z,_,Z,m,_,_,_,Z,Z,SqL.of OL,iJ,_,Z,Z,_,Z,?_;rw[ZH];show Xt (λhe=>?_) (λhe=>?_)
     .exists _,Z,_,Z,_,Z,m,_,_,j,Z,Z,OL,?_,?_
      .unfold Ri;rw[Yi J,Yi B];simp
      .exists _,_,_,_,Z,Zt QK s3,?_;rw[XZ,YA,tH];congr 2;rw[<-JC,bQ _ _ J,Xx,UE,dj,YB,List.set_cons_zero,YV];change IL (_++_::_)=IL (_++((if mk M j=mk M p.2.j then mk M p.1.j else mk M j)::_))
       rw[Yi he];rfl
     .exists _,_,_,_,Z,s3,?_;rw[OL,YA,tH,dj];congr 2;rw[YB,YV];change IL (_++_::_)=IL (_++((if mk M j=mk M p.2.j then mk M p.1.j else mk M j)::_))
      rw[Yh he];rfl
    .rintro σ H3 ⟨w4,w5,w6,w9,rfl,s3,OL⟩;exists _,_,_,_,_,_,Z,s3,?_;rw[OL,step];unfold lm;grind
  .rintro σ H2 ⟨v4,v5,v6,v7,v8,v9,rfl,s2,WL⟩;rw[Xh,Yy]at WL;exists _,Z,q m H2 s2 QK WL
inductive spZ51(K:Ad)(vs:List V)(H:Hp)(Q:VK)(_:XK):Prop
 |mk (n:Int) (a:Addr) (xs:List V) (ps:Aa) (_:vs=[.int n,.ref a]) (_:SqL K H a xs) (_:PairsV H xs ps) (_:GoodW n ps) (_:n<=5) (_:ps.f<=9) (_:∀(r:Addr)(ys:List V)(L:Ab)(H':Hp),Same H H'->H' r=some (.lst ys)->TupsV H' ys L->L.f<=10000->(∀l,l∈L↔Zg n ps l)->L.G WV->Q ↑r H')
def xp:FnScope ["places","ties","told","k","longer","some","first"] ["places","ties"] (Xo (top 92)):=TQ D
def cW(T:Txt K mg t):Xs P w base Xz T.qZ51 2 (spZ51 K):=by
 show T.qZ51.okI ["places","ties","told","k","longer","some","first"] D λXF A outer s H vs Q E hr h=>?_
 .let⟨n,a,xs,ps,rfl,hA,hP,hG,n5,p9,q⟩:=h;show⟨_,(XO (Zd 2<|WR<|XX (ZZ XW) XW)
   (XO (WT YH Z (ZB Z T.n_range<|XX (Zp TF (pv 0) XN) XW) (Xm 3)
   (XO (Zd 4<|WR XW)
   (XO (WT YH Z (ZD K<|pv 2) (wq (i:=5) xp.nd Z<|Or.inr Z)
   (XO (Zd 6 XN)
   (XO (WN (Zh Oo (pv 3) XN<|Zo _)
   (XM<|Zd 6<|Zp UY (ZA (ZC K) (pv 5) (Zp TF (pv 3) XN) λ_ _=>rfl) XN)
   Zm)
   (XM<|ZW<|Uq K QP tj tm qr (pv 4)<|XX (US rfl (sc0:=Xo<|top 92) (N0:=["places","ties","told","k","longer","some","first"]) (N':=["tie","some"]) (o:=1) (fr:=[5]) ⟨rfl,D,D,D,rfl,D⟩ (bu rfl T.n_range<|XX (pv 6)<|XX (Zc (Zf K) rN T.n_len Boot.«len»<|XX (pv 1) XW) XW) (Zq AP) (λ_ _ _ _=>(Xm 0)) (λ_ _ _ _=>ZN) λ_ _ _ _=>(Zp (Pg K) (pv 1)<|ZZ<|XX (pv 0) XW)) XW))))
   (XM<|Zd 2<|pv 4))))
   (XM<|Zk<|US rfl (sc0:=Xo<|top 92) (N0:=["places","ties","told","k","longer","some","first"]) (N':=["some","places","ties"]) (o:=1) (fr:=[0,1]) ⟨rfl,D,D,D,rfl,D⟩ (ZD K<|pv 2) (Zq AP) (λ_ _ _ _=>(Xm 0)) (λ_ _ _ _=>(RR<|Zh Rm (Zc Zx4 rN T.n_len Boot.«len»<|XX (Zl (DF K rfl) rN T.n_set Boot.«set»<|XX (XC (cX T) hr T.qZ41 Zs<|XX (pv 1)<|XX (pv 2)<|XX (pv 0) XW) XW) XW) XN<|Zo _)) λ_ _ _ _=>(pv 0)))),?_⟩
  let(g1,g2,g3,g4):=id hG;let TV:=hP.1
  let one:1<=sizeLine:=AP;let big:∀k:Nat,k<=4->(Uo ps⁻¹ k).f<=6561:=λk hk=>Yl (Ls p9 k) (by rcases(by grind:k=0\/k=1\/k=2\/k=3\/k=4) with e|e|e|e|e<;>rw[e]<;>decide)
  exists Yc _,λt0 ht0=>{one,λd0 hd0=>?_};let s0:=Zr (XY (o:=.tup []) ht0) (o:=.lst [.ref t0]) hd0
  let k0:(upd (upd H t0<|.tup []) d0<|.lst [.ref t0]) t0=some (.tup []):=XY hd0 _ _ XZ;show⟨_,Z,_,_,Z,Z,_,Z,J,J,ZY (lo:=0) (n:=(n-1).j) (λi σ H2=>∃(d:Addr)(ys:List V)(v3 v4 v5 v6:Option V),σ=[some (.int n),some<|.ref a,some<|.ref d,v3,v4,v5,v6]/\Same H H2/\H2 d=some (.lst ys)/\TupsV H2 ys (Uo ps⁻¹ i))
   {d0,[.ref t0],none,none,none,none,Z,s0,XZ,.one ⟨t0,Z,k0⟩} ?_ ?_⟩
  .rintro i σ H2 hi ⟨d,ys,v3,v4,v5,v6,rfl,s2,hd,hL⟩;let hi4:i<4:=J
   exists Yc _,λe he=>?_;let s3:=XY (o:=.lst []) he
   show⟨_,Z,d,Z,{_,SqL.of<|s3 _ _ hd},wg (K:=K) (a:=d) (xs:=ys) (λj σ H4=>∃(zs:List V)(v5 v6:Option V),σ=[some (.int n),some<|.ref a,some<|.ref d,some<|.int<|0+(i:Int),some<|.ref e,v5,v6]/\Same H2 H4/\H4 e=some (.lst zs)/\TupsV H4 zs (((Uo ps⁻¹ i).M j).flatMap (VS ps⁻¹)))
    {[],_,_,Z,s3,XZ,TupsV.nil} (λj σ H4 _ zz=>by let(_,_,_,_,e,_):=zz;show SqL.of<|e _ _ hd) ?_ ?_⟩
   .rintro j v σ H4 hj ⟨zs,v5,v6,rfl,s4,FO,hZ⟩;let(l,hl,tt,rfl,Hz):=hL.at hj;let Vk:=s4 _ _ Hz
    let(ll,hI):=WX.R (Xf hl);let zl:zs.f<=9*6561:=by
     rw[hZ.1];let h1:=vq (m:=ps.f) ((Uo ps⁻¹ i).M j) λs hs=>(WX.R<|LU hs).2
     let h2:=big i J;let h3:((Uo ps⁻¹ i).M j).f<=6561:=by rw[Yu];lia
     show Yl h1 (Qc p9 h3)
    let nx0:0<=UK l:=by
     unfold UK;cases q:l.getLast? with
     |none=>lia
     |some x=>have:=(hI.all x<|FG q).1;lia
    let nx1:UK l<=30:=by
     unfold UK;cases q:l.getLast? with
     |none=>simp_all
     |some x=>have:=(hI.all x<|FG q).2;lia
    exists _,Z,_,_,Z,Z,_,Z,?_;show Xt (λhk=>?_) (λhk=>?_)
    .let XJ:l.f-1<l.f:=J;obtain⟨y,hy⟩:∃y,l[l.f-1]?=some y:={_,Xw XJ};let gl:l.getLast?=some y:=by rwa[List.getLast?_eq_getElem?]
     let hF:y+1=UK l:=by unfold UK;rw[gl]
     let xr:Wk (IL l) (0+(i:Int)-1)=some (.int y):=Zv (n:=l.f-1) J (WK hy);exists _,Z,_,Z,_,_,Z,Z,tt,_,_,_,Z,Z,SqT.of Vk,xr,_,_,Z,Z,?_;exists _,Z,.inl {Z,_,SqL.of FO},_,Z,_,Z,a,xs,Z,.inl<|(s2.l s4).seq hA,(y+1),xs⁻¹,Z,{B,J,by simp_all,J},LB (lo:=(y+1)) (n:=(xs⁻¹-(y+1)).j) (λi2 ws H5=>Same H4 H5/\TupsV H5 ws ((List.range i2).H λ(t:Nat)=>l++[(y+1)+(t:Int)])) {Same.refl _,TupsV.nil} (Zi B) (λi2 ws H5 _ zz=>by let(_,e):=zz;rw[e.1,Yb,NP];lia) ?_ ?_
     .rintro i2 ws H5 Ws ⟨s5,hW⟩ S Xy;show nm ?_;exists _,Z,_,Z,one,λp2 Wn=>?_;let s6:=XY (o:=.tup<|IL [(y+1)+(i2:Int)]) Wn
      let FN:=s5.l s6;exists tt,p2,IL l,IL [(y+1)+(i2:Int)],Z,Z,SqT.of<|FN _ _ Vk,SqT.of XZ,Sq B,λe=>?_,λ_ e=>(nomatch e),λ_ _ p3 UI=>?_
      .simp_all
      .show Xy _ _ {FN.l<|XY UI,?_};rw[NN,YB];show((hW.same s6).same (XY UI)).snoc {p3,Z,by rw[XZ];simp_all}
     .rintro ws H5 ⟨s5,hW⟩ p hp;let s6:=s5.l (XY (o:=.lst ws) hp)
      let xo:=s6 _ _ FO;let wl:ws.f<=100:=by rw[hW.1,Yb,NP];grind
      exists e,p,zs,ws,Z,Z,xo,XZ,Sq B,?_;exists _,_,_,Z,Zt he<|s4.l s6,XZ,?_;rw[CZ hl];let ee:VS ps⁻¹ l=(List.range (xs⁻¹-(y+1)).j).H λ(t:Nat)=>l++[(y+1)+(t:Int)]:=by unfold VS;rw[<-hF,TV]
      rw[ee];show(((hZ.same s6).app (hW.same<|XY hp))).mut xo
    .let hF:(0:Int)=UK l:=by have:l=[]:=UG.R (by simp_all);rw[this];rfl
     exists _,Z,.inl {Z,_,SqL.of FO},_,Z,_,Z,a,xs,Z,.inl<|(s2.l s4).seq hA,(0:Int),xs⁻¹,Z,{B,B,by simp_all,J},LB (lo:=(0:Int)) (n:=(xs⁻¹-(0:Int)).j) (λi2 ws H5=>Same H4 H5/\TupsV H5 ws ((List.range i2).H λ(t:Nat)=>l++[(0:Int)+(t:Int)])) {Same.refl _,TupsV.nil} (Zi J) (λi2 ws H5 _ zz=>by let(_,e):=zz;rw[e.1,Yb,NP];lia) ?_ ?_
     .rintro i2 ws H5 Ws ⟨s5,hW⟩ S Xy;show nm ?_;exists _,Z,_,Z,one,λp2 Wn=>?_;let s6:=XY (o:=.tup<|IL [(0:Int)+(i2:Int)]) Wn
      let FN:=s5.l s6;exists tt,p2,IL l,IL [(0:Int)+(i2:Int)],Z,Z,SqT.of<|FN _ _ Vk,SqT.of XZ,Sq B,λe=>?_,λ_ e=>(nomatch e),λ_ _ p3 UI=>?_
      .show Xy _ _ {FN,?_};let e0:l=[]:=by cases h:l with|nil=>rfl|cons x r=>rw[h]at e;cases e
       rw[NN,YB];show(hW.same s6).snoc {p2,Z,by rw[e0];show XZ}
      .show Xy _ _ {FN.l<|XY UI,?_};rw[NN,YB];show((hW.same s6).same (XY UI)).snoc {p3,Z,by rw[XZ];grind}
     .rintro ws H5 ⟨s5,hW⟩ p hp;let s6:=s5.l (XY (o:=.lst ws) hp)
      let xo:=s6 _ _ FO;let wl:ws.f<=100:=by rw[hW.1,Yb,NP];lia
      exists e,p,zs,ws,Z,Z,xo,XZ,Sq B,?_;exists _,_,_,Z,Zt he<|s4.l s6,XZ,?_;rw[CZ hl];let ee:VS ps⁻¹ l=(List.range (xs⁻¹-(0:Int)).j).H λ(t:Nat)=>l++[(0:Int)+(t:Int)]:=by unfold VS;rw[<-hF,TV]
      rw[ee];show(((hZ.same s6).app (hW.same<|XY hp))).mut xo
   .rintro σ H4 ⟨zs,v5,v6,rfl,s4,FO,hZ⟩;exists _,Z,e,zs,_,_,_,_,Z,s2.l s4,FO,?_;rwa[hL.1,Yy]at hZ
  .rintro σ H2 ⟨d,ys,v3,v4,v5,v6,rfl,s2,hd,hL⟩;show⟨_,Z,d,Z,{_,SqL.of hd},Wc (K:=K) (a:=d) (xs:=ys) (λi ws H3=>Same H2 H3/\i<=ys.f/\TupsV H3 ws (((Uo ps⁻¹ (n-1).j).M i).filter λl=>decide<|(L2.seen<|WY n.j<|XQ ps l).f=1)) {Same.refl _,Yc _,TupsV.nil} (Zi<|by rw[hL.1];grind)
    (λi ws H3 hi zz=>by let(e,Ws,ey):=zz;show{SqL.of<|e _ _ hd,by rw[ey.1];grind}) ?_ ?_⟩
   .rintro i v ws H3 hi ⟨s3,Vm,hW⟩ S Xy;let(l,hl,tt,rfl,Hz):=hL.at hi;let Vk:=s3 _ _ Hz
    let Xn:i<ys.f:=(Xv.R hi).1;let(ll,hI):=WX.R (Xf hl);let Ga:=s2.l s3
    show nm ?_;exists _,Z,_,Z,_,Z,n,a,tt,xs,ps,true,l,Z,Ga.seq hA,hP.same Ga,hG,SqT.of Vk,hI.all,λm H7 s7 QK FX=>?_;let lL:(WY n.j<|XQ ps l).f=n.j:=ZG _ _
    let sl1:(L2.seen<|WY n.j<|XQ ps l).f<=(WY n.j<|XQ ps l).f:=PyProof.Rows.firstMet_length_le _ _;exists m,WY n.j<|XQ ps l,Z,SqL.of FX,(by change(WY n.j<|XQ ps l).f+1<4096;grind),λst Wr=>?_;let s8:=XY (o:=.set (λk=>(L2.seen<|WY n.j<|XQ ps l).any (· == k)) (L2.seen<|WY n.j<|XQ ps l).f) Wr
    exists st,_,_,Z,XZ,B,Z,_,Z,?_;rw[ZH];show Xt (λhc=>?_) (λhc=>?_)
    .exists _,Z,Xy _ _ {(s3.l s7).l s8,Xn,?_};rw[Zo4 hl,Yi (YE B)];show((hW.same s7).same s8).snoc {tt,Z,s8 _ _<|s7 _ _ Vk}
    .show Xy _ _ {(s3.l s7).l s8,Xn,?_};rw[Zo4 hl,Yh J,YS];show(hW.same s7).same s8
   .rintro ws H3 ⟨s3,_,hW⟩ p hp;rw[hL.1,Yy]at hW;show q p ws _ _ ((s2.l s3).l (XY hp)) XZ (hW.same<|XY hp) ?_ (λl=>?_) ((mW _ _).sublist List.filter_sublist)
    .grind
    .rw[Yr,WX,Qg];constructor
     .rintro⟨⟨h1,h2⟩,h3⟩;exists h2,J,(ai J<|ZO hG h2.all).R h3
     .rintro⟨h1,h2,h3⟩;exists ⟨J,h1⟩,(ai J<|ZO hG h1.all).mpr h3
inductive spZ61(K:Ad)(vs:List V)(H:Hp)(Q:VK)(_:XK):Prop
 |mk (a:Addr) (ns:Ac) (c:Nat) (_:vs=[.ref a,.int c]) (_:SqL K H a (IL ns)) (_:ns.f<=63) (_:c<=30) (_:∀r l H',Same H H'->H r=none->H' r=some (.lst<|IL l)->l.f=c->Told l->Q ↑r H')
def xn:FnScope ["script","count","folded","k","told","m"] ["script","count"] (Xo (top 93)):=TQ D
def cV(T:Txt K mg t):Xs P w base Xz T.qZ61 2 (spZ61 K):=by
 show T.qZ61.okI ["script","count","folded","k","told","m"] D λXF A outer s H vs Q E hr h=>?_
 .let⟨a,ns,c,rfl,hA,Hy,hc,q⟩:=h;show⟨_,(XO (Rg (i:=2) Z xn.nd Z Z (sc0:=Xo<|top 93) (N0:=["script","count","folded","k","told","m"]) (N':=["k"]) (o:=1) (fr:=[]) ⟨Z,D,D,D,Z,D⟩ (ZB Z T.n_range<|XX (pv 1) XW) (Zq AP) (λ_ _ _ _=>(Xm 0)) (λ_ _ _ _=>ZN) λ_ _ _ _=>(Zp UY (Zp PB XN<|pv 0) XN))
   (XO (WT YH Z (ZB Z T.n_range<|XX (Zc (Zf K) rN T.n_len Boot.«len»<|XX (pv 0) XW) XW) (Xm 3)
   (XM (WN (Zh Oo (pv 1) XN<|Zo _)
   (XM<|Tj (Zp ZX (Zp UY (Zp PB (ZA (Ze K) (pv 2) (Zp ZX (pv 3)<|pv 1) λ_ _=>rfl) XN)<|ZA (Ze K) (pv 0) (pv 3) λ_ _=>rfl)<|Zp JU XN XN)<|EV (pv 2) (Zp ZX (pv 3)<|pv 1) Nr)
   Zm)))
   (XO (Zd 4<|WR XW)
   (XO (WT YH Z (ZB Z T.n_range<|XX (pv 1) XW) (Xm 3)
   (XO (Zd 5<|XC (xu T) hr T.qZ01 Zs<|XX (ZA (Ze K) (pv 2) (pv 3) λ_ _=>rfl)<|XX (Zp UY XN<|pv 3) XW)
   (XM<|ZW<|Uq K QP NR NS Np (pv 4)<|XX (ZA (Ze K) (WR<|XX (Zp ZX (Zp Pz (pv 5) XN) XN)<|XX (Zp TF (Zp ZX (Zp Pz (pv 5) XN) XN) XN)<|XX XN<|XX (Zp TF (Zp ZX (ZA (Ze K) (pv 2) (pv 3) λ_ _=>rfl)<|Zp PB XN<|Zp JU XN XN)<|Zp JU XN XN) XW) (Zp ZX (pv 5) XN) λ_ _=>rfl) XW)))
   (XM<|Zk<|pv 4))))),?_⟩
  let four:4<=sizeLine:=AP;exists _,Z,(c:Int),Z,by simp_all,J,LB (lo:=0) (n:=((c:Int)).j) (λi ys H3=>H3=H/\∃fs:Ac,ys=IL fs/\fs.f=i) {Z,[],Z,Z} (Zi J) (λi ys H3 _ zz=>by let(_,fs,e,el):=zz;simp_all) ?_ ?_
  .rintro i ys H3 hi ⟨rfl,fs,rfl,FR⟩ S Xy;show Og ?_;exists _,Z,_,_,Z,Z,.inl ⟨AP,AP⟩,_,_,Z,Z,?_;show Xy _ _ {Z,fs++[5*(0+(i:Int))+2],?_,?_}
   .show(Wh _ _).symm
   .rw[Xe,FR];rfl
  rintro ys H3 ⟨rfl,fs,rfl,FR⟩ l3 Tt;let s3:=XY (o:=.lst<|IL fs) Tt
  show nm ?_;exists _,Z,a,_,Z,.inl<|s3.seq hA,_,Z,by simp_all,B,ZY (lo:=0) (n:=((IL ns).f:Int).j) (λj σ H4=>∃fs v3,σ=[some ↑a,some<|.int c,some<|.ref l3,v3,none,none]/\Same H3 H4/\H4 l3=some (.lst<|IL fs)/\fs.f=c) {fs,none,Z,s3,XZ,by simp_all} ?_ ?_
  .rintro j σ H4 hj ⟨gs,v3,rfl,s4,h4,eg⟩;show nm ?_;exists _,Z,_,_,Z,Z,_,Z,?_;show Xt (λQk=>?_) λ_=>{gs,_,Z,s4,h4,eg};let at0:0<=(0+(j:Int))%(c:Int):=Qe _ J
   let at1:(0+(j:Int))%(c:Int)<(c:Int):=Ku _ Qk;generalize xr:(0+(j:Int))%(c:Int)=at' at *;obtain⟨f,hf⟩:∃f,gs[at'.j]?=some f:={_,Xw<|by simp_all};obtain⟨z,hz⟩:∃z,ns[j]?=some z:={_,Xw<|by simp_all};show{_,Z,_,Z,_,Z,_,_,Z,Z,Qk,l3,_,_,_,Z,Z,SqL.of h4,by show Zv (n:=at'.j) J<|WK hf,_,_,Z,Z,.inr ⟨AP,AP⟩,_,Z,_,Z,a,_,_,_,Z,Z,s4.seq hA,Zv (n:=j) (by simp_all)<|WK hz,_,_,Z,Z,_,_,Z,Z,⟨AP,AP,AP⟩,_,_,Z,Z,(by simp_all),?_};exists _,Z,_,Z,_,Z,_,_,Z,Z,Qk,l3,_,_,at'.j,Z,Z,h4,?_,?_
   .try rw[xr]
    unfold Ri
    simp_all
   .show{gs.set at'.j<|(f*7+z)%(10:Int)^((60:Int).j),_,Z,Zt Tt s4,?_,by simp_all};rw[XZ,JC]
  rintro σ H4 ⟨gs,v3,rfl,s4,h4,eg⟩;exists Yc _,λl5 LZ=>?_;let FP:l3≠l5:=Za h4 LZ
  let Sa:H3 l5=none:=s4.free LZ;let u5:=XY (o:=.lst []) LZ
  let s5:=s4.l u5;let h35:=u5 _ _ h4
  let h55:(upd H4 l5<|.lst []) l5=some (.lst<|IL []):=XZ;show nm ?_;show{_,Z,_,Z,by simp_all,J,ZY (lo:=0) (n:=((c:Int)).j) (λj σ H6=>∃L v3 v5,σ=[some ↑a,some<|.int c,some<|.ref l3,v3,some<|.ref l5,v5]/\Same H3 H6/\H6 l3=some (.lst<|IL gs)/\H6 l5=some (.lst<|IL L)/\L.f=j/\Told L) {[],v3,none,Z,s5,h35,h55,Z,λz hz=>(by cases hz)} ?_ ?_};rotate_left
  .rintro σ H6 ⟨L,w3,w5,rfl,s6,_,tG,hL,hT⟩;exists _,Z,q l5 L H6 s6 Sa tG (by simp_all) hT
  rintro j σ H6 hj ⟨L,w3,w5,rfl,s6,cU,tG,hL,hT⟩;obtain⟨f,hf⟩:∃f,gs[j]?=some f:={_,Xw<|by simp_all};let hfa:Wk (IL gs) (0+(j:Int))=some (.int f):=Zv (n:=j) J (WK hf)
  show nm ?_;exists _,Z,_,Z,l3,_,_,_,Z,Z,SqL.of cU,hfa,_,Z,_,_,Z,Z,_,_,Z,λm m0 m1=>?_;show nm ?_;exists _,Z,.inl {Z,_,SqL.of tG},_,Z,_,_,Z,Z,⟨AP,AP⟩,_,_,Z,Z,(by simp_all),_,Z,_,_,Z,Z,⟨AP,AP⟩,_,_,Z,Z,(by simp_all),_,_,Z,Z,_,Z,_,Z,l3,_,_,_,Z,Z,SqL.of cU,hfa,_,_,Z,Z,⟨AP,AP,AP⟩,_,_,Z,Z,.inl ⟨AP,AP⟩,_,_,Z,Z,(by simp_all),_,_,Z,Z,⟨AP,AP,AP⟩,_,_,Z,Z,four,λc4 Mi=>?_;obtain⟨x,hx,hxb⟩:∃x:Int,Wk (IL [m/8%5,m/8%19-9,1,f%(2*10^(59:Int).j)-10^(59:Int).j]) (m%4)=some (.int x)/\(-(10^60)<x/\x<(10:Int)^60):=by
   rcases(by lia:m%4=0\/m%4=1\/m%4=2\/m%4=3) with e|e|e|e<;>rw[e]
   .exists _,Z,J
   .exists _,Z,J
   .exists _,Z,by simp_all
   .exists _,Z,?_;lia
  let w1:=XY (o:=.lst<|IL [m/8%5,m/8%19-9,1,f%(2*10^(59:Int).j)-10^(59:Int).j]) Mi;exists _,Z,_,_,Z,Z,(by simp_all),c4,_,_,.int x,Z,Z,SqL.of XZ,hx,?_;show{l5,_,_,Z,Z,w1 _ _ tG,Zi B,L++[x],_,_,Z,Zt Sa<|s6.l w1,?_,by rw[XZ,Wh],by simp_all,λz hz=>(Xk.R hz).elim (hT z) λh=>by rwa[Xc.R h]};rw[Zb FP];show w1 _ _ cU
inductive spZ71(K:Ad)(vs:List V)(H:Hp)(Q:VK)(_:XK):Prop
 |mk (n a b xs ps ls:_) (_:vs=[.int n,.ref a,.ref b]) (_:SqL K H a xs) (_:PairsV H xs ps) (_:SqL K H b (IL ls)) (_:GoodW n ps) (_:ls.f=ps.f) (_:Told ls) (_:∀H':Hp,Same H H'->Q (.str<|QQ n ps ls) H')
def cT(T:Txt K mg t):Xs P w base Xz T.qZ71 1 (spZ71 K):=by
 show T.qZ71.okI ["places","ties","lengths","lines","k","words"] D λXF A outer s H vs Q E hr h=>?_
 .let⟨n,a,b,xs,ps,ls,rfl,hA,hP,hB,hG,hl,hT,q⟩:=h;show⟨_,(XO (Zd 3<|WR<|XX (Zp ZD7 PN<|Zl uK rN T.n_str Boot.«str»<|XX (pv 0) XW) XW)
   (XO (WT YH Z (ZB Z T.n_range<|XX (Zc (Zf K) rN T.n_len Boot.«len»<|XX (pv 1) XW) XW) (Xm 4)
   (XO (Zd 5<|WR<|XX PN<|XX (Zl uK rN T.n_str Boot.«str»<|XX (ZA (ZC K) (ZA (Ze K) (pv 1) (pv 4) λ_ _=>rfl) XN λ_ _=>rfl) XW)<|XX (Zl uK rN T.n_str Boot.«str»<|XX (ZA (ZC K) (ZA (Ze K) (pv 1) (pv 4) λ_ _=>rfl) XN λ_ _=>rfl) XW) XW)
   (XM<|ZW<|Uq K QP NR NS Np (pv 3)<|XX (Uq K Qa bR bS (ZK7 K) PN<|XX (Zp JJ (pv 5)<|WR<|XX (Zl uK rN T.n_str Boot.«str»<|XX (ZA (Ze K) (pv 2) (pv 4) λ_ _=>rfl) XW) XW) XW) XW)))
   (XM<|Zk<|Uq K Qa bR bS (ZK7 K) PN<|XX (pv 3) XW))),?_⟩
  let KS:=hP.1;let dr:=hG.2.2.1
  let Od:=hG.1;let RS:=hG.2.1
  let one:1<=sizeLine:=AP;let three:3<=sizeLine:=AP
  let z1:100000<=sizeLine:=AP;let nl:=AL (i:=n) (k:=60) AP J J
  exists _,Z,n,Z,J,J,_,_,Z,Z,?_,one,λd hd=>?_
  .change 7+(nT n).f<=_;lia
  let u1:=XY (o:=.lst<|TL<|Wg n (ps.M 0)<|ls.M 0) hd;show nm ?_;exists _,Z,a,_,Z,.inl<|u1.seq hA,_,Z,by simp_all,J,ZY (lo:=0) (n:=(xs.f:Int).j) (λi σ H4=>∃v4 v5,σ=[some (.int n),some<|.ref a,some<|.ref b,some<|.ref d,v4,v5]/\Same H H4/\H4 d=some (.lst<|TL<|Wg n (ps.M i)<|ls.M i)) ⟨none,none,Z,u1,XZ⟩ ?_ ?_
  .rintro i σ H4 hi ⟨v4,v5,rfl,s4,h4⟩;obtain⟨v,hv⟩:∃v,xs[i]?=some v:={_,Xw<|by simp_all};let(p,hp,tt,rfl,Vk):=hP.at hv;obtain⟨l,Ve⟩:∃l,ls[i]?=some l:={_,Xw<|by simp_all};let RD:=iT hG hT hp Ve
   let b1:=RD p.1 Fe;let b2:=RD p.2 Fe
   let b3:=RD l Fe;show nm ?_;let ia:Wk xs (0+(i:Int))=some ↑tt:=Zv (n:=i) (by simp_all) hv
   exists _,Z,_,Z,a,_,_,.ref tt,Z,Z,s4.seq hA,ia,tt,_,0,.int p.1,Z,Z,SqT.of<|s4 _ _ Vk,Z,p.1,Z,J,J,_,Z,_,Z,a,_,_,.ref tt,Z,Z,s4.seq hA,ia,tt,_,1,.int p.2,Z,Z,SqT.of<|s4 _ _ Vk,Z,p.2,Z,J,J,three,λc hc=>?_;let u2:=XY (o:=.lst<|TL [Str.ofString "tie",nT p.1,nT p.2]) hc
   let s5:=s4.l u2;let h5:=u2 _ _ h4
   let tN:(upd H4 c<|.lst<|TL [Str.ofString "tie",nT p.1,nT p.2]) c=some (.lst<|TL [Str.ofString "tie",nT p.1,nT p.2]):=XZ;show nm ?_;exists _,Z,.inl {Z,_,SqL.of h5},Z,_,Z,_,Z,_,Z,b,_,_,.int l,Z,Z,s5.seq hB,Zv (n:=i) J<|WK Ve,l,Z,J,J,one,λc2 Vn=>?_;let u3:=XY (o:=.lst<|TL [nT l]) Vn
   exists c,c2,_,TL [nT l],Z,Z,u3 _ _ tN,XZ,(show 3+1<=sizeLine by decide),λc3 hc3=>?_;let u4:=XY (o:=.lst<|TL [Str.ofString "tie",nT p.1,nT p.2]++TL [nT l]) hc3
   let u34:=u3.l u4;let wl:(Wg n (ps.M i)<|ls.M i).f<=31:=by rw[IB (by simp_all),Yu];grind
   exists _,c3,[Str.ofString "tie",nT p.1,nT p.2,nT l],Z,Z,SqL.of XZ,?_,?_
   .show AF (rH:=61) (λa ha=>?_) (by change 4*61+4<=_;decide);rcases Yo.R ha with e|e
    .rw[e];decide
    .show iX RD a e
   exists d,_,_,Z,Z,u34 _ _ h5,Zi (by rw[Gj];lia),_,_,Z,Zt hd<|s5.l u34,?_;rw[XZ];change some (HO.lst<|TL (Wg n (ps.M i)<|ls.M i)++[.str (Qo p l)])=_
   rw[iV,iU hp Ve]
  rintro σ H4 ⟨v4,v5,rfl,s4,h4⟩;rw[show(xs.f:Int).j=ps.f by simp_all,Yy,<-hl,Yy]at h4;exists Z,_,Z,_,d,_,Z,Z,SqL.of h4,?_,q H4 s4;show AF (rH:=400) (Az hG hT) (by rw[IB hl];lia)
inductive spZ81(K:Ad)(C:Addr)(vs:List V)(H:Hp)(Q:VK)(_:XK):Prop
 |mk (w a:Addr) (n:Int) (ps:Aa) (ys:List V) (L:Ab) (_:vs=[.ref w,.int ps⁻¹,.ref a]) (_:WebAt C H w n ps) (_:GoodW n ps) (_:ps.f<=9) (_:SqL K H a ys) (_:TupsV H ys L) (_:L.f<=10000) (_:L.Nodup) (_:(∀l,l∈L↔Zg n ps l)) (_:∀H':Hp,Same H H'->Q (.bl true) H')
def Zm8{f:Ac->Bool}{L:Ab}{T:Ac}(hT:L[k]?=some T):((L.M (k+1)).filter f).f=((L.M k).filter f).f+if f T=true then 1 else 0:=by
 rw[YA,hT,VI,Xe];change _+(List.filter f [T]).f=_
 rw[xb];split<;>rfl
def KA{n:Int}{ps:Aa}{L:Ab}{f:Ac->Bool}(hn:L.Nodup)(hm:∀l,l∈L↔Zg n ps l)(hf:∀T,f T=true↔(∀z∈I,z∈T)/\∀z∈O,z∉T):PC n ps I O (L.filter f).f:=
 {L.filter f,hn.filter _,λl=>by simp_all,Z}
def cR{m i:Nat}(h:i<m):IsSet m [0+(i:Int)]:=XU.mpr {λz hz=>by simp_all,Fe}
def OC:FnScope ["web","count","trees","one","other","having"] ["web","count","trees"] (Xo (top 95)):=TQ D
def cQ(T:Txt K mg t):Xs P w base Xz T.qZ81 12 (spZ81 K t.A_Web):=by
 show T.qZ81.okI ["web","count","trees","one","other","having"] D λXF A outer s H vs Q E hr h=>?_
 .let⟨w,a,n,ps,ys,L,rfl,hW,hG,hm,hA,hL,yM,OD,xB,q⟩:=h;show⟨_,(XO (WT YH Z (ZB Z T.n_range<|XX (pv 1) XW) (wq (i:=3) OC.nd Z<|Or.inr Z)
   (XO (WT YH Z (ZB Z T.n_range<|XX (pv 1) XW) (wq (i:=4) OC.nd Z<|Or.inr Z)
   (XO (Rg (i:=5) Z OC.nd Z Z (sc0:=Xo<|top 95) (N0:=["web","count","trees","one","other","having"]) (N':=["tree","one","other"]) (o:=1) (fr:=[3,4]) ⟨Z,D,D,D,Z,D⟩ (ZD K<|pv 2) (Zq AP) (λ_ _ _ _=>(Xm 0)) (λ_ _ _ _=>(RR<|PW.pt<|GY (Zh (DH K) (pv 1) (pv 0) Z)<|GZ<|Zh (Jy K) (pv 2) (pv 0) Z)) λ_ _ _ _=>(pv 0))
   (XM (WN (Zh Ue (XC (yq T) hr T.qZp Zs<|XX (pv 0)<|XX (WR<|XX (pv 3) XW)<|XX (WR<|XX (pv 4) XW) XW) (Zc (Zf K) rN T.n_len Boot.«len»<|XX (pv 5) XW)<|Zo _)
   (XM<|Zk NA)
   Zm))))
   (XM (WN (Zh Ue (XC (yq T) hr T.qZp Zs<|XX (pv 0)<|XX (ZZ XW)<|XX (ZZ<|XX (pv 3) XW) XW) (Zc (Zf K) rN T.n_len Boot.«len»<|XX (US Z (sc0:=Xo<|top 95) (N0:=["web","count","trees","one","other","having"]) (N':=["tree","one"]) (o:=1) (fr:=[3]) ⟨Z,D,D,D,Z,D⟩ (ZD K<|pv 2) (Zq AP) (λ_ _ _ _=>(Xm 0)) (λ_ _ _ _=>(RR<|Zh (Jy K) (pv 1) (pv 0) Z)) λ_ _ _ _=>(pv 0)) XW)<|Zo _)
   (XM<|Zk NA)
   Zm))))
   (XM<|Zk NA)),?_⟩
  let one:1<=sizeLine:=AP;let Tu:=hL.1
  exists _,Z,_,Z,by simp_all,J,ZY (lo:=0) (n:=(ps⁻¹).j) (λi σ H2=>∃v3 v4 v5:Option V,σ=[some ↑w,some<|.int ps.f,some<|.ref a,v3,v4,v5]/\Same H H2) {none,none,none,Z,Same.refl _} ?_ ?_
  .rintro i σ H2 hi ⟨v3,v4,v5,rfl,s2⟩;exists _,Z,_,Z,by simp_all,J,ZY (lo:=0) (n:=(ps⁻¹).j) (λj σ H3=>∃v4 v5:Option V,σ=[some ↑w,some<|.int ps.f,some<|.ref a,some<|.int<|0+(i:Int),v4,v5]/\Same H H3) ⟨v4,v5,Z,s2⟩ ?_ ?_
   .rintro j σ H3 hj ⟨v4,v5,rfl,s3⟩;let IG:=hL.same s3
    exists _,Z,a,Z,{_,s3.seq hA},Wc (K:=K) (a:=a) (xs:=ys) (λk zs H4=>H4=H3/\k<=ys.f/\zs.f=((L.M k).filter λT=>decide (0+(i:Int)∈T) && !decide (0+(j:Int)∈T)).f) {Z,Yc _,Z} (Zi J) (λk zs H4 hk h=>by let(rfl,h1,h2):=h;show{s3.seq hA,by rw[h2];show Yl (YL ..)<|by simp_all}) ?_ ?_
    .rintro k v zs H4 hk ⟨rfl,iw,hz⟩ S Xy;let Wa:=(Xv.R hk).1
     obtain⟨T,hT⟩:∃T,L[k]?=some T:={_,Xw<|by simp_all};let(_,hv,c,rfl,hc):=IG.2 k T hT;rw[hk]at hv;let rfl:=Ym hv;let e:=Zm8 (f:=λT=>decide (0+(i:Int)∈T) && !decide (0+(j:Int)∈T)) hT
     show nm ?_;exists _,Z,_,Z,c,_,Z,.inr<|SqT.of hc,Z,ZT _,_,Z,?_;rw[Vh];show Xt (λh1=>?_) (λh1=>?_)
     .exists _,Z,_,Z,c,_,Z,.inr<|SqT.of hc,Z,ZT _,_,Z,?_;rw[Vh];show WQ (λh2=>?_) (λh2=>?_)
      .grind
      .exists _,Z,Xy _ _ {Z,Wa,by rw[e,Xe,hz,Yi (by simp_all)];rfl}
     .show Xy _ _ {Z,Wa,by rw[e,hz,Yh (by simp_all),ND]}
    rintro zs H4 ⟨rfl,_,hz⟩ p hp;rw[Tu,Yy]at hz;let u1:=XY (o:=.lst zs) hp
    let k1:=XZ (H:=H4) (a:=p) (o:=.lst zs);show nm ?_;exists _,Z,_,Z,one,λpA Ij=>{_,Z,one,λpB FU=>?_};let u2:=XY (o:=.lst<|IL [0+(i:Int)]) Ij
    let u3:=XY (o:=.lst<|IL [0+(j:Int)]) FU;let s6:=s3.l (u1.l<|u2.l u3)
    exists w,pA,pB,n,ps,false,false,_,_,Z,hW.same s6,hG,SqL.of<|u3 _ _ XZ,SqL.of XZ,cR hi,cR hj,λc H7 hc s7=>?_;exists _,Z,p,_,Z,.inl<|SqL.of<|s7 _ _<|u3 _ _<|u2 _ _ k1,Z,_,Z,?_;let rfl:c=zs.f:=hc.uniq (by rw[hz];show KA OD xB λT=>Fe)
    rw[ZH,YE Z];show Vr {_,_,Z,s6.l s7}
   rintro σ H3 ⟨v4,v5,rfl,s3⟩;let IG:=hL.same s3
   exists _,Z,Yc _,λpA Ij=>{_,Z,one,λpB FU=>?_};let u2:=XY (o:=.tup<|IL []) Ij
   let u3:=XY (o:=.tup<|IL [0+(i:Int)]) FU;let s6:=s3.l (u2.l u3)
   exists w,pA,pB,n,ps,true,true,_,_,Z,hW.same s6,hG,SqT.of<|u3 _ _ XZ,SqT.of XZ,IsSet.nil _,cR hi,λc H7 hc s7=>?_;let cP:=(u2.l u3).l s7
   let tE:=IG.same cP;exists _,Z,a,Z,{_,(s3.l cP).seq hA},Wc (K:=K) (a:=a) (xs:=ys) (λk zs H4=>H4=H7/\k<=ys.f/\zs.f=((L.M k).filter λT=>!decide (0+(i:Int)∈T)).f) {Z,Yc _,Z} (Zi J) (λk zs H4 hk h=>by let(rfl,h1,h2):=h;exists (s3.l cP).seq hA,B) ?_ ?_
   .rintro k v zs H4 hk ⟨rfl,iw,hz⟩ S Xy;let Wa:=(Xv.R hk).1
    obtain⟨T,hT⟩:∃T,L[k]?=some T:={_,Xw<|by simp_all};let(_,hv,c,rfl,hc):=tE.2 k T hT;rw[hk]at hv;let rfl:=Ym hv;let e:=Zm8 (f:=λT=>!decide (0+(i:Int)∈T)) hT
    show nm ?_;exists _,Z,_,Z,c,_,Z,.inr<|SqT.of hc,Z,ZT _,_,Z,?_;rw[Vh];show WQ (λh2=>?_) (λh2=>?_)
    .grind
    .exists _,Z,Xy _ _ {Z,Wa,by rw[e,Xe,hz,Yi (by simp_all)];rfl}
   rintro zs H4 ⟨rfl,_,hz⟩ p hp;rw[Tu,Yy]at hz;exists p,_,Z,.inl<|SqL.of XZ,Z,_,Z,?_;let rfl:c=zs.f:=hc.uniq (by rw[hz];show KA OD xB λT=>Fe)
   rw[ZH,YE Z];show Vr {_,_,_,Z,s6.l<|s7.l<|XY hp}
  rintro σ H2 ⟨v3,v4,v5,rfl,s2⟩;show q H2 s2
def Zg9:∀k,k<=4->((subs 9).filter λl=>decide (l.f=k)).f<128:=by decide +kernel
def ZW9{n:Int}{ps:Aa}{L:Ab}(g:GoodW n ps)(hm:n<=5)(hp:ps.f<=9)(hn:L.Nodup)(h:∀l∈L,Zg n ps l):L.f<128:=by
 show Kw (hn.length_le_of_subset (l₂:=(subs 9).filter λl=>decide<|l.f=(n-1).j) λl hl=>?_) (Zg9 _<|by simp_all);let t:=h l hl
 show Yr.mpr {Vx.mpr<|XU.mpr {λz hz=>?_,(XU.R t.1).2},YE (by have:=t.2.1;lia)}
 have:=t.1.all z hz
 lia
def cO(x:Int):∀k:Nat,(List.U k [V.int x]).flatten=IL (List.U k x)
 |0=>rfl
 |k+1=>by
  simp_all
def cN{S T:Ac}(h:∀z∈T,z∈S):cS S T=T.f:=by
 unfold cS
 simp_all
def Zg7{n:Nat}{S:Ac}{i:Nat}(hi:i<n):∀{L:Ab}{c:Int},(∀T∈L,cS S T=i)->L.foldl (Gn S) ((List.U n (0:Int)).set i c)=(List.U n (0:Int)).set i (c+L⁻¹)
 |[],c,_=>Fe
 |T::L,c,h=>by
  let e:Gn S ((List.U n (0:Int)).set i c) T=(List.U n (0:Int)).set i (c+1):=by unfold Gn;rw[h T Ya,List.set_set];congr 1;rw[We,sW (by simp_all)];rfl
  rw[Hj,e,Zg7 hi λT hT=>h T<|Yf _ hT,YW];lia
def cM(T:Txt K mg t)(hB:TR K mg base t.dZJ Pt):Xs P w base Xz T.qZ91 48 (spZ91 K Pt):=by
 show T.qZ91.okI ["script","places","ties","web","lengths","trees","due"] D λXF A outer s H vs Q E hr h=>?_
 .let⟨a,ns,rfl,hS,Hy,hTb,k⟩:=h;show⟨_,(XO (Tj (XC (c5 T) hr T.qZ31 Zs<|XX (pv 0)<|XX XN<|XX XN XW)<|Pl (n:=2) K Z<|Zx (Xm 1)<|Zx (Xm 2) PJ)
   (XO (Tj (XC (dt T) hr T.qZY Zs<|XX (XC (cT T) hr T.qZ71 Zs<|XX (pv 1)<|XX (pv 2)<|XX (XC (cV T) hr T.qZ61 Zs<|XX (pv 0)<|XX (Zc (Zf K) rN T.n_len Boot.«len»<|XX (pv 2) XW) XW) XW) XW)<|Pl (n:=2) K Z<|Zx (Xm 3)<|Zx (Xm 4) PJ)
   (XO (Zd 5<|XC (cW T) hr T.qZ51 Zs<|XX (pv 1)<|XX (pv 2) XW)
   (XO (WN (PW.pt<|Tn (Zh Ue (XC (QH T) hr T.qZn Zs<|XX (pv 3) XW) (Zc (Zf K) rN T.n_len Boot.«len»<|XX (pv 5) XW)<|Zo _)<|To<|Zh Ue (XC (Mg T) hr T.qZv Zs<|XX (pv 3) XW) (Zc (Zf K) rN T.n_len Boot.«len»<|XX (pv 5) XW)<|Zo _)
   (XM<|Zk NA)
   Zm)
   (XO (WN (PW.pt<|Tn (Zh (o3 K<|DM hr) (XC (eS T) hr T.qZG Zs<|XX (pv 3)<|XX XN<|XX XN XW) (pv 5)<|Zo _)<|To<|Zh (o3 K<|DM hr) (Zc (Zv4 K) rN T.n_sorted Boot.«sorted»<|XX (XC (dD T hB) hr T.qZR Zs<|XX (pv 3)<|XX XN<|XX XN XW) XW) (pv 5)<|Zo _)
   (XM<|Zk NA)
   Zm)
   (XO (WN (PW.pt<|Tn (PL<|RT<|XC (cQ T) hr T.qZ81 Zs<|XX (pv 3)<|XX (Zc (Zf K) rN T.n_len Boot.«len»<|XX (pv 2) XW)<|XX (pv 5) XW)<|To<|Zh Ue (XC (xC T) hr T.qZS Zs<|XX (pv 3)<|XX (Zp vV (WR<|XX XN XW)<|Zc (Zf K) rN T.n_len Boot.«len»<|XX (pv 2) XW) XW) (Zc (Zf K) rN T.n_len Boot.«len»<|XX (pv 5) XW)<|Zo _)
   (XM<|Zk NA)
   Zm)
   (XO (Zd 6<|Zp vV (WR<|XX XN XW)<|pv 1)
   (XO (Tj (Zc (Zf K) rN T.n_len Boot.«len»<|XX (pv 5) XW)<|EV (pv 6) (Zp TF (pv 1) XN) Nr)
   (XM<|Zk<|Px (DG K<|DM hr) (XC (dB T) hr T.qZU Zs<|XX (pv 3)<|XX (Zl (pF Z) rN T.n_list Boot.«list»<|XX (Zl vR rN T.n_range Boot.«range»<|XX (Zc (Zf K) rN T.n_len Boot.«len»<|XX (pv 2) XW) XW) XW) XW) (Zl (ZI K) rN T.n_tuple Boot.«tuple»<|XX (pv 6) XW)<|Zo _))))))))),?_⟩
  let one:1<=sizeLine:=AP;exists _,Z,a,ns,5,9,Z,hS,Hy,AP,AP,AP,AP,λr l n xs ps H1 s1 Vd NZ SW hP hG hnm bE=>?_;exists r,_,Z,SqT.of Vd,Z,_,_,Z,_,_,Z,Z,?_;let TV:=hP.1
  let g1:=hG.1;let cL:ps.f<=9:=J
  exists _,Z,_,Z,_,Z,_,Z,l,xs,Z,.inl<|SqL.of SW,a,ns,xs.f,Z,s1.seq hS,Hy,J,λb ls H2 s2 MK hb Ve hTl=>?_;exists n,l,b,xs,ps,ls,Z,SqL.of<|s2 _ _ SW,hP.same s2,SqL.of hb,hG,Ve.l TV,hTl,λH3 s3=>?_;exists n,ps,ls,Z,hG,Ve.l TV,hTl,λtA x LA H4 s4 ha0 SV hW hLA=>?_;exists tA,_,Z,SqT.of SV,Z,_,_,Z,_,_,Z,Z,?_;let FT:=s2.l (s3.l s4)
  let fN:=FT _ _ SW;let tJ:=hP.same FT
  let cK:=hTb.same (s1.l FT);exists _,Z,_,Z,n,l,xs,ps,Z,SqL.of fN,tJ,hG,hnm,cL,λeA ys L H5 s5 cJ hL yM hmem Wv=>?_;show nm ?_;let OD:=Je Wv
  let aQ:=ZW9 hG hnm cL OD λl hl=>(hmem l).R hl;let Tu:=hL.1
  let cI:TC n ps L.f:=⟨L,OD,hmem,Z⟩;let HI:=cK.same s5
  let LZ:=s5 _ _ fN;let cH:=hW.same s5
  exists _,Z,x,n,ps,Z,cH,hG,λc H6 hc s6=>?_;exists _,Z,eA,ys,Z,.inl<|SqL.of<|s6 _ _ cJ,Z,_,Z,?_;let rfl:c=L.f:=hc.uniq cI;rw[<-Tu,ZH,YE Z];show Vr ?_;exists _,Z,x,n,ps,Z,cH.same s6,hG,λ_ c H7 hc s7=>?_,λh=>absurd h J;let TN:=s6.l s7
  exists _,Z,eA,ys,Z,.inl<|SqL.of<|TN _ _ cJ,Z,_,Z,?_;let rfl:c=L.f:=hc.uniq cI;rw[<-Tu,ZH,YE Z];show Vr (Qr ?_);let he7:=TN _ _ cJ
  let tE:=hL.same TN;let hW7:=cH.same TN
  let cG:=HI.same TN;let hl7:=TN _ _ LZ
  exists _,Z,x,n,ps,0,300,L,Z,hW7,hG,AP,AP,hmem,Wv,J,AP,λ_ fT ts H8 s8 vQ hT hts=>?_,λh=>absurd h AP;rw[show(L.drop (0:Int).j).M (300:Int).j=L from Yv (by change L.f<=300;lia)]at hts;exists _,Z,2,_,fT,eA,Z,Z,AP,Dc (SqL.of hT) (SqL.of<|s8 _ _ he7) hts<|tE.same s8,_,Z,?_;rw[YE Z];show Vr ?_;let he8:=s8 _ _ he7
  let hL8:=tE.same s8;let TK:=cG.same s8
  let hW8:=hW7.same s8;let hl8:=s8 _ _ hl7
  obtain⟨R,hR,cF⟩:∃R:Ab,((∃U,Zg n ps U)->RowW n ps R)/\((∀U,¬Zg n ps U)->R=[])/\R.Nodup/\∀U,U∈R↔Zg n ps U:=by
   cases h:∃U,Zg n ps U
   .let⟨R,h1,h2,h3⟩:=gL hG h;grind
   simp_all
  let(cF,xD,uc):=cF;let pRL:R.Perm L:=(Kz xD OD).mpr λz=>by rw[uc,hmem]
  let eRL:=pRL.length_eq;exists _,Z,x,n,ps,0,300,R,Z,hW8,hG,TK,AP,AP,AP,AP,hR,cF,λfA fs H9 HU tab9 hf0 fH hX=>?_;rw[show(R.drop (0:Int).j).M (300:Int).j=R from Yv B]at hX;let KS:=hX.1
  let he9:=HU _ _ (TK.ne he8 Fe) he8;let hL9:TupsV H9 ys L:={hL.1,λi l h=>by let(v,hv,c,rfl,e):=hL8.2 i l h;exists _,hv,c,Z,HU _ _ (TK.ne e Fe) e}
  let hW9:=hW8.samex TK HU;let hl9:=HU _ _ (TK.ne hl8 Fe) hl8
  exists fA,fs,R,WA H9,Z,SqL.of fH,hX,λv l h=>by let(a,e,h):=h;show{a,e,SqT.of h},?_,by simp_all,λzs M hZ xm hMs r hr=>?_
  .cases h1:n=1
   .let no:∀V∈R,V=[]:=λV hV=>UG.R (by have:=((uc V).R hV).2.1;simp_all)
    have:R.f<=1:=xD.length_le_of_subset (l₂:=[[]]) λV hV=>Xc.mpr (no V hV)
    lia
   .show .inr λl hl e=>?_
    have:=((uc l).R hl).2.1
    grind
  let u:=XY (o:=.lst zs) hr;exists _,Z,2,_,r,eA,Z,Z,AP,Dc (SqL.of XZ) (SqL.of<|u _ _ he9) (TupsV.same u hZ)<|hL9.same u,_,Z,?_;rw[YE (ZI5 (mX hMs<|xm.nodup_iff.mpr xD) Wv λz=>B)];show Vr (Qr ?_);let heB:=u _ _ he9
  let hLB:=hL9.same u;let hWB:=hW9.same u
  let hlB:=u _ _ hl9;show{_,Z,_,Z,l,xs,Z,.inl<|SqL.of hlB,_,Z,x,eA,n,ps,ys,L,by rw[TV];rfl,hWB,hG,cL,SqL.of heB,hLB,rO,OD,hmem,λHC sC=>?_};exists true,Z,Vr ?_;let heC:=sC _ _ heB
  let hWC:=hWB.same sC;let hlC:=sC _ _ hlB
  exists _,Z,one,λp1 Vu=>{_,Z,l,xs,Z,.inl<|SqL.of<|XY Vu _ _ hlC,p1,xs.f,[.int 1],Z,Z,XZ,by simp_all,J,(by show Yl (show _<=9 by simp_all) AP),λp2 Wn=>?_};let u1:=XY (o:=.lst [.int 1]) Vu
  let u2:=XY (o:=.lst (List.U (xs⁻¹).j [V.int 1]).flatten) Wn;let uD:=u1.l u2
  let k2:(upd (upd HC p1<|.lst [.int 1]) p2<|.lst (List.U (xs⁻¹).j [V.int 1]).flatten) p2=some (.lst<|IL<|List.U ps.f 1):=XZ.l (by simp_all);exists x,p2,n,ps,List.U ps.f 1,Z,hWC.same uD,hG,SqL.of k2,λy hy=>?_,λ_ z HE hz _ sE=>?_,λh=>absurd UZ h
  .rw[Kl hy];decide
  let cE:=uD.l sE;let heE:=cE _ _ heC
  exists _,Z,eA,ys,Z,.inl<|SqL.of heE,Z,_,Z,?_;let rfl:z=L⁻¹:=hz.uniq (AW cI);rw[<-Tu,ZH,YE Z];show Vr (Qr ?_);let hWE:=hWC.same cE
  let hlE:=cE _ _ hlC;exists one,λp3 UI=>{_,Z,p3,n,[.int 0],Z,Z,XZ,J,J,(by show Yl (show _<=5 by simp_all) AP),λp4 QJ=>?_};let u3:=XY (o:=.lst [.int 0]) UI
  let u4:=XY (o:=.lst (List.U n.j [V.int 0]).flatten) QJ;let k4:(upd (upd HE p3<|.lst [.int 0]) p4<|.lst (List.U n.j [V.int 0]).flatten) p4=some (.lst<|IL<|List.U n.j 0):=XZ.l (by rw[cO])
  let nE4:HE p4=none:=u3.free QJ;let s4:=u3.l u4
  generalize upd (upd HE p3<|.lst [.int 0]) p4 (.lst (List.U n.j [V.int 0]).flatten)=HF at *;show nm ?_;exists _,Z,eA,ys,Z,.inl<|SqL.of<|s4 _ _ heE,_,Z,_,Z,_,_,Z,Z,p4,_,_,(n-1).j,Z,Z,k4,?_,?_
  .unfold Ri;grind
  let sG:Same HE (upd HF p4<|.lst<|(IL<|List.U n.j 0).set (n-1).j (.int ys.f)):=Zt nE4 s4;let kG:=XZ (H:=HF) (a:=p4) (o:=.lst<|(IL<|List.U n.j 0).set (n-1).j (.int ys.f))
  rw[show(IL<|List.U n.j 0).set (n-1).j (.int ys.f)=IL ((List.U n.j 0).set (n-1).j ys⁻¹) from(List.map_set ..).symm]at *;let hWG:=hWE.same sG
  let hlG:=sG _ _ hlE;show Qr ?_;exists _,Z,_,Z,l,xs,Z,.inl<|SqL.of hlG,_,Z,λp5 Gb=>{p5,0,xs.f,Z,XZ,J,J,λp6 eh=>?_};let u5:=XY (o:=.rng 0 xs⁻¹) Gb
  let u6:=XY (o:=.lst<|(Wx 0 xs⁻¹).H V.int) eh;let s6:=u5.l u6
  exists x,p6,n,ps,false,Wx 0 xs⁻¹,Z,hWG.same s6,hG,SqL.of XZ,λhI=>{L,OD,hmem,λq HJ sJ hq=>?_},λh=>?_
  .let s6J:=s6.l sJ;exists _,Z,p4,_,Z,.inl {SqL.of<|s6J _ _ kG,λd hd=>?_};let u7:=XY (o:=.tup<|IL<|(List.U n.j 0).set (n-1).j ys⁻¹) hd
   exists 1,_,q,d,Z,Z,AP,Dv (SqT.of<|u7 _ _ hq)<|SqT.of XZ,?_;let e:=Zg7 (n:=n.j) (S:=Wx 0 xs⁻¹) (i:=(n-1).j) J (L:=L) (c:=0) λT hT=>by
    let t:=(hmem T).R hT;rw[nQ,cN λz hz=>Xp.mpr (by rw[TV];show t.1.all z hz)]
    have:=t.2.1
    lia
   rw[List.set_replicate_self,NH]at e;rw[show VR n.j (Wx 0 xs⁻¹) L=_ from e,Tu,YE Z];show k _
  .rw[nQ,TV]at h;show h (Pf _)
def Hx{P:Program}{w:World}{K:Ad}{mg:Af}{base:Heap}{t:Adr}{Pt:Addr}(T:Txt K mg t)(hB:TR K mg base t.dZJ Pt):Xs P w base Xz T.qZ91 48 (spZ91 K Pt):=KU.choose_spec cM ⟨P,w,K,mg,base,t,Pt⟩ T hB
end My
namespace My
open PySem L2
def QD{K:Ad}{f:Addr}{fd:FuncData}(F:Fun K "law" "law" sZ91 f fd)(s:Shared)(u:Value):BindsTo s fd {[u],[]} [("script",u)]:=by let(oc,od,kV,doc,pm,an,XF,ct,TB,rfl,lk,SN):=F.ex;show .of_eq rfl
def tD(K:Ad)(mg:Af)(L:List (Str×Stmt×List Str)):(Prop):=∃(a:Nat->Addr)(d:Nat->FuncData),∀i,Nat.blt i L.f=true->DfA K mg (L.Q i ("",top 0,[])).1 (L.Q i ("",top 0,[])).2.1 (a i) (d i) (L.Q i ("",top 0,[])).2.2
def Hw{K:Ad}{mg:Af}:tD K mg []:={λ_=>0,λ_=>default,λ_ h=>nomatch h}
def LY{K:Ad}{mg:Af}{x:Str}{st:Stmt}{ps:List Str}{L:List (Str×Stmt×List Str)}(h:FQ K mg x st ps)(r:tD K mg L):tD K mg ((x,st,ps)::L):=by
 let(f,fd,q):=h;let(a,d,k):=r;exists λi=>i.casesOn f a,λi=>i.casesOn fd d,λi h=>?_;cases i with
 |zero=>show q
 |succ i=>show k i h
def tw(mg:Af)(L:List Str):(Prop):=∀ i,Nat.blt i L.f=true->mg (L.Q i "")=none
def Hv{mg:Af}:tw mg []:=λ_ h=>nomatch h
def LX{mg:Af}{x:Str}{L:List Str}(h:mg x=none)(r:tw mg L):tw mg (x::L):=λi k=>by
 cases i with
 |zero=>show h
 |succ i=>show r i k
end My
end
open PySem PySem.W PyProof.Rows
set_option maxRecDepth 100000 in
set_option maxHeartbeats 0 in
theorem PySem.Challenge.cw_spanrow_k90_whole_text_to_trees_holds : PySem.Challenge.rw_spanrow_k90_whole_text_to_trees.Holds := by
 w_on;o_law;k_head;(case hw=>w_witness2)
 k_fill
 refine L2.OR (l:=PySem.Challenge.rw_spanrow_k90_whole_text_to_trees) (n:=63) (k:=48) (x:="script") (CX:=L2.Xz) (sp:=λK=>My.spZ91 K 429) (c:=431) (Pt:=429) rfl (by decide) rfl ⟨rfl,by decide,by decide⟩ (λw h Y=>⟨PySem.W.km_in_of Y,PySem.W.km_tabs_of Y 429 (Xc.mpr rfl)⟩) ?C ?P ?F (λ_ H a ns hl hO hS=>⟨a,ns,rfl,hS,hl,⟨#[],hO.1,trivial,.inl rfl⟩,λ_=>rfl⟩) (λ_ _ _ _ z=>z)
 case C=>intro w;kernel_rfl
 case P=>intro w;kernel_rfl
 case F =>
  intro w mg fa h KX G Ee;obtain⟨ta,td,tq⟩:My.tD (L2.JG KX) mg (("refuse_not_square",My.top 11,["table"]) :: ("row_taken_off",My.top 12,["row","pivot","last"]) :: ("first_with_some",My.top 13,["rows"]) :: ("determinant",My.top 14,["table"]) :: ("row_without",My.top 15,["row","number"]) :: ("table_without",My.top 16,["table","number"]) :: ("is_tie",My.top 22,["web","number"]) :: ("refuse_bad_web",My.top 21,["places","ties"]) :: ("refuse_no_tie",My.top 23,["web","number"]) :: ("refuse_bad_row",My.top 24,["web","numbers"]) :: ("all_ties",My.top 25,["web"]) :: ("ties_beside",My.top 26,["web","ties"]) :: ("ties_without",My.top 27,["ties","left_out"]) :: ("have_common",My.top 28,["one","other"]) :: ("is_set",My.top 29,["web","ties"]) :: ("made_set",My.top 30,["web","ties"]) :: ("merged_marks",My.top 31,["web","marks","ties"]) :: ("piece_marks",My.top 32,["web","ties"]) :: ("pieces_of",My.top 33,["web","ties"]) :: ("is_joined",My.top 34,["web","ties"]) :: ("weighted_table",My.top 36,["web","weights"]) :: ("pull_table",My.top 37,["web"]) :: ("tree_count",My.top 38,["web"]) :: ("part_count",My.top 39,["web","inside","outside"]) :: ("count_with",My.top 40,["web","inside","outside"]) :: ("is_loop",My.top 43,["ends"]) :: ("left_without",My.top 44,["web","tie"]) :: ("drawn_numbers",My.top 45,["places","low","high"]) :: ("drawn_web",My.top 46,["places","ties","low","high"]) :: ("drawn_together",My.top 47,["web","tie"]) :: ("count_by_parting",My.top 48,["web"]) :: ("is_tree",My.top 50,["web","ties"]) :: ("refuse_no_tree",My.top 51,["web","tree"]) :: ("grown_tree",My.top 52,["web","inside","order"]) :: ("tree_cut",My.top 53,["web","tree","tie"]) :: ("ring_of",My.top 54,["web","tree","tie"]) :: ("least_in",My.top 56,["web","inside","outside"]) :: ("tree_at",My.top 57,["web","number"]) :: ("lesser_ties",My.top 58,["ties","bound"]) :: ("tree_behind",My.top 59,["web","tree"]) :: ("refuse_below_nought",My.top 60,["number"]) :: ("trees_from",My.top 61,["web","number","most"]) :: ("end_pieces",My.top 63,["web","marks","tie"]) :: ("open_ties",My.top 64,["web","marks","gone"]) :: ("whole_part",My.top 66,["web"]) :: ("half_without",My.top 67,["part"]) :: ("half_with",My.top 68,["part"]) :: ("part_size",My.top 69,["part"]) :: ("trees_with_tie",My.top 70,["part","into"]) :: ("undivided_row",My.top 71,["part"]) :: ("trees_between",My.top 72,["part","size","start","stop"]) :: ("row_from",My.top 73,["web","number","most"]) :: ("tree_sum",My.top 75,["web","weights"]) :: ("factors_of",My.top 76,["number","base","many"]) :: ("sorts_of",My.top 77,["web","ties"]) :: ("is_number",My.top 81,["word"]) :: ("read_number",My.top 82,["word"]) :: ("read_line",My.top 83,["line","name","many"]) :: ("read_web",My.top 84,["text"]) :: ("_law_cell",My.top 86,["script","k"]) :: ("_law_mixed",My.top 87,["cell","k"]) :: ("_law_draws",My.top 88,["script","start","count","way"]) :: ("_law_ties",My.top 89,["draws","places","hang"]) :: ("_law_web",My.top 90,["script","most","count"]) :: ("_law_marks",My.top 91,["places","ties","some"]) :: ("_law_all",My.top 92,["places","ties"]) :: ("_law_lengths",My.top 93,["script","count"]) :: ("_law_text",My.top 94,["places","ties","lengths"]) :: ("_law_with_good",My.top 95,["web","count","trees"]) :: ("law",My.sZ91,["script"]) :: []):=by
   dsimp only [L2.JG]
   repeat' (first | exact My.Hw | refine My.LY ?_ ?_)
   all_goals (refine' My.ze KX G ?a ?l ?c ?k ?b;(case a | l | c | k=>k_is);(case b=>first | exact λ_ _ _ _ _ _=>My.un1 λ_=>rfl | exact λ_ _ _ _ _ _=>My.pS λ_ _=>rfl | exact λ_ _ _ _ _ _=>My.un3 λ_ _ _=>rfl | exact λ_ _ _ _ _ _=>My.un4 λ_ _ _ _=>rfl))
  have xk:My.aJ (L2.JG KX) mg "Web" "Web.__init__" My.sZ8 ["places","ties"]:=by
   dsimp only [L2.JG];refine' My.DI KX G ?aC ?a ?i ?l ?c ?k ?pg ?hd ?po ?sa ?mk ?kc ?na
   (case aC | a | i | l | c | k | pg | hd | po | sa | mk | kc=>k_is)
   (case na=>(intro f hf;simp only [Yo,Kg,or_false]at hf;rcases hf with rfl | rfl <;> k_is))
  have Hu:My.z6 (L2.JG KX) mg "Part" "Part.__init__" My.sZJ ["web","kept","shut","lead","least","incoming","further"] 429:=by
   dsimp only [L2.JG];refine' My.Ir KX G ?aC ?a ?i ?l ?c ?k ?pg ?hd ?po ?sa ?mk ?kc ?na ?z
   (case aC | a | i | l | c | k | pg | hd | po | sa | mk | kc=>k_is)
   (case na=>(intro f hf;simp only [Yo,Kg,or_false]at hf;rcases hf with rfl | rfl | rfl | rfl | rfl | rfl | rfl <;> k_is))
   (case z=>kernel_rfl)
  have h_MOST_PLACES:∃ tk,mg "MOST_PLACES"=some (.int 14 tk):=by
   refine' My.VB KX G ?a ?b
   (case a=>k_is);(case b=>exact⟨_,rfl⟩)
  have h_MOST_TIES:∃ tk,mg "MOST_TIES"=some (.int 30 tk):=by
   refine' My.VB KX G ?a ?b
   (case a=>k_is);(case b=>exact⟨_,rfl⟩)
  have h_MOST_PARTED_TIES:∃ tk,mg "MOST_PARTED_TIES"=some (.int 12 tk):=by
   refine' My.VB KX G ?a ?b
   (case a=>k_is);(case b=>exact⟨_,rfl⟩)
  have h_FIGURES:∃ tk,mg "FIGURES"=some (.str "0123456789" tk):=by
   refine' My.QR KX G ?a ?b
   (case a=>k_is);(case b=>exact⟨_,rfl⟩)
  have h_MOST_FIGURES:∃ tk,mg "MOST_FIGURES"=some (.int 60 tk):=by
   refine' My.VB KX G ?a ?b
   (case a=>k_is);(case b=>exact⟨_,rfl⟩)
  have hn:My.tw mg ["any","enumerate","int","len","list","max","min","range","reversed","set","sorted","str","sum","tuple","zip"]:=by
   repeat' (first | exact My.Hv | refine My.LX ?_ ?_)
   all_goals (refine' PySem.W.mg_none_of KX G ?_;k_is)
  obtain⟨A_Web,aZ8,dZ8,c_Web,fZ8,cl_Web,k_Web,OB⟩:=xk;obtain⟨A_Part,aZJ,dZJ,xj,c_Part,fZJ,cl_Part,k_Part,Wl,xi,xh⟩:=Hu;have T:My.Txt (L2.JG KX) mg ⟨(ta 0),(ta 1),(ta 2),(ta 3),(ta 4),(ta 5),(ta 6),(ta 7),aZ8,(ta 8),(ta 9),(ta 10),(ta 11),(ta 12),(ta 13),(ta 14),(ta 15),(ta 16),(ta 17),(ta 18),(ta 19),(ta 20),(ta 21),(ta 22),(ta 23),(ta 24),(ta 25),(ta 26),(ta 27),(ta 28),(ta 29),(ta 30),(ta 31),(ta 32),(ta 33),(ta 34),(ta 35),(ta 36),(ta 37),(ta 38),(ta 39),(ta 40),(ta 41),(ta 42),(ta 43),aZJ,(ta 44),(ta 45),(ta 46),(ta 47),(ta 48),(ta 49),(ta 50),(ta 51),(ta 52),(ta 53),(ta 54),(ta 55),(ta 56),(ta 57),(ta 58),(ta 59),(ta 60),(ta 61),(ta 62),(ta 63),(ta 64),(ta 65),(ta 66),(ta 67),(ta 68),(ta 69),A_Web,A_Part,(td 0),(td 1),(td 2),(td 3),(td 4),(td 5),(td 6),(td 7),dZ8,(td 8),(td 9),(td 10),(td 11),(td 12),(td 13),(td 14),(td 15),(td 16),(td 17),(td 18),(td 19),(td 20),(td 21),(td 22),(td 23),(td 24),(td 25),(td 26),(td 27),(td 28),(td 29),(td 30),(td 31),(td 32),(td 33),(td 34),(td 35),(td 36),(td 37),(td 38),(td 39),(td 40),(td 41),(td 42),(td 43),dZJ,(td 44),(td 45),(td 46),(td 47),(td 48),(td 49),(td 50),(td 51),(td 52),(td 53),(td 54),(td 55),(td 56),(td 57),(td 58),(td 59),(td 60),(td 61),(td 62),(td 63),(td 64),(td 65),(td 66),(td 67),(td 68),(td 69)⟩:=⟨⟨⟨⟨⟨⟨⟨(tq 0 rfl),(tq 1 rfl)⟩,⟨(tq 2 rfl),(tq 3 rfl)⟩⟩,⟨⟨(tq 4 rfl),(tq 5 rfl)⟩,(tq 6 rfl)⟩⟩,⟨⟨⟨(tq 7 rfl),fZ8⟩,⟨fZ8.binds (λ_ _ _ _ _ _=>My.un3 λ_ _ _=>rfl),(tq 8 rfl)⟩⟩,⟨⟨(tq 9 rfl),(tq 10 rfl)⟩,(tq 11 rfl)⟩⟩⟩,⟨⟨⟨⟨(tq 12 rfl),(tq 13 rfl)⟩,⟨(tq 14 rfl),(tq 15 rfl)⟩⟩,⟨⟨(tq 16 rfl),(tq 17 rfl)⟩,(tq 18 rfl)⟩⟩,⟨⟨⟨(tq 19 rfl),(tq 20 rfl)⟩,⟨(tq 21 rfl),(tq 22 rfl)⟩⟩,⟨⟨(tq 23 rfl),(tq 24 rfl)⟩,(tq 25 rfl)⟩⟩⟩⟩,⟨⟨⟨⟨⟨(tq 26 rfl),(tq 27 rfl)⟩,⟨(tq 28 rfl),(tq 29 rfl)⟩⟩,⟨⟨(tq 30 rfl),(tq 31 rfl)⟩,(tq 32 rfl)⟩⟩,⟨⟨⟨(tq 33 rfl),(tq 34 rfl)⟩,⟨(tq 35 rfl),(tq 36 rfl)⟩⟩,⟨⟨(tq 37 rfl),(tq 38 rfl)⟩,(tq 39 rfl)⟩⟩⟩,⟨⟨⟨⟨(tq 40 rfl),(tq 41 rfl)⟩,⟨(tq 42 rfl),(tq 43 rfl)⟩⟩,⟨⟨fZJ,fZJ.binds (λ_ _ _ _ _ _=>My.un5 λ_ _ _ _ _=>rfl)⟩,(tq 44 rfl)⟩⟩,⟨⟨⟨(tq 45 rfl),(tq 46 rfl)⟩,(tq 47 rfl)⟩,⟨⟨(tq 48 rfl),(tq 49 rfl)⟩,(tq 50 rfl)⟩⟩⟩⟩⟩,⟨⟨⟨⟨⟨⟨(tq 51 rfl),(tq 52 rfl)⟩,⟨(tq 53 rfl),(tq 54 rfl)⟩⟩,⟨⟨(tq 55 rfl),(tq 56 rfl)⟩,(tq 57 rfl)⟩⟩,⟨⟨⟨(tq 58 rfl),(tq 59 rfl)⟩,⟨(tq 60 rfl),(tq 61 rfl)⟩⟩,⟨⟨(tq 62 rfl),(tq 63 rfl)⟩,(tq 64 rfl)⟩⟩⟩,⟨⟨⟨⟨(tq 65 rfl),(tq 66 rfl)⟩,⟨(tq 67 rfl),(tq 68 rfl)⟩⟩,⟨⟨(tq 69 rfl),c_Web⟩,cl_Web⟩⟩,⟨⟨⟨k_Web,OB _ (by simp)⟩,OB _ (by simp)⟩,⟨⟨c_Part,cl_Part⟩,k_Part⟩⟩⟩⟩,⟨⟨⟨⟨⟨Wl _ (by simp),Wl _ (by simp)⟩,⟨Wl _ (by simp),Wl _ (by simp)⟩⟩,⟨⟨Wl _ (by simp),Wl _ (by simp)⟩,Wl _ (by simp)⟩⟩,⟨⟨⟨h_MOST_PLACES,h_MOST_TIES⟩,⟨h_MOST_PARTED_TIES,h_FIGURES⟩⟩,⟨⟨h_MOST_FIGURES,(hn 0 rfl)⟩,(hn 1 rfl)⟩⟩⟩,⟨⟨⟨⟨(hn 2 rfl),(hn 3 rfl)⟩,⟨(hn 4 rfl),(hn 5 rfl)⟩⟩,⟨⟨(hn 6 rfl),(hn 7 rfl)⟩,(hn 8 rfl)⟩⟩,⟨⟨⟨(hn 9 rfl),(hn 10 rfl)⟩,(hn 11 rfl)⟩,⟨⟨(hn 12 rfl),(hn 13 rfl)⟩,(hn 14 rfl)⟩⟩⟩⟩⟩⟩
  have e0:=Ee.symm.trans (tq 69 rfl).mm;cases e0;exact⟨(td 69),λs u=>My.QD (tq 69 rfl).fn s u,λbase _ _ HB=>My.Hx T ⟨xj,xi,xh,HB,by decide⟩⟩
#print axioms PySem.Challenge.cw_spanrow_k90_whole_text_to_trees_holds
