import PyProof.Rows.All
import Wide.All
import OpenK.AllK
import Wide.FinOn
import Lean
import PyProof.EqAt
import PyProof.EqKinds
import PyProof.TupleCall
import PySem.Challenge.RW_spanrow_k97_whole_rings_of_bundles
set_option Elab.async false
set_option linter.all false
set_option bootstrap.genMatcherCode false
set_option genSizeOf false
set_option compiler.extract_closed false
set_option compiler.reuse false
set_option maxRecDepth 100000
section
def zN(t:Bool)(k:Lean.Name)(a:Array Lean.Syntax):(Lean.Syntax):=.node .none ((if t then `Lean.Parser.Tactic else `Lean.Parser.Term)++k) a
def zU(a:Array Lean.Syntax):(Lean.Syntax):=.node .none `null a
def zC:(Nat→Lean.Syntax→Lean.Syntax)
|0,s=>s
|n+1,s=>zN true `rcasesPatMed #[zU #[if s.isIdent then zN true `rcasesPat.one #[s] else if s[1].isMissing then zN true `rcasesPat.ignore #[s[0]] else zN true `rcasesPat.tuple #[s[0],zU ((if s.isOfKind `Lean.Parser.Term.tuple then #[s[1][0],s[1][1]]++s[1][2].getArgs else s[1].getArgs).map λx=>if x.isAtom then x else zN true `rcasesPatLo #[zC n x,zU #[]]),s[2]]]]
def zL(s:Lean.Syntax):(Lean.MacroM Lean.Syntax):=
 let d:=s[2][0]
 let p:=if d[0].isOfKind `Lean.Parser.Term.letId then d[0][0] else d[0]
 if d[1].getNumArgs != 0 then Lean.Macro.throwUnsupported else if p.isIdent&&p.getId != `rfl then pure (zN true `tacticHave__ #[s[0],s[1],s[2]]) else pure (zN true `obtain #[s[0],zU #[zC 9 p],zU d[2][0].getArgs,zU #[d[3],zU #[d[4]]]])
local macro_rules(kind:=Lean.Parser.Tactic.tacticLet__)|s=>zL s
local macro_rules(kind:=Lean.Parser.Tactic.show)|s=>pure (zN true `refine #[s[0],s[1]])
local macro_rules(kind:=Lean.Parser.Tactic.«tacticExists_,,»)|s=>pure (zN true `refine #[s[0],zN false `anonymousCtor #[s[0],s[1],s[0]]])
local macro_rules(kind:=Lean.Parser.Tactic.cases)|s=>if s[3].getNumArgs==0&&s[1][0][0].getNumArgs==2 then pure (.node .none `«tacticBy_cases_:_» #[s[0],zU #[s[1][0][0][0][0],s[1][0][0][1]],s[1][0][1]]) else Lean.Macro.throwUnsupported
local macro_rules(kind:=«term~~~_»)|s=>pure (zN false `proj #[s[1],s[0],Lean.mkIdent `heap.objs.size])
local macro_rules(kind:=coeNotation)|s=>pure (zN false `app #[zN false `dotIdent #[s[0],Lean.mkIdent `ref],zU #[s[1]]])
local macro_rules
|`($x⁻¹)=>`((($x).length:Int))
def zG:List (String×String):=[("f","length"),("j","toNat"),("l","trans"),("m","toArray"),("o","heap"),("t","getD"),("B","get?"),("C","map"),("D","flatten"),("E","mp"),("G","size"),("H","mpr"),("L","lookup"),("M","replicate"),("Q","Pairwise"),("R","env"),("U","symm"),("X","take"),("Y","same")]
def zF(s:String):(Option String):=zG.lookup s
def zJ:Lean.Name→Lean.Name
|.str p s=>.str (zJ p) ((zF s).getD s)
|n=>n
def zI:Lean.Name→Lean.Name
|.str p s=>if p.isAnonymous then .str p s else .str (zI p) ((zF s).getD s)
|n=>n
def zR:Nat→Lean.Syntax→Option Lean.Syntax
|_,.ident i r n p=>if n.hasMacroScopes then none else let m:=zI n;if m==n then none else some (.ident i r m p)
|e+1,.node i k a=>if k== `Lean.Parser.Term.app then (zR e a[0]!).map λx=>.node i k (a.set! 0 x) else if k== `Lean.Parser.Term.proj then let f:Option Lean.Syntax:=if a[2]!.isIdent then let n:=a[2]!.getId;let m:=zJ n;if m==n then none else some (Lean.mkIdent m) else none
 match zR e a[0]!,f with
 |none,none=>none
 |x,f=>some (.node i k #[x.getD a[0]!,a[1]!,f.getD a[2]!])
 else none
|_,_=>none
def zS(s:Lean.Syntax):Lean.MacroM Lean.Syntax:=(zR 20 s).elim Lean.Macro.throwUnsupported pure
local macro_rules(kind:=ident)|s=>zS s
local macro_rules(kind:=Lean.Parser.Term.proj)|s=>zS s
local macro_rules(kind:=Lean.Parser.Term.app)|s=>zS s
local macro_rules(kind:=«term{_}»)|s=>pure (zN false `anonymousCtor #[s[0],s[1],s[2]])
def zE(s:Lean.Syntax)(x:List Char):Lean.Syntax:=s.setArg 1 (s[1].setArg 1 (s[1][1].setArg 0 (Lean.mkIdent (.mkSimple ("tw"++(x.foldl (λn c=>n*57+c.toNat-if c<'a' then 48 else 54) 0).repr)))))
def zK(s:Lean.Syntax):Nat→List Char→Array Lean.Syntax→Array Lean.Syntax
|0,_,a=>a
|n+1,l,a=>zK s n (l.drop 11) (if l.isEmpty then a else a.push (zE s (l.take 11)))
def zH(s:Lean.Syntax)(k:Lean.Name):Bool:=s.isOfKind (`Lean.Parser.Command++k)
def zB(s:Lean.Syntax):Option Lean.Syntax:=
 let d:=s[1]
 if s.getPos?.isNone||zH d `theorem then none else
 let t:=d[2][1][0][1]
 let q:=zH d `definition
 let s:=if q&&!(t.isMissing||t.isOfKind `Lean.Parser.Term.paren) then s.setArg 1 (.node .none `Lean.Parser.Command.theorem #[d[0],d[1],.node .none `Lean.Parser.Command.declSig #[d[2][0],d[2][1][0]],d[3]]) else if q||zH d `abbrev||zH d `instance then s.setArg 0 (s[0].setArg 4 (zU #[.node .none `Lean.Parser.Command.noncomputable #[s[0]]])) else s
 let s:=s.rewriteBottomUp (·.setInfo .none)
 some (if d[1][0].getId==`twz then zU (zK s 999 (d[3][1].isStrLit?.getD "").toList #[]) else s)
def zD(s:Lean.Syntax):Lean.MacroM Lean.Syntax:=(zB s).elim Lean.Macro.throwUnsupported pure
local macro_rules(kind:=Lean.Parser.Command.declaration)|s=>zD s
namespace PySem.W.Fast
def twz:="U73R<aM7FdffIcCXfkAdW@I4e1ecm=FHRgmZF7hSUZSmOAnK15kFLZ:G;8@J45cMKmH97llR=IM>8X6P6kSL>DLQEHA4YcKkJCJaVD=@gh70k1Uk3mNROh7YWMW2P9HEZb?1Zc2gQmie?>mbb1m>dUaPVNO;8nnKUONDBQe;fM2Pi>K8TG4IO9<YnfOb1AmnehUBQANmQTZHPdK:Sg:nSHW8b3hSKc?n0aaSHT:TcPjN3e0mdV6WlASSBn8b2=fmS5FgSXI4LRBhGkcMK2ccSS44<eGM@WCIIISXXjXMCgmOOgQfJkk4?65lAl:@CMdGFi4jckZTaWUID@7NWM2;F50O2TNQTPKjIh;>fF9781IOSZXJG94TNHPUSejDLa3I<gdC=Q6CADe9@BRCWFIOIBB9P8TiebY0T534CePEg026;GhXF537MGlECJEkZRXd55hbKJJVHi=j;j:Q5WWCcc7mCE7E8JmBHbBl76O?;CkmBlOWj?QIXkdC0H5j1gKgDfiiif1ANf1kIf97QVAZTddDi9bbbeC1ZP8kk;3cYQ0m:IPYWK>m>:W@;BV@gC9K1La69ERgY4Q4k:>JMcIHclGUKbVk3BY7ejTh0U4U7gSVeIf;UTGRBf86?fH7a2RWi84BL8MMJ4deSX7T46?5>ef<DZ30llI61m8K>HXL80=Z=8h17W5=Ya37g7DE2Aja?RNeQ0KQIeB>XWCWONKOCW1SecbHEW58HFDj<F6hg2=OcOhkHCXj5nJbI=MHj>?j0eBJc==dh:UbhOCGJi>M2GFOKR7nhMg?9:08UU?KAOK<P<IWeFVg=OjB8PbXIE;UY694bKim26XKb27SnRCPmZ7KfgflXmn1ljCY73m9bF6XCL6A<jAKlVW:QaLA@nTg0HP?1b97=BXSPfFd0;81P1:OhGZP2aS1ed>2<ZY3bkQ3G?hk1EfVZH0:DHLW=>4Pj<F02SHATeY8fXJd7FiYJC0d4@LFYkILJ0Y>:XcMCaU2mgFJ8i7:PYN?NAe8Vg;892c<bPl<5dShmBARhS5YZZS2M;mFB7@T291Vch>iMK1Yl05eQanT;jh<T79OHYmQI91=<A3:A0PUX<057<H8j8d0cLlfdDZRCWHmdD7M3i3IRZUDcX9eAUG2J3gV;ALPbDXfPWJ6IMJmnL6gU;P2J4nRlQK9?f@7Rd7;GZlPOO7hYnZWE6YK0dmj503m<BNHRAFfEBL@X1m5VbaM=VfQ2kGH=GBFEF2lA2e0f7@c9?KZVSX6@H989X1OaS>86>BMhdmMXfjABUbAHDEcX5VbSPj7kIl?f2BFfWA03kCdDBelDHkn@jV>RETIBTG03HMTNhSbOS08jBJSPcZ4lha7LQ4HD2hbk<9a8WTAlW:28B?a<a:@Ojne0XSTRlOi<fjOY;=JFaXDQ2FMNn>B=1hCb57V5XgHPV>nl@2U9?X5UVXP52KW?DnaZ2=Bd<k@@55>SMG>PKiOBG6J<ZHhZ@d>64DVNe7X=58aOMlCXhLnNKGL=E=AE5<AO0BPCOa79YX@FNfO3=EVeEmBkJAcA0W9h@H?08aRHC52XI2EfKiVP7nH3Kg=CdQFFeBZfBZKD9Enhj5fUlbV>6Lb?i89V8A=Ye3lQ230R4lf:naIlHlHi8SN4>fcY=2BM=TblWKY8aFW@gmD6dG<@hf57OT7N=8D1k6Jb3:Y2XXfa@G61iV;TPmhmNCM>hKnFJGBdS7FMI>Jl:J==cKTRbS0G1CD9kb>MaN>JmG?T=FE15;AjmE0MG0;1HVl4=C8UOJFa=Z5;Wk5N9MH;GXmF8Em0;Q5AUPYl=K55X7@>2XlP7@WGOZ=1gZPRambkB:?KAbcRaPJ4l@aa@4c3fQGFnU4:84J6l=:@ENL@1QJa=gQOG0M?d<fJn?NSgDGcl6nQD5D@U=EHKY5:1GMM;nV<CXFWhB26f4HCabYbG4RYl;XNRCWPQ=d:Wn<3Cn5MaAOfS16cNLDWIYMF<j1B8k@NDI9250@<;K6J5;M70H>c3:A4?V4LPK2V6RH;:<WFNHRE;fkVO6EQD2WTjD4?2n9E7mf2A<H7Bk0c:0=ekS;R3AbfPMDKi@YgYXUZG1I2;UiBUi6m<Zg2Be@SLV7CN?MF>S63Dn16=2D=RfKDcKlGKg0YVVne;1MGa3kcOSFBb@Ik3Scl68QhaV<IkH5OVZc3HRW4e=hg<284jQkhXIRXiOWOS7>g21WCYF9i;FChO3>Bkg7WTH6?5;4O<HENbl=L;dEaZl7jRJ5A;31?hD>EiPDImATTBXGFeh3MNJY6g<IGW7F0il64>EVBi>1MYgiKZ4=P<8YcZUX0XJ=mA6MJ1n72NHHkE5=h3BFQ?hh18O>AL:>Cm15?P7ZEjY:DG;ZO8:Ac=ja?A?HdJ9fgAi7=S@PaA0kU1UJ>T2Td@jLdg@V9ZBXQPMlgQ6;@L2amJNnBROe4=CM2l@QBF>9K4IehEaTWbV2n?NY44ch8H<ZX1HQA9bLnKYmfLX8R4BnXYCcWeTM0bmJ;KX1T@656UkAY0=ED3XCfT1nGXQYiFi05l2ncI03M70@i;DC=hU79XIkIbdOKVchDMb<2:>E4Lc>iY1bfXf<VjF@iJmM=HnWIa2>c5TQ;@MZCI=<9PfkO527:lfgi1E0abl<=e4jPh83INn@b4320@LDAU4:Qf2I3KaGAQbOmJgFDRU7UFFnVC@MKU6KgIle@DN38a6Pd?UAiED31V=W:InSAanP@3LMSDd6RI>=KP4Rd75OTeN0??ggCcCYK1Pg;8=6J9EWan>VN5W16RYj9AhR7KZNC:Ql29H84@nLFT10hhhlHa7:SAeW3m5GCce>CMn0SnFkeSaRJD6VC3dUbUD4:?@>F9gYC38L2eDQO?LggW1ENHDI=Fa=:4OMmCg1icO:Qnd3UMf79POkBK=TiWEJjK64Wk>ZA=7;hcRBEaCeR?>Ohg?UT?ibVBT?H9WOfYH=bf3@FbFL=358TThJBG7cSX?iIcT?DCT9S?40JcYY9Dd665bTI2=LJfTFCPVjXddhbA9kG5@4cjj06m7??XY4>C6>G5HlMWLVJ91WkZ@Ai9DBVOdihD;Bgi?b9AA0VXhMY1KFX@VSC8FDU=fJf0WU8WCRD72;OUj84aCT=h;g65a482D;QbiQ7Z3EiE4OXDRE<DhXKXheKW@SQ=FOb3b@JKP>M<2?QMLkGVda:TnFU2>:cD0<?lkdAM<Y?AM89Iij@d>:4GVR0iS4j04ni4EKljQDe<Xj9Dj@VZNgbc;MnAmOf5<Y2:QWd9HbceBZI7Yjk1PGjbI0US3hj1KJ1KTPa?UhmnB2YFX09g?9BU:ZfcI45BeW1CRBVK<jWnc;8eif86O1S0S:i8a706;>eECOjEQe96GWQFJB40khXLC8MmAX?Ud>E>fJBmB<n=SFT<adLOg4XS3NX=S:NL1XI3gcQZVd6:ED7=PJgZKS@LJ6YhE3n<Kn3aicRSBH41mWHnUJ2@HN:CclHZCIX8QXiZkLBOWf4<AKCNVJfJj@Z=a6eIg?BJXKKKUmNmPS<d>PVJK:W@H1PMe@l>28KHfcTN70QHnZ4DMnfPfc11GL1TCdAZTXgdIZEaAU<7MT7160V:VVk3El<C77=S652ON8l?2MBU:Md43DURIUZODS9HJ3FjEmenFWFF92?N=;?QM;R3ZkmFN>>2;KYN;@bO3cm5cHlkUn0RO44lfhdDAW0bWcG6mQn=AlQCZ3HY;Y@27PAYlMMS8i:Ob:M6XgBJ6>QaBJA34:F>Fc5GRcQ0kbd;>P0DD9Oc9n@A;AD@Aa0EC:=hIBV3?;jEY6W05a?PZilOINHPe0Z6g4k5UB=ekmJ;mNH8caL5m90>dQPTOjGbBEc8SUm0MkUfDc4KVO>Jca1W1n?j2YAM@Q<lY5JjHlAnh4:GI8mC<IB1mLV=P0YZ7id;PTgIDPY=2CG<Rg3QFk6WV=a=18P@P5H4GW1=?m<>1gO0:NB6?;l:QDF0n4m8IlV6i4m4LcgI8ZDg:hO?RGDg>MnkhMJ>>:i<C3T47:kc:blGl;QDPJkgi3e2dIRfVIblRg;Dcfm3W3WBhH4nkYZNSE1JL=K1;Y5Ln7F<QeIR9k2fHcmh;F1D?LIZOaNG9HiNIcZUOCgV0kmIEHQ4XFTUWlH=TNk0?P6eI14h6NIc8T696=72YGa8BcV5E?LFENO@EKf1WMLFDfAGLdHU<NS63Y9aVmPa>4FlZJmVA2Kf;35lUkUlIPARXF>?KTEJiY2iEb6;NV;@M>TY9b4dTcIgU>:Ym67OBjmGZVeCC642CHBSW29ihkYbHR3Ob6iY>a?O6knUUmWL9RSMNPV0PWI2jIVM5bh@RKl<:N6j8KjOUT9NaXbC71MBeeMkAQJnTA5ahF@38nYc;bQfWgn==E0:MBW3jI5<C>8@7A9jFZkGn6N>ZI9ck>ESgUl<<O;iJ5RakNW?=C=Rf6ZU3nS@4@JmmZ8IE7HVGJ26YU<:DnLJ9<QW@NR:FSPY9fW7ihPmMd;=;"
end PySem.W.Fast
def Z{α:Sort _}{a:α}:a=a:=rfl
abbrev Aa:=List (Int×Int)
abbrev Ab:=List (List Int)
abbrev Ac:=List Int
abbrev Ad:=PySem.W.Frag
abbrev Ae:=PySem.Value->PySem.Shared->Prop
abbrev Af:=PySem.Str->Option PySem.Value
abbrev Ag:=List PySem.Value
def J{p:Prop}(h:p:=by lia):p:=h
def tH{p:Prop}(h:p:=by decide +kernel):p:=h
def tI{p:Prop}(h:p:=by decide):p:=h
def tG{p:Prop}(h:p:=by simp):p:=h
def S{p:Prop}(h:p:=by omega):p:=h
def tL{p:Prop}(h:p:=by grind):p:=h
def tK{p:Prop}(h:p:=by rfl):p:=h
def tN{p:Prop}(h:p:=by kernel_rfl):p:=h
def XH:=@List.getElem?_eq_getElem
def Xy:=@List.getElem?_eq_some_iff
def XY:=@PySem.wpAny_bind
def Xl:=@List.getD_eq_getElem?_getD
def XF:=@List.mem_singleton
def XB:=@List.length_append
def Xr:=@List.mem_of_getElem?
def Xf:=@PySem.Heap.get?_push_of_some
def Xz:=@List.length_map
def Xx:=@List.mem_append
def Ya:=@Nat.le_refl
def Yb:=@List.mem_cons_self
def Yc:=@Option.some.inj
def Yd:=@List.size_toArray
def Ye:=@List.mem_cons_of_mem
def Yf:=@Int.toNat_natCast
def Yg:=@List.mem_cons
def Yh:=@PySem.wpAny_pure
def Yi:=@List.mem_append_right
def Yj:=@List.mem_append_left
def Yk:=@Nat.zero_le
def Yl:=@PySem.Heap.get?_push_size
def Ym:=@List.getElem?_append_right
def Yn:=@List.getElem?_append_left
def Yo:=@List.length_singleton
def Yp:=@List.map_append
def Yq:=@List.mem_map
def Yr:=@List.getElem?_map
def Ys:=@PySem.Heap.lt_size
def Yt:=@List.mem_filter
def Yu:=@Nat.lt_of_lt_of_le
def Yv:=@List.length_cons
def Yw:=@List.length_replicate
def Yx:=@Bool.false_ne_true
def Yy:=@List.append_nil
def Yz:=@List.getElem?_of_mem
def YA:=@Nat.ne_of_lt
def YB:=@List.length_take
def YC:=@Classical.byContradiction
def YD:=@List.map_cons
def YE:=@Nat.le_trans
def YF:=@Array.getD_eq_getD_getElem?
def YG:=@List.append_assoc
def YH:=@of_decide_eq_true
def YI:=@List.take_length
def YJ:=@List.getElem?_eq_none
def YK:=@decide_eq_true
def YL:=@List.mem_range
def YM:=@List.nodup_append
def YN:=@Array.length_toList
def YO:=@List.length_range
def QP:=@Array.getElem?_eq_getElem
def YQ:=@List.map_congr_left
def YR:=@PySem.PassesOwn.never
def YS:=@List.take_succ
def YT:=@List.length_filter_le
def YU:=@PySem.F.plainAttrs_list
def YV:=@List.sum_cons
def YW:=@PySem.Heap.get?_update_other
def YX:=@List.length_reverse
def YY:=@Ne.symm
def YZ:=@List.flatten_cons
def Vm:=@List.perm_ext_iff_of_nodup
def VS:=@PySem.Heap.get?_update_self
def Vy:=@List.length_eq_zero_iff
def XG:=@congrArg
def Wh:=@PySem.Obj.data_mapFields
def Wt:=@List.filter_cons
def VH:=@Array.getElem?_toList
def Vx:=@List.take_of_length_le
def Wd:=@List.pairwise_cons
def Wq:=@List.mem_flatten
def Ny:=@PyProof.Rows.callWith_type1
def Sv:=@List.pairwise_map
def SW:=@Nat.mod_eq_of_lt
def TH:=@Nat.not_lt_zero
def Rt:=@PySem.Heap.SameBut.update
def RY:=@PySem.wpAny_newObj_type
def Nx:=@PySem.F.type_list_append
def Nw:=@PySem.F.slot_list_append
def UP:=@Int.mul_zero
def RX:=@List.getElem_mem
def Qs:=@decide_eq_true_iff
def RW:=@PySem.wpAny_call_entry
def PX:=@List.getElem?_range
def PV:=@List.flatten_append
def Oa:=@PySem.builtinLookup_eq_fast
def LP:=@List.pairwise_iff_getElem
def UW:=@Int.one_mul
def Nv:=@PySem.wpAny_callSpecial?_slot
def RV:=@decide_eq_false
def Qr:=@List.getElem?_set
def PU:=@List.filter_append
def RU:=@PySem.codeAny_builtin
def TX:=@Int.mul_comm
def TV:=@Int.add_zero
def SV:=@Int.mul_assoc
def Qq:=@List.length_drop
def PR:=@List.ext_getElem?
def Nu:=@List.pairwise_append
def Ur:=@Nat.le_succ
def PQ:=@PySem.wpAny_truthy_bool
def Qp:=@List.nodup_cons
def NZ:=@PySem.wpAny_Call_Name_kw
def SU:=@Nat.zero_add
def Nt:=@List.replicate_succ
def PN:=@List.all_eq_true
def RT:=@Nat.lt_irrefl
def RS:=@PySem.wpAny_holding
def PM:=@List.range_succ
def PL:=@List.length_set
def NY:=@Nat.lt_succ_self
def Kt:=@List.drop_eq_nil_of_le
def TF:=@PySem.wpAny_of_eq
def TB:=@PySem.sizeLine_eq
def RR:=@Int.zero_add
def Qo:=@PySem.Heap.size_push
def Uq:=@PySem.wpAny_mono
def NX:=@Bool.eq_iff_iff
def Ks:=@PySem.Obj.isFreed_of_fields
def Rr:=@Nat.ne_of_gt
def Rq:=@List.map_map
def Hf:=@List.pairwise_singleton
def He:=@List.getElem?_replicate
def Vl:=@PySem.wpAny_setField
def UO:=@PySem.typeLookup_type
def Tz:=@List.count_append
def Su:=@PySem.mem_of_lookup
def Rp:=@List.pairwise_lt_range
def Ro:=@List.length_pos_of_mem
def Up:=@PySem.F.plain_min_loop
def Ss:=@PySem.Around.under_plainId
def Vw:=@Nat.sub_self
def Uo:=@List.nil_append
def Ha:=@List.getElem?_zipWith
def LO:=@List.lookup_cons
def FI:=@List.getLast?_eq_getElem?
def Kr:=@Int.emod_lt_of_pos
def FH:=@List.eq_of_mem_replicate
def PK:=@Int.zero_mul
def FG:=@Int.mul_fdiv_cancel_left
def Kq:=@decide_eq_true_eq
def Kp:=@Nat.lt_succ_of_lt
def LN:=@List.find?_cons
def Nr:=@PySem.wpAny_seqItems
def Nq:=@PySem.isSubtype_type
def Rn:=@beq_iff_eq
def FF:=@List.head?_eq_getElem?
def Ko:=@List.cons_append
def Km:=@Bool.and_eq_true
def GZ:=@Nat.lt_of_le_of_lt
def PJ:=@Int.mul_one
def PH:=@Int.le_refl
def FE:=@List.take_append_drop
def FC:=@List.getElem?_reverse
def Kl:=@PySem.wpAny_isInstance
def Np:=@PySem.wpAny_attempt
def Nn:=@PySem.plainId_quiet
def Kk:=@Option.map_some
def Kj:=@Int.emod_nonneg
def yr:=@Array.perm_iff_toList_perm
def GY:=@List.reverse_cons
def Nm:=@Nat.succ.inj
def Nl:=@Nat.le_of_lt
def FA:=@List.mem_of_mem_take
def Ki:=@PySem.wpAny_specialOf
def Kh:=@PySem.wpAny_passesOwn
def GX:=@beq_self_eq_true
def Fz:=@beq_eq_false_iff_ne
def yq:=@Option.isSome_iff_exists
def Kg:=@Nat.mul_le_mul
def Fy:=@List.map_eq_nil_iff
def Fx:=@List.length_zipWith
def yn:=@List.length_erase_of_mem
def ym:=@PySem.F.slot_tuple_iterator_next
def GW:=@PySem.wpAny_setState_of
def NW:=@PySem.wpAny_field
def Fw:=@List.getElem?_take
def Fv:=@List.getElem?_drop
def GV:=@List.sum_append
def GU:=@List.length_nil
def Fu:=@PySem.wpAny_setEntries_of
def GS:=@PySem.wpAny_askSetting
def yk:=@Array.getElem?_eq_none
def Ft:=@List.filter_congr
def LM:=@PySem.codeAny_mono
def Kf:=@List.take_append_of_le_length
def Ke:=@List.drop_append_of_le_length
def Rm:=@Int.natAbs_mul
def Tx:=@PySem.F.called_set
def Tw:=@Int.mul_add
def Sr:=@PySem.wpAny_newList
def Nk:=@Nat.pow_le_pow_right
def Sq:=@Nat.mod_self
def Um:=@Nat.mod_lt
def Nj:=@List.replicate_succ'
def Fs:=@List.mem_reverse
def yj:=@List.getElem?_set_ne
def uW:=@List.dropLast_concat_getLast
def Kd:=@Int.pow_zero
def Fq:=@PySem.wpAny_pyIter_enum
def Fp:=@PySem.Obj.cls_mapFields
def yi:=@List.filterMap_cons
def Fo:=@Nat.min_eq_left
def yh:=@Nat.add_sub_cancel
def yg:=@List.append_of_mem
def uV:=@Int.eq_of_mul_eq_mul_left
def Kc:=@PyProof.Rows.listUpdate_at
def uU:=@PySem.F.args_tuple_add_2
def uS:=@List.Pairwise.imp_of_mem
def GR:=@Int.le_trans
def GQ:=@Int.le_of_lt
def yf:=@List.foldl_append
def ye:=@List.flatMap_cons
def yd:=@Int.mul_left_comm
def uR:=@PySem.F.entry_tuple_add
def uQ:=@Nat.add_sub_cancel_left
def uP:=@Int.eq_ofNat_of_zero_le
def x9:=@PySem.wpAny_pyIter_tuple
def uN:=@PySem.F.slot_tuple_add
def x8:=@Nat.le_of_not_lt
def x6:=@List.mem_flatMap
def uM:=@List.getElem?_set_self
def uL:=@List.getElem?_eraseIdx
def uK:=@List.drop_of_length_le
def Fn:=@List.any_cons
def xZ:=@PySem.Code.quiet_builtin
def GP:=@Sum.inl.inj
def GO:=@Int.add_mul
def Fm:=@PySem.wpAny_tryCatch
def uJ:=@List.Perm.append_left
def uH:=@PySem.AutoSeq1.wpAny_loadPart'
def xY:=@beq_false_of_ne
def xX:=@Nat.le_antisymm
def xW:=@List.foldl_cons
def xV:=@Int.min_eq_left
def uG:=@List.mem_of_getLast?
def uE:=@List.mem_erase_of_ne
def Fl:=@List.map_nil
def uD:=@List.length_eraseIdx
def Fj:=@Int.pow_succ
def Kb:=@PySem.wpAny_rule
def Fi:=@PySem.signature?_of
def xU:=@List.take_zero
def uC:=@List.getElem_of_mem
def uB:=@List.filter_eq_self
def GN:=@Int.not_lt
def xT:=@PySem.F.entry_min_loop
def Rk:=@PySem.wpAny_letGo
def Ka:=@Int.natAbs_natCast
def JZ:=@Bool.false_eq_true
def Ni:=@PySem.wpAny_updateSeq
def Nh:=@PySem.wpAny_execs_nil
def Ng:=@PySem.W.mg_of
def PF:=@PySem.wpAny_typeOf
def JY:=@PySem.wpAny_pyIter_revIter
def Fh:=@PyProof.Rows.callWith_builtin1
def JX:=@Nat.add_mod_right
def uz:=@List.reverse_perm
def fe:=@List.eq_nil_iff_forall_not_mem
def uw:=@List.Pairwise.map
def uu:=@Array.toList_push
def ur:=@PyProof.Rows.F.plain_set_update_loop
def xS:=@PySem.wpAny_runValue
def xR:=@PySem.wpAny_fieldsOf
def xQ:=@PySem.isSubtype_stop
def GL:=@PySem.call_meets
def fc:=@PySem.F.slot_dict_setdefault
def uq:=@Nat.succ_ne_self
def xP:=@Nat.mul_comm
def uo:=@Nat.min_eq_right
def um:=@List.not_mem_nil
def uj:=@List.getElem_inj
def ui:=@List.any_eq_true
def xO:=@Int.sub_zero
def uh:=@Int.min_eq_right
def ug:=@Int.max_eq_right
def xN:=@Int.lt_trans
def uf:=@PySem.tupleKind_room_in1
def ue:=@PySem.SeqAt.EqAt.of_refs
def fb:=@PySem.F.slot_tuple_getitem
def ud:=@List.of_mem_zip
def e9:=@List.length_eraseIdx_of_lt
def uc:=@List.filter_nil
def t9:=@Int.neg_mul_neg
def t8:=@Int.natCast_add
def t7:=@Int.max_eq_left
def tZ:=@PySem.Calls.spliced_cons
def tY:=@Bool.or_eq_true
def e8:=@Array.getElem?_eq_some_iff
def xM:=@PySem.wpAny_handled
def eZ:=@PySem.F.plain_extend_loop
def eY:=@List.getElem?_eq_none_iff
def eX:=@List.drop_eq_getElem_cons
def xK:=@Int.neg_mul
def eW:=@Int.lt_of_mul_lt_mul_left
def tX:=@PySem.wpAny_pyIter_slot
def tW:=@PySem.wpAny_pyIter_list
def xJ:=@PyProof.Rows.get?_update_seq
def eV:=@PySem.F.type_list_extend
def eT:=@PySem.F.slot_list_extend
def eS:=@PySem.F.slot_dict_values
def eQ:=@List.mem_of_mem_eraseIdx
def eO:=@List.getElem?_take_of_lt
def tV:=@List.drop_zero
def eN:=@List.append_cancel_right
def eM:=@List.Perm.eq_of_pairwise
def tU:=@PySem.Calls.spliced_nil
def tT:=@PyProof.Rows.entry_proto_collect'
def eK:=@PySem.F.plainAttrs_dict
def Fg:=@List.pairwise_mergeSort
def Ff:=@List.getElem?_cons_succ
def PD:=@PySem.wpAny_load
def PB:=@PySem.wpAny_call
def JW:=@PySem.noFill_tuple_add
def Fe:=@PySem.W.cellsFrom_some
def JV:=@List.take_nil
def Fd:=@List.flatten_singleton
def JU:=@Int.add_assoc
def Fc:=@PySem.F.args_tuple_iterator_next_1
def eJ:=@PySem.F.type_list_pop
def eE:=@PySem.F.slot_list_pop
def eC:=@List.perm_append_comm
def eB:=@List.pairwise_flatten
def eA:=@List.getElem?_toArray
def eh:=@List.Pairwise.sublist
def d9:=@Int.natAbs_dvd_natAbs
def d6:=@PySem.F.entry_tuple_iterator_next
/-! THE HAND dZ,for ints,bools,texts,own classes,dY and tuples (index,tS,in,append,pop ..),calls,loops. dX it whole ahead of tR own text;what tR proof does not reach may be deleted. -/
namespace L2
open PySem PySem.Spec PyProof.Rows
abbrev Key:=Sum Int Str
def Rj:(Key->Value->Bool)
 | .inl k,v=>Value.isInt k v
 | .inr x,v=>Value.isStrOf x v
def Zaa(w:World):(Key->Int)
 | .inl k=>hashInt k
 | .inr x=>hashStr w x
def ZG:∀{k:Key}{v:Value},Rj k v=true->(∃i t,k=Sum.inl i/\v=Value.int i t)\/(∃x t,k=Sum.inr x/\v=Value.str x t)
 | .inl i,v,h=>by let(t,e):=Value.isInt_shape (k:=i) (v:=v) h;show .inl ⟨i,t,Z,e⟩
 | .inr x,v,h=>by let(t,e):=Value.isStrOf_shape (x:=x) (v:=v) h;show .inr ⟨x,t,Z,e⟩
def ZU8(i:Int)(t:Tok):Rj (.inl i) (.int i t)=true:=by simp[Rj,Value.isInt]
def ZT8(x:Str)(t:Tok):Rj (.inr x) (.str x t)=true:=by simp[Rj,Value.isStrOf]
def Zab(a b:Int):decide ((Sum.inl a:Key)=Sum.inl b)=(a == b):=by
 cases e:a=b
 .subst e;simp
 .let h:¬(Sum.inl a:Key)=Sum.inl b:=λq=>e (GP q);rw[RV h];show(Fz.H e).U
def Zac(a b:Str):decide ((Sum.inr a:Key)=Sum.inr b)=decide (a=b):=by
 cases e:a=b
 .subst e;simp
 .let h:¬(Sum.inr a:Key)=Sum.inr b:=λq=>e (Sum.inr.inj q);rw[RV h,RV e]
def Zad(a:Int)(b:Str):decide ((Sum.inl a:Key)=Sum.inr b)=false:=RV (λq=>nomatch q)
def Zae(a:Str)(b:Int):decide ((Sum.inr a:Key)=Sum.inl b)=false:=RV (λq=>nomatch q)
def ZT(prog:Program)(w:World):(PySem.KeyKind prog w Key) where
 is:=Rj
 hash:=Zaa w
 inj:=λv a b ha hb=>by
  rcases ZG ha with ⟨i,t,rfl,rfl⟩|⟨x,t,rfl,rfl⟩
  .rcases ZG hb with ⟨j,u,rfl,e⟩|⟨y,u,rfl,e⟩
   .injection e with e1 _;rw[e1]
   .show nomatch e
  .rcases ZG hb with ⟨j,u,rfl,e⟩|⟨y,u,rfl,e⟩
   .show nomatch e
   .injection e with e1 _;rw[e1]
 byValue:=λk v h=>by rcases ZG h with ⟨i,t,rfl,rfl⟩|⟨x,t,rfl,rfl⟩<;>rfl
 pyHash:=λhv h=>by
  rcases ZG hv with ⟨i,t,rfl,rfl⟩|⟨x,t,rfl,rfl⟩
  .show wpAny_pyHash_int h
  .show wpAny_pyHash_str h
 eqBool:=λhu hv h=>by
  rcases ZG hu with ⟨i,t,rfl,rfl⟩|⟨x,t,rfl,rfl⟩
  .rcases ZG hv with ⟨j,u,rfl,rfl⟩|⟨y,u,rfl,rfl⟩
   .rw[Zab]at h;show wpAny_eqBool_int h
   .rw[Zad]at h;show SeqAt.EqAt.int_str i t y u _ _ _ _ h
  .rcases ZG hv with ⟨j,u,rfl,rfl⟩|⟨y,u,rfl,rfl⟩
   .rw[Zae]at h;show SeqAt.EqAt.str_int x t j u _ _ _ _ h
   .rw[Zac]at h;show wpAny_eqBool_str h
 «strs»:=λk x t v h=>by
  rcases ZG h with ⟨i,u,rfl,e⟩|⟨y,u,rfl,e⟩
  .show nomatch e
  .injection e with e1 _;subst e1;cases v<;>rfl
def Zaf(prog:Program)(w:World)(i:Int)(t:Tok):(ZT prog w).is (.inl i) (.int i t)=true:=ZU8 i t
def ZZ5(prog:Program)(w:World)(x:Str)(t:Tok):(ZT prog w).is (.inr x) (.str x t)=true:=ZT8 x t
inductive V where
 |non|bl (b:Bool)|int (i:Int)|str (x:Str)|byt (b:Array UInt8)|flt (b:UInt64)|ref (a:Addr)|ty (n:String)
 deriving DecidableEq
def RelV:(V->Value->Prop)
 | .non,u=>u=Value.none
 | .bl b,u=>u=Value.bool b
 | .int i,u=>∃t,u=Value.int i t
 | .str x,u=>∃t,u=Value.str x t
 | .byt b,u=>∃t,u=Value.bytes b t
 | .flt b,u=>∃t,u=Value.float b t
 | .ref a,u=>u=Value.ref a
 | .ty n,u=>u=Value.type n
abbrev Vals:List V->List Value->Prop:=Paired RelV
def Vals.length{xs:List V}{us:Ag}(r:Vals xs us):xs.f=us.f:=Paired.f r
def Vals.get{xs:List V}{us:Ag}{i:Nat}{x:V}(h:Vals xs us)(e:xs[i]?=some x):∃u,us[i]?=some u/\RelV x u:=by
 induction h generalizing i with
 |nil=>simp at e
 |cons r t ih=>
  cases i with
  |zero=>simp at e;subst e;exists _,Z,r
  |succ i=>
   let(u,h1,h2):=ih (i:=i) (by simpa using e);exists u,by simpa using h1,h2
def Vals.set(r:RelV x u){xs:List V}{us:Ag}(i:Nat)(h:Vals xs us):Vals (xs.set i x) (us.set i u):=by
 induction h generalizing i with
 |nil=>show .nil
 |cons q t ih=>
  cases i with
  |zero=>show .cons r t
  |succ i=>show .cons q (ih i)
def Vals.append{xs ys:List V}{us ws:Ag}(h:Vals xs us)(s:Vals ys ws):Vals (xs++ys) (us++ws):=by
 induction h with
 |nil=>show s
 |cons r t ih=>show .cons r ih
def Vals.take{xs:List V}{us:Ag}(n:Nat)(h:Vals xs us):Vals (xs.X n) (us.X n):=by
 induction h generalizing n with
 |nil=>cases n<;>show .nil
 |cons r t ih=>
  cases n with
  |zero=>show .nil
  |succ n=>show .cons r (ih n)
def Vals.drop{xs:List V}{us:Ag}(n:Nat)(h:Vals xs us):Vals (xs.drop n) (us.drop n):=by
 induction h generalizing n with
 |nil=>cases n<;>show .nil
 |cons r t ih=>
  cases n with
  |zero=>show .cons r t
  |succ n=>show ih n
def RelO:(Option V->Option Value->Prop)
 |some v,some u=>RelV v u
 |none,none=>True
 |_,_=>False
def KV{κ:Type}:(List (κ×V)->List (κ×Value)->Prop):=Paired λ(p:κ×V) (q:κ×Value)=>p.1=q.1/\RelV p.2 q.2
def kV:(Key->V)
 | .inl i=>.int i
 | .inr x=>.str x
inductive HO where
 |lst (xs:List V)
 |tup (xs:List V)
 |dK (kvs:List (Key×V))|dT (kvs:List (List Key×V))
 |set (AP:Int->Bool) (n:Nat)
 |ins (C dx:Addr) (fs:List (Str×V))
 |own (x:Addr)
 |xd (fs:List (Str×V))
 |met (f x:Addr)
 |rng (lo hi:Int)
 |frz (o:Obj) (u:HO)
 |tbl (ps:Array Value)
 |ext (φ:Heap->Prop)
abbrev Hp:=Addr->Option HO
def upd(H:Hp)(a:Addr)(o:HO):(Hp):=λb=>if b=a then some o else H b
def XS:upd H a o a=some o:=by unfold upd;rw[if_pos Z]
def XR(h:b≠a):upd H a o b=H b:=by unfold upd;rw[if_neg h]
def NV{H:Hp}{a b:Addr}{o u:HO}(h:H a=some o)(h':H b=some u)(d:o≠u):a≠b:=by intro e;subst e;rw[h]at h';show d (Yc h')
def Za{H:Hp}{a b:Addr}{o:HO}(h:H a=some o)(h':H b=none):a≠b:=by intro e;subst e;rw[h]at h';cases h'
section
variable(P:Program)(w:World)
def ObjOk(H:Hp)(h:Heap)(a:Addr):(HO->Prop)
 | .lst xs=>xs.f<=sizeLine/\∃(XU:Ag)(n:Nat),Vals xs XU/\h.B a=some {cls:=.type "list",data:=.seq XU.m n}
 | .tup xs=>xs.f<=sizeLine/\∃XU:Ag,Vals xs XU/\IsTup h a XU.m
 | .dK kvs=>kvs.f<=sizeLine/\(a == sysModules)=false/\∃vs,KV kvs vs/\h.DictOf (ZT P w) a vs
 | .dT kvs=>kvs.f<=sizeLine/\(a == sysModules)=false/\∃xs:List (List Key×Addr×Value),
   Paired (λ(p:List Key×V) (q:List Key×Addr×Value)=>p.1=q.1/\H q.2.1=some (.tup<|p.1.C kV)/\RelV p.2 q.2.2) kvs xs/\
   ∃o es ep,h.B a=some o/\o.ExactDict/\o.data=.dict es ep/\es.toList=xs.C (entryOfKey<|tupleKind<|ZT P w)/\(xs.C (·.1)).Nodup
 | .set AP n=>h.SetOf (intKind P w) a AP n
 | .ins C dx fs=>H dx=some (.own a)/\fs.f<=1000/\dx≠a/\h.B a=some (PySem.W.instObj C dx)/\
   ∃mA,h.Ns1 dx mA/\(∀f,RelO (fs.L f)<|mA f)/\PySem.Within mA (fs.C (·.1))
 | .own _=>∃o,h.B a=some o
 | .xd fs=>∃mA,h.Ns1 a mA/\∀f,RelO (fs.L f) (mA f)
 | .rng lo hi=>∃t u v,h.B a=some {cls:=.type "range",data:=.fields #[.int lo t,.int hi u,.int 1 v]}
 | .frz o u=>h.B a=some o/\ObjOk H h a u
 | .tbl ps=>h.B a=some {cls:=.none,data:=.fields ps}
 | .met f x=>h.B a=some (PySem.W.methodObj ↑f<|.ref x)
 | .ext φ=>φ h/\(∃o,h.B a=some o)/\∀h1 h2:Heap,φ h1->(∀o,h1.B a=some o->h2.B a=some o)->φ h2
def HOk(H:Hp)(h:Heap):(Prop):=∀a o,H a=some o->ObjOk P w H h a o
end
section
variable{P:Program}{w:World}{H H':Hp}{h h':Heap}{a:Addr}{o:HO}
def ObjOk.lt(x:ObjOk P w H h a o):a<h.objs.G:=by
 cases o with
 |lst xs=>let(_,_,_,_,e):=x;show Ys e
 |tup xs=>let(_,_,_,p):=x;show p.lt
 |dK kvs=>let(_,_,_,_,o,_,_,e,_):=x;show Ys e
 |dT kvs=>let(_,_,_,_,o,_,_,e,_):=x;show Ys e
 |set AP n=>let(o,_,_,_,e,_):=x;show Ys e
 |ins C dx fs=>let(_,_,_,e,_):=x;show Ys e
 |own y=>let(_,e):=x;show Ys e
 |xd fs=>let(_,(_,_,_,e,_),_):=x;show Ys e
 |rng lo hi=>let(_,_,_,e):=x;show Ys e
 |frz ob u=>let(e,_):=x;show Ys e
 |tbl ps=>show Ys (show h.B a=some _ from x)
 |met f y=>show Ys (show h.B a=some _ from x)
 |ext φ=>let(_,(_,e),_):=x;show Ys e
def Paired.mapP{α β:Type}{F G:α->β->Prop}{l₁:List α}{l₂:List β}(h:Paired F l₁ l₂)(f:∀a b,F a b->G a b):Paired G l₁ l₂:=by
 induction h with
 |nil=>show .nil
 |cons r t ih=>show .cons (f _ _ r) ih
def ObjOk.stay(x:ObjOk P w H h a o)(k:∀b u,(b=a\/H b=some (.own a))->h.B b=some u->h'.B b=some u)
  (ho:∀b,H b=some (.own a)->H' b=some (.own a))(ht:∀b xs,H b=some (.tup xs)->H' b=some (.tup xs)):ObjOk P w H' h' a o:=by
 induction o with
 |lst xs=>let(z,XU,n,r,e):=x;exists z,XU,n,r,k _ _ (.inl Z) e
 |tup xs=>let(z,XU,r,ob,e,c):=x;exists z,XU,r,ob,k _ _ (.inl Z) e,c
 |dK kvs=>let(z,y,vs,r,ob,es,ep,e,c):=x;exists z,y,vs,r,ob,es,ep,k _ _ (.inl Z) e,c
 |dT kvs=>
  let(z,y,xs,r,ob,es,ep,e,c):=x;exists z,y,xs,Paired.mapP r λp q z=>{z.1,ht _ _ z.2.1,z.2.2},ob,es,ep,k _ _ (.inl Z) e,c
 |set AP n=>let(ob,es,ep,t,e,c):=x;exists ob,es,ep,t,k _ _ (.inl Z) e,c
 |ins C dx fs=>
  let(d,z,ne,e,mA,(od,es,ep,e2,c),r):=x;exists ho _ d,z,ne,k _ _ (.inl Z) e,mA,{od,es,ep,k _ _ (.inr d) e2,c},r
 |own y=>let(ob,e):=x;exists ob,k _ _ (.inl Z) e
 |xd fs=>let(mA,(od,es,ep,e,c),r):=x;exists mA,{od,es,ep,k _ _ (.inl Z) e,c},r
 |rng lo hi=>let(t,u,v,e):=x;exists t,u,v,k _ _ (.inl Z) e
 |frz ob u ih=>let(e,q):=x;exists k _ _ (.inl Z) e,ih q
 |tbl ps=>
  let e:h.B a=some {cls:=.none,data:=.fields ps}:=x;change h'.B a=some {cls:=.none,data:=.fields ps}
  show k a _ (.inl Z) e
 |met f y=>
  let e:h.B a=some (PySem.W.methodObj ↑f<|.ref y):=x;change h'.B a=some (PySem.W.methodObj ↑f<|.ref y)
  show k a _ (.inl Z) e
 |ext φ=>let(p,(o,e),st):=x;exists st _ _ p λo q=>k _ _ (.inl Z) q,{o,k _ _ (.inl Z) e},st
def HOk.lt(x:HOk P w H h)(e:H a=some o):a<h.objs.G:=(x a o e).lt
def HOk.fresh(x:HOk P w H h)(e:h.objs.G<=a):H a=none:=by
 cases q:H a with
 |none=>rfl
 |some u=>show absurd (Yu (x.lt q) e) (RT _)
def HOk.kept(x:HOk P w H h)(k:∀b u,h.B b=some u->h'.B b=some u):HOk P w H h':=λa o e=>
 (x a o e).stay (λb u _ q=>k b u q) (λ_ q=>q) λ_ _ q=>q
def HOk.laid(x:HOk P w H h)(k:∀b u,h.B b=some u->h'.B b=some u)(hp:h.objs.G<=a)(new:ObjOk P w (upd H a o) h' a o):HOk P w (upd H a o) h':=λb u e=>by
 let hn:=x.fresh hp;cases hb:b=a
 .subst hb;rw[XS]at e;cases e;show new
 .rw[XR hb]at e;show(x b u e).stay (λc v _ q=>k c v q) (λc q=>by rwa[XR (Za q hn)]) λc xs q=>by rwa[XR (Za q hn)]
end
def Rd(H:Hp)(a:Addr)(u:HO):(Prop):=H a=some u\/∃o,H a=some (.frz o u)
def Rd.ok(r:Rd H a u)(x:HOk P w H h):ObjOk P w H h a u:=by
 rcases r with r|⟨o,r⟩
 .show x a u r
 .let⟨_,q⟩:=x a _ r;show q
def Fb:(Option HO->Prop)
 |some (.lst _)=>True
 |some (.dK _)=>True
 |some (.dT _)=>True
 |some (.set _ _)=>True
 |some (.ins _ _ _)=>True
 |some (.ext _)=>True
 |_=>False
section
variable{P:Program}{w:World}{H:Hp}{h h':Heap}{x e:Addr}{o':HO}
def HOk.write(ok:HOk P w H h)(mu:Fb (H x))(he:e=x\/H e=some (.own x))(k:∀b u,b≠e->h.B b=some u->h'.B b=some u)(GK:∃u,h'.B e=some u)
  (new:ObjOk P w (upd H x o') h' x o'):HOk P w (upd H x o') h':=λb u q=>by
 let EZ:∀c y,H c=some (.own y)->c≠x:=λc y r z=>by subst z;rwa[r]at mu
 let tJ:∀c xs,H c=some (.tup xs)->c≠x:=λc xs r z=>by subst z;rwa[r]at mu
 cases hb:b=x
 .subst hb;rw[XS]at q;cases q;show new
 .rw[XR hb]at q;cases JT:b=e
  .let q':H b=some (.own x):=by
    rcases he with z|z
    .show absurd (JT.l z) hb
    .rw[JT];show z
   rw[q]at q';cases q';let(v,hv):=GK;exists v,by rwa[JT]
  .show(ok b u q).stay (λc v hc r=>k c v ?_ r) (λc r=>by rwa[XR (EZ c b r)]) λc xs r=>by rwa[XR (tJ c xs r)]
   rcases hc with rfl|hc
   .show JT
   .rintro rfl;rcases he with z|z
    .show EZ c b hc z
    .rw[hc]at z;cases z;show hb rfl
end
structure Un(fs ex:List Addr)(H H':Hp)(h h':Heap):Prop where
 keep:∀b o,h.B b=some o->H b=none->b∉fs->b∉ex->h'.B b=some o
 slot:∀b o,h.B b=some o->H b=none->b∈fs->b∉ex->∃sl,h'.B b=some {o with slots:=sl}
 free:∀b o,h.B b=some o->H b=none->b∉ex->H' b=none
 there:∀b o,h.B b=some o->b∉ex->∃o',h'.B b=some o'
 tups:∀b xs,H b=some (.tup xs)->H' b=some (.tup xs)
 frzs:∀b o u,H b=some (.frz o u)->H' b=some (.frz o u)
 tbls:∀b ps,H b=some (.tbl ps)->∃more,H' b=some (.tbl<|ps++more)
section
variable{fs ex:List Addr}{H H1:Hp}{h h1 h':Heap}{a x e:Addr}{o:HO}
def Un.any(u:Un fs ex H H1 h h1){ob:Obj}(q:h.B b=some ob)(n:H b=none)(hx:b∉ex):∃sl,h1.B b=some {ob with slots:=sl}:=by
 cases hb:b∈fs
 .show u.slot b ob q n hb hx
 .exists ob.slots,u.keep b ob q n hb hx
def Un.kept(k:∀b u,h.B b=some u->h'.B b=some u):Un fs ex H H h h':=
 {λb ob q _ _ _=>k b ob q,λb ob q _ _ _=>{ob.slots,k b ob q},λ_ _ _ n _=>n,λb ob q _=>{ob,k b ob q},λ_ _ q=>q,λ_ _ _ q=>q,λ_ ps q=>{#[],by rw[q];simp}}
def Un.refl:Un fs ex H H h h:=Un.kept λ_ _ q=>q
def Un.laid(k:∀b u,h.B b=some u->h'.B b=some u)(hp:h.objs.G<=a)(hn:H a=none):Un fs ex H (upd H a o) h h' where
 keep:=λb u q _ _ _=>k b u q
 slot:=λb u q _ _ _=>{u.slots,k b u q}
 free:=λb u q n _=>by rwa[XR (YA<|Yu (Ys q) hp)]
 there:=λb u q _=>{u,k b u q}
 tups:=λb xs q=>by rwa[XR (Za q hn)]
 frzs:=λb u xs q=>by rwa[XR (Za q hn)]
 tbls:=λb ps q=>{#[],by rw[XR (Za q hn),q];simp}
def Un.write(mu:Fb (H x))(he:e=x\/H e=some (.own x))(k:∀b u,b≠e->h.B b=some u->h'.B b=some u)(GK:∃u,h'.B e=some u):Un fs ex H (upd H x o) h h':=by
 let hx:∀b,H b=none->b≠x:=λb n z=>by subst z;rwa[n]at mu
 let hb:∀b,H b=none->b≠e:=λb n z=>by
  subst z;rcases he with r|r
  .show hx b n r
  .rw[n]at r;cases r
 let hm:∀b u,H b=some u->¬Fb (some u)->b≠x:=λb u q nm z=>by subst z;rw[q]at mu;show nm mu
 show⟨λb u q n _ _=>k b u (hb b n) q,λb u q n _ _=>{u.slots,k b u (hb b n) q},λb u q n _=>by rw[XR (hx b n)];show n,λb u q _=>?_,
  λb xs q=>by rw[XR (hm b _ q λz=>z)];show q,λb u xs q=>by rw[XR (hm b _ q λz=>z)];show q,λb ps q=>{#[],by rw[XR (hm b _ q λz=>z),q];simp}⟩
 cases JT:b=e
 .subst JT;show GK
 .exists u,k b u JT q
end
def xI(h:Heap)(H:Hp):(List Addr):=(List.range h.objs.G).filter λa=>(H a).isSome
def UN(h:Heap)(H:Hp):(Heap):=PySem.W.hideAll h (xI h H)
def ZY8(h:Heap)(H:Hp):(UN h H).objs.G=h.objs.G:=PySem.W.hideAll_size _ _
def Zag{b:Addr}{o:Obj}(e:h.B b=some o)(n:H b=none):(UN h H).B b=some o:=
 PySem.W.hideAll_get _ e λhm=>by let q:(H b).isSome=true:=(Yt.E hm).2;rw[n]at q;simp at q
def Zah{b:Addr}{o:Obj}(e:(UN h H).B b=some o):h.B b=some o/\H b=none:=by
 let e':h.B b=some o:=PySem.W.of_hideAll (xI h H) e;exists e',?_;cases q:H b with
 |none=>rfl
 |some x=>
  let hm:b∈xI h H:=Yt.H {YL.H<|Ys e',by simp[q]};let z:(UN h H).B b=none:=PySem.W.hideAll_none (xI h H) hm
  rw[z]at e;cases e
def Zai(g h:Heap)(L:Addr):(List (Addr×Obj)):=(List.range h.objs.G).filterMap λa=>if a=L\/(g.B a).isSome=true then none else (h.B a).C λo=>(a,o)
def rest(g h:Heap)(L d:Addr):(List (Addr×Obj)):=(Zai g h L).filter λp=>decide (p.1≠d)
structure Mod(K:Ad)(mg:Af)(base:Heap):Prop where
 kin:K.In base
 glob:base.Ns mainGlobals mg
 blt:∃mb,base.Ns builtinsNs mb/\∀x:Str,x≠"__name__"->mb x=bootBuiltins x
 nolimit:base.NoLimit
structure Cx where
 prog:Program
 w:World
 K:Ad
 mg:Af
 base:Heap
 A:Around
 N:List Str
 s₀:Shared
 H₀:Hp
 env:Env
 outer:List Env
 stack:List Env
 ex:List Addr
 fn:Str->Bool
 calm:Bool
 pn:List (Addr×Obj)
 xe:Ae
def TU(l:List Env):(List Addr):=l.filterMap (·.frame)
abbrev Cx.fs(X:Cx):List Addr:=TU X.outer
def tE(sc:Scope)(x:Str):(Prop):=sc.names.L x=some .local\/sc.names.L x=some .cell\/sc.names.L x=some .free
def Loc(sc:Scope)(x:Str):(Prop):=sc.names.L x=some .local\/sc.names.L x=some .cell
def Look(env:Env)(h:Heap)(m:Af)(x:Str)(u:Value):(Prop):=
 (env.kindOf x=some .local/\m x=some u)\/((env.kindOf x=some .cell\/env.kindOf x=some .free)/\∃c,env.cells.L x=some c/\h.IsCell c (some u))
structure Cx.Ok(X:Cx):Prop where
 mod:Mod X.K X.mg X.base
 kind:X.R.scope.kind=.function
 glob:X.R.globals=mainGlobals
 blt:X.R.builtins=builtinsNs
 above:(~~~X.s₀)<=X.R.locals
 inj:∀x y c,X.R.cells.L x=some c->X.R.cells.L y=some c->x=y
 has:∀x,(X.R.kindOf x=some .cell\/X.R.kindOf x=some .free)->∃c,X.R.cells.L x=some c
 cab:∀x c,X.fn x=true->X.R.cells.L x=some c->(~~~X.s₀)<=c
 hd:X.calm=true->X.A.handled=none
 frames:X.A.frames=some X.stack
 stk:X.stack=X.outer\/(X.stack=X.R::X.outer/\X.R.frame=some X.R.locals)
 exf:∀b∈X.ex,b≠X.R.locals/\∀x c,X.R.cells.L x=some c->c≠b
 bs:∀b o,X.base.B b=some o->X.s₀.o.B b=some o/\X.H₀ b=none
 bsz:X.base.objs.G<=(~~~X.s₀)
 noex:∀b o,X.base.B b=some o->b∉X.ex
 exfs:∀b∈X.ex,b∉X.fs
 funs:X.s₀.o.FunFrames X.base X.outer
 frf:∀b∈X.fs,X.H₀ b=none
structure Inv(X:Cx)(pins:List (Addr×Obj))(σ:List (Option V))(H:Hp)(s:Shared):Prop where
 ok:X.Ok
 os:s.os=X.s₀.os
 bare:AllBare s.gens
 base:Un X.fs X.ex X.H₀ H X.s₀.o s.o
 loc:∃m,s.o.Ns X.R.locals m/\∀(i:Nat)(x:Str)(v:V),X.N[i]?=some x->σ[i]?=some (some v)->tE X.R.scope x->∃u,RelV v u/\Look X.R s.o m x u
 cell:∀x c,X.R.cells.L x=some c->∃v,s.o.IsCell c v
 free:H X.R.locals=none
 freeC:∀x c,X.R.cells.L x=some c->H c=none
 pin:∀p∈X.pn++pins,s.o.B p.1=some p.2/\H p.1=none/\p.1≠X.R.locals/\p.1∉X.fs/\∀v,p.2.data≠.cell v
 hok:HOk X.prog X.w H s.o
 len:σ.f=X.N.f
section
variable{X:Cx}{pins:List (Addr×Obj)}{σ:List (Option V)}{H H':Hp}{s:Shared}{h':Heap}
def Cx.Ok.nofr(ok:X.Ok){b:Addr}{o:Obj}(e:X.base.B b=some o):b∉X.fs:=λhb=>by
 have:=(ok.funs.mem hb).1
 rw[e]at this;cases this
def Inv.bs(I:Inv X pins σ H s):∀b o,X.base.B b=some o->s.o.B b=some o/\H b=none:=λb o e=>
 {I.base.keep b o (I.ok.bs b o e).1 (I.ok.bs b o e).2 (I.ok.nofr e) (I.ok.noex b o e),I.base.free b o (I.ok.bs b o e).1 (I.ok.bs b o e).2 (I.ok.noex b o e)}
def Inv.bk(I:Inv X pins σ H s):∀b o,X.base.B b=some o->s.o.B b=some o:=λb o e=>(I.bs b o e).1
def Inv.mod(I:Inv X pins σ H s):Mod X.K X.mg X.base:=I.ok.mod
def Inv.kIn(I:Inv X pins σ H s):X.K.In s.o:=I.ok.mod.kin.keeps I.bk
def Inv.lt(I:Inv X pins σ H s):X.R.locals<(~~~s):=by let(_,hn,_):=I.loc;show hn.lt
def Inv.sz(I:Inv X pins σ H s):(~~~X.s₀)<=(~~~s):=YE I.ok.above (Nl I.lt)
def Inv.nofs(I:Inv X pins σ H s){a:Addr}(h:(~~~s)<=a):a∉X.fs:=λhb=>by let(_,o,ho,_):=I.ok.funs.mem hb;show absurd (Yu (Ys ho)<|YE I.sz h) (RT _)
def Inv.cne(I:Inv X pins σ H s):∀x c,X.R.cells.L x=some c->c≠X.R.locals:=λx c e z=>by let(v,o,ho,hd):=I.cell x c e;let(m,(o',es,ep,Ul,GJ,_),_):=I.loc;rw[z,Ul]at ho;cases ho;rw[GJ]at hd;cases hd
def Inv.funs(I:Inv X pins σ H s):s.o.FunFrames X.base X.outer:=by
 let all:∀(l:List Env),(∀b∈TU l,b∈X.fs)->X.s₀.o.FunFrames X.base l->s.o.FunFrames X.base l:=by
  intro l
  induction l with
  |nil=>intro _ _;trivial
  |cons env r ih=>
   intro hs hl;let(hk,(L,o,hf,hn,ho,hd),hr):=hl;let hL:L∈X.fs:=hs L (by unfold TU;rw[yi,hf];show Yb)
   let(sl,e):=I.base.slot L o ho (I.ok.frf L hL) hL λz=>I.ok.exfs L z hL;exists hk,{L,_,hf,hn,e,hd},ih (λb hb=>hs b<|by unfold TU;rw[yi,hf];show Ye _ hb) hr
 show all X.outer (λ_ hb=>hb) I.ok.funs
def Inv.stack(I:Inv X pins σ H s):s.o.FunFrames X.base X.stack:=by
 rcases I.ok.stk with e|⟨e,hf⟩
 .rw[e];show I.funs
 .rw[e];let(m,hn,_):=I.loc;show .cons (by rw[I.ok.kind];decide) hf hn ?_ I.funs;show Heap.get?_none_of_le (YE I.ok.bsz I.ok.above)
def Inv.stkSub(I:Inv X pins σ H s):∀b∈TU X.stack,b∈X.R.locals::X.fs:=λb hb=>by
 rcases I.ok.stk with e|⟨e,hf⟩
 .rw[e]at hb;show Ye _ hb
 .rw[e]at hb;unfold TU at hb;rwa[yi,hf]at hb
def Inv.stkFree(I:Inv X pins σ H s):∀b∈TU X.stack,H b=none:=λb hb=>by
 rcases Yg.E (I.stkSub b hb) with e|hb
 .rw[e];show I.free
 .let⟨_,o,ho,_⟩:=I.ok.funs.mem hb;show I.base.free b o ho (I.ok.frf b hb) λz=>I.ok.exfs b z hb
def Inv.step{g':Array GenState}{t':Nat}{d':Drawn}{ch:List Addr}(I:Inv X pins σ H s)
  (NU:∀b∈ch,(b∈X.ex\/(~~~X.s₀)<=b)/\b≠X.R.locals/\(∀x c,X.R.cells.L x=some c->c≠b)/\∀p∈X.pn++pins,p.1≠b)
  (keep:∀b o,b≠X.R.locals->b∉X.fs->b∉ch->s.o.B b=some o->H b=none->h'.B b=some o)
  (slot:∀b o,b≠X.R.locals->b∈X.fs->b∉ch->s.o.B b=some o->H b=none->∃sl,h'.B b=some {o with slots:=sl})(free:∀b o,b∉ch->s.o.B b=some o->H b=none->H' b=none)
  (there:∀b o,b∉ch->s.o.B b=some o->∃o',h'.B b=some o')
  (tups:∀b xs,H b=some (.tup xs)->H' b=some (.tup xs))(frzs:∀b o u,H b=some (.frz o u)->H' b=some (.frz o u))(tbls:∀b ps,H b=some (.tbl ps)->∃more,H' b=some (.tbl<|ps++more))
  (ns:∀m,s.o.Ns X.R.locals m->h'.Ns X.R.locals m)(hok:HOk X.prog X.w H' h')(hg:AllBare g'):
  Inv X pins σ H' {s with heap:=h',gens:=g',drawn:=d',toks:=t'}:=by
 let dW:∀b o,X.s₀.o.B b=some o->b≠X.R.locals:=λb o e=>YA (Yu (Ys e) I.ok.above);let xH:∀b o,X.s₀.o.B b=some o->b∉X.ex->b∉ch:=λb o e hx hb=>by
  rcases(NU b hb).1 with z|z
  .show hx z
  .show absurd (Yu (Ys e) z) (RT _)
 let cellK:∀x c,X.R.cells.L x=some c->∀v,s.o.IsCell c v->h'.IsCell c v:=λx c e v ⟨o,ho,hd⟩=>by
  let EY:c∉ch:=λz=>(NU c z).2.2.1 x c e rfl;cases hc:c∈X.fs
  .let⟨sl,q⟩:=slot c o (I.cne x c e) hc EY ho (I.freeC x c e);exists _,q,hd
  .exists o,keep c o (I.cne x c e) hc EY ho<|I.freeC x c e,hd
 exists I.ok,I.os,hg,{λb o e n hb hx=>?_,λb o e n hb hx=>?_,λb o e n hx=>?_,λb o e hx=>?_,λb xs e=>tups b xs<|I.base.tups b xs e,λb o xs e=>frzs b o xs<|I.base.frzs b o xs e,λb ps e=>?_},?_,λx c e=>?_,?_,λx c e=>?_,λp hp=>?_,hok,I.len
 .show keep b o (dW b o e) hb (xH b o e hx) (I.base.keep b o e n hb hx) (I.base.free b o e n hx)
 .let⟨sl,e1⟩:=I.base.slot b o e n hb hx;let(sl',e2):=slot b _ (dW b o e) hb (xH b o e hx) e1 (I.base.free b o e n hx);exists sl',e2
 .let⟨o',e1⟩:=I.base.there b o e hx;show free b o' (xH b o e hx) e1 (I.base.free b o e n hx)
 .let⟨o',e1⟩:=I.base.there b o e hx;show there b o' (xH b o e hx) e1
 .let⟨m1,e1⟩:=I.base.tbls b ps e;let(m2,e2):=tbls b _ e1;exists m1++m2,by rw[e2,Array.append_assoc]
 .let⟨m,hn,hl⟩:=I.loc;exists m,ns m hn,λi x v e1 e2 e3=>?_;let(u,r,l):=hl i x v e1 e2 e3;exists u,r,?_;rcases l with l|⟨k,c,e,z⟩
  .show .inl l
  .show .inr {k,c,e,cellK x c e _ z}
 .let⟨v,z⟩:=I.cell x c e;exists v,cellK x c e v z
 .let⟨m,⟨o,_,_,ho,_⟩,_⟩:=I.loc;show free _ o (λz=>(NU _ z).2.1 Z) ho I.free
 .let⟨v,o,ho,hd⟩:=I.cell x c e;show free c o (λz=>(NU c z).2.2.1 x c e Z) ho (I.freeC x c e)
 .let⟨e,n,ne,nf,d⟩:=I.pin p hp;let EY:p.1∉ch:=λz=>(NU p.1 z).2.2.2 p hp rfl
  exists keep p.1 p.2 ne nf EY e n,free p.1 p.2 EY e n,ne,nf,d
def Inv.un{t':Nat}(I:Inv X pins σ H s)(u:Un X.fs [] H H' s.o h')(hok:HOk X.prog X.w H' h'):Inv X pins σ H' {s with heap:=h',toks:=t'}:=by
 let(m,(o,es,ep,ho,r),_):=id I.loc;let(sl,hL):=u.any ho I.free tG;show I.step (g':=s.gens) (d':=s.drawn) (ch:=[]) (λ_ z=>nomatch z) (λb o _ hb _ e n=>u.keep b o e n hb tG) (λb o _ hb _ e n=>u.slot b o e n hb tG) (λb o _ e n=>u.free b o e n tG) (λb o _ e=>u.there b o e tG) u.tups u.frzs u.tbls (λm' hm=>by let(o',tD,tw,Ul,r'):=hm;rw[ho]at Ul;cases Ul;exists _,tD,tw,hL,r') hok I.bare
def Inv.call{t':Nat}{d':Drawn}(I:Inv X pins σ H s)(u:Un (TU X.stack) ch H H' s.o h')(hok:HOk X.prog X.w H' h')(hg:AllBare g')
  (NU:∀b∈ch,(b∈X.ex\/(~~~X.s₀)<=b)/\b≠X.R.locals/\(∀x c,X.R.cells.L x=some c->c≠b)/\∀p∈X.pn++pins,p.1≠b):
  Inv X pins σ H' {s with heap:=h',gens:=g',drawn:=d',toks:=t'}:=by
 let(m,(o,es,ep,ho,r),_):=id I.loc;let(sl,hL):=u.any ho I.free λz=>(NU _ z).2.1 rfl;show I.step (ch:=ch) NU (λb o hL hb hc e n=>u.keep b o e n (λz=>(Yg.E<|I.stkSub b z).elim hL hb) hc) (λb o _ _ hc e n=>u.any e n hc) (λb o hc e n=>u.free b o e n hc) (λb o hc e=>u.there b o e hc) u.tups u.frzs u.tbls (λm' hm=>by let(o',tD,tw,Ul,r'):=hm;rw[ho]at Ul;cases Ul;exists _,tD,tw,hL,r') hok hg
def Inv.turned{t':Nat}(I:Inv X pins σ H s)(k:∀b o,b≠it->s.o.B b=some o->h'.B b=some o)(hn:H it=none)(hL:it≠X.R.locals)
  (h1:it∈X.ex\/(~~~X.s₀)<=it)(h2:∀x c,X.R.cells.L x=some c->c≠it)(h3:∀p∈X.pn++pins,p.1≠it):Inv X pins σ H {s with heap:=h',toks:=t'}:=by
 let dU:∀b u,H b=some u->b≠it:=λb u e z=>by rw[z,hn]at e;cases e
 show I.step (g':=s.gens) (d':=s.drawn) (ch:=[it]) (λb hb=>?_) (λb o _ _ hc e _=>k b o (λz=>hc<|by simp[z]) e) (λb o _ _ hc e _=>{o.slots,k b o (λz=>hc<|by simp[z]) e}) (λ_ _ _ _ n=>n)
  (λb o hc e=>{o,k b o (λz=>hc<|by simp[z]) e}) (λ_ _ e=>e) (λ_ _ _ e=>e) (λb ps e=>{#[],by rw[e];simp}) (λm hm=>?_) (λb u e=>?_) I.bare
 .let e:b=it:=by simpa using hb
  subst e;exists h1,hL,h2,h3
 .let⟨o,es,ep,ho,r⟩:=hm;exists o,es,ep,k _ o (YY hL) ho,r
 .show(I.hok b u e).stay (λc v hc q=>k c v ?_ q) (λ_ q=>q) λ_ _ q=>q;rcases hc with z|z
  .rw[z];show dU b u e
  .show dU c _ z
def Inv.tok(I:Inv X pins σ H s)(t:Nat):Inv X pins σ H {s with toks:=t}:=I.un (h':=s.o) (t':=t) Un.refl I.hok
def Inv.kept{t':Nat}(I:Inv X pins σ H s)(k:∀b u,s.o.B b=some u->h'.B b=some u):Inv X pins σ H {s with heap:=h',toks:=t'}:=I.un (Un.kept k) (I.hok.kept k)
def Inv.laid{t':Nat}(I:Inv X pins σ H s)(k:∀b u,s.o.B b=some u->h'.B b=some u)(hp:(~~~s)<=a)(new:ObjOk X.prog X.w (upd H a o) h' a o):
  Inv X pins σ (upd H a o) {s with heap:=h',toks:=t'}:=I.un (Un.laid k hp<|I.hok.fresh hp) (I.hok.laid k hp new)
def Inv.write{t':Nat}(I:Inv X pins σ H s)(mu:Fb (H x))(he:e=x\/H e=some (.own x))(k:∀b u,b≠e->s.o.B b=some u->h'.B b=some u)(GK:∃u,h'.B e=some u)
  (new:ObjOk X.prog X.w (upd H x o) h' x o):Inv X pins σ (upd H x o) {s with heap:=h',toks:=t'}:=I.un (Un.write mu he k GK) (I.hok.write mu he k GK new)
def Inv.weak(I:Inv X pins σ H s)(hl:σ'.f=σ.f)(w:∀(i:Nat) v,σ'[i]?=some (some v)->σ[i]?=some (some v)):Inv X pins σ' H s:=
 {I.ok,I.os,I.bare,I.base,by let(m,hn,Uk):=I.loc;show{m,hn,λi x v e1 e2 e3=>Uk i x v e1 (w i v e2) e3},I.cell,I.free,I.freeC,I.pin,I.hok,hl.l I.len}
def Inv.pins_of(I:Inv X pins σ H s)(h:∀p∈pins',s.o.B p.1=some p.2/\H p.1=none/\p.1≠X.R.locals/\p.1∉X.fs/\∀v,p.2.data≠.cell v):Inv X pins' σ H s:=
 {I.ok,I.os,I.bare,I.base,I.loc,I.cell,I.free,I.freeC,λp hp=>(Xx.E hp).elim (λz=>I.pin p<|Yj _ z) (h p),I.hok,I.len}
def dS{N:List Str}(hN:N.Nodup){i j:Nat}{x:Str}(a:N[i]?=some x)(b:N[j]?=some x):i=j:=by let(h1,e1):=Xy.E a;let(h2,e2):=Xy.E b;show(uj hN).E (e1.l e2.U)
def Zj8{E:Ae}{i:Nat}{x:Str}{Q:Unit->Shared->Prop}(I:Inv X pins σ H s)(hN:X.N.Nodup)(hi:X.N[i]?=some x)(hx:Loc X.R.scope x)(r:RelV v u)
  (h:∀s',Inv X pins (σ.set i<|some v) H s'->(∃a,Heap.SameBut a s.o s'.o/\(a=X.R.locals\/X.R.cells.L x=some a))->Q () s')(hf:X.fn x=true\/X.R.scope.names.L x=some .local:=by first|show .inl rfl|show .inr rfl|assumption):wpAny M A (storeName X.R x u) Q E s:=by
 let(m,hn,hl):=id I.loc;let tu:(X.R.scope.kind == .class||(X.R.scope.kind == .module&&X.R.locals != X.R.globals))=false:=by rw[I.ok.kind];rfl
 let EX:i<σ.f:=by rw[I.len];show(Xy.E hi).1
 let cne:=I.cne;let tracked:∀{a:Addr}{h':Heap},(∃o,s.o.B a=some o/\H a=none)->Heap.SameBut a s.o h'->HOk X.prog X.w H h':=λ{a h'} ha hs b ob e=>by
  let(_,_,LL):=ha;show(I.hok b ob e).stay (λc w' hc q=>(hs.2 c ?_).l q) (λ_ q=>q) λ_ _ q=>q;rintro rfl;rcases hc with rfl|hc
  .rw[LL]at e;cases e
  .rw[LL]at hc;cases hc
 rcases hx with hk|hk
 .show wpAny_storeName_local hk hn (λh' RQ hs=>?_) tu;let(oL,_,_,JS,_):=id hn;show h _ {I.ok,I.os,I.bare,{λb o e n hb hx=>?_,λb o e n hb hx=>?_,I.base.free,λb o e hx=>?_,I.base.tups,I.base.frzs,I.base.tbls},{_,RQ,λj y v' e1 e2 e3=>?_},λy c e=>?_,I.free,I.freeC,λp hp=>?_,tracked ⟨oL,JS,I.free⟩ hs,by simpa using I.len} {_,hs,.inl Z}
  .show(hs.2 b<|YA<|Yu (Ys e) I.ok.above).l (I.base.keep b o e n hb hx)
  .let⟨sl,e1⟩:=I.base.slot b o e n hb hx;exists sl,(hs.2 b<|YA<|Yu (Ys e) I.ok.above).l e1
  .let⟨o',e1⟩:=I.base.there b o e hx;exists o',(hs.2 b<|YA<|Yu (Ys e) I.ok.above).l e1
  .cases hj:j=i
   .subst hj;rw[hi]at e1;cases e1;rw[uM EX]at e2;cases e2;exists u,r,.inl ⟨hk,tG⟩
   .rw[yj (YY hj)]at e2;let(u',r',q):=hl j y v' e1 e2 e3;exists u',r',?_;rcases q with ⟨k,e⟩|⟨k,c,e,z⟩
    .show .inl {k,?_}
     have:y≠x:=λe=>hj (dS hN e1<|e▸hi)
     simp[this,e]
    .show .inr {k,c,e,z.sameBut hs<|cne y c e}
  .let⟨w',z⟩:=I.cell y c e;exists w',z.sameBut hs<|cne y c e
  .let⟨e,n,ne,nf,d⟩:=I.pin p hp;exists (hs.2 p.1 ne).l e,n,ne,nf,d
 .let GI:X.fn x=true:=by
   rcases hf with z|z
   .show z
   .rw[z]at hk;cases hk
  let(c,hc):=I.ok.has x (.inl hk);let(w',z):=I.cell x c hc;show wpAny_storeName_cell I.ok.kind hk hc z λh' WO hs=>?_;let(oc,xG,tq):=id z;show h {s with heap:=h'} {I.ok,I.os,I.bare,{λb o e n hb hx=>?_,λb o e n hb hx=>?_,I.base.free,λb o e hx=>?_,I.base.tups,I.base.frzs,I.base.tbls},{m,hn.sameBut hs<|YY<|cne x c hc,λj y v' e1 e2 e3=>?_},λy c' e=>?_,I.free,I.freeC,λp hp=>?_,tracked {oc,xG,I.freeC x c hc} hs,by simpa using I.len} {c,hs,.inr hc}
  .show(hs.2 b<|YA<|Yu (Ys e)<|I.ok.cab x c GI hc).l (I.base.keep b o e n hb hx)
  .let⟨sl,e1⟩:=I.base.slot b o e n hb hx;exists sl,(hs.2 b<|YA<|Yu (Ys e)<|I.ok.cab x c GI hc).l e1
  .let⟨o',e1⟩:=I.base.there b o e hx;exists o',(hs.2 b<|YA<|Yu (Ys e)<|I.ok.cab x c GI hc).l e1
  .cases hj:j=i
   .subst hj;rw[hi]at e1;cases e1;rw[uM EX]at e2;cases e2;exists u,r,.inr {.inl hk,c,hc,WO}
   .rw[yj (YY hj)]at e2;let(u',r',q):=hl j y v' e1 e2 e3;exists u',r',?_;rcases q with q|⟨k,c',e,z'⟩
    .show .inl q
    .show .inr {k,c',e,z'.sameBut hs ?_};rintro rfl;show hj (dS hN e1<|I.ok.inj _ _ _ e hc▸hi)
  .cases EW:c'=c
   .subst EW;exists _,WO
   .let⟨w2,z2⟩:=I.cell y c' e;exists w2,z2.sameBut hs EW
  .let⟨e,n,ne,nf,d⟩:=I.pin p hp;exists (hs.2 p.1 ?_).l e,n,ne,nf,d;intro q;rw[q,xG]at e;let q':oc=p.2:=Yc e
   show d w' (by rwa[<-q'])
def tm{E:Ae}{i:Nat}{x:Str}{Q:Unit->Shared->Prop}(I:Inv X pins σ H s)(hN:X.N.Nodup)(hi:X.N[i]?=some x)(hx:Loc X.R.scope x)(r:RelV v u)
  (h:∀s',Inv X pins (σ.set i<|some v) H s'->Q () s')(hf:X.fn x=true\/X.R.scope.names.L x=some .local:=by first|show .inl rfl|show .inr rfl|assumption):wpAny M A (storeName X.R x u) Q E s:=
 Zj8 I hN hi hx r (λs' I' _=>h s' I') hf
def Inv.call'(I:Inv X pins σ H s)(ho:s'.os=s.os)(u:Un (TU X.stack) ch H H' s.o s'.o)(hok:HOk X.prog X.w H' s'.o)(hg:AllBare s'.gens)
  (NU:∀b∈ch,(b∈X.ex\/(~~~X.s₀)<=b)/\b≠X.R.locals/\(∀x c,X.R.cells.L x=some c->c≠b)/\∀p∈X.pn++pins,p.1≠b):Inv X pins σ H' s':=by
 let(h',g',d',t',o'):=s';let e:o'=s.os:=ho
 subst e;show I.call (g':=g') (t':=t') (d':=d') u hok hg NU
end
abbrev XK:=Value->Option Addr->Hp->Prop
abbrev St:=List (Option V)
abbrev VK:=V->Hp->Prop
abbrev TE:=St->Hp->VK->Prop
abbrev TT:=St->Hp->(Bool->Hp->Prop)->Prop
abbrev TA:=St->Hp->(List V->Hp->Prop)->Prop
structure Ends where
 nx:St->Hp->Prop
 rt:VK
 bk:St->Hp->Prop:=λ_ _=>False
 ct:St->Hp->Prop:=λ_ _=>False
abbrev TS:=Ends->St->Hp->Prop
def EP(X:Cx)(pins:List (Addr×Obj))(σ:St)(Q:VK)(u:Value)(s':Shared):(Prop):=∃v H',Inv X pins σ H' s'/\RelV v u/\Q v H'
def TP(X:Cx)(pins:List (Addr×Obj))(σ:St)(Q:Bool->Hp->Prop)(b:Bool)(s':Shared):(Prop):=∃H',Inv X pins σ H' s'/\Q b H'
def Zaj(X:Cx)(pins:List (Addr×Obj))(σ:St)(Q:List V->Hp->Prop)(us:Ag)(s':Shared):(Prop):=∃vs H',Inv X pins σ H' s'/\Vals vs us/\Q vs H'
def SP(X:Cx)(pins:List (Addr×Obj))(D:Ends)(f:Flow)(s':Shared):(Prop):=
 match f with
 | .next=>∃σ' H',Inv X pins σ' H' s'/\D.nx σ' H'
 | .brk=>∃σ' H',Inv X pins σ' H' s'/\D.bk σ' H'
 | .cont=>∃σ' H',Inv X pins σ' H' s'/\D.ct σ' H'
 | .ret u=>∃v σ' H',Inv X pins σ' H' s'/\RelV v u/\D.rt v H'
def PE(X:Cx)(e:Expr)(t:TE):(Prop):=
 ∀(pins:List (Addr×Obj))(s:Shared)(σ:St)(H:Hp)(Q:VK),Inv X pins σ H s->t σ H Q->wpAny (model X.prog X.w) X.A (eval e X.R) (EP X pins σ Q) X.xe s
def PT(X:Cx)(e:Expr)(t:TT):(Prop):=
 ∀(pins:List (Addr×Obj))(s:Shared)(σ:St)(H:Hp)(Q:Bool->Hp->Prop),Inv X pins σ H s->t σ H Q->wpAny (model X.prog X.w) X.A (isTrue e X.R<|eval e X.R) (TP X pins σ Q) X.xe s
def PW(X:Cx)(e:Expr)(t:TT):(Prop):=
 ∀(whole:Sem Value)(pins:List (Addr×Obj))(s:Shared)(σ:St)(H:Hp)(Q:Bool->Hp->Prop),Inv X pins σ H s->t σ H Q->wpAny (model X.prog X.w) X.A (isTrue e X.R whole) (TP X pins σ Q) X.xe s
def PW.pt(h:PW X e t):PT X e t:=h _
def PA(X:Cx)(es:List Expr)(t:TA):(Prop):=
 ∀(pos:Pos)(pins:List (Addr×Obj))(s:Shared)(σ:St)(H:Hp)(Q:List V->Hp->Prop),Inv X pins σ H s->t σ H Q->wpAny (model X.prog X.w) X.A (spliced<|backTo pos<|starEach es X.R) (Zaj X pins σ Q) X.xe s
def PS(X:Cx)(st:Stmt)(t:TS):(Prop):=
 ∀(pins:List (Addr×Obj))(s:Shared)(σ:St)(H:Hp)(D:Ends),Inv X pins σ H s->t D σ H->wpAny (model X.prog X.w) X.A (exec st X.R) (SP X pins D) X.xe s
def PSs(X:Cx)(st:List Stmt)(t:TS):(Prop):=
 ∀(pins:List (Addr×Obj))(s:Shared)(σ:St)(H:Hp)(D:Ends),Inv X pins σ H s->t D σ H->wpAny (model X.prog X.w) X.A (execs st X.R) (SP X pins D) X.xe s
def thn{α:Type}{t:Sem α}{Q Q':α->Shared->Prop}{M:Model}{A:Around}{E:Ae}{s:Shared}(h:wpAny M A t Q E s)(hQ:∀a s,Q a s->Q' a s):wpAny M A t Q' E s:=Uq h hQ λ_ _ x=>x
section
variable{X:Cx}
inductive isB(x:V)(H:Hp)(Q:Bool->Hp->Prop):Prop
 |mk (k:Bool) (_:x=.bl k) (_:Q k H)
inductive tVar(i:Nat)(σ:St)(H:Hp)(Q:VK):Prop
 |mk (v:_) (_:σ[i]?=some (some v)) (_:Q v H)
def tC(v:V):(TE):=λ_ H Q=>Q v H
def Zak{x:Str}{pos:Pos}(hN:X.N[i]?=some x)(hv:tE X.R.scope x)(hd:(x == ("__debug__":Str))=false:=by decide)(SS:(x == ("__classdict__":Str))=false:=by decide):PE X (.Name x pos) (tVar i):=by
 intro pins s σ H Q I h;let(v,e,h):=h;let(m,hn,hl):=I.loc;let(u,r,l):=hl i x v hN e hv;let fin:EP X pins σ Q u s:=⟨v,H,I,r,h⟩
 rcases l with ⟨hk,hm⟩|⟨hk,c,hc,RP⟩
 .show wpAny_Name (wpAny_loadName_local I.ok.kind hk hn hm fin) hd
 .rcases hk with hk|hk
  .show wpAny_Name (wpAny_loadName_cell I.ok.kind hk hc RP fin) hd
  .show wpAny_Name (wpAny_loadName_free I.ok.kind hk hc RP fin SS) hd
def Zd{i j pos}:PE X (.Constant (.int i) j pos) (tC (.int i)):=λ_ _ _ H _ I h=>wpAny_Constant_int {.int i,H,I.tok _,{_,Z},h}
def UM{b j pos}:PE X (.Constant (.bool b) j pos) (tC (.bl b)):=λ_ _ _ H _ I h=>Constant_bool {.bl b,H,I,Z,h}
def xF{j pos}:PE X (.Constant .none j pos) (tC .non):=λ_ _ _ H _ I h=>Constant_none ⟨.non,H,I,Z,h⟩
def Gl(X:Cx)(x:Str):(Prop):=X.R.kindOf x=some .globalImplicit
def tf{E:Ae}{u:Value}{pos:Pos}{Q:Ae}(I:Inv X pins σ H s)(hg:Gl X x)(hm:X.mg x=some u)(h:Q u s)
  (hd:(x == ("__debug__":Str))=false:=by decide):wpAny (model X.prog X.w) X.A (eval (.Name x pos) X.R) Q E s:=
 Calls.Name_function_global I.ok.kind hg (Calls.loadGlobal_global (by rw[I.ok.glob];show I.mod.glob.keeps I.bk) hm h) hd
def VG{E:Ae}{u:Value}{pos:Pos}{Q:Ae}(I:Inv X pins σ H s)(hg:Gl X x)(hm:X.mg x=none)(hv:bootBuiltins x=some u)(h:Q u s)
  (hn:x≠"__name__":=by decide)(hd:(x == ("__debug__":Str))=false:=by decide):wpAny (model X.prog X.w) X.A (eval (.Name x pos) X.R) Q E s:=by let(mb,h1,h2):=I.mod.blt;show Calls.Name_function_global I.ok.kind hg (Calls.loadGlobal_builtin (by rw[I.ok.glob];show I.mod.glob.keeps I.bk) hm (by rw[I.ok.blt];show h1.keeps I.bk) ((h2 x hn).l hv) h) hd
def dR{u:Value}{pos:Pos}(hg:Gl X x)(hm:X.mg x=some u)(r:RelV v u)(hd:(x == ("__debug__":Str))=false:=by decide):PE X (.Name x pos) (tC v):=
 λ_ _ _ H _ I h=>tf I hg hm ⟨v,H,I,r,h⟩ hd
variable{a b:Expr}{ta tb:TE}{pos:Pos}
def PC(X:Cx)(op:CmpOp)(a b:Expr)(t:TE):(Prop):=
 ∀(pins:List (Addr×Obj))(s:Shared)(σ:St)(H:Hp)(Q:VK),Inv X pins σ H s->t σ H Q->
  wpAny (model X.prog X.w) X.A (eval a X.R) (λv s₁=>wpAny (model X.prog X.w) X.A (eval b X.R) (λu s₂=>wpAny (model X.prog X.w) X.A (compareOp op v u) (EP X pins σ Q) X.xe s₂) X.xe s₁) X.xe s
def Zal(b:Expr)(h:op≠.In)(h2:op≠.NotIn):behindInMarks op b=false:=by
 let e1:(op == CmpOp.In)=false:=by cases op<;>first|rfl|show absurd rfl h
 let e2:(op == CmpOp.NotIn)=false:=by cases op<;>first|rfl|show absurd rfl h2
 cases b<;>simp[behindInMarks,e1,e2]
def tB(t:TE):(TT):=λσ H Q=>t σ H λx H1=>isB x H1 Q
def sY{op:CmpOp}{t:TE}(h:PC X op a b t)(h1:behindInMarks op b=false:=by first|show Zal _ tI tI|rfl):PT X (.Compare a [op] [b] pos) (tB t):=by intro pins s σ H Q I hw;show wpAny_isTrue_Compare1 (thn (h pins s σ H _ I hw) λv s1 h1=>thn h1 λu s2 h2=>thn h2 λc s3 XA=>?_) h1;let(x,H1,I1,r1,q1):=XA;let(d,rfl,q):=q1;cases r1;show PQ ⟨H1,I1,q⟩
def LK{e:Expr}{t:TE}(h:PE X e t)(he:∀whole,isTrue e X.R whole=(do let v <-whole;standAt e.pos;holding [v] (truthy v)):=by intro _;rfl):PT X e (tB t):=by intro pins s σ H Q I hw;show isTrue_plain (thn (h pins s σ H _ I hw) λv s1 zz=>?_) (he _);let(x,H1,I1,r1,q1):=zz;let(d,rfl,q):=q1;cases r1;show PQ ⟨H1,I1,q⟩
variable{tA xE:TT}{rest:List Expr}
def sX(t u:TT):(TT):=λσ H Q=>t σ H λc H1=>if c=true then u σ H1 Q else Q false H1
def tOr(t u:TT):(TT):=λσ H Q=>t σ H λc H1=>if c=true then Q true H1 else u σ H1 Q
def sW(t:TT):(TT):=λσ H Q=>t σ H λc H1=>Q (!c) H1
def dQ(ha:PT X a tA):PW X (.BoolOp .And [a] pos) tA:=by
 intro wh pins s σ H Q I h;show isTrue_and (thn (ha pins s σ H Q I h) λc s1 e=>?_);cases c with
 |true=>show isTrue_and_nil e
 |false=>show e
def EV(ha:PT X a tA):PW X (.BoolOp .Or [a] pos) tA:=by
 intro wh pins s σ H Q I h;show isTrue_or (thn (ha pins s σ H Q I h) λc s1 e=>?_);cases c with
 |false=>show isTrue_or_nil e
 |true=>show e
def EU(ha:PT X a tA)(hb:PW X (.BoolOp .And (b::rest) pos) xE):PW X (.BoolOp .And (a::b::rest) pos) (sX tA xE):=by
 intro wh pins s σ H Q I h;show isTrue_and (thn (ha pins s σ H _ I h) λc s1 XA=>?_);let(H1,I1,q1):=XA;cases c with
 |true=>show hb wh pins s1 σ H1 Q I1 q1
 |false=>exists H1,I1,q1
def Pz(ha:PT X a tA)(hb:PW X (.BoolOp .Or (b::rest) pos) xE):PW X (.BoolOp .Or (a::b::rest) pos) (tOr tA xE):=by
 intro wh pins s σ H Q I h;show isTrue_or (thn (ha pins s σ H _ I h) λc s1 XA=>?_);let(H1,I1,q1):=XA;cases c with
 |true=>exists H1,I1,q1
 |false=>show hb wh pins s1 σ H1 Q I1 q1
def Nf(ha:PT X a tA):PT X (.UnaryOp .Not a pos) (sW tA):=by intro pins s σ H Q I h;show isTrue_not (ha pins s σ H (λc H1=>Q (!c) H1) I h)
def sV(ta tb:TE):(TE):=λσ H Q=>ta σ H λx H1=>∃c,x=.bl c/\if c=true then tb σ H1 Q else Q (.bl false) H1
def sU(ta tb:TE):(TE):=λσ H Q=>ta σ H λx H1=>∃c,x=.bl c/\if c=true then Q (.bl true) H1 else tb σ H1 Q
def sT(ta:TE):(TE):=λσ H Q=>ta σ H λx H1=>∃c,x=.bl c/\Q (.bl<|!c) H1
def JR{op}(h:PE X a t):PE X (.BoolOp op [a] pos) t:=λpins s σ H Q I hw=>BoolOp_one (h pins s σ H Q I hw)
def JQ(ha:PE X a ta)(hb:PE X (.BoolOp .And (b::rest) pos) tb):PE X (.BoolOp .And (a::b::rest) pos) (sV ta tb):=by
 intro pins s σ H Q I h;show BoolOp_and (thn (ha pins s σ H _ I h) λv s1 XA=>?_);let(x,H1,I1,r1,q1):=XA;let(c,rfl,q1):=q1;cases r1;show PQ ?_;cases c with
 |true=>show hb pins s1 σ H1 Q I1 q1
 |false=>exists .bl false,H1,I1,Z,q1
def sS(ha:PE X a ta)(hb:PE X (.BoolOp .Or (b::rest) pos) tb):PE X (.BoolOp .Or (a::b::rest) pos) (sU ta tb):=by
 intro pins s σ H Q I h;show BoolOp_or (thn (ha pins s σ H _ I h) λv s1 XA=>?_);let(x,H1,I1,r1,q1):=XA;let(c,rfl,q1):=q1;cases r1;show PQ ?_;cases c with
 |false=>show hb pins s1 σ H1 Q I1 q1
 |true=>exists .bl true,H1,I1,Z,q1
def sR(ha:PE X a ta):PE X (.UnaryOp .Not a pos) (sT ta):=by intro pins s σ H Q I h;show UnaryOp_ (thn (ha pins s σ H _ I h) λv s1 XA=>?_);let(x,H1,I1,r1,q1):=XA;let(c,rfl,q1):=q1;cases r1;show not_of (PQ {.bl<|!c,H1,I1,Z,q1})
def tIf(t:TT)(ta tb:TE):(TE):=λσ H Q=>t σ H λc H1=>if c=true then ta σ H1 Q else tb σ H1 Q
def sQ{c:Expr}(hc:PT X c tA)(ha:PE X a ta)(hb:PE X b tb):PE X (.IfExp c a b pos) (tIf tA ta tb):=by
 intro pins s σ H Q I h;show wpAny_IfExp (thn (hc pins s σ H _ I h) λd s1 XA=>?_);let(H1,I1,q1):=XA;cases d with
 |true=>show ha pins s1 σ H1 Q I1 q1
 |false=>show hb pins s1 σ H1 Q I1 q1
end
def SqL(K:Ad)(H:Hp)(a:Addr)(xs:List V):(Prop):=
 Rd H a (.lst xs)\/
  ∃(o:Obj)(XU:Array Value)(n:Nat),K.L a=some o/\o.cls=.type "list"/\o.dict=none/\o.data=.seq XU n/\XU.G<=sizeLine/\Vals xs XU.toList
def SqT(K:Ad)(H:Hp)(a:Addr)(xs:List V):(Prop):=
 Rd H a (.tup xs)\/
  ∃(o:Obj)(XU:Array Value)(n:Nat),K.L a=some o/\o.cls=.type "tuple"/\o.data=.seq XU n/\XU.G<=sizeLine/\Vals xs XU.toList
def sP:(Value->Option V)
 | .none=>some .non
 | .bool b=>some (.bl b)
 | .int i _=>some (.int i)
 | .str x _=>some (.str x)
 | .bytes b _=>some (.byt b)
 | .float b _=>some (.flt b)
 | .ref a=>some ↑a
 | .type n=>some (.ty n)
 |_=>none
def RelV.abs(r:RelV x u):sP u=some x:=by
 cases x with
 |non=>cases r;rfl
 |bl _=>cases r;rfl
 |int _=>let(t,rfl):=r;rfl
 |str _=>let(t,rfl):=r;rfl
 |byt _=>let(t,rfl):=r;rfl
 |flt _=>let(t,rfl):=r;rfl
 |ref _=>cases r;rfl
 |ty _=>cases r;rfl
def RelV.inj(r:RelV x u)(q:RelV y u):x=y:=Yc (r.abs.U.l q.abs)
def Vals.inj{xs ys:List V}{us:Ag}(h:Vals xs us)(h':Vals ys us):xs=ys:=by
 induction h generalizing ys with
 |nil=>cases h';rfl
 |cons r t ih=>cases h' with
  |cons r' t'=>rw[r.inj r',ih t']
section
variable{X:Cx}{pins:List (Addr×Obj)}{σ:St}{H:Hp}{s:Shared}{a:Addr}{xs ys:List V}
def SqL.of{K:Ad}(h:H a=some (.lst xs)):SqL K H a xs:=.inl (.inl h)
def SqT.of{K:Ad}(h:H a=some (.tup xs)):SqT K H a xs:=.inl (.inl h)
def Inv.list(I:Inv X pins σ H s)(h:SqL X.K H a xs):∃XU:Ag,Vals xs XU/\PlainL s.o a XU.m/\xs.f<=sizeLine:=by
 rcases h with h|⟨o,XU,n,hk,hc,hd,hs,hz,r⟩
 .let⟨z,XU,n,r,e⟩:=h.ok I.hok;exists XU,r,{_,n,e,Z,Z,Z},z
 .exists XU.toList,r,{o,n,I.kIn a o hk,hc,hd,by simpa using hs},?_;let e:=r.f
  simp only[YN]at e;lia
def Inv.tuple(I:Inv X pins σ H s)(h:SqT X.K H a xs):∃XU:Ag,Vals xs XU/\IsTup s.o a XU.m/\xs.f<=sizeLine:=by
 rcases h with h|⟨o,XU,n,hk,hc,hs,hz,r⟩
 .let⟨z,XU,r,p⟩:=h.ok I.hok;exists XU,r,p,z
 .exists XU.toList,r,{o,I.kIn a o hk,hc,n,by simpa using hs},?_;let e:=r.f
  simp only[YN]at e;omega
def Inv.list_inj(I:Inv X pins σ H s)(h:SqL X.K H a xs)(h':SqL X.K H a ys):xs=ys:=by
 let(XU,r,(o,n,e,_,_,d),_):=I.list h;let(its',r',(o',n',e',_,_,d'),_):=I.list h';rw[e]at e';cases e';rw[d]at d';injection d' with d1 _
 have:XU=its':=by simpa using XG Array.toList d1
 subst this;show r.inj r'
def Inv.tuple_inj(I:Inv X pins σ H s)(h:SqT X.K H a xs)(h':SqT X.K H a ys):xs=ys:=by
 let(XU,r,(o,e,_,n,d),_):=I.tuple h;let(its',r',(o',e',_,n',d'),_):=I.tuple h';rw[e]at e';cases e';rw[d]at d';injection d' with d1 _
 have:XU=its':=by simpa using XG Array.toList d1
 subst this;show r.inj r'
end
abbrev Cx.wish(X:Cx)(E:Ae):Cx:={X with xe:=E}
abbrev Cx.nox(X:Cx):Cx:=X.wish λ_ _=>False
def Cx.Ok.wish{X:Cx}(ok:X.Ok)(E:Ae):(X.wish E).Ok:=
 ⟨ok.mod,ok.kind,ok.glob,ok.blt,ok.above,ok.inj,ok.has,ok.cab,ok.hd,ok.frames,ok.stk,ok.exf,ok.bs,ok.bsz,ok.noex,ok.exfs,ok.funs,ok.frf⟩
def Cx.Ok.unwish{X:Cx}{E:Ae}(ok:(X.wish E).Ok):X.Ok:=
 ⟨ok.mod,ok.kind,ok.glob,ok.blt,ok.above,ok.inj,ok.has,ok.cab,ok.hd,ok.frames,ok.stk,ok.exf,ok.bs,ok.bsz,ok.noex,ok.exfs,ok.funs,ok.frf⟩
section
variable{X:Cx}{pins:List (Addr×Obj)}{σ:St}{H:Hp}{s:Shared}{E:Ae}
def Inv.wish(I:Inv X pins σ H s)(E:Ae):Inv (X.wish E) pins σ H s:={I.ok.wish E,I.os,I.bare,I.base,I.loc,I.cell,I.free,I.freeC,I.pin,I.hok,I.len}
def Inv.unwish(I:Inv (X.wish E) pins σ H s):Inv X pins σ H s:=⟨I.ok.unwish,I.os,I.bare,I.base,I.loc,I.cell,I.free,I.freeC,I.pin,I.hok,I.len⟩
def SP.unwish(h:SP (X.wish E) pins D f s'):SP X pins D f s':=by
 cases f with
 |next=>let(σ',H',I,q):=h;exists σ',H',I.unwish,q
 |brk=>let(σ',H',I,q):=h;exists σ',H',I.unwish,q
 |cont=>let(σ',H',I,q):=h;exists σ',H',I.unwish,q
 |ret u=>let(v,σ',H',I,r,q):=h;exists v,σ',H',I.unwish,r,q
def PSs.nox{st:List Stmt}{t:TS}(h:PSs X.nox st t):PSs X st t:=λpins s σ H D I hw=>
 Uq (h pins s σ H D (I.wish _) hw) (λ_ _ q=>q.unwish) λ_ _ z=>False.elim z
end
section
variable{X:Cx}{st:Stmt}{rest:List Stmt}{t u:TS}{e:Expr}{te:TE}{pos:Pos}
def sO:(TS):=λD σ H=>D.nx σ H
def Wo(t u:TS):(TS):=λD σ H=>t {D with nx:=u D} σ H
def Zp:PSs X [] sO:=λ_ _ σ H _ I h=>Nh ⟨σ,H,I,h⟩
def XQ(h1:PS X st t)(h2:PSs X rest u):PSs X (st::rest) (Wo t u):=by
 intro pins s σ H D I h;show wpAny_execs_cons (thn (h1 pins s σ H {D with nx:=u D} I h) λf s1 q=>?_);cases f with
 |next=>
  let(σ',H',I',q):=q;show h2 pins s1 σ' H' D I' q
 |ret v=>show q
 |brk=>show q
 |cont=>show q
def XI(h1:PS X st t):PSs X [st] t:=by
 intro pins s σ H D I h;show wpAny_execs_cons (thn (h1 pins s σ H D I h) λf s1 q=>?_);cases f with
 |next=>show Nh q
 |ret v=>show q
 |brk=>show q
 |cont=>show q
def Inv.quiet(I:Inv X pins σ H s):interactive X.R=false:=by simp[interactive,I.ok.kind]
def ET(te:TE):(TS):=λD σ H=>te σ H λ_ H1=>D.nx σ H1
def ZS(he:PE X e te)(hs:swapsWith e none pos.line X.R=pure false:=by rfl):PS X (.Expr e pos) (ET te):=by intro pins s σ H D I h;show wpAny_Expr_any (thn (he pins s σ H _ I h) λv s1 zz=>by let(x,H1,I1,r1,q1):=zz;exists σ,H1,I1,q1) I.quiet hs
def ES(te:TE):(TS):=λD σ H=>te σ H D.rt
def Zm(he:PE X e te):PS X (.Return (some e) pos) (ES te):=by intro pins s σ H D I h;show wpAny_Return_some (thn (he pins s σ H _ I h) λv s1 zz=>by let(x,H1,I1,r1,q1):=zz;exists x,σ,H1,I1,r1,q1)
def sN(c:TT)(t u:TS):(TS):=λD σ H=>c σ H λb H1=>if b=true then t D σ H1 else u D σ H1
def Wk{c:Expr}{a b:List Stmt}{tc:TT}(hc:PT X c tc)(ha:PSs X a t)(hb:PSs X b u):PS X (.If c a b pos) (sN tc t u):=by
 intro pins s σ H D I h;show wpAny_If (thn (hc pins s σ H _ I h) λd s1 XA=>?_);let(H1,I1,q1):=XA;cases d with
 |true=>show ha pins s1 σ H1 D I1 q1
 |false=>show hb pins s1 σ H1 D I1 q1
def ER:(TS):=λ_ _ _=>False
def Vv:PS X st ER:=λ_ _ _ _ _ _ h=>h.elim
end
abbrev TG:=V->St->Hp->(St->Hp->Prop)->Prop
abbrev JP:=List V->St->Hp->(St->Hp->Prop)->Prop
def PG(X:Cx)(target:Expr)(t:TG):(Prop):=
 ∀(pins:List (Addr×Obj))(s:Shared)(σ:St)(H:Hp)(v:V)(u:Value)(Q:St->Hp->Prop),Inv X pins σ H s->RelV v u->t v σ H Q->
  wpAny (model X.prog X.w) X.A (assign target X.R u) (λ_ s'=>∃σ' H',Inv X pins σ' H' s'/\Q σ' H') X.xe s
def EO(X:Cx)(ts:List Expr)(t:JP):(Prop):=
 ∀(pins:List (Addr×Obj))(s:Shared)(σ:St)(H:Hp)(vs:List V)(us:Ag)(Q:St->Hp->Prop),Inv X pins σ H s->Vals vs us->t vs σ H Q->
  wpAny (model X.prog X.w) X.A (assignInOrder ((assignEach ts X.R).C (·.2)) us) (λ_ s'=>∃σ' H',Inv X pins σ' H' s'/\Q σ' H') X.xe s
abbrev Py:=V->V->V->Hp->(Hp->Prop)->Prop
def JO(X:Cx)(t:Py):(Prop):=
 ∀(pins:List (Addr×Obj))(s:Shared)(σ:St)(H:Hp)(o i v:V)(ov iv u:Value)(Q:Hp->Prop),Inv X pins σ H s->RelV o ov->RelV i iv->RelV v u->t o i v H Q->
  wpAny (model X.prog X.w) X.A (setItem ov iv u) (λ_ s'=>∃H',Inv X pins σ H' s'/\Q H') X.xe s
abbrev xD:=V->V->Hp->VK->Prop
def sM(X:Cx)(op:Operator)(t:xD):(Prop):=
 ∀(pins:List (Addr×Obj))(s:Shared)(σ:St)(H:Hp)(x y:V)(v u:Value)(Q:VK),Inv X pins σ H s->RelV x v->RelV y u->t x y H Q->
  wpAny (model X.prog X.w) X.A (inplaceOp op v u) (EP X pins σ Q) X.xe s
section
variable{X:Cx}{pos:Pos}
def NT(i:Nat):(TG):=λv σ H Q=>Q (σ.set i<|some v) H
def sL{x:Str}(hN:X.N.Nodup)(hi:X.N[i]?=some x)(hx:Loc X.R.scope x)(hf:X.fn x=true\/X.R.scope.names.L x=some .local:=by first|show .inl rfl|show .inr rfl|assumption):PG X (.Name x pos) (NT i):=by intro pins s σ H v u Q I r h;show wpAny_assign_Name (tm I hN hi hx r (λs' I'=>{_,H,I',h}) hf)
def Zb(i:Nat){x:Str}(hN:decide X.N.Nodup=true:=by kernel_rfl)(hi:X.N[i]?=some x:=by rfl)(hx:Loc X.R.scope x:=by show .inl rfl)(hf:X.fn x=true\/X.R.scope.names.L x=some .local:=by first|show .inl rfl|show .inr rfl|assumption):PG X (.Name x pos) (NT i):=sL (YH hN) hi hx hf
inductive gNil(vs:List V)(σ:St)(H:Hp)(Q:St->Hp->Prop):Prop
 |mk  (_:vs=[]) (_:Q σ H)
inductive gCons(t:TG)(u:JP)(vs:List V)(σ:St)(H:Hp)(Q:St->Hp->Prop):Prop
 |mk (v r:_) (_:vs=v::r) (_:t v σ H λσ' H'=>u r σ' H' Q)
def Qn:EO X [] gNil:=by intro pins s σ H vs us Q I r h;let(e,h):=h;subst e;cases r;show assignInOrder_nil ⟨σ,H,I,h⟩
def Zs{e:Expr}{es:List Expr}{t:TG}{u:JP}(h1:PG X e t)(h2:EO X es u)
  (hs:(assignEach (e::es) X.R).C (·.2)=assign e X.R::(assignEach es X.R).C (·.2):=by rfl):EO X (e::es) (gCons t u):=by
 intro pins s σ H vs us Q I r h;let(v,vr,e1,h):=h;subst e1;cases r with
 |cons r rr=>
  rw[hs];show assignInOrder_cons (thn (h1 pins s σ H _ _ _ I r h) λ_ s1 XA=>?_);let(σ1,H1,I1,q1):=XA;show h2 pins s1 σ1 H1 _ _ Q I1 rr q1
inductive gTup(K:Ad)(n:Nat)(t:JP)(v:V)(σ:St)(H:Hp)(Q:St->Hp->Prop):Prop
 |mk (a xs:_) (_:v=.ref a) (_:SqT K H a xs) (_:xs.f=n) (_:t xs σ H Q)
def sJ{k:Nat}(hc:X.calm=true)(h:EO X es t)
  (hn:(assignEach es X.R).f=n:=by rfl)(UA:(assignEach es X.R).findIdx? (·.1)=none:=by rfl):PG X (.Tuple es k pos) (gTup X.K n t):=by
 intro pins s σ H v u Q I r hw;let(a,xs,e1,hq,hl,hw):=hw;subst e1;cases r;let(XU,rv,ht,hz):=I.tuple hq;show assign_Tuple_tuple (I.ok.hd hc) ht (by simp[hn,<-hl,rv.length]) UA λh' hx=>?_;let I1:Inv X pins σ H {s with heap:=h'}:=I.kept (t':=s.toks) λb o e=>hx b o (YA<|Ys e) e
 show h pins _ σ H xs _ Q I1 (by simpa using rv) hw
def sI(to ti:TE)(t:Py):(TG):=λv σ H Q=>to σ H λo H1=>ti σ H1 λi H2=>t o i v H2 λH3=>Q σ H3
def sH{o i:Expr}{to ti:TE}{t:Py}(ho:PE X o to)(hi:PE X i ti)(hs:JO X t)
  (ha:∀v,assign (.Subscript o i pos) X.R v=(do
   let ov <-holding [v] (eval o X.R)
   let iv <-holding [v,ov] (eval i X.R)
   standAt pos
   holding [v,ov,iv] (setItem ov iv v)
   release [v,ov,iv] []):=by intro _;rfl):PG X (.Subscript o i pos) (sI to ti t):=by intro pins s σ H v u Q I r h;rw[ha];show XY (RS<|thn (ho pins s σ H _ I h) λov s1 XA=>?_);let(x,H1,I1,r1,q1):=XA;show XY (RS<|thn (hi pins s1 σ H1 _ I1 q1) λiv s2 XA=>?_);let(y,H2,I2,r2,q2):=XA;show XY (wpAny_standAt<|XY<|RS<|thn (hs pins s2 σ H2 x y v ov iv u _ I2 r1 r2 r q2) λ_ s3 XA=>?_);let(H3,I3,q3):=XA;show wpAny_release ⟨σ,H3,I3,q3⟩
def Ri(te:TE)(g:TG):(TS):=λD σ H=>te σ H λx H1=>g x σ H1 D.nx
def EN{tg e:Expr}{te:TE}{g:TG}(he:PE X e te)(hg:PG X tg g)(hs:swapsWithSole [tg] e pos.line X.R=pure false:=by rfl)(hw:swappedStores [tg] e X.R=pure none:=by rfl)
  (h1:(assignEach [tg] X.R).C (·.2)=[assign tg X.R]:=by rfl):PS X (.Assign [tg] e pos) (Ri te g):=by intro pins s σ H D I h;show wpAny_Assign_stores (thn (he pins s σ H _ I h) λv s1 XA=>?_) hs hw;let(x,H1,I1,r1,q1):=XA;rw[h1];show thn (hg pins s1 σ H1 x v _ I1 r1 q1) λ_ s2 q=>q
def RO{i:Nat}{x:Str}{e:Expr}{te:TE}{pos':Pos}(hN:X.N.Nodup)(hi:X.N[i]?=some x)(hx:Loc X.R.scope x)(he:PE X e te)(hs:swapsWith e (some (.Name x pos')) pos.line X.R=pure false:=by rfl)(hf:X.fn x=true\/X.R.scope.names.L x=some .local:=by first|show .inl rfl|show .inr rfl|assumption):
  PS X (.Assign [.Name x pos'] e pos) (Ri te<|NT i):=by intro pins s σ H D I h;show wpAny_Assign_Name (thn (he pins s σ H _ I h) λv s1 XA=>?_) hs;let(y,H1,I1,r1,q1):=XA;show tm I1 hN hi hx r1 (λs2 I2=>{_,H1,I2,q1}) hf
def Ze(i:Nat){x:Str}{e:Expr}{te:TE}{pos':Pos}(he:PE X e te)(hN:decide X.N.Nodup=true:=by kernel_rfl)(hi:X.N[i]?=some x:=by rfl)(hx:Loc X.R.scope x:=by show .inl rfl)(hs:swapsWith e (some<|.Name x pos') pos.line X.R=pure false:=by rfl)(hf:X.fn x=true\/X.R.scope.names.L x=some .local:=by first|show .inl rfl|show .inr rfl|assumption):PS X (.Assign [.Name x pos'] e pos) (Ri te<|NT i):=RO (YH hN) hi hx he hs hf
def sG(to ti te:TE)(tget:V->V->Hp->VK->Prop)(xC:xD)(tset:Py):(TS):=λD σ H=>to σ H λo H1=>ti σ H1 λi H2=>tget o i H2 λx H3=>te σ H3 λy H4=>xC x y H4 λz H5=>tset o i z H5 λH6=>D.nx σ H6
def EM(X:Cx)(t:V->V->Hp->VK->Prop):(Prop):=
 ∀(pins:List (Addr×Obj))(s:Shared)(σ:St)(H:Hp)(o i:V)(ov iv:Value)(Q:VK),Inv X pins σ H s->RelV o ov->RelV i iv->t o i H Q->
  wpAny (model X.prog X.w) X.A (getItem ov iv) (EP X pins σ Q) X.xe s
def Nd{o i e:Expr}{to ti te:TE}{tget:V->V->Hp->VK->Prop}{xC:xD}{tset:Py}{op:Operator}{Uj:Pos}(ho:PE X o to)(hi:PE X i ti)(hg:EM X tget)(he:PE X e te)(hp:sM X op xC)(hs:JO X tset)
  (ha:∀ov iv new,augStore i ov iv new=(do holding [new,ov,iv] (setItem ov iv new);release [new,ov,iv] [];pure .next):=by intros;rfl):PS X (.AugAssign (.Subscript o i Uj) op e pos) (sG to ti te tget xC tset):=by intro pins s σ H D I h;show wpAny_AugAssign_SubscriptAny (thn (ho pins s σ H _ I h) λov s1 XA=>?_) ha;let(x1,H1,I1,r1,q1):=XA;show thn (hi pins s1 σ H1 _ I1 q1) λiv s2 XA=>?_;let(x2,H2,I2,r2,q2):=XA;show thn (hg pins s2 σ H2 x1 x2 ov iv _ I2 r1 r2 q2) λold s3 XA=>?_;let(x3,H3,I3,r3,q3):=XA;show thn (he pins s3 σ H3 _ I3 q3) λv s4 XA=>?_;let(x4,H4,I4,r4,q4):=XA;show thn (hp pins s4 σ H4 x3 x4 old v _ I4 r3 r4 q4) λnew s5 XA=>?_;let(x5,H5,I5,r5,q5):=XA;show thn (hs pins s5 σ H5 x1 x2 x5 ov iv new _ I5 r1 r2 r5 q5) λ_ s6 zz=>by let(H6,I6,q6):=zz;exists σ,H6,I6,q6
def dP(f:Int->Int->Int):(xD):=λx y H Q=>∃i j,x=.int i/\y=.int j/\Q (.int<|f i j) H
def LJ:sM X .Add (dP λi j=>i+j):=by intro pins s σ H x y v u Q I r1 r2 h;let(i,j,e1,e2,q):=h;subst e1;subst e2;let(t,rfl):=r1;let(t',rfl):=r2;show iadd_int {.int _,H,I.tok _,{_,Z},q}
def LI:sM X .Sub (dP λi j=>i-j):=by intro pins s σ H x y v u Q I r1 r2 h;let(i,j,e1,e2,q):=h;subst e1;subst e2;let(t,rfl):=r1;let(t',rfl):=r2;show isub_int {.int _,H,I.tok _,{_,Z},q}
def sF(c:TT)(tb:TS):(TS):=λD σ H=>∃W:Nat->St->Hp->Prop,(∃m,W m σ H)/\∀m σ H,W m σ H->
 c σ H λb H1=>if b=true then ∃N:St->Hp->Prop,(∀σ' H',N σ' H'->∃m',m'<m/\W m' σ' H')/\tb {D with nx:=N,ct:=N,bk:=D.nx} σ H1 else D.nx σ H1
def sE{c:Expr}{body:List Stmt}{tc:TT}{tb:TS}(hp:PassesOwn (model X.prog X.w) X.A X.R X.xe)(hc:PT X c tc)(hb:PSs X body tb):PS X (.While c body [] pos) (sF tc tb):=by
 intro pins s σ H D I h;let(W,(m0,w0),turn):=h;show wpAny_While (codeAny_whileLoop (λn s'=>∃σ' H',Inv X pins σ' H' s'/\W n σ' H') ?_ m0 ⟨σ,H,I,w0⟩);rintro n s1 ⟨σ1,H1,I1,w1⟩;show Kh hp (thn (hc pins s1 σ1 H1 _ I1<|turn n σ1 H1 w1) λb s2 XA=>?_);let(H2,I2,q2):=XA;cases b with
 |true=>
  let(N,hN,q2):=q2;rw[if_pos Z];show Kh hp (thn (hb pins s2 σ1 H2 _ I2 q2) λf s3 q3=>?_);cases f with
  |next=>
   let(σ3,H3,I3,n3):=q3;let(m',hm,w3):=hN σ3 H3 n3;exists m',hm,σ3,H3,I3,w3
  |cont=>
   let(σ3,H3,I3,n3):=q3;let(m',hm,w3):=hN σ3 H3 n3;exists m',hm,σ3,H3,I3,w3
  |brk=>show q3
  |ret v=>show q3
 |false=>
  rw[if_neg Yx];show Nh ⟨σ1,H2,I2,q2⟩
end
structure It where
 go:Nat->Hp->Prop
 yld:Nat->Hp->V->Hp->Prop
 stop:Nat->Hp->Prop
def FpOk(X:Cx)(pins:List (Addr×Obj))(H:Hp)(b:Addr):(Prop):=
 H b=none/\b≠X.R.locals/\b∉X.fs/\(b∈X.ex\/(~~~X.s₀)<=b)/\(∀x c,X.R.cells.L x=some c->c≠b)/\∀p∈X.pn++pins,p.1≠b
def Inv.fpOk{b:Addr}(I:Inv X pins σ H s)(hb:(~~~s)<=b)(hn:H' b=none):FpOk X pins H' b:=by
 exists hn,Rr<|Yu I.lt hb,I.nofs hb,.inr<|YE I.sz hb,λx c e z=>?_,λp hp z=>?_
 .let⟨v,q⟩:=I.cell x c e;show absurd (Yu q.lt<|by rwa[z]) (RT _)
 .show absurd (Yu (Ys (I.pin p hp).1)<|by rwa[z]) (RT _)
structure Turn(P:Program)(w:World)(K:Ad)(tg:Expr)(tj:It)(fp:List Addr)(it:Addr)(tn:Nat->Heap->Prop):Prop where
 mem:it∈fp
 obj:∀i h,tn i h->∀b∈fp,∃o,h.B b=some o/\∀v,o.data≠.cell v
 keep:∀i h h',tn i h->(∀b∈fp,∀o,h.B b=some o->h'.B b=some o)->tn i h'
 item:∀(X:Cx),X.prog=P->X.w=w->X.K=K->X.calm=true->∀(i:Nat)(pins:List (Addr×Obj))(s:Shared)(σ:St)(H:Hp)(E:Ae),Inv X pins σ H s->(∀b∈fp,FpOk X pins H b)->tn i s.o->tj.go i H->
  wpAny (model P w) X.A (pyNext<|.ref it) (λr s1=>∃u,r=some u/\
   wpAny (model P w) X.A (letOwnedTupleGo tg ↑it u) (λ_ s2=>∃x H',Inv X pins σ H' s2/\RelV x u/\tj.yld i H x H'/\tn (i+1) s2.o/\∀b∈fp,H' b=none) E s1) E s
 done:∀(X:Cx),X.prog=P->X.w=w->X.K=K->X.calm=true->∀(i:Nat)(pins:List (Addr×Obj))(s:Shared)(σ:St)(H:Hp)(E:Ae),Inv X pins σ H s->(∀b∈fp,FpOk X pins H b)->tn i s.o->tj.stop i H->
  wpAny (model P w) X.A (pyNext<|.ref it) (λr s1=>r=none/\Inv X pins σ H s1) E s
 self:∀(A:Around)(i:Nat)(s:Shared)(Q:Ae)(E:Ae),tn i s.o->Q ↑it s->wpAny (model P w) A (pyIter<|.ref it) Q E s
abbrev TI:=St->Hp->(It->Hp->Prop)->Prop
def dO(X:Cx)(pins:List (Addr×Obj))(σ:St)(tg:Expr)(R:It->Hp->Prop)(sD:Value)(s2:Shared):(Prop):=
 ∃(it:Addr)(fp:List Addr)(tn:Nat->Heap->Prop)(tj:It)(H':Hp),sD=.ref it/\Inv X pins σ H' s2/\Turn X.prog X.w X.K tg tj fp it tn/\tn 0 s2.o/\(∀b∈fp,FpOk X pins H' b)/\R tj H'
def PI(X:Cx)(tg iter:Expr)(wi:TI):(Prop):=
 ∀(pins:List (Addr×Obj))(s:Shared)(σ:St)(H:Hp)(R:It->Hp->Prop),Inv X pins σ H s->wi σ H R->
  wpAny (model X.prog X.w) X.A (eval iter X.R) (λv s1=>wpAny (model X.prog X.w) X.A (pyIter v) (dO X pins σ tg R) X.xe s1) X.xe s
def Px{E:Ae}{s:Shared}{it:Addr}{o:Obj}{n:String}{vs:Array Value}{Q:Unit->Shared->Prop}(ho:s.o.B it=some o)(hc:o.cls=.type n)(hd:o.data=.fields vs)
  (hn:["enumerate","zip","dict_itemiterator","dict_reverseitemiterator","odict_iterator","itertools.zip_longest","itertools.pairwise"].contains n=false)(hQ:Q () s):wpAny M A (letOwnedTupleGo tg ↑it u) Q E s:=by
 unfold letOwnedTupleGo;cases tg<;>first
  |show Yh hQ
  | (cases u<;>first
    |show Yh hQ
    | (show XY (PD ho ?_)
       rw[hc,hd];change wpAny M A (if (["enumerate","zip","dict_itemiterator","dict_reverseitemiterator","odict_iterator","itertools.zip_longest","itertools.pairwise"].contains n&&vs[0]? == some (rawInt _))=true then _ else _) Q E s
       rw[if_neg (by intro h;rw[hn,Bool.false_and]at h;cases h)];show Yh hQ))
def Pw(K:Ad)(a:Addr):(It):=
 {λi H=>∃xs x,SqL K H a xs/\xs[i]?=some x,λi H x H'=>H'=H/\∀xs,SqL K H a xs->xs[i]?=some x,λi H=>∃xs,SqL K H a xs/\xs.f<=i}
def Pu(K:Ad)(a:Addr):(It):=
 {λi H=>∃xs x,SqT K H a xs/\xs[i]?=some x,λi H x H'=>H'=H/\∀xs,SqT K H a xs->xs[i]?=some x,λi H=>∃xs,SqT K H a xs/\xs.f<=i}
def JN(lo:Int)(n:Nat):(It):={λi _=>i<n,λi H x H'=>H'=H/\x=.int (lo+i),λi _=>n<=i}
def dN{P:Program}{w:World}{K:Ad}{tg:Expr}(a it:Addr):Turn P w K tg (Pw K a) [it] it (λi h=>h.IsListIter it a i) where
 mem:=tG
 obj:=λi h st b hb=>by
  let e:b=it:=by simpa using hb
  subst e;let(o,e,c,d):=st;exists o,e,λv z=>by rw[d]at z;cases z
 keep:=λi h h' st k=>st.at λo e=>k it tG o e
 item:=by
  intro X hP hw hK hc i pins s σ H E I hf st hg;subst hP hw hK;let(xs,x,hq,hx):=hg;let(XU,rv,p,hz):=I.list hq;let(u,hu,ru):=rv.get hx;let(f0,f1,f2,f3,f4,f5):=hf it tG;show wpAny_pyNext_list_item st p.isList (x:=u) (by simpa using hu) λh' VB sb=>?_;let I1:Inv X pins σ H {s with heap:=h'}:=I.turned (t':=s.toks) (λb o hb e=>(sb.2 b hb).l e) f0 f1 f3 f4 f5
  let(o,e,c,d):=id VB;exists u,Z,Px (s:={s with heap:=h'}) e c d tI {x,H,I1,ru,{Z,λys hy=>by rwa[I.list_inj hy hq]},VB,λb hb=>(hf b hb).1}
 done:=by
  intro X hP hw hK hc i pins s σ H E I hf st hg;subst hP hw hK;let(xs,hq,hx):=hg;let(XU,rv,p,hz):=I.list hq;let(f0,f1,f2,f3,f4,f5):=hf it tG;let hl:=rv.f
  show wpAny_pyNext_list_end (I.ok.hd hc) st p.isList (by simp;lia) λh' eb=>{Z,I.turned (t':=s.toks) (λb o hb e=>eb b o hb e) f0 f1 f3 f4 f5}
 self:=λ_ _ _ _ _ st h=>wpAny_pyIter_listiter st h
def dM{P:Program}{w:World}{K:Ad}{tg:Expr}(a it:Addr):Turn P w K tg (Pu K a) [it] it (λi h=>h.IsTupleIter it a i) where
 mem:=tG
 obj:=λi h st b hb=>by
  let e:b=it:=by simpa using hb
  subst e;let(o,e,c,d):=st;exists o,e,λv z=>by rw[d]at z;cases z
 keep:=λi h h' st k=>st.at λo e=>k it tG o e
 item:=by
  intro X hP hw hK hc i pins s σ H E I hf st hg;subst hP hw hK;let(xs,x,hq,hx):=hg;let(XU,rv,p,hz):=I.tuple hq;let(u,hu,ru):=rv.get hx;let(f0,f1,f2,f3,f4,f5):=hf it tG;show wpAny_pyNext_tuple_item st (show s.o.IsTuple a XU.m from p) (x:=u) (by simpa using hu) λh' VB sb=>?_;let I1:Inv X pins σ H {s with heap:=h'}:=I.turned (t':=s.toks) (λb o hb e=>(sb.2 b hb).l e) f0 f1 f3 f4 f5
  let(o,e,c,d):=id VB;exists u,Z,Px (s:={s with heap:=h'}) e c d tI {x,H,I1,ru,{Z,λys hy=>by rwa[I.tuple_inj hy hq]},VB,λb hb=>(hf b hb).1}
 done:=by
  intro X hP hw hK hc i pins s σ H E I hf st hg;subst hP hw hK;let(xs,hq,hx):=hg;let(XU,rv,p,hz):=I.tuple hq;let(f0,f1,f2,f3,f4,f5):=hf it tG;let hl:=rv.f
  show wpAny_pyNext_tuple_end (I.ok.hd hc) st (show s.o.IsTuple a XU.m from p) (by simp;omega) λh' eb=>{Z,I.turned (t':=s.toks) (λb o hb e=>eb b o hb e) f0 f1 f3 f4 f5}
 self:=λ_ _ _ _ _ st h=>wpAny_pyIter_tupleiter st h
def Zk6{P:Program}{w:World}{K:Ad}{tg:Expr}(it:Addr)(lo:Int)(n:Nat):Turn P w K tg (JN lo n) [it] it (λi h=>IsRangeIter h it (lo+(i:Nat)*1) ((n:Int)-(i:Nat)) 1) where
 mem:=tG
 obj:=λi h st b hb=>by
  let e:b=it:=by simpa using hb
  subst e;exists _,st,λv z=>by let z':Data.fields _=Data.cell v:=z;cases z'
 keep:=λi h h' st k=>k it tG _ st
 item:=by
  intro X hP hw hK hc i pins s σ H E I hf st hg;subst hP hw hK;let(f0,f1,f2,f3,f4,f5):=hf it tG;let W:=Walks.range (prog:=X.prog) (w:=X.w) (I.ok.hd hc) it lo 1 n
  show W.item i s _ _ hg st λv h' tk hv VB kk=>?_;let(t,rfl):=hv;let I1:Inv X pins σ H {s with heap:=h',toks:=tk}:=I.turned (λb o hb e=>kk b o (by simpa using hb) e) f0 f1 f3 f4 f5
  exists _,Z,Px (s:={s with heap:=h',toks:=tk}) (n:="range_iterator") VB Z Z tI {.int<|lo+i,H,I1,{t,?_},⟨Z,Z⟩,VB,λb hb=>(hf b hb).1};rw[PJ]
 done:=by intro X hP hw hK hc i pins s σ H E I hf st hg;subst hP hw hK;let(f0,f1,f2,f3,f4,f5):=hf it tG;show wpAny_pyNext_range_end (I.ok.hd hc) st (by have:n<=i:=hg;lia) λh' eb=>{Z,I.turned (t':=s.toks) (λb o hb e=>eb b o hb e) f0 f1 f3 f4 f5}
 self:=λ_ _ _ _ _ st h=>wpAny_pyIter_rangeiter st h
section
variable{X:Cx}{tg:Expr}
inductive xList(K:Ad)(x:V)(H1:Hp)(R:It->Hp->Prop):Prop
 |mk (a:_) (_:x=.ref a) (_:∃xs,SqL K H1 a xs) (_:R (Pw K a) H1)
def LH(K:Ad)(tl:TE):(TI):=λσ H R=>tl σ H λx H1=>xList K x H1 R
inductive xTpl(K:Ad)(x:V)(H1:Hp)(R:It->Hp->Prop):Prop
 |mk (a:_) (_:x=.ref a) (_:∃xs,SqT K H1 a xs) (_:R (Pu K a) H1)
def EL(K:Ad)(tl:TE):(TI):=λσ H R=>tl σ H λx H1=>xTpl K x H1 R
def sC{l:Expr}{tl:TE}(hl:PE X l tl):PI X tg l (LH X.K tl):=by
 intro pins s σ H R I h;show thn (hl pins s σ H _ I h) λv s1 XA=>?_;let(x,H1,I1,r1,q1):=XA;let(a,e,(xs,hq),q):=q1;subst e;cases r1;let(XU,rv,p,hz):=I1.list hq;show tW p.isList ?_;exists (~~~s1),[(~~~s1)],_,_,H1,Z,I1.kept (t':=s1.toks) λb o e=>Xf _ e,dN a _,{_,Yl _ Z,Z,Z},λb hb=>?_,q;let e:b=(~~~s1):=by simpa using hb
 subst e;show I1.fpOk (Ya _) (I1.hok.fresh<|Ya _)
def sv{l:Expr}{tl:TE}(hl:PE X l tl):PI X tg l (EL X.K tl):=by
 intro pins s σ H R I h;show thn (hl pins s σ H _ I h) λv s1 XA=>?_;let(x,H1,I1,r1,q1):=XA;let(a,e,(xs,hq),q):=q1;subst e;cases r1;let(XU,rv,p,hz):=I1.tuple hq;show x9 (show s1.o.IsTuple a XU.m from p) ?_;exists (~~~s1),[(~~~s1)],_,_,H1,Z,I1.kept (t':=s1.toks) λb o e=>Xf _ e,dM a _,{_,Yl _ Z,Z,Z},λb hb=>?_,q;let e:b=(~~~s1):=by simpa using hb
 subst e;show I1.fpOk (Ya _) (I1.hok.fresh<|Ya _)
def EK{R:It->Hp->Prop}{E:Ae}{lo hi:Int}{t u v:Tok}{tk:Nat}(I:Inv X pins σ H s)(h1:-(2^62)<=lo)(h2:lo<2^62)(h3:-(2^62)<=hi)(h4:hi<2^62)
  (q:R (JN lo (hi-lo).j) H):wpAny (model X.prog X.w) X.A (pyIter<|.ref (~~~s)) (dO X pins σ tg R) E {s with heap:=s.o.push {cls:=.type "range",data:=.fields #[.int lo t,.int hi u,.int 1 v]},toks:=tk}:=by
 show wpAny_pyIter_range (IsRange.new ..) (small_one h1 h2 h3 h4) ?_;let I1:Inv X pins σ H {s with heap:=s.o.push {cls:=.type "range",data:=.fields #[.int lo t,.int hi u,.int 1 v]},toks:=tk}:=I.kept λb o e=>Xf _ e
 show⟨(s.o.push {cls:=.type "range",data:=.fields #[.int lo t,.int hi u,.int 1 v]}).objs.G,[(s.o.push {cls:=.type "range",data:=.fields #[.int lo t,.int hi u,.int 1 v]}).objs.G],_,_,H,Z,
  I1.kept (t':=tk) λb o e=>Xf _ e,Zk6 _ lo (hi-lo).j,?_,λb hb=>?_,q⟩
 .let e1:lo+((0:Nat):Int)*1=lo:=tG;let e2:(((hi-lo).j:Nat):Int)-((0:Nat):Int)=Builtin.Range.rangeSize lo hi 1:=by rw[rangeSize_one];split<;>grind
  change IsRangeIter _ _ (lo+((0:Nat):Int)*1) ((((hi-lo).j:Nat):Int)-((0:Nat):Int)) 1;rw[e1,e2];show Yl _ rfl
 .let e:b=(s.o.push {cls:=.type "range",data:=.fields #[.int lo t,.int hi u,.int 1 v]}).objs.G:=by simpa using hb
  subst e;show I1.fpOk (Ya _) (I1.hok.fresh<|Ya _)
inductive xRng(vs:List V)(H1:Hp)(R:It->Hp->Prop):Prop
 |mk (j:Int) (_:vs=[.int j]) (_:-(2^62)<=j) (_:j<2^62) (_:R (JN 0 j.j) H1)
def su(ta:TA):(TI):=λσ H R=>ta σ H λvs H1=>xRng vs H1 R
def ZJ{a:Expr}{ta:TA}{p pos:Pos}(hg:Gl X "range")(hm:X.mg "range"=none)(ha:PA X [a] ta)(hs:starEach [a] X.R=[(false,eval a X.R)]:=by rfl):PI X tg (.Call (.Name "range" p) [a] [] pos) (su ta):=by
 intro pins s σ H R I h;show Call_ (VG I hg hm boot_range<|Ny (thn (ha pos pins s σ H _ I h) λus s1 XA=>?_) hs Z);let(vs,H1,I1,r1,q1):=XA;let(j,e,q1,q2,q):=q1;subst e;cases r1 with
 |cons r rr=>
  cases rr;let(t,rfl):=r;show call_range_1 (EK I1 J S q1 q2<|by simpa using q)
def sr(wi:TI)(g:TG)(tb:TS):(TS):=λD σ H=>wi σ H λtj H1=>∃W:Nat->Nat->St->Hp->Prop,(∃m,W 0 m σ H1)/\∀i m σ H,W i m σ H->
 (tj.stop i H/\D.nx σ H)\/(tj.go i H/\∃N:St->Hp->Prop,(∀σ' H',N σ' H'->∃m',m'<m/\W (i+1) m' σ' H')/\∀x H',tj.yld i H x H'->g x σ H' λσ2 H2=>tb {D with nx:=N,ct:=N,bk:=D.nx} σ2 H2)
def Nc(fp:List Addr)(h:Heap):(List (Addr×Obj)):=fp.filterMap λb=>(h.B b).C λo=>(b,o)
def xB{b:Addr}{o:Obj}(hb:b∈fp)(e:h.B b=some o):(b,o)∈Nc fp h:=List.mem_filterMap.H {b,hb,by rw[e];rfl}
def EJ{p:Addr×Obj}(hp:p∈Nc fp h):p.1∈fp/\h.B p.1=some p.2:=by
 let(b,hb,e):=List.mem_filterMap.E hp;cases q:h.B b with
 |none=>rw[q]at e;cases e
 |some o=>
  rw[q]at e;let e':(b,o)=p:=Yc e
  subst e';exists hb,q
def Inv.pinned(I:Inv X pins σ H s)(hf:∀b∈fp,FpOk X pins H b)(ho:∀b∈fp,∃o,s.o.B b=some o/\∀v,o.data≠.cell v):Inv X (pins++Nc fp s.o) σ H s:=
 I.pins_of λp hp=>(Xx.E hp).elim (λz=>I.pin p<|Yi _ z) λz=>by let(hb,e):=EJ z;let(f0,f1,f2,_):=hf p.1 hb;let(o,e',d):=ho p.1 hb;rw[e]at e';cases e';exists e,f0,f1,f2,d
def Inv.unpinned{pins pl:List (Addr×Obj)}(I:Inv X (pins++pl) σ H s):Inv X pins σ H s:=I.pins_of λp hp=>I.pin p (Yi _<|Yj _ hp)
def WS{iter:Expr}{body:List Stmt}{wi:TI}{g:TG}{tb:TS}{pos:Pos}(hp:PassesOwn (model X.prog X.w) X.A X.R X.xe)(hc:X.calm=true)(hi:PI X tg iter wi)(hg:PG X tg g)(hb:PSs X body tb)
  (hs:∀x,foldedSetIterable iter X.R x=pure x:=by intro _;rfl):PS X (.For tg iter body [] pos) (sr wi g tb):=by
 intro pins s σ H D I h;show wpAny_For (thn (hi pins s σ H _ I h) λv s1 h1=>thn h1 λsD s2 h2=>?_) hs;let(it,fp,tn,tj,H2,e,I2,T,Na,f2,W,(m0,w0),turn):=h2;subst e;let JM:∀{H':Hp},(∀b∈fp,H' b=none)->∀b∈fp,FpOk X pins H' b:=λhn b hb=>{hn b hb,(f2 b hb).2}
 show codeAny_forLoop_any (λn s'=>∃i σ' H',Inv X pins σ' H' s'/\tn i s'.o/\(∀b∈fp,H' b=none)/\W i n σ' H') ?_ m0 {0,σ,H2,I2,Na,λb hb=>(f2 b hb).1,w0};rintro n s3 ⟨i,σ3,H3,I3,dJ,dI,w3⟩;rcases turn i n σ3 H3 w3 with ⟨stop,qn⟩|⟨go,N,hN,step⟩
 .show Kh hp (thn (T.done X Z Z Z hc i pins s3 σ3 H3 X.xe I3 (JM dI) dJ stop) λr s4 zz=>?_);let(hr,I4):=zz;subst hr;show Nh ⟨σ3,H3,I4,qn⟩
 .show Kh hp (thn (T.item X Z Z Z hc i pins s3 σ3 H3 X.xe I3 (JM dI) dJ go) λr s4 XA=>?_);let(u,hr,h4):=XA;subst hr;show Kh hp (thn h4 λ_ s5 XA=>?_);let(x,H5,I5,r5,y5,JL,sq):=XA;let sj:=I5.pinned (JM sq) (T.obj _ _ JL)
  show Kh hp (thn (hg _ s5 σ3 H5 x u _ sj r5<|step x H5 y5) λ_ s6 XA=>?_);let(σ6,H6,I6,q6):=XA;show Kh hp (thn (hb _ s6 σ6 H6 _ I6 q6) λf s7 q7=>?_);let again:∀{σ7:St}{H7:Hp},Inv X (pins++Nc fp s5.o) σ7 H7 s7->N σ7 H7->∃m,m<n/\∃i σ' H',Inv X pins σ' H' s7/\tn i s7.o/\(∀b∈fp,H' b=none)/\W i m σ' H':=λ{σ7 H7} I7 n7=>by let(m',hm,w7):=hN σ7 H7 n7;exists m',hm,i+1,σ7,H7,I7.unpinned,T.keep _ _ _ JL λb hb o e=>(I7.pin (b,o)<|Yi _<|Yi _<|xB hb e).1,λb hb=>?_,w7;let(o,e,d):=T.obj _ _ JL b hb;show(I7.pin (b,o)<|Yi _<|Yi _<|xB hb e).2.1
  cases f with
  |next=>let(σ7,H7,I7,n7):=q7;show again I7 n7
  |cont=>let(σ7,H7,I7,n7):=q7;show again I7 n7
  |brk=>let(σ7,H7,I7,q7):=q7;exists σ7,H7,I7.unpinned,q7
  |ret v=>let(x7,σ7,H7,I7,r7,q7):=q7;exists x7,σ7,H7,I7.unpinned,r7,q7
end
def GH{K:Ad}{a:Addr}{xs:List V}{g:TG}{tb:TS}{D:Ends}{σ:St}{H:Hp}(Pv:Nat->St->Hp->Prop)(h0:Pv 0 σ H)(hl:∀i σ H,i<=xs.f->Pv i σ H->SqL K H a xs)
  (hs:∀i x σ H,xs[i]?=some x->Pv i σ H->g x σ H λσ2 H2=>tb {D with nx:=Pv<|i+1,ct:=Pv<|i+1,bk:=D.nx} σ2 H2)(hd:∀σ H,Pv xs.f σ H->D.nx σ H):
  ∃W:Nat->Nat->St->Hp->Prop,(∃m,W 0 m σ H)/\∀i m σ H,W i m σ H->
   ((Pw K a).stop i H/\D.nx σ H)\/((Pw K a).go i H/\∃N:St->Hp->Prop,(∀σ' H',N σ' H'->∃m',m'<m/\W (i+1) m' σ' H')/\∀x H',(Pw K a).yld i H x H'->g x σ H' λσ2 H2=>tb {D with nx:=N,ct:=N,bk:=D.nx} σ2 H2):=by
 exists λi m σ H=>m=xs.f-i/\i<=xs.f/\Pv i σ H,{xs.f,tG,Yk _,h0},?_;rintro i m σ H ⟨rfl,hi,p⟩;let q:=hl i σ H hi p
 cases Xp:i<xs.f
 .show .inr {{xs,xs[i],q,by simp[Xp]},Pv<|i+1,λσ' H' p'=>{xs.f-(i+1),S,Z,Xp,p'},λx H' y=>?_};let(e,y):=y;subst e;show hs i x σ _ (y xs q) p
 .let e:i=xs.f:=J;subst e;show .inl {{xs,q,Ya _},hd σ H p}
def EI{K:Ad}{a:Addr}{xs:List V}{g:TG}{tb:TS}{D:Ends}{σ:St}{H:Hp}(Pv:Nat->St->Hp->Prop)(h0:Pv 0 σ H)(hl:∀i σ H,i<=xs.f->Pv i σ H->SqT K H a xs)
  (hs:∀i x σ H,xs[i]?=some x->Pv i σ H->g x σ H λσ2 H2=>tb {D with nx:=Pv<|i+1,ct:=Pv<|i+1,bk:=D.nx} σ2 H2)(hd:∀σ H,Pv xs.f σ H->D.nx σ H):
  ∃W:Nat->Nat->St->Hp->Prop,(∃m,W 0 m σ H)/\∀i m σ H,W i m σ H->
   ((Pu K a).stop i H/\D.nx σ H)\/((Pu K a).go i H/\∃N:St->Hp->Prop,(∀σ' H',N σ' H'->∃m',m'<m/\W (i+1) m' σ' H')/\∀x H',(Pu K a).yld i H x H'->g x σ H' λσ2 H2=>tb {D with nx:=N,ct:=N,bk:=D.nx} σ2 H2):=by
 exists λi m σ H=>m=xs.f-i/\i<=xs.f/\Pv i σ H,{xs.f,tG,Yk _,h0},?_;rintro i m σ H ⟨rfl,hi,p⟩;let q:=hl i σ H hi p
 cases Xp:i<xs.f
 .show .inr {{xs,xs[i],q,by simp[Xp]},Pv<|i+1,λσ' H' p'=>{xs.f-(i+1),S,Z,Xp,p'},λx H' y=>?_};let(e,y):=y;subst e;show hs i x σ _ (y xs q) p
 .let e:i=xs.f:=S;subst e;show .inl {{xs,q,Ya _},hd σ H p}
def JK{lo:Int}{n:Nat}{g:TG}{tb:TS}{D:Ends}{σ:St}{H:Hp}(Pv:Nat->St->Hp->Prop)(h0:Pv 0 σ H)
  (hs:∀i σ H,i<n->Pv i σ H->g (.int<|lo+i) σ H λσ2 H2=>tb {D with nx:=Pv<|i+1,ct:=Pv<|i+1,bk:=D.nx} σ2 H2)(hd:∀σ H,Pv n σ H->D.nx σ H):
  ∃W:Nat->Nat->St->Hp->Prop,(∃m,W 0 m σ H)/\∀i m σ H,W i m σ H->
   ((JN lo n).stop i H/\D.nx σ H)\/((JN lo n).go i H/\∃N:St->Hp->Prop,(∀σ' H',N σ' H'->∃m',m'<m/\W (i+1) m' σ' H')/\∀x H',(JN lo n).yld i H x H'->g x σ H' λσ2 H2=>tb {D with nx:=N,ct:=N,bk:=D.nx} σ2 H2):=by
 exists λi m σ H=>m=n-i/\i<=n/\Pv i σ H,{n,tG,Yk _,h0},?_;rintro i m σ H ⟨rfl,hi,p⟩;cases Xp:i<n
 .show .inr {Xp,Pv<|i+1,λσ' H' p'=>{n-(i+1),S,Z,Xp,p'},λx H' y=>?_};let(e,y):=y;subst e y;show hs i σ _ Xp p
 .let e:i=n:=J;subst e;show .inl {Ya _,hd σ H p}
abbrev R2:=V->V->Hp->VK->Prop
def Wx(X:Cx)(f:Value->Value->Sem Value)(r:R2):(Prop):=
 ∀(pins:List (Addr×Obj))(s:Shared)(σ:St)(H:Hp)(x y:V)(v u:Value)(Q:VK),Inv X pins σ H s->RelV x v->RelV y u->r x y H Q->
  wpAny (model X.prog X.w) X.A (f v u) (EP X pins σ Q) X.xe s
def si(X:Cx)(f:Value->Sem Value)(r:V->Hp->VK->Prop):(Prop):=
 ∀(pins:List (Addr×Obj))(s:Shared)(σ:St)(H:Hp)(x:V)(v:Value)(Q:VK),Inv X pins σ H s->RelV x v->r x H Q->
  wpAny (model X.prog X.w) X.A (f v) (EP X pins σ Q) X.xe s
def WB(X:Cx)(f:Value)(r:List V->Hp->VK->Prop):(Prop):=
 ∀(pins:List (Addr×Obj))(s:Shared)(σ:St)(H:Hp)(xs:List V)(us:Ag)(Q:VK),Inv X pins σ H s->Vals xs us->r xs H Q->
  wpAny (model X.prog X.w) X.A (call f us) (EP X pins σ Q) X.xe s
def xA(r:R2)(ta tb:TE):(TE):=λσ H Q=>ta σ H λx H1=>tb σ H1 λy H2=>r x y H2 Q
def tUn(r:V->Hp->VK->Prop)(ta:TE):(TE):=λσ H Q=>ta σ H λx H1=>r x H1 Q
inductive rI(C:Int->Int->Prop)(g:Int->Int->V)(x:V)(y:V)(H:Hp)(Q:VK):Prop
 |mk (i j:_) (_:x=.int i) (_:y=.int j) (_:C i j) (_:Q (g i j) H)
inductive rI0(g:Int->Int->V)(x:V)(y:V)(H:Hp)(Q:VK):Prop
 |mk (i j:_) (_:x=.int i) (_:y=.int j) (_:Q (g i j) H)
inductive rU(g:Int->V)(x:V)(H:Hp)(Q:VK):Prop
 |mk (i:_) (_:x=.int i) (_:Q (g i) H)
section
variable{X:Cx}{a b:Expr}{ta tb:TE}{pos:Pos}
def JJ(ha:PE X a ta)(hb:PE X b tb){pins:List (Addr×Obj)}{s:Shared}{σ:St}{H:Hp}{R:V->V->Hp->Prop}(I:Inv X pins σ H s)
  (h:ta σ H λx H1=>tb σ H1 λy H2=>R x y H2){Q:Ae}{f:Value->Value->Sem Value}
  (hf:∀v u s2 x y H2,Inv X pins σ H2 s2->RelV x v->RelV y u->R x y H2->wpAny (model X.prog X.w) X.A (f v u) Q X.xe s2):
  wpAny (model X.prog X.w) X.A (eval a X.R) (λv s₁=>wpAny (model X.prog X.w) X.A (eval b X.R) (λu s₂=>wpAny (model X.prog X.w) X.A (f v u) Q X.xe s₂) X.xe s₁) X.xe s:=by show thn (ha pins s σ H _ I h) λv s1 XA=>?_;let(x,H1,I1,r1,q1):=XA;show thn (hb pins s1 σ H1 _ I1 q1) λu s2 XA=>?_;let(y,H2,I2,r2,q2):=XA;show hf v u s2 x y H2 I2 r1 r2 q2
def Zv(ho:Wx X (binaryOp op) r)(ha:PE X a ta)(hb:PE X b tb):PE X (.BinOp a op b pos) (xA r ta tb):=by intro pins s σ H Q I h;show wpAny_BinOp (JJ ha hb I h λv u s2 x y H2 I2 rx ry q=>ho pins s2 σ H2 x y v u Q I2 rx ry q)
def JI{op:UnaryOp}{r:V->Hp->VK->Prop}(ho:si X (unaryOp op) r)(ha:PE X a ta):PE X (.UnaryOp op a pos) (tUn r ta):=by intro pins s σ H Q I h;show UnaryOp_ (thn (ha pins s σ H _ I h) λv s1 zz=>by let(x,H1,I1,r1,q1):=zz;show ho pins s1 σ H1 x v Q I1 r1 q1)
def JH{f:Value->Value->Sem Value}{C:Int->Int->Prop}{g:Int->Int->Int}
  (rule:∀(i j:Int)(t u:Tok)(s:Shared)(Q:Ae)(E:Ae),C i j->Q (.int (g i j) s.toks) {s with toks:=s.toks+1}->wpAny (model X.prog X.w) X.A (f (.int i t)<|.int j u) Q E s):
  Wx X f (rI C λi j=>.int<|g i j):=by intro pins s σ H x y v u Q I rx ry h;let(i,j,rfl,rfl,hc,q):=h;let(t,rfl):=rx;let(t',rfl):=ry;show rule i j t t' s _ _ hc {.int<|g i j,H,I.tok _,{_,Z},q}
def EH{f:Value->Value->Sem Value}{g:Int->Int->Int}
  (rule:∀(i j:Int)(t u:Tok)(s:Shared)(Q:Ae)(E:Ae),Q (.int (g i j) s.toks) {s with toks:=s.toks+1}->wpAny (model X.prog X.w) X.A (f (.int i t)<|.int j u) Q E s):
  Wx X f (rI0 λi j=>.int<|g i j):=by intro pins s σ H x y v u Q I rx ry h;let(i,j,rfl,rfl,q):=h;let(t,rfl):=rx;let(t',rfl):=ry;show rule i j t t' s _ _ {.int<|g i j,H,I.tok _,{_,Z},q}
def MZ{f:Value->Value->Sem Value}{g:Int->Int->Bool}
  (rule:∀(i j:Int)(t u:Tok)(s:Shared)(Q:Ae)(E:Ae),Q (.bool<|g i j) s->wpAny (model X.prog X.w) X.A (f (.int i t)<|.int j u) Q E s):
  Wx X f (rI0 λi j=>.bl<|g i j):=by intro pins s σ H x y v u Q I rx ry h;let(i,j,rfl,rfl,q):=h;let(t,rfl):=rx;let(t',rfl):=ry;show rule i j t t' s _ _ {.bl<|g i j,H,I,Z,q}
def sf(i j:Int):(Prop):=0<j/\j<1073741824
def se(i j:Int):(Prop):=0<=j/\j<=1000000/\i.natAbs<2^64
def CMul(i j:Int):(Prop):=(-(2^64)<i/\i<2^64)\/(-(2^64)<j/\j<2^64)
def CMul.ok(h:CMul i j):IntMulOk i j:=by
 rcases h with ⟨h1,h2⟩|⟨h1,h2⟩
 .show .of_left (intBits_le_64 h1 h2)
 .show .of_right (intBits_le_64 h1 h2)
def ZZ:Wx X (binaryOp .Add) (rI0 λi j=>.int (i+j)):=EH λ_ _ _ _ _ _ _ q=>add_int q
def VF:Wx X (binaryOp .Sub) (rI0 λi j=>.int (i-j)):=EH λ_ _ _ _ _ _ _ q=>sub_int q
def RN:Wx X (binaryOp .Mult) (rI CMul λi j=>.int (i*j)):=JH λ_ _ _ _ _ _ _ hc q=>mul_int q hc.ok
def sd:Wx X (binaryOp .FloorDiv) (rI sf λi j=>.int (i/j)):=JH λi j _ _ _ _ _ hc q=>by
 let h1:(0:Int)<j:=hc.1;let h2:j<1073741824:=hc.2
 show floordiv_int J (by rwa[Int.fdiv_eq_ediv_of_nonneg i J]) (.inl<|PyProof.noPylong_small S)
def SR:Wx X (binaryOp .Mod) (rI (λ_ j=>0<j) λi j=>.int (i%j)):=JH λi j _ _ _ _ _ hc q=>by let h1:(0:Int)<j:=hc;show mod_int' S (by rwa[Int.fmod_eq_emod_of_nonneg i J])
def r6:Wx X (binaryOp .Pow) (rI se λi j=>.int (i^j.j)):=JH λ_ _ _ _ _ _ _ hc q=>pow_int_small hc.1 hc.2.1 hc.2.2 q
def unI{f:Value->Sem Value}{g:Int->Int}
  (rule:∀(i:Int)(t:Tok)(s:Shared)(Q:Ae)(E:Ae),Q (.int (g i) s.toks) {s with toks:=s.toks+1}->wpAny (model X.prog X.w) X.A (f<|.int i t) Q E s):
  si X f (rU λi=>.int<|g i):=by intro pins s σ H x v Q I rx h;let(i,rfl,q):=h;let(t,rfl):=rx;show rule i t s _ _ {.int<|g i,H,I.tok _,{_,Z},q}
def JG:si X (unaryOp .USub) (rU λi=>.int (-i)):=unI λ_ _ _ _ _ q=>neg_int q
end
def EG:(V->V->Bool)
 | .non,.non=>true | .non,.int _=>true | .int _,.non=>true | .non,.bl _=>true | .bl _,.non=>true | .non,.str _=>true | .str _,.non=>true
 | .int _,.int _=>true | .bl _,.bl _=>true | .str _,.str _=>true | .byt _,.byt _=>true
 | .int _,.str _=>true | .str _,.int _=>true | .bl _,.str _=>true | .str _,.bl _=>true
 |_,_=>false
inductive rEq(x:V)(y:V)(H:Hp)(Q:VK):Prop
 |mk  (_:EG x y=true) (_:Q (.bl<|decide<|x=y) H)
inductive rNe(x:V)(y:V)(H:Hp)(Q:VK):Prop
 |mk  (_:EG x y=true) (_:Q (.bl<|!decide (x=y)) H)
def Zz:decide (V.int i=V.int j)=(i == j):=by rw[NX];simp
def EF:decide (V.bl i=V.bl j)=(i == j):=by rw[NX];simp
def EE:decide (V.str i=V.str j)=(i == j):=by rw[NX];simp
def ED:decide (V.byt i=V.byt j)=(i.toList == j.toList):=by rw[NX];cases i;cases j;simp
section
variable{X:Cx}{a b c:Expr}{ta tb tc:TE}{pos:Pos}
def ZI{k k':Bool}(I:Inv X pins σ H s)(q:Q (.bl k) H)(e:k=k'):EP X pins σ Q (.bool k') s:=by subst e;exists .bl k,H,I,Z,q
def UL:Wx X (compareOp .Eq) rEq:=by
 intro pins s σ H x y v u Q I rx ry h;let(hs,q):=h;cases x with
 |non=>
  cases rx;cases y with
  |non=>cases ry;show PySem.EqNone.eq_none_none (ZI I q tG)
  |bl j=>cases ry;show PySem.EqNone.eq_none_bool (ZI I q tG)
  |int j=>let(t',rfl):=ry;show PySem.EqNone.eq_none_int (ZI I q tG)
  |str j=>let(t',rfl):=ry;show PySem.EqNone.eq_none_str (ZI I q tG)
  |_=>show absurd (show false=true from hs) Yx
 |bl i=>
  cases rx;cases y with
  |non=>cases ry;show PySem.EqNone.eq_bool_none (ZI I q tG)
  |bl j=>cases ry;show eq_bool (ZI I q EF)
  |str j=>let(t',rfl):=ry;show PySem.EqMixed.eq_bool_str (ZI I q tG)
  |_=>show absurd (show false=true from hs) Yx
 |int i=>
  let(t,rfl):=rx;cases y with
  |non=>cases ry;show PySem.EqNone.eq_int_none (ZI I q tG)
  |int j=>let(t',rfl):=ry;show eq_int (ZI I q Zz)
  |str j=>let(t',rfl):=ry;show PySem.EqMixed.eq_int_str (ZI I q tG)
  |_=>show absurd (show false=true from hs) Yx
 |str i=>
  let(t,rfl):=rx;cases y with
  |non=>cases ry;show PySem.EqNone.eq_str_none (ZI I q tG)
  |bl j=>cases ry;show PySem.EqMixed.eq_str_bool (ZI I q tG)
  |int j=>let(t',rfl):=ry;show PySem.EqMixed.eq_str_int (ZI I q tG)
  |str j=>let(t',rfl):=ry;show eq_str (ZI I q EE)
  |_=>show absurd (show false=true from hs) Yx
 |byt i=>
  let(t,rfl):=rx;cases y with
  |byt j=>let(t',rfl):=ry;show PySem.W.eq_bytes (ZI I q ED)
  |_=>show absurd (show false=true from hs) Yx
 |_=>cases y<;>show absurd (show false=true from hs) Yx
def SQ:Wx X (compareOp .NotEq) rNe:=by
 intro pins s σ H x y v u Q I rx ry h;let(hs,q):=h;cases x with
 |non=>
  cases rx;cases y with
  |non=>cases ry;show PySem.EqNone.ne_none_none (ZI I q tG)
  |bl j=>cases ry;show PySem.EqNone.ne_none_bool (ZI I q tG)
  |int j=>let(t',rfl):=ry;show PySem.EqNone.ne_none_int (ZI I q tG)
  |str j=>let(t',rfl):=ry;show PySem.EqNone.ne_none_str (ZI I q tG)
  |_=>show absurd (show false=true from hs) Yx
 |bl i=>
  cases rx;cases y with
  |non=>cases ry;show PySem.EqNone.ne_bool_none (ZI I q tG)
  |bl j=>cases ry;show ne_bool (ZI I q<|XG not EF)
  |str j=>let(t',rfl):=ry;show PySem.EqMixed.ne_bool_str (ZI I q tG)
  |_=>show absurd (show false=true from hs) Yx
 |int i=>
  let(t,rfl):=rx;cases y with
  |non=>cases ry;show PySem.EqNone.ne_int_none (ZI I q tG)
  |int j=>let(t',rfl):=ry;show ne_int (ZI I q<|XG not Zz)
  |str j=>let(t',rfl):=ry;show PySem.EqMixed.ne_int_str (ZI I q tG)
  |_=>show absurd (show false=true from hs) Yx
 |str i=>
  let(t,rfl):=rx;cases y with
  |non=>cases ry;show PySem.EqNone.ne_str_none (ZI I q tG)
  |bl j=>cases ry;show PySem.EqMixed.ne_str_bool (ZI I q tG)
  |int j=>let(t',rfl):=ry;show PySem.EqMixed.ne_str_int (ZI I q tG)
  |str j=>let(t',rfl):=ry;show ne_str (ZI I q<|XG not EE)
  |_=>show absurd (show false=true from hs) Yx
 |byt i=>
  let(t,rfl):=rx;cases y with
  |byt j=>let(t',rfl):=ry;show PySem.W.ne_bytes (ZI I q<|XG not ED)
  |_=>show absurd (show false=true from hs) Yx
 |_=>cases y<;>show absurd (show false=true from hs) Yx
def Rh:Wx X (compareOp .Lt) (rI0 λi j=>.bl (decide (i<j))):=MZ λ_ _ _ _ _ _ _ q=>lt_int q
def Pr:Wx X (compareOp .LtE) (rI0 λi j=>.bl (decide (i<=j))):=MZ λ_ _ _ _ _ _ _ q=>le_int q
def Pq:Wx X (compareOp .Gt) (rI0 λi j=>.bl (decide (j<i))):=MZ λ_ _ _ _ _ _ _ q=>gt_int q
def LG:Wx X (compareOp .GtE) (rI0 λi j=>.bl (decide (j<=i))):=MZ λ_ _ _ _ _ _ _ q=>ge_int q
def EC:Wx X (compareOp .Is) (λx y H Q=>y=.non/\Q (.bl (decide (x=.non))) H):=by
 intro pins s σ H x y v u Q I rx ry h;let(rfl,q):=h;cases ry;show is_none_gen (ZI I q ?_);cases x<;>first
  | (cases rx;rfl)
  | (let(t,rfl):=rx;rfl)
def Zx(b:Expr)(h:op≠.In:=by decide)(h2:op≠.NotIn:=by decide):behindInMarks op b=false:=by
 let e1:(op == CmpOp.In)=false:=by cases op<;>first|rfl|show absurd rfl h
 let e2:(op == CmpOp.NotIn)=false:=by cases op<;>first|rfl|show absurd rfl h2
 cases b<;>simp[behindInMarks,e1,e2]
def Rg(ho:Wx X (compareOp op) r)(ha:PE X a ta)(hb:PE X b tb)(hm:behindInMarks op b=false):PE X (.Compare a [op] [b] pos) (xA r ta tb):=by intro pins s σ H Q I h;show wpAny_Compare1 (JJ ha hb I h λv u s2 x y H2 I2 rx ry q=>ho pins s2 σ H2 x y v u Q I2 rx ry q) hm
def EB(t:TE):(TT):=λσ H Q=>t σ H λx H'=>isB x H' Q
def Zl{op:CmpOp}{r:R2}(ho:Wx X (compareOp op) r)(ha:PE X a ta)(hb:PE X b tb)(hm:behindInMarks op b=false):PT X (.Compare a [op] [b] pos) (EB (xA r ta tb)):=by
 intro pins s σ H Q I h;show wpAny_isTrue_Compare1 (thn (ha pins s σ H _ I h) λv s1 ⟨x,H1,I1,r1,q1⟩=>thn (hb pins s1 σ H1 _ I1 q1) λu s2 ⟨y,H2,I2,r2,q2⟩=>
  thn (ho pins s2 σ H2 x y v u _ I2 r1 r2 q2) λc s3 ⟨z,H3,I3,r3,k,e,q3⟩=>?_) hm
 subst e;cases r3;show PQ ⟨H3,I3,q3⟩
def EA(r r':R2)(ta tb tc:TE):(TE):=λσ H Q=>ta σ H λx H1=>tb σ H1 λy H2=>r x y H2 λz H3=>∃k,z=.bl k/\
 (if k=true then tc σ H3 λw' H4=>r' y w' H4 Q else Q (.bl false) H3)
def rZ{op JF:CmpOp}{r r':R2}(ho:Wx X (compareOp op) r)(Ul:Wx X (compareOp JF) r')(ha:PE X a ta)(hb:PE X b tb)(hc:PE X c tc)
  (hm:lastMarks [op,JF] [b,c]=false:=by with_unfolding_all rfl):PE X (.Compare a [op,JF] [b,c] pos) (EA r r' ta tb tc):=by
 intro pins s σ H Q I h;show Compare_chain (thn (ha pins s σ H _ I h) λv s1 ⟨x,H1,I1,r1,q1⟩=>chain_link (thn (hb pins s1 σ H1 _ I1 q1) λu s2 ⟨y,H2,I2,r2,q2⟩=>
  thn (ho pins s2 σ H2 x y v u _ I2 r1 r2 q2) λd s3 ⟨z,H3,I3,r3,k,e,q3⟩=>?_)) hm
 subst e;cases r3;show PQ ?_;cases k with
 |false=>show ite_ff {.bl false,H3,I3,Z,q3}
 |true=>show ite_tt (chain_last<|thn (hc pins s3 σ H3 _ I3 q3) λw' s4 zz=>by let(z',H4,I4,r4,q4):=zz;show Ul pins s4 σ H4 y z' u w' Q I4 r2 r4 q4)
def dH{op JF:CmpOp}{r r':R2}(ho:Wx X (compareOp op) r)(Ul:Wx X (compareOp JF) r')(ha:PE X a ta)(hb:PE X b tb)(hc:PE X c tc)
  (hm:lastMarks [op,JF] [b,c]=false:=by with_unfolding_all rfl):PT X (.Compare a [op,JF] [b,c] pos) (EB<|EA r r' ta tb tc):=by
 intro pins s σ H Q I h;show isTrue_chain (thn (ha pins s σ H _ I h) λv s1 ⟨x,H1,I1,r1,q1⟩=>test_link (thn (hb pins s1 σ H1 _ I1 q1) λu s2 ⟨y,H2,I2,r2,q2⟩=>
  thn (ho pins s2 σ H2 x y v u _ I2 r1 r2 q2) λd s3 ⟨z,H3,I3,r3,k,e,q3⟩=>?_)) hm
 subst e;cases r3;show PQ ?_;cases k with
 |false=>
  let(k',e',q'):=q3;cases e';show ite_ff ⟨H3,I3,q'⟩
 |true=>
  show ite_tt (test_last<|thn (hc pins s3 σ H3 _ I3 q3) λw' s4 zz=>?_);let(z',H4,I4,r4,q4):=zz;show thn (Ul pins s4 σ H4 y z' u w' _ I4 r2 r4 q4) λd' s5 XA=>?_;let(z2,H5,I5,r5,k2,e2,q5):=XA;subst e2;cases r5;show PQ ⟨H5,I5,q5⟩
def Ez:(sizeLine:Nat)<2^63:=by rw[TB];decide
def TR{us:Ag}(r:Vals [x] us):∃u,us=[u]/\RelV x u:=by
 cases r with
 |cons r1 r2=>cases r2;exists _,Z,r1
def JE{us:Ag}(r:Vals [x,y] us):∃u w',us=[u,w']/\RelV x u/\RelV y w':=by
 cases r with
 |cons r1 r2=>
  cases r2 with
  |cons r3 r4=>cases r4;exists _,_,Z,r1,r3
def dG(hc:X.calm=true):WB X (.builtin "max") (λxs H Q=>∃i j,xs=[.int i,.int j]/\Q (.int (if j>i then j else i)) H):=by
 intro pins s σ H xs us Q I r h;let(i,j,rfl,q):=h;let(u,w',rfl,(t,rfl),(t',rfl)):=JE r;show max_two_ints (I.ok.hd hc) λh' tk k=>{_,H,I.kept k,?_,q};cases hj:j>i
 .rw[if_pos hj,if_pos hj];exists _,Z
 .rw[if_neg hj,if_neg hj];exists _,Z
def rY(hc:X.calm=true):WB X (.builtin "min") (λxs H Q=>∃i j,xs=[.int i,.int j]/\Q (.int (if j<i then j else i)) H):=by
 intro pins s σ H xs us Q I r h;let(i,j,rfl,q):=h;let(u,w',rfl,(t,rfl),(t',rfl)):=JE r;show min_two_ints (I.ok.hd hc) λh' tk k=>{_,H,I.kept k,?_,q};cases hj:j<i
 .rw[if_pos hj,if_pos hj];exists _,Z
 .rw[if_neg hj,if_neg hj];exists _,Z
end
structure ObjM(h:Heap)(x dx C:Addr)(mA:Af):Prop where
 obj:h.B x=some (PySem.W.instObj C dx)
 ns:h.Ns1 dx mA
 ne:dx≠x
def ZN8{h:Heap}{mA:Af}(n:h.Ns1 dx mA):∃od,h.B dx=some od/\∀name,PySem.W.lookIn name od=some (mA name):=by
 let(o,es,ep,ho,hd,hk,_,hm):=n;exists o,ho,λname=>?_;let e:=hm name
 unfold nsFind findBy at e;rw[<-Array.find?_toList]at e;unfold PySem.W.lookIn;rw[hd];dsimp only;split
 .rename_i y q;rw[q]at e;show XG some e
 .rename_i q;rw[q]at e;let a:es.toList.any (·.refKey)=false:=by rw[List.any_eq_false];intro y hy;let(z,t,rX):=hk y (Array.mem_toList_iff.E hy);simp[DictEntry.refKey,rX]
  let a':¬es.toList.any (·.refKey)=true:=by rw[a];show Yx
  rw[if_neg a'];show XG some e
def ObjM.look{mA:Af}(I:ObjM h x dx C mA):∃od,PySem.W.InstAt h x (PySem.W.instObj C dx) C (some od)/\∀name,PySem.W.lookIn name od=some (mA name):=
 let ⟨od,ho,hl⟩:=ZN8 I.ns
 {od,⟨I.obj,Z,Z,ho⟩,hl}
section
variable{prog:Program}{w:World}{A:Around}{E:Ae}{s:Shared}{K:Ad}{x dx C f:Addr}{mA:Af}{name:Str}{v:Value}
def rW{Q:Ae}(X:K.In s.o)(I:ObjM s.o x dx C mA)(hg:PySem.W.plainGet K C name=true)(hh:PySem.W.hasDictIn K C=true)
  (ha:PySem.W.findIn K ↑C name=some none)(hv:mA name=some v)(GG:PySem.W.handedIn v=true)(h:Q v {s with toks:=s.toks+1}):
  wpAny (model prog w) A (getAttr ↑x name expr) Q E s:=by let(od,tj,hl):=I.look;show PySem.W.get_value X tj (PySem.W.plainGet_of hg).1 (PySem.W.findObj_own hh ha Z<|by rw[hl,hv]) GG h
def rV{Q:Unit->Shared->Prop}(X:K.In s.o)(I:ObjM s.o x dx C mA)
  (hs:PySem.W.findIn K ↑C "__setattr__"=some (some<|.builtin "object.__setattr__"))(hp:PySem.W.plainOver K C=true)(ht:PySem.W.takerIn K C name=some none)(hh:PySem.W.hasDictIn K C=true)
  (hw:PySem.Within mA ns)(hsz:ns.f<=sizeLine)
  (h:∀h',ObjM h' x dx C (λy=>if y=name then some v else mA y)->Heap.SameBut dx s.o h'->Q () {s with heap:=h',toks:=s.toks+2}):
  wpAny (model prog w) A (setAttr ↑x name v) Q E s:=by
 let(od,tj,hl):=I.look;show PySem.W.set_plain X tj hs (PySem.W.osa_open (s:={s with toks:=s.toks+1}) (r:=none) X tj hp ht λb=>?_);let(cd,hc,GJ):=PySem.W.any_some hh;let hx:s.o.B x=some ⟨.ref C,some dx,.plain,#[]⟩:=I.obj
 show XY (Yh<|XY<|XY<|wpAny_loadPart hx<|XY<|PySem.W.Looks.here (s:={s with toks:=s.toks+1}) (PySem.W.looks_clsIn X hc) ?_);rw[GJ];show Yh (a:=some dx) (XY<|Yh<|XY ?_);show wpAny_nsSet1 (s:={s with toks:=s.toks+1}) I.ns λh' LF SO=>?_;let(oD,esD,epD,xy,dF,hcD):=LF.count (PySem.Within.cons name v hw);show XY (wpAny_lookBehind xy (by rw[dF];show pastItsLine_dict<|YE hcD<|by rw[Yv];lia) ?_);show Yh (h _ {(SO.2 _<|YY I.ne).l I.obj,LF,I.ne} SO)
def rT{R:Result->Shared->Prop}{vs:Ag}{kw:List (Str×Value)}(X:K.In s.o)(hm:PySem.W.makesIn K C=true)
  (hi:PySem.W.findIn K ↑C "__init__"=some (some<|.ref f))(hf:PySem.W.typeIn K ↑f=some (.type "function"))
  (h:codeAny (model prog w) (A.under<|.builtin "type.__call__" {.ref C::vs,kw}) (.call ↑f {.ref ((~~~s)+1)::vs,kw}) (PySem.W.InitBack ((~~~s)+1) R)
   {s with heap:=(s.o.push PySem.W.emptyDict).push (PySem.W.instObj C (~~~s))}):
  codeAny (model prog w) A (.call ↑C ⟨vs,kw⟩) R s:=by let(hh,g,d,t,os):=s;show PySem.W.make_core (PySem.W.makes_of X hm) (PySem.W.looks_findIn X hi) (λself=>PySem.W.bind_fn X self hf) (.inl Z) h
end
def XN(f:Str)(v:V):(List (Str×V)->List (Str×V))
 |[]=>[(f,v)]
 | (g,x)::r=>if g=f then (g,v)::r else (g,x)::XN f v r
def Ey(f g:Str)(v:V):∀fs:List (Str×V),(XN f v fs).L g=if g=f then some v else fs.L g
 |[]=>by
  change List.L g [(f,v)]=_;cases h:g=f
  .let hb:(g == f)=true:=Rn.H h;simp only[List.lookup,hb,if_pos h]
  .let hb:(g == f)=false:=Fz.H h;simp only[List.lookup,hb,if_neg h]
 | (k,x)::r=>by
  let ih:=Ey f g v r;rw[show XN f v ((k,x)::r)=(if k=f then (k,v)::r else (k,x)::XN f v r) from Z];cases hk:k=f
  .rw[if_pos hk];cases h:g=k
   .let hb:(g == k)=true:=Rn.H h;simp only[List.lookup,hb,if_pos (h.trans hk)]
   .let hb:(g == k)=false:=Fz.H h;simp only[List.lookup,hb,if_neg λe:g=f=>h (e.trans hk.symm)]
  .rw[if_neg hk];cases h:g=k
   .let hb:(g == k)=true:=Rn.H h;simp only[List.lookup,hb,if_neg λe:g=f=>hk (h.symm.trans e)]
   .let hb:(g == k)=false:=Fz.H h;simp only[List.lookup,hb];show ih
def rS(f:Str)(v:V):∀fs:List (Str×V),f∈(XN f v fs).C (·.1)/\∀g,g∈fs.C (·.1)->g∈(XN f v fs).C (·.1)
 |[]=>{by simp[XN],λg h=>by simp at h}
 | (k,x)::r=>by
  let(i1,i2):=rS f v r;rw[show XN f v ((k,x)::r)=(if k=f then (k,v)::r else (k,x)::XN f v r) from Z];cases hk:k=f
  .rw[if_pos hk];subst hk;exists tG,λg h=>by simpa using h
  .rw[if_neg hk];exists ?_,λg h=>?_
   .rw[YD];show Ye _ i1
   .rw[YD]at h ⊢;rcases Yg.E h with e|e
    .show Yg.H (.inl e)
    .show Ye _ (i2 g e)
def Ex(f:Str)(v:V):∀fs:List (Str×V),(XN f v fs).f<=fs.f+1
 |[]=>by simp[XN]
 | (k,x)::r=>by
  let ih:=Ex f v r;rw[show XN f v ((k,x)::r)=(if k=f then (k,v)::r else (k,x)::XN f v r) from Z];cases hk:k=f
  .rw[if_pos hk,Yv,Yv];lia
  .rw[if_neg hk,Yv,Yv];lia
def RelO.some_of{v:V}(r:RelO (some v) o):∃u,o=some u/\RelV v u:=by
 cases o with
 |none=>show(show False from r).elim
 |some u=>exists u,Z,r
def ZZ8(r:RelV v u):PySem.W.handedIn u=true:=by
 cases v with
 |non=>cases (show u=Value.none from r);rfl
 |bl b=>cases (show u=Value.bool b from r);rfl
 |int i=>let(t,e):=(show ∃t,u=Value.int i t from r);cases e;rfl
 |str x=>let(t,e):=(show ∃t,u=Value.str x t from r);cases e;rfl
 |byt b=>let(t,e):=(show ∃t,u=Value.bytes b t from r);cases e;rfl
 |flt b=>let(t,e):=(show ∃t,u=Value.float b t from r);cases e;rfl
 |ref a=>cases (show u=Value.ref a from r);rfl
 |ty n=>cases (show u=Value.type n from r);rfl
section
variable{P:Program}{w:World}{H:Hp}{h:Heap}{a C dx:Addr}{fs:List (Str×V)}
def LD(hok:HOk P w H h)(e:H a=some (.ins C dx fs)):∃mA,ObjM h a dx C mA/\(∀f,RelO (fs.L f) (mA f))/\PySem.Within mA (fs.C (·.1))/\fs.f<=1000/\H dx=some (.own a):=by let(d,z,ne,ob,mA,n,r,q):=(show ObjOk P w H h a (.ins C dx fs) from hok a _ e);exists mA,⟨ob,n,ne⟩,r,q,z,d
end
structure Cls(K:Ad)(C:Addr):Prop where
 pg:PySem.W.plainGet K C Str.empty=true
 hd:PySem.W.hasDictIn K C=true
 po:PySem.W.plainOver K C=true
 sa:PySem.W.findIn K ↑C "__setattr__"=some (some<|.builtin "object.__setattr__")
def Cls.get{K:Ad}{C:Addr}(c:Cls K C)(f:Str):PySem.W.plainGet K C f=true:=c.pg
def NoAttr(K:Ad)(C:Addr)(f:Str):(Prop):=PySem.W.findIn K ↑C f=some none
def NoAttr.taker{K:Ad}{C:Addr}{f:Str}(n:NoAttr K C f):PySem.W.takerIn K C f=some none:=by unfold PySem.W.takerIn;rw[show PySem.W.findIn K ↑C f=some none from n];rfl
section
variable{X:Cx}{pins:List (Addr×Obj)}{σ:St}{H:Hp}{s:Shared}{a C dx:Addr}{fs:List (Str×V)}{f:Str}{v:V}{A:Around}{E:Ae}
def Zt7{Q:Ae}(I:Inv X pins σ H s)(e:H a=some (.ins C dx fs))(c:Cls X.K C)(n:NoAttr X.K C f)(l:fs.L f=some v)
  (h:∀u s',Inv X pins σ H s'->RelV v u->Q u s'):wpAny (model X.prog X.w) A (getAttr ↑a f b) Q E s:=by let(mA,O,r,_,_,_):=LD I.hok e;let(u,hu,ru):=RelO.some_of (v:=v) (o:=mA f) (by rw[<-l];show r f);show rW I.kIn O (c.get f) c.hd n hu (ZZ8 ru) (h u _ (I.tok _) ru)
def Zx6{Q:Unit->Shared->Prop}(I:Inv X pins σ H s)(e:H a=some (.ins C dx fs))(c:Cls X.K C)(n:NoAttr X.K C f)(hl:fs.f<1000)(ry:RelV y u)
  (h:∀s',Inv X pins σ (upd H a<|.ins C dx<|XN f y fs) s'->Q () s'):wpAny (model X.prog X.w) A (setAttr ↑a f u) Q E s:=by
 let(mA,O,r,wi,_,ho):=LD I.hok e;let hz:(fs.C (·.1)).f<=sizeLine:=by rw[Xz,TB];lia
 show rV I.kIn O c.sa c.po n.taker c.hd wi hz λh' O' sb=>h _ ?_;let hd:∃o,h'.B dx=some o:=by let(o,_,_,e',_):=O'.ns;exists o,e'
 show I.write (x:=a) (e:=dx) (by rw[e];show True.intro) (.inr ho) (λb q hb z=>(sb.2 b hb).l z) hd ?_;exists by rw[XR O.ne];show ho,?_,O.ne,O'.obj,_,O'.ns,λg=>?_,λg hg=>?_
 .have:=Ex f y fs;lia
 .change RelO ((XN f y fs).L g) (if g=f then some u else mA g);rw[Ey];cases q:g=f
  .rw[if_pos q,if_pos q];show ry
  .rw[if_neg q,if_neg q];show r g
 .cases q:g=f
  .rw[q];show(rS f y fs).1
  .show(rS f y fs).2 g (wi g λz=>hg ?_);change(if g=f then some u else mA g)=none
   rwa[if_neg q]
def Inv.made(I:Inv X pins σ H s):Inv X pins σ (upd (upd H (~~~s) (.own ((~~~s)+1))) ((~~~s)+1) (.ins C (~~~s) []))
  {s with heap:=(s.o.push PySem.W.emptyDict).push (PySem.W.instObj C (~~~s))}:=by
 let e1:(s.o.push PySem.W.emptyDict).B (~~~s)=some PySem.W.emptyDict:=Yl s.o rfl;let e2:((s.o.push PySem.W.emptyDict).push (PySem.W.instObj C (~~~s))).B ((~~~s)+1)=some (PySem.W.instObj C (~~~s)):=by
  have:=Yl (s.o.push PySem.W.emptyDict) (o:=PySem.W.instObj C (~~~s)) rfl
  rwa[Qo]at this
 let e3:(s.o.push PySem.W.emptyDict).Ns (~~~s) (λ_=>none):={PySem.W.emptyDict,#[],_,e1,Z,λe he=>absurd he tG,λ_=>rfl};let I1:=I.laid (a:=(~~~s)) (o:=.own<|(~~~s)+1) (h':=s.o.push PySem.W.emptyDict) (t':=s.toks) (λb u q=>Xf _ q) (Ya _) {_,e1}
 show I1.laid (a:=(~~~s)+1) (o:=.ins C (~~~s) []) (t':=s.toks) (λb u q=>Xf _ q) (Nat.le_of_eq<|Qo _ _) ?_;let ne:(~~~s)≠(~~~s)+1:=YA (NY _)
 exists by rw[XR ne,XS],Yk _,ne,e2,λ_=>none,(Heap.Ns1.of_empty e3).at λo q=>Xf _ q,λ_=>True.intro,λy hy=>absurd Z hy
def rR{pos:Pos}{Q:Ae}(hb:attributeBase e f env (eval e env)=eval e env)
  (h:wpAny (model prog w) A (eval e env) (λo s₁=>wpAny (model prog w) A (getAttr o f true) Q E s₁) E s):wpAny (model prog w) A (eval (.Attribute e f pos) env) Q E s:=
 Attribute_any_ h (by rw[arm_eval_Attribute,hb])
end
inductive xFld(K:Ad)(f:Str)(x:V)(H1:Hp)(Q:VK):Prop
 |mk (a C dx fs v:_) (_:x=.ref a) (_:H1 a=some (.ins C dx fs)) (_:Cls K C) (_:NoAttr K C f) (_:fs.L f=some v) (_:Q v H1)
def Ew(K:Ad)(ta:TE)(f:Str):(TE):=λσ H Q=>ta σ H λx H1=>xFld K f x H1 Q
def rQ(K:Ad)(ta tv:TE)(f:Str):(TS):=λD σ H=>tv σ H λy H1=>ta σ H1 λx H2=>∃a C dx fs,x=.ref a/\H2 a=some (.ins C dx fs)/\Cls K C/\NoAttr K C f/\fs.f<1000/\
 D.nx σ (upd H2 a<|.ins C dx<|XN f y fs)
section
variable{X:Cx}{o e value:Expr}{f:Str}{pos pos':Pos}{ta tv:TE}
def rP(he:PE X e ta)(hb:attributeBase e f X.R (eval e X.R)=eval e X.R):PE X (.Attribute e f pos) (Ew X.K ta f):=by intro pins s σ H Q I h;show rR hb (thn (he pins s σ H _ I h) λu s1 XA=>?_);let(x,H1,I1,rx,a,C,dx,fs,v,ex,ea,c,n,l,q):=XA;subst ex;let rfl:u=Value.ref a:=rx;show Zt7 I1 ea c n l λu' s2 I2 ru=>⟨v,H1,I2,ru,q⟩
def MY(ha:PE X o ta)(hv:PE X value tv)(hs:swapsWith value (some (.Attribute o f pos')) pos.line X.R=pure false):PS X (.Assign [.Attribute o f pos'] value pos) (rQ X.K ta tv f):=by intro pins s σ H D I h;show plainObj_wpAny_Assign_Attribute (thn (hv pins s σ H _ I h) λu s1 zz=>?_) hs;let(y,H1,I1,ry,q):=zz;show thn (ha pins s1 σ H1 _ I1 q) λov s2 XA=>?_;let(x,H2,I2,rx,a,C,dx,fs,ex,ea,c,n,l,q2):=XA;subst ex;let rfl:ov=Value.ref a:=rx;show Zx6 I2 ea c n l ry λs3 I3=>{σ,_,I3,q2}
end
structure Room(k:Nat)(A:Around):Prop where
 hd:A.handled=none
 dp:A.depth+3*k+5<recursionLimit
 un:A.units+16*k+200<cLine
def Room.mono(r:Room k A)(h:j<=k):Room j A:={r.hd,by have:=r.dp;lia,by have:=r.un;lia}
def Room.deeper(r:Room (k+1) A)(env:Env):Room k (A.deeper env):=
 {r.hd,by have:=r.dp;change A.depth+1+3*k+5<_;lia,by have:=r.un;change A.units+3+16*k+200<_;lia}
def Room.in1(r:Room (k+1) A):Room k A.in1:=
 {r.hd,by have:=r.dp;change A.depth+3*k+5<_;lia,by have:=r.un;change A.units+1+16*k+200<_;lia}
def rO{A:Around}{C:Addr}{us:Ag}{kw:List (Str×Value)}:(A.under (.builtin "type.__call__" {.ref C::us,kw})).depth=A.depth+1:=by
 first|rfl|simp[Around.under,Code.weight,Code.isCreation,Code.isGuard,Code.isCaller,Code.frames,Code.isFrame,guardIds]
def rN{A:Around}{C:Addr}{us:Ag}{kw:List (Str×Value)}:(A.under (.builtin "type.__call__" {.ref C::us,kw})).units=A.units+1:=by
 first|rfl|simp[Around.under,Code.cUnits,Code.frames,Code.isFrame]
def Room.make(r:Room (k+1) A)(C:Addr)(us:Ag)(kw:List (Str×Value)):Room k (A.under (.builtin "type.__call__" {.ref C::us,kw})):=
 {r.hd,by have:=r.dp;rw[rO];lia,by have:=r.un;rw[rN];lia}
def Room.depth(r:Room k A):A.depth<recursionLimit:=by have:=r.dp;lia
def Room.units(r:Room k A):A.units+64<cLine:=by have:=r.un;lia
def JD:(TA):=λ_ H Q=>Q [] H
def Pp(ta:TE)(tr:TA):(TA):=λσ H Q=>ta σ H λx H1=>tr σ H1 λxs H2=>Q (x::xs) H2
section
variable{X:Cx}{e:Expr}{es:List Expr}{te:TE}{t:TA}{pos:Pos}
def XX:PA X [] JD:=λ_ _ _ _ H Q I h=>tU {[],H,I,.nil,h}
def XZ(ha:PE X e te)(hr:PA X es t)(hs:starEach (e::es) X.R=(false,eval e X.R)::starEach es X.R:=by rfl):PA X (e::es) (Pp te t):=by
 intro pos pins s σ H Q I h;rw[hs];change wpAny _ _ (spliced<|(false,eval e X.R)::backTo pos (starEach es X.R)) _ _ s
 show tZ (thn (ha pins s σ H _ I h) λu s1 XA=>?_);let(x,H1,I1,r1,q1):=XA;show thn (hr pos pins s1 σ H1 _ I1 q1) λus s2 zz=>by let(xs,H2,I2,r2,q2):=zz;exists x::xs,H2,I2,.cons r1 r2,q2
inductive xTup(xs:List V)(H1:Hp)(Q:VK):Prop
 |mk (_:xs.f<=sizeLine) (_:∀p,H1 p=none->Q ↑p (upd H1 p<|.tup xs))
def rM(t:TA):(TE):=λσ H Q=>t σ H λxs H1=>xTup xs H1 Q
inductive xLst(xs:List V)(H1:Hp)(Q:VK):Prop
 |mk (_:xs.f<=sizeLine) (_:∀p,H1 p=none->Q ↑p (upd H1 p<|.lst xs))
def rL(t:TA):(TE):=λσ H Q=>t σ H λxs H1=>xLst xs H1 Q
def Ui{x1}(h:PA X es t):PE X (.Tuple es x1 pos) (rM t):=by
 intro pins s σ H Q I hq;show wpAny_Tuple_spliced (thn (h pos pins s σ H _ I hq) λus s1 ⟨xs,H1,I1,r,z,q⟩=>{by rw[<-r.f];show z,?_});let hf:H1 (~~~s1)=none:=I1.hok.fresh (Ya _)
 exists .ref (~~~s1),upd H1 (~~~s1)<|.tup xs,I1.laid (t':=s1.toks) (λb u e=>Xf _ e) (Ya _) ?_,Z,q _ hf;exists z,us,r,{_,Yl _ Z,Z,_,Z}
def Uz(h:PA X es t):PE X (.List es pos) (rL t):=by
 intro pins s σ H Q I hq;show wpAny_List_spliced (thn (h pos pins s σ H _ I hq) λus s1 ⟨xs,H1,I1,r,z,q⟩=>{by rw[<-r.f];show z,?_});let hf:H1 (~~~s1)=none:=I1.hok.fresh (Ya _)
 exists .ref (~~~s1),upd H1 (~~~s1)<|.lst xs,I1.laid (t':=s1.toks) (λb u e=>Xf _ e) (Ya _) ?_,Z,q _ hf;exists z,us,0,r,Yl _ Z
end
abbrev Sp:=List V->Hp->VK->XK->Prop
abbrev Qm:=List Env->Hp->Shared->XK->Ae
structure Env0(P:Program)(w:World)(K:Ad)(mg:Af)(base:Heap)(A:Around)(outer:List Env)(s:Shared)(H:Hp):Prop where
 frames:A.frames=some outer
 mod:Mod K mg base
 bs:∀b o,base.B b=some o->s.o.B b=some o/\H b=none
 bsz:base.objs.G<=(~~~s)
 funs:s.o.FunFrames base outer
 frf:∀b∈TU outer,H b=none
 hok:HOk P w H s.o
 bare:AllBare s.gens
def CE(outer:List Env)(P:Program)(w:World)(H:Hp)(s:Shared)(Q:VK)(u:Value)(s':Shared):(Prop):=
 ∃v H',s'.os=s.os/\AllBare s'.gens/\Un (TU outer) [] H H' s.o s'.o/\HOk P w H' s'.o/\RelV v u/\Q v H'
def CR(CX:Qm)(outer:List Env)(P:Program)(w:World)(H:Hp)(s:Shared)(Q:VK)(E:XK)(r:Result)(s':Shared):(Prop):=
 match r with
 | .ok (.ret u)=>CE outer P w H s Q u s'
 | .ok _=>False
 | .error e=>CX outer H s E e s'
structure FnOk(P:Program)(w:World)(K:Ad)(mg:Af)(base:Heap)(CX:Qm)(k:Nat)(f:Addr)(fd:FuncData)(ps:List Str)(sp:Sp):Prop where
 len:∀vs H Q E,sp vs H Q E->vs.f=ps.f
 run:∀(A:Around)(outer:List Env)(s:Shared)(H:Hp)(args:Args)(us:Ag)(vs:List V)(Q:VK)(E:XK),Room k A->Env0 P w K mg base A outer s H->BindsTo s fd args (ps.zip us)->Vals vs us->sp vs H Q E->
  codeAny (model P w) A (.call ↑f args) (CR CX outer P w H s Q E) s
def Env0.make{P:Program}{w:World}{K:Ad}{mg:Af}{base:Heap}{A:Around}{outer:List Env}{s:Shared}{H:Hp}(e:Env0 P w K mg base A outer s H)(C:Addr)(us:Ag)(kw:List (Str×Value)):
  Env0 P w K mg base (A.under<|.builtin "type.__call__" {.ref C::us,kw}) outer s H:={by first|show e.frames|(simpa[Around.under,Code.envs,Code.isFrame,pushEnvs] using e.frames),e.mod,e.bs,e.bsz,e.funs,e.frf,e.hok,e.bare}
def Env0.in1{P:Program}{w:World}{K:Ad}{mg:Af}{base:Heap}{A:Around}{outer:List Env}{s:Shared}{H:Hp}(e:Env0 P w K mg base A outer s H):
  Env0 P w K mg base A.in1 outer s H:=⟨e.frames,e.mod,e.bs,e.bsz,e.funs,e.frf,e.hok,e.bare⟩
section
variable{X:Cx}{pins:List (Addr×Obj)}{σ:St}{H:Hp}{s s':Shared}
def Inv.env0(I:Inv X pins σ H s):Env0 X.prog X.w X.K X.mg X.base X.A X.stack s H:=
 {I.ok.frames,I.ok.mod,I.bs,YE I.ok.bsz I.sz,I.stack,I.stkFree,I.hok,I.bare}
def Inv.after(I:Inv X pins σ H s)(h:CE X.stack X.prog X.w H s Q u s'):EP X pins σ Q u s':=by let(v,H',os,bare,un,hok,r,q):=h;let(hh,g,d,t,rK):=s';let rfl:rK=s.os:=os;exists v,H',I.call (h':=hh) (g':=g) (d':=d) (t':=t) (ch:=[]) un hok bare λb z=>absurd z tG,r,q
end
def Eu(sp:Sp)(So:List V)(E:XK)(t:TA):(TE):=λσ H Q=>t σ H λvs H1=>sp (vs++So) H1 Q E
def rJ(C:Addr)(sp:Sp)(So:List V)(E:XK)(t:TA):(TE):=λσ H Q=>t σ H λvs H1=>∀x dx,H1 x=none->H1 dx=none->dx≠x->
 sp (.ref x::(vs++So)) (upd (upd H1 dx<|.own x) x<|.ins C dx []) (λv H2=>v=.non/\Q ↑x H2) E
def Binds(K:Ad)(fd:FuncData)(ps:List Str)(ds:Ag):(Prop):=
 ∀(s:Shared)(us:Ag),K.In s.o->(us++ds).f=ps.f->BindsTo s fd {us,[]} (ps.zip<|us++ds)
def Binds.all{K:Ad}{fd:FuncData}{ps:List Str}(h:∀us:Ag,us.f=ps.f->bindArgs fd {us,[]}=pure (ps.zip us)):Binds K fd ps []:=λs us _ hl=>by rw[Yy]at hl ⊢;show .of_eq (h us hl)
def Rf(CX:Qm)(X:Cx)(E:XK):(Prop):=∀(pins:List (Addr×Obj))(σ:St)(H:Hp)(s:Shared)(e:Value)(s':Shared),Inv X pins σ H s->CX X.stack H s E e s'->X.xe e s'
section
variable{X:Cx}{CX:Qm}{k:Nat}{f C:Addr}{fd:FuncData}{ps:List Str}{sp:Sp}{So:List V}{ds:Ag}{E:XK}{x:Str}{p pos:Pos}{e:Expr}{es:List Expr}{t:TA}
def Et(F:FnOk X.prog X.w X.K X.mg X.base CX k f fd ps sp)(hr:Room k X.A)(hb:Binds X.K fd ps ds)(hd:Vals So ds)(hx:Rf CX X E)
  (I:Inv X pins σ H s)(r:Vals vs us)(h:sp (vs++So) H Q E):wpAny (model X.prog X.w) X.A (call ↑f us) (EP X pins σ Q) X.xe s:=by
 let r2:Vals (vs++So) (us++ds):=r.append hd;let hl:(us++ds).f=ps.f:=by rw[<-r2.f];show F.len _ _ _ _ h
 show PB (LM (F.run X.A X.stack s H {us,[]} (us++ds) (vs++So) Q E hr I.env0 (hb s us I.kIn hl) r2 h) λr s' hq=>?_);cases r with
 |error e=>show hx pins σ H s e s' I hq
 |ok fl=>
  cases fl with
  |ret u=>show I.after hq
  |next=>show False.elim hq
  |brk=>show False.elim hq
  |cont=>show False.elim hq
def JC(F:FnOk X.prog X.w X.K X.mg X.base CX k f fd ps sp)(hr:Room k X.A)(hg:Gl X x)(hm:X.mg x=some ↑f)(hk:PySem.W.keepIn X.K ↑f=true)(hb:Binds X.K fd ps ds)(hd:Vals So ds)(hx:Rf CX X E)
  (ha:PA X (e::es) t)(Tv:(x == ("__debug__":Str))=false:=by decide)(he:starEach (e::es) X.R=(false,eval e X.R)::starEach es X.R:=by rfl)(Wc:(backTo pos<|starEach es X.R).any (·.1)=false:=by rfl):
  PE X (.Call (.Name x p) (e::es) [] pos) (Eu sp So E t):=by intro pins s σ H Q I h;show NZ (tf I hg hm ?_ Tv);show PySem.W.callWith_K (h₀:=X.base) I.ok.mod.kin hk (thn (ha pos pins s σ H _ I h) λus s1 ⟨vs,H1,I1,r,q⟩=>{I1.kIn,?_}) he Wc;show Et F hr hb hd hx I1 r q
structure Mk(K:Ad)(C f:Addr):Prop where
 makes:PySem.W.makesIn K C=true
 init:PySem.W.findIn K ↑C "__init__"=some (some<|.ref f)
 fn:PySem.W.isFn K ↑f=true
 kp:PySem.W.keepIn K ↑C=true
def Es(M:Mk X.K C f)(F:FnOk X.prog X.w X.K X.mg X.base CX k f fd ps sp)(hr:Room (k+1) X.A)(hb:Binds X.K fd ps ds)(hd:Vals So ds)
  (hx:Rf CX X E)(I:Inv X pins σ H s)(r:Vals vs us)
  (h:∀x dx,H x=none->H dx=none->dx≠x->sp (.ref x::(vs++So)) (upd (upd H dx<|.own x) x<|.ins C dx []) (λv H2=>v=.non/\Q ↑x H2) E):
  wpAny (model X.prog X.w) X.A (call ↑C us) (EP X pins σ Q) X.xe s:=by
 let hq:=h ((~~~s)+1) (~~~s) (I.hok.fresh<|Ur _) (I.hok.fresh<|Ya _) (YA<|NY _);let I2:=Inv.made (C:=C) I
 let r2:Vals (V.ref ((~~~s)+1)::(vs++So)) (Value.ref ((~~~s)+1)::(us++ds)):=.cons Z (r.append hd);let hl:(Value.ref ((~~~s)+1)::us++ds).f=ps.f:=by let e:=r2.f;rw[F.len _ _ _ _ hq]at e;show e.U
 show PB (rT (f:=f) I.kIn M.makes M.init (Rn.E M.fn) (LM (F.run _ X.stack _ _ {Value.ref ((~~~s)+1)::us,[]} (Value.ref ((~~~s)+1)::(us++ds)) _ _ E (hr.make C us [])
  (I2.env0.make C us []) (hb _ (Value.ref ((~~~s)+1)::us) I2.kIn hl) r2 hq) λr s' Er=>?_))
 cases r with
 |error e=>show hx pins σ _ _ e s' I2 Er
 |ok fl=>
  cases fl with
  |ret u=>
   let(v,H',I3,rv,ev,q3):=I2.after Er;subst ev;exists rv,{V.ref<|(~~~s)+1,H',I3,Z,q3}
  |next=>show False.elim Er
  |brk=>show False.elim Er
  |cont=>show False.elim Er
def GF(M:Mk X.K C f)(F:FnOk X.prog X.w X.K X.mg X.base CX k f fd ps sp)(hr:Room (k+1) X.A)(hg:Gl X x)(hm:X.mg x=some ↑C)(hb:Binds X.K fd ps ds)(hd:Vals So ds)(hx:Rf CX X E)
  (ha:PA X (e::es) t)(Tv:(x == ("__debug__":Str))=false:=by decide)(he:starEach (e::es) X.R=(false,eval e X.R)::starEach es X.R:=by rfl)(Wc:(backTo pos<|starEach es X.R).any (·.1)=false:=by rfl):
  PE X (.Call (.Name x p) (e::es) [] pos) (rJ C sp So E t):=by intro pins s σ H Q I h;show NZ (tf I hg hm ?_ Tv);show PySem.W.callWith_K (h₀:=X.base) I.ok.mod.kin M.kp (thn (ha pos pins s σ H _ I h) λus s1 ⟨vs,H1,I1,r,q⟩=>{I1.kIn,?_}) he Wc;show Es M F hr hb hd hx I1 r q
end
structure FnScope(N P:List Str)(sc:Scope):Prop where
 kind:sc.kind=.function
 co:sc.isCoroutine=false
 gen:sc.isGenerator=false
 nd:N.Nodup
 pre:N.X P.f=P
 par:∀x∈P,sc.names.L x=some .local\/sc.names.L x=some .cell
 nofree:∀y∈sc.names,y.2≠.free
def dE{kindOf:Str->Option NameKind}:∀{binds:List (Str×Value)}{m:Af},(∀v,(x,v)∉binds)->bindL kindOf binds m x=m x
 |[],_,_=>rfl
 | (n,v)::r,m,h=>by
  unfold bindL;rw[dE λw hw=>h w (Ye _ hw)];split
  .have:x≠n:=by rintro rfl;show h v Yb
   simp[this]
  .rfl
def dD{kindOf:Str->Option NameKind}:∀{binds:List (Str×Value)}{m:Af},(∀v,(x,v)∉binds)->bindC kindOf binds m x=m x
 |[],_,_=>rfl
 | (n,v)::r,m,h=>by
  unfold bindC;rw[dD λw hw=>h w (Ye _ hw)];split
  .rfl
  .have:x≠n:=by rintro rfl;show h v Yb
   simp[this]
def dC{kindOf:Str->Option NameKind}{x:Str}{v:Value}:∀{P:List Str}{vs:Ag}{i:Nat}{m:Af},P.Nodup->P[i]?=some x->vs[i]?=some v->kindOf x=some .local->
  bindL kindOf (P.zip vs) m x=some v
 |[],_,_,_,_,h,_,_=>by simp at h
 |_::_,[],_,_,_,_,h,_=>by simp at h
 |p::P,w::vs,0,m,nd,h1,h2,hk=>by
  simp at h1 h2;subst h1;subst h2;change bindL kindOf ((p,w)::P.zip vs) m p=_
  unfold bindL;rw[dE λv hv=>(Qp.E nd).1 (ud hv).1,if_pos hk];simp
 |p::P,w::vs,i+1,m,nd,h1,h2,hk=>by change bindL kindOf ((p,w)::P.zip vs) m x=_;unfold bindL;show dC (i:=i) (Qp.E nd).2 (by simpa using h1) (by simpa using h2) hk
def dB{kindOf:Str->Option NameKind}{x:Str}{v:Value}:∀{P:List Str}{vs:Ag}{i:Nat}{m:Af},P.Nodup->P[i]?=some x->vs[i]?=some v->kindOf x≠some .local->
  bindC kindOf (P.zip vs) m x=some v
 |[],_,_,_,_,h,_,_=>by simp at h
 |_::_,[],_,_,_,_,h,_=>by simp at h
 |p::P,w::vs,0,m,nd,h1,h2,hk=>by
  simp at h1 h2;subst h1;subst h2;change bindC kindOf ((p,w)::P.zip vs) m p=_
  unfold bindC;rw[dD λv hv=>(Qp.E nd).1 (ud hv).1,if_neg hk];simp
 |p::P,w::vs,i+1,m,nd,h1,h2,hk=>by change bindC kindOf ((p,w)::P.zip vs) m x=_;unfold bindC;show dB (i:=i) (Qp.E nd).2 (by simpa using h1) (by simpa using h2) hk
def start(N:List Str)(vs:List V):(St):=vs.C some++List.M (N.f-vs.f) none
def Uh(CX:Qm)(P:Program)(w:World)(K:Ad)(mg:Af)(base:Heap)(N:List Str)(qual:Str)(scope:Scope)(f:Addr)(cd:Value)(A:Around)(outer:List Env)(s:Shared)(H:Hp)(E:XK):(Cx) where
 prog:=P
 w:=w
 K:=K
 mg:=mg
 base:=base
 A:=A.deeper (envOfC qual scope (~~~s) f cd)
 N:=N
 s₀:=s
 H₀:=H
 env:=envOfC qual scope (~~~s) f cd
 outer:=outer
 stack:=envOfC qual scope (~~~s) f cd::outer
 ex:=[]
 calm:=true
 fn:=λ_=>true
 pn:=[]
 xe:=λe s'=>wpAny (model P w) (A.deeper<|envOfC qual scope (~~~s) f cd) (leaving (envOfC qual scope (~~~s) f cd) e) (λ_ SN=>CX outer H s E e SN) (λe' SN=>CX outer H s E e' SN) s'
def dz{sc:Scope}(h:sc.names.L x=some .cell):∃c,(cellsFrom n sc.names []).L x=some c:=by let q:=Fe sc.names n [] (.inl h);show yq.E q
def ZW8{CX:Qm}{P:Program}{w:World}{K:Ad}{mg:Af}{base:Heap}{N ps:List Str}{qual:Str}{scope:Scope}{f:Addr}{cd:Value}{A:Around}{outer:List Env}{s s1:Shared}{H:Hp}{E:XK}{us:Ag}{vs:List V}
  (AP:FnScope N ps scope)(hd:A.handled=none)(e0:Env0 P w K mg base A outer s H)(hl:vs.f=ps.f)(r:Vals vs us)
  (x:InCallC s (~~~s) (bindL (envOfC qual scope (~~~s) f cd).kindOf (ps.zip us) λ_=>none) (cellsFrom ((~~~s)+1) scope.names []) (bindC (envOfC qual scope (~~~s) f cd).kindOf (ps.zip us) λ_=>none) s1):
  Inv (Uh CX P w K mg base N qual scope f cd A outer s H E) [] (start N vs) H s1:=by
 let Wc:ps.f<=N.f:=by have:=XG List.f AP.pre;rw[YB]at this;lia
 let(h1,tk,rfl,hk):=x.done;let JB:∀b:Addr,b∉(Uh CX P w K mg base N qual scope f cd A outer s H E).ex:=λb z=>absurd (show b∈([]:List Addr) from z) tG
 show⟨{e0.mod,AP.kind,Z,Z,Ya _,λy z c h1 h2=>?_,λy hy=>?_,λy c _ h=>?_,λ_=>hd,Around.frames_deeper e0.frames,.inr ⟨Z,Z⟩,λb z=>absurd z<|JB b,e0.bs,e0.bsz,λb _ _=>JB b,λb z=>absurd z<|JB b,e0.funs,e0.frf},
  rfl,e0.bare,Un.kept hk,{_,x.toInCall.ns,λi y v h1 h2 h3=>?_},λy c h=>{_,x.cell y c h},e0.hok.fresh<|Ya _,λy c h=>?_,λp hp=>absurd (show p∈([]:List (Addr×Obj)) from hp) tG,e0.hok.kept hk,?_⟩
 .show name_of_addr x.apart (Su h1) (Su h2)
 .let hy:scope.names.L y=some .cell\/scope.names.L y=some .free:=hy;rcases hy with hy|hy
  .show dz hy
  .show absurd Z (AP.nofree _<|Su hy)
 .show Nl (x.above y c<|Su h)
 .let hi:i<vs.f:=by
   unfold start at h2;cases hi:i<vs.f
   .show hi
   .rw[Ym (by simpa using hi)]at h2;rw[He]at h2;split at h2<;>cases h2
  let ha:vs[i]?=some v:=by
   unfold start at h2;rw[Yn (by simpa using hi),Yr]at h2;cases e:vs[i]? with
   |none=>rw[e]at h2;cases h2
   |some a=>rw[e]at h2;cases h2;rfl
  let(u,hu,rv):=r.get ha;let hp:ps[i]?=some y:=by rwa[<-AP.pre,eO J]
  let dy:ps.Nodup:=by rw[<-AP.pre];show AP.nd.sublist (List.take_sublist _ _)
  exists u,rv,?_;rcases AP.par y (Xr hp) with k|k
  .show .inl {k,dC dy hp hu k}
  .let⟨c,e⟩:=dz (n:=(~~~s)+1) k;show .inr {.inl k,c,e,?_};let q:=x.cell y c e
   rwa[dB dy hp hu (by change scope.names.L y≠_;rw[k];decide)]at q
 .show e0.hok.fresh (Nl<|x.above y c<|Su h)
 .unfold start;change _=N.f
  rw[XB,Xz,Yw];grind
def Ep{CX:Qm}{P:Program}{w:World}{K:Ad}{mg:Af}{base:Heap}{k:Nat}{f:Addr}{name qual:Str}{params:Arguments}{body:List Stmt}{scope:Scope}{dV kV doc pm XD ct oc:Value}{an od:Option Addr}
  {TQ:Array (Option Value)}{N ps:List Str}{sp:Sp}(lk:K.L f=some {oc,od,.func<|PySem.W.fnOf name qual params body scope dV kV doc pm an XD ct,TQ})(SS:PySem.W.codeIn K XD qual=true)(AP:FnScope N ps scope)
  (len:∀vs H Q E,sp vs H Q E->vs.f=ps.f)
  (VR:∀(A:Around)(outer:List Env)(s:Shared)(H:Hp)(vs:List V)(Q:VK)(E:XK),Room k (A.deeper<|envOfC qual scope (~~~s) f XD)->sp vs H Q E->
   ∃t,PSs (Uh CX P w K mg base N qual scope f XD A outer s H E) body t/\t {nx:=λ_ H'=>Q .non H',rt:=Q} (start N vs) H):
  FnOk P w K mg base CX (k+1) f (PySem.W.fnOf name qual params body scope dV kV doc pm an XD ct) ps sp:=by
 exists len,λA outer s H args us vs Q E hr e0 hb r Ql=>?_;let hl:=len _ _ _ _ Ql
 let KX:K.In s.o:=e0.mod.kin.keeps λb o e=>(e0.bs b o e).1;let lim:s.o.NoLimit:=e0.mod.nolimit.keeps λb o e=>(e0.bs b o e).1
 let Eo:∀y∈ps.zip us,scope.names.L y.1=some .local\/(scope.names.L y.1=some .cell/\((cellsFrom ((~~~s)+1) scope.names []).L y.1).isSome=true):=λ⟨n,v⟩ hy=>by
  rcases AP.par n (ud hy).1 with q|q
  .show .inl q
  .show .inr {q,Fe _ _ _<|.inl q}
 show codeAny_call_function hr.depth (KX _ _ lk) Z AP.co AP.gen Z (PySem.W.codeRec_of KX SS) (hb _ _ _ _ ?_);show wpAny_newFunctionEnv_cells AP.kind Eo λenv he s1 x=>?_;subst he;exists lim.keeps x.toInCall.keep,codeAny_func ?_;let(t,ht,hq):=VR A outer s H vs Q E (hr.deeper _) Ql;let I:Inv (Uh CX P w K mg base N qual scope f XD A outer s H E) [] (start N vs) H s1:=ZW8 AP hr.hd e0 hl r x
 show Uq (ht [] s1 (start N vs) H _ I hq) (λfl s' hs=>?_) λe s' hs=>hs;let fin:∀{σ':St}{H':Hp}{v:V}{u:Value},Inv (Uh CX P w K mg base N qual scope f XD A outer s H E) [] σ' H' s'->RelV v u->Q v H'->CE outer P w H s Q u s':=
  λ{σ' H' v u} tj rv q=>⟨v,H',tj.os,tj.bare,tj.base,tj.hok,rv,q⟩
 cases fl with
 |ret u=>
  let(v,σ',H',tj,rv,q):=hs;show fin tj rv q
 |next=>
  let(σ',H',tj,q):=hs;show fin (v:=V.non) (u:=Value.none) tj Z q
 |brk=>
  let(_,_,_,q):=hs;show False.elim q
 |cont=>
  let(_,_,_,q):=hs;show False.elim q
section
variable{X:Cx}{x:Str}{p pos:Pos}{e:Expr}{es:List Expr}{t:TA}{id T:String}{r:List V->Hp->VK->Prop}
def dw(r:List V->Hp->VK->Prop)(t:TA):(TE):=λσ H Q=>t σ H λvs H1=>r vs H1 Q
def Zf(hc:WB X (.builtin id) r)(hg:Gl X x)(hm:X.mg x=none)(hv:bootBuiltins x=some (.builtin id))(ha:PA X (e::es) t)(hn:x≠"__name__":=by decide)(Tv:(x == ("__debug__":Str))=false:=by decide)
  (he:starEach (e::es) X.R=(false,eval e X.R)::starEach es X.R:=by rfl)(Wc:(backTo pos<|starEach es X.R).any (·.1)=false:=by rfl):PE X (.Call (.Name x p) (e::es) [] pos) (dw r t):=by intro pins s σ H Q I h;show NZ (VG I hg hm hv ?_ hn Tv);show Fh (thn (ha pos pins s σ H _ I h) λus s1 zz=>by let(vs,H1,I1,r1,q1):=zz;show hc pins s1 σ H1 vs us Q I1 r1 q1) he Wc
def Zq(hc:WB X (.type T) r)(hg:Gl X x)(hm:X.mg x=none)(hv:bootBuiltins x=some (.type T))(ha:PA X (e::es) t)(hn:x≠"__name__":=by decide)(Tv:(x == ("__debug__":Str))=false:=by decide)
  (he:starEach (e::es) X.R=(false,eval e X.R)::starEach es X.R:=by rfl)(Wc:(backTo pos<|starEach es X.R).any (·.1)=false:=by rfl):PE X (.Call (.Name x p) (e::es) [] pos) (dw r t):=by intro pins s σ H Q I h;show NZ (VG I hg hm hv ?_ hn Tv);show Ny (thn (ha pos pins s σ H _ I h) λus s1 zz=>by let(vs,H1,I1,r1,q1):=zz;show hc pins s1 σ H1 vs us Q I1 r1 q1) he Wc
end
end L2
namespace HT
open PySem PyProof.Rows
def lexLt:(Ac->Ac->Bool)
 |[],[]=>false
 |[],_::_=>true
 |_::_,[]=>false
 |x::xs,y::ys=>if x=y then lexLt xs ys else decide (x<y)
def Xn(x y:Int)(xs ys:Ac):lexLt (x::xs) (y::ys)=if x=y then lexLt xs ys else decide (x<y):=rfl
section
variable{prog:Program}{w:World}{A:Around}{E:Ae}{s:Shared}
def MX{vs ws:Ag}{Q:Ae}(ht:IsTup s.o t vs.m)(hb:IsTup s.o b ws.m)(hv:vs≠[])
  (h1:ws=[]->Q ↑t s)(h2:ws≠[]->Q (.ref (~~~s)) {s with heap:=s.o.push {cls:=.type "tuple",data:=.seq (vs++ws).m} })
  (hsz:vs.f+ws.f<=sizeLine):wpAny (model prog w) A (binaryOp .Add ↑t<|.ref b) Q E s:=by
 let((cls,dd,data,sl),ho,hc,n,hd):=id ht;let((rH,xx,data2,xw),Ug,Vk,n2,hd2):=id hb;simp only at hc hd Vk hd2;subst hc hd Vk hd2;let e:vs.m++ws.m=(vs++ws).m:=tG
 cases hw:ws=[]
 .show concat_meets {_,ho,Z} {_,Ug,Z} JW seq_tuple_add uN uR (uU _ _)
   (tuple_addW1 t b vs.m ws.m n n2 dd xx sl xw (by simpa using hv)<|by simp[hw]) {ho,Ug,h1 hw}
 .show concat_meets {_,ho,Z} {_,Ug,Z} JW seq_tuple_add uN uR (uU _ _)
   (tuple_addW2 t b vs.m ws.m n n2 dd xx sl xw (by simpa using hv) (by simpa using hw)<|by rwa[Yd,Yd]) {ho,Ug,?_}
  rw[e];show h2 hw
def SM(n d:Nat):(Option Int->Nat)
 |none=>d
 |some v=>if v<0 then (v+(n:Int)).j else min v.j n
def Tu(n d:Nat):SM n d none=d:=rfl
end
end HT
namespace L2
open PySem PySem.Spec PyProof.Rows
abbrev TO:=St->Hp->(Option Int->Hp->Prop)->Prop
def PO(X:Cx)(e:Option Expr)(t:TO):(Prop):=
 ∀(pins:List (Addr×Obj))(s:Shared)(σ:St)(H:Hp)(Q:Option Int->Hp->Prop),Inv X pins σ H s->t σ H Q->
  wpAny (model X.prog X.w) X.A (evalPart e X.R) (λu s'=>∃o H',Inv X pins σ H' s'/\IsPart u o/\Q o H') X.xe s
def rG:(TO):=λ_ H Q=>Q none H
inductive xPart(x:V)(H1:Hp)(Q:Option Int->Hp->Prop):Prop
 |mk (i:Int) (_:x=.int i) (_:Q (some i) H1)
def rF(t:TE):(TO):=λσ H Q=>t σ H λx H1=>xPart x H1 Q
section
variable{X:Cx}{e:Expr}{te:TE}{lo hi:Option Expr}{tl th:TO}{pos p2:Pos}
def En:PO X none rG:=by intro pins s σ H Q I h;rw[evalPart_none];show Yh ⟨none,H,I,.none,h⟩
def JA(h:PE X e te):PO X (some e) (rF te):=by intro pins s σ H Q I hw;rw[evalPart_some];show thn (h pins s σ H _ I hw) λu s1 XA=>?_;let(x,H1,I1,r1,q1):=XA;let(i,rfl,q):=q1;let(t,rfl):=r1;exists some i,H1,I1,.int i t,q
def rE(X:Cx)(r:V->Option Int->Option Int->Hp->VK->Prop):(Prop):=
 ∀(pins:List (Addr×Obj))(s:Shared)(σ:St)(H:Hp)(x:V)(v vl vu:Value)(lo hi:Option Int)(sl:Addr)(Q:VK),Inv X pins σ H s->RelV x v->s.o.IsSliceOf sl vl vu .none->IsPart vl lo->IsPart vu hi->r x lo hi H Q->
  ∃T id,typeLookup (.type T) "__getitem__"=pure (some<|.builtin id)/\s.TypeIs v T/\wpAny (model X.prog X.w) X.A (getItem v<|.ref sl) (EP X pins σ Q) X.xe s
def tSl(r:V->Option Int->Option Int->Hp->VK->Prop)(te:TE)(tl th:TO):(TE):=λσ H Q=>te σ H λx H1=>tl σ H1 λl H2=>th σ H2 λu H3=>r x l u H3 Q
def Rc{r:V->Option Int->Option Int->Hp->VK->Prop}(hr:rE X r)(he:PE X e te)(hl:PO X lo tl)(hu:PO X hi th):PE X (.Subscript e (.Slice lo hi none p2) pos) (tSl r te tl th):=by
 intro pins s σ H Q I h;show Subscript_ (thn (he pins s σ H _ I h) λv s1 XA=>?_);let(x,H1,I1,r1,q1):=XA;show wpAny_Slice (thn (hl pins s1 σ H1 _ I1 q1) λvl s2 zz=>?_);let(l,H2,I2,pl,q2):=zz;show thn (hu pins s2 σ H2 _ I2 q2) λvu s3 XA=>?_;let(u,H3,I3,pu,q3):=XA;rw[evalPart_none];show Yh ?_;let I4:Inv X pins σ H3 {s3 with heap:=s3.o.push {cls:=.type "slice",data:=.fields #[vl,vu,.none]} }:=I3.kept (t':=s3.toks) λb ob q=>Xf _ q
 let(T,id,hT,ht,hg):=hr pins {s3 with heap:=s3.o.push {cls:=.type "slice",data:=.fields #[vl,vu,.none]} } σ H3 x v vl vu l u (~~~s3) Q I4 r1 (Heap.IsSliceOf.new ..) pl pu q3;change wpAny (model X.prog X.w) X.A (subscriptTail e (.Slice lo hi none p2) v<|.ref (~~~s3)) (EP X pins σ Q) X.xe {s3 with heap:=s3.o.push {cls:=.type "slice",data:=.fields #[vl,vu,.none]} }
 show tail_any (ops:=[.ref (~~~s3),v]) ht hT hg (by with_unfolding_all rfl)
def Ws(xs:List V)(lo hi:Option Int):(List V):=(xs.drop<|HT.SM xs.f 0 lo).X (HT.SM xs.f xs.f hi-HT.SM xs.f 0 lo)
def rD(xs:List V)(lo hi:Option Int):(Ws xs lo hi).f<=xs.f:=by unfold Ws;rw[YB,Qq];lia
def LC(K:Ad):(R2):=λx y H Q=>∃a b xs ys,x=.ref a/\y=.ref b/\SqT K H a xs/\SqT K H b ys/\xs≠[]/\xs.f+ys.f<=sizeLine/\
 (ys=[]->Q ↑a H)/\(ys≠[]->∀p,H p=none->Q ↑p (upd H p<|.tup<|xs++ys))
def Vals.nil_iff(r:Vals xs us):us=[]↔xs=[]:=by
 cases r with
 |nil=>simp
 |cons _ _=>simp
def rC:Wx X (binaryOp .Add) (LC X.K):=by intro pins s σ H x y v u Q I rx ry h;let(a,b,xs,ys,rfl,rfl,ha,hb,hx,hz,q1,q2):=h;cases rx;cases ry;let(XU,r1,p1,_):=I.tuple ha;let(VE,r2,p2,_):=I.tuple hb;show HT.MX p1 p2 (λz=>hx<|r1.nil_iff.E z) (λz=>{.ref a,H,I,Z,q1<|r2.nil_iff.E z}) (λz=>?_) (by rwa[<-r1.f,<-r2.f]);exists .ref (~~~s),_,I.laid (t':=s.toks) (o:=.tup<|xs++ys) (λb ob q=>Xf _ q) (Ya _) ?_,Z,q2 (λw=>z<|r2.nil_iff.H w) _<|I.hok.fresh<|Ya _;exists by rw[XB];show hz,_,r1.append r2,IsTup.new _ _
end
def Qk(n:Nat)(i:Int):(Option Nat):=if 0<=i then (if i<n then some i.j else none) else if -(n:Int)<=i then some (i+n).j else none
def Wg{α:Type}(xs:List α)(i:Int):(Option α):=(Qk xs.f i).bind λj=>xs[j]?
def LB{j:Nat}(h:Qk n i=some j):seqIndex? i n=some j/\j<n/\-(n:Int)<=i/\i<n:=by
 unfold Qk at h;cases h0:0<=i
 .rw[if_pos h0]at h;cases h1:i<n
  .rw[if_pos h1]at h;let e:i.j=j:=Yc h
   exists by rw[seqIndex_of h0 h1,e],J,J,h1
  .rw[if_neg h1]at h;cases h
 .rw[if_neg h0]at h;cases h1:-(n:Int)<=i
  .rw[if_pos h1]at h;let e:(i+n).j=j:=Yc h
   exists by rw[seqIndex_neg J h1,e],J,h1,J
  .rw[if_neg h1]at h;cases h
def Em{α:Type}{xs:List α}{i:Int}{v:α}(h:Wg xs i=some v):∃j,seqIndex? i xs.f=some j/\xs[j]?=some v/\j<xs.f/\-xs⁻¹<=i/\i<xs.f:=by
 unfold Wg at h;cases e:Qk xs.f i with
 |none=>rw[e]at h;cases h
 |some j=>
  rw[e]at h;let(h1,h2,h3,h4):=LB e;exists j,h1,h,h2,h3,h4
def rB(b:Expr):(Prop):=∀o i,subscripted b false o i=operate [o,i] (getItem o i)
def GD(X:Cx)(r:R2):(Prop):=
 ∀(value slice:Expr)(pins:List (Addr×Obj))(s:Shared)(σ:St)(H:Hp)(x y:V)(v u:Value)(Q:VK),Inv X pins σ H s->RelV x v->RelV y u->r x y H Q->
  subscripted slice false v u=operate [v,u] (getItem v u)->wpAny (model X.prog X.w) X.A (subscriptTail value slice v u) (EP X pins σ Q) X.xe s
def xu(X:Cx)(id:String)(r:V->List V->Hp->VK->Prop):(Prop):=
 ∀(pins:List (Addr×Obj))(s:Shared)(σ:St)(H:Hp)(x:V)(xs:List V)(v:Value)(us:Ag)(Q:VK),Inv X pins σ H s->RelV x v->Vals xs us->r x xs H Q->
  wpAny (model X.prog X.w) X.A (call (.builtin id)<|v::us) (EP X pins σ Q) X.xe s
section
variable{X:Cx}{a b:Expr}{ta tb:TE}{pos:Pos}
def ZH(hr:GD X r)(ha:PE X a ta)(hb:PE X b tb)(hs:rB b):PE X (.Subscript a b pos) (xA r ta tb):=by intro pins s σ H Q I h;show Subscript_ (JJ ha hb I h λv u s2 x y H2 I2 rx ry q=>hr a b pins s2 σ H2 x y v u Q I2 rx ry q<|hs _ _)
inductive rIxL(K:Ad)(x:V)(y:V)(H:Hp)(Q:VK):Prop
 |mk (p xs i v:_) (_:x=.ref p) (_:y=.int i) (_:SqL K H p xs) (_:Wg xs i=some v) (_:Q v H)
inductive rIxT(K:Ad)(x:V)(y:V)(H:Hp)(Q:VK):Prop
 |mk (p xs i v:_) (_:x=.ref p) (_:y=.int i) (_:SqT K H p xs) (_:Wg xs i=some v) (_:Q v H)
def El:GD X (rIxL X.K):=by
 intro value slice pins s σ H x y v u Q I rx ry h hs;let(p,xs,i,z,rfl,rfl,hq,he,q):=h;cases rx;let(t,rfl):=ry;let(XU,r,pl,hz):=I.list hq;let(j,h1,h2,h3,h4,h5):=Em he;let(w,ew,Rb):=r.get h2;let hl:=r.f
 let hn:=Ez;let fin:EP X pins σ Q w s:=⟨z,H,I,Rb,q⟩
 cases h0:0<=i
 .let hj:i.j=j:=by rw[seqIndex_of h0 h5]at h1;show Yc h1
  show item_listR pl.isList h0 J (by rw[hj];simpa using ew) fin hs
 .let hj:(i+(XU.m.G:Int)).j=j:=by rw[seqIndex_neg J h4]at h1;rw[Yd,<-hl];show Yc h1
  show subscriptTail_builtinR (x:=w) pl.isList.typeIs slot_list_getitem.L
   (wpAny_getItem_list_neg (Q:=λr s'=>r=w/\EP X pins σ Q r s') pl.isList S (by rw[Yd]<;>lia) J (by rw[hj];simpa using ew) ⟨rfl,fin⟩) hs
def rz:GD X (rIxT X.K):=by
 intro value slice pins s σ H x y v u Q I rx ry h hs;let(p,xs,i,z,rfl,rfl,hq,he,q):=h;cases rx;let(t,rfl):=ry;let(XU,r,pl,hz):=I.tuple hq;let(j,h1,h2,h3,h4,h5):=Em he;let(w,ew,Rb):=r.get h2;let hl:=r.f
 let hn:=Ez;let fin:EP X pins σ Q w s:=⟨z,H,I,Rb,q⟩
 show subscriptTail_builtinR (x:=w) pl.typeIs slot_tuple_getitem.L
  (getItem_tuple (j:=j) (Q:=λr s'=>r=w/\EP X pins σ Q r s') pl J J (by rwa[Yd,<-hl]) (by simpa using ew) ⟨Z,fin⟩) hs
def rq(XU:Ag)(n j:Nat)(u:Value):Obj.mapSeq (·.setIfInBounds j u) {cls:=.type "list",data:=.seq XU.m n}={cls:=.type "list",data:=.seq (XU.set j u).m n}:=by simp[Obj.mapSeq]
def Inv.lst{pins:List (Addr×Obj)}{σ:St}{H:Hp}{s:Shared}{p:Addr}{xs:List V}(I:Inv X pins σ H s)(h:H p=some (.lst xs)):
  ∃(XU:Ag)(n:Nat),Vals xs XU/\s.o.B p=some {cls:=.type "list",data:=.seq XU.m n}/\xs.f<=sizeLine:=by let(z,XU,n,r,e):=I.hok p _ h;exists XU,n,r,e,z
def Inv.lstUpd{p:Addr}{xs ys:List V}{XU its':Ag}{f:Obj->Obj}(I:Inv X pins σ H s)(h:H p=some (.lst xs))
  (ho:s.o.B p=some {cls:=.type "list",data:=.seq XU.m n})(hf:f {cls:=.type "list",data:=.seq XU.m n}={cls:=.type "list",data:=.seq its'.m n'})(r:Vals ys its')(hz:ys.f<=sizeLine)(t:Nat):
  Inv X pins σ (upd H p<|.lst ys) {s with heap:=s.o.update p f,toks:=t}:=by
 let e:(s.o.update p f).B p=some {cls:=.type "list",data:=.seq its'.m n'}:=by rw[VS f ho (by rw[hf]<;>rfl),hf]
 show I.write (x:=p) (e:=p) (by rw[h];trivial) (.inl Z) (λb u hb q=>(YW _ _<|YY hb).l q) {_,e} ?_;exists hz,its',n',r,e
inductive rSetL(o:V)(i:V)(v:V)(H:Hp)(Q:Hp->Prop):Prop
 |mk (p xs k j:_) (_:o=.ref p) (_:i=.int k) (_:H p=some (.lst xs)) (_:Qk xs.f k=some j) (_:Q (upd H p<|.lst<|xs.set j v))
def Ek:JO X rSetL:=by
 intro pins s σ H o i v ov iv u Q I ro ri rv h;let(p,xs,k,j,rfl,rfl,hp,hj,q):=h;cases ro;let(t,rfl):=ri;let(XU,n,r,ho,hz):=I.lst hp;let(h1,h2,h3,h4):=LB hj;let hl:=r.f
 let hn:=Ez;let I':Inv X pins σ (upd H p<|.lst<|xs.set j v) {s with heap:=s.o.update p (Obj.mapSeq (·.setIfInBounds j u))}:=
  I.lstUpd hp ho (rq XU n j u) (r.set rv j) (by rwa[PL]) s.toks
 cases h0:0<=k
 .let hk:k.j=j:=by rw[seqIndex_of h0 h4]at h1;show Yc h1
  show PySem.W.ki_setAt ho h0 J (by rwa[Yd,<-hl]) (by rw[hk];exists _,I',q)
 .let hk:(k+(XU.m.G:Int)).j=j:=by rw[seqIndex_neg J h3]at h1;rw[Yd,<-hl];show Yc h1
  show PySem.W.ki_setBack ho S (by rwa[Yd,<-hl]) J (by rw[hk];exists _,I',q)
def Ej(i:Int)(n:Nat):max 0 (min (if i<0 then i+n else i) n)=((if i<0 then (i+n).j else min i.j n:Nat):Int):=by
 cases h:i<0
 .rw[if_pos h,if_pos h,xV J,Int.ofNat_toNat,Int.max_comm]
 .let⟨m,rfl⟩:=uP (GN.E h);rw[if_neg h,if_neg h,Yf];lia
def Zk4(lo hi:Option Int)(n:Nat):(sliceBounds lo hi none n).1=((HT.SM n 0 lo:Nat):Int)/\(sliceBounds lo hi none n).2.1=((HT.SM n n hi:Nat):Int)/\(sliceBounds lo hi none n).2.2=1:=by exists by cases lo<;>first|rfl|show Ej _ n,by cases hi<;>first|rfl|show Ej _ n,rfl
def ZN3(XU:Ag)(lo hi:Option Int):slicePick XU.m lo hi none=((XU.drop (HT.SM XU.f 0 lo)).X (HT.SM XU.f XU.f hi-HT.SM XU.f 0 lo)).m:=by let(h1,h2,h3):=Zk4 lo hi XU.m.G;unfold slicePick;rw[h1,h2,h3];simp only[sliceRange_one,pick_run,Yd]<;>rfl
inductive rSlL(K:Ad)(x:V)(lo:Option Int)(hi:Option Int)(H:Hp)(Q:VK):Prop
 |mk (a xs:_) (_:x=.ref a) (_:SqL K H a xs) (_:∀p,H p=none->Q ↑p (upd H p<|.lst<|Ws xs lo hi))
def rp:rE X (rSlL X.K):=by
 intro pins s σ H x v vl vu lo hi sl Q I rx hs pl pu h;let(a,xs,rfl,hx,q):=h;cases rx;let(XU,r,ht,hz):=I.list hx;let hlen:=r.f
 exists "list",_,slot_list_getitem.L,ht.isList.typeIs,?_;show wpAny_getItem_list_slice ht.isList hs pl pu .none tG ?_ (by rw[Yd]<;>lia)
 rw[ZN3,<-hlen];exists .ref (~~~s),_,I.laid (t':=s.toks) (o:=.lst<|Ws xs lo hi) (λb ob q=>Xf _ q) (Ya _) ?_,Z,q _<|I.hok.fresh<|Ya _;exists YE (rD xs lo hi) hz,_,0,(r.drop<|HT.SM xs.f 0 lo).X (HT.SM xs.f xs.f hi-HT.SM xs.f 0 lo),Yl _ Z
def SK:(V->Bool)
 | .non=>true
 | .bl _=>true
 | .int _=>true
 | .str _=>true
 |_=>false
def Po:(V->V->Bool)
 | .non,.non=>true
 | .bl a,.bl b=>a == b
 | .bl a,.int b=>(if a then 1 else 0) == b
 | .int a,.bl b=>a == (if b then 1 else 0)
 | .int a,.int b=>a == b
 | .str a,.str b=>a == b
 |_,_=>false
def Ei(ry:RelV y u)(rx:RelV x v)(fy:SK y=true)(fx:SK x=true):SeqAt.EqAt A s u v (Po y x):=by
 cases y with
 |non=>
  cases ry;cases x with
  |non=>cases rx;show SeqAt.EqAt.Y _
  |bl b=>cases rx;show SeqAt.EqAt.none_bool b
  |int b=>let(t,rfl):=rx;show SeqAt.EqAt.none_int b t
  |str b=>let(t,rfl):=rx;show SeqAt.EqAt.none_str b t
  |_=>show absurd (show false=true from fx) Yx
 |bl a=>
  cases ry;cases x with
  |non=>cases rx;show SeqAt.EqAt.bool_none a
  |bl b=>cases rx;show SeqAt.EqAt.bool_bool a b
  |int b=>let(t,rfl):=rx;show SeqAt.EqAt.bool_int a b t
  |str b=>let(t,rfl):=rx;show SeqAt.EqAt.bool_str a b t
  |_=>show absurd (show false=true from fx) Yx
 |int a=>
  let(t',rfl):=ry;cases x with
  |non=>cases rx;show SeqAt.EqAt.int_none a t'
  |bl b=>cases rx;show SeqAt.EqAt.int_bool a t' b
  |int b=>let(t,rfl):=rx;show SeqAt.EqAt.int_int a t' b t
  |str b=>let(t,rfl):=rx;show SeqAt.EqAt.int_str a t' b t
  |_=>show absurd (show false=true from fx) Yx
 |str a=>
  let(t',rfl):=ry;cases x with
  |non=>cases rx;show SeqAt.EqAt.str_none a t'
  |bl b=>cases rx;show SeqAt.EqAt.str_bool a t' b
  |int b=>let(t,rfl):=rx;show SeqAt.EqAt.str_int a t' b t
  |str b=>let(t,rfl):=rx;show SeqAt.EqAt.str_str a t' b t
  |_=>show absurd (show false=true from fx) Yx
 |_=>show absurd (show false=true from fy) Yx
def SJ(x:V)(u:Value):(Bool):=match u with
 | .none=>Po .non x
 | .bool b=>Po (.bl b) x
 | .int i _=>Po (.int i) x
 | .str z _=>Po (.str z) x
 |_=>false
def Eh(r:RelV y u)(f:SK y=true):SJ x u=Po y x:=by
 cases y with
 |non=>cases r;rfl
 |bl b=>cases r;rfl
 |int i=>let(t,rfl):=r;rfl
 |str z=>let(t,rfl):=r;rfl
 |_=>show absurd (show false=true from f) Yx
def xt{xs:List V}{us:Ag}(h:Vals xs us)(f:xs.all SK=true):us.any (SJ x)=xs.any λy=>Po y x:=by
 induction h with
 |nil=>rfl
 |cons r t ih=>
  rw[List.all_cons,Km]at f;rw[Fn,Fn,Eh r f.1,ih f.2]
def Eg(rx:RelV x v)(fx:SK x=true){xs:List V}{us:Ag}(h:Vals xs us)(f:xs.all SK=true):∀u∈us,SeqAt.EqAt A s u v (SJ x u):=by
 induction h with
 |nil=>intro u hu;cases hu
 |cons r t ih=>
  intro u' hu;rw[List.all_cons,Km]at f;rcases Yg.E hu with rfl|hu
  .rw[Eh r f.1];show Ei r rx f.1 fx
  .show ih f.2 u' hu
def GC(x:V)(xs:List V):(Bool):=xs.any λy=>Po y x
def dv(K:Ad)(neg:Bool):(R2):=λx y H Q=>∃p xs,y=.ref p/\(SqL K H p xs\/SqT K H p xs)/\SK x=true/\xs.all SK=true/\Q (.bl<|if neg then !GC x xs else GC x xs) H
def ZD8:Wx X (compareOp .In) (dv X.K false):=by
 intro pins s σ H x y v u Q I rx ry h;let(p,xs,rfl,hq,fx,fs,q):=h;cases ry;rcases hq with hq|hq
 .let⟨XU,r,pl,hz⟩:=I.list hq;show SeqAt.in_listAt (SJ x) pl.isList (λw hw=>Eg rx fx r fs w<|by simpa using hw) ⟨.bl _,H,I,Z,?_⟩;rwa[show XU.m.any (SJ x)=XU.any (SJ x) by simp,xt r fs]
 .let⟨XU,r,pl,hz⟩:=I.tuple hq;show SeqAt.in_tupleAt (SJ x) pl (λw hw=>Eg rx fx r fs w<|by simpa using hw) ⟨.bl _,H,I,Z,?_⟩;rwa[show XU.m.any (SJ x)=XU.any (SJ x) by simp,xt r fs]
def Zs4:Wx X (compareOp .NotIn) (dv X.K true):=by
 intro pins s σ H x y v u Q I rx ry h;let(p,xs,rfl,hq,fx,fs,q):=h;cases ry;rcases hq with hq|hq
 .let⟨XU,r,pl,hz⟩:=I.list hq;show SeqAt.notIn_listAt (SJ x) pl.isList (λw hw=>Eg rx fx r fs w<|by simpa using hw) ⟨.bl _,H,I,Z,?_⟩;rwa[show XU.m.any (SJ x)=XU.any (SJ x) by simp,xt r fs]
 .let⟨XU,r,pl,hz⟩:=I.tuple hq;show SeqAt.notIn_tupleAt (SJ x) pl (λw hw=>Eg rx fx r fs w<|by simpa using hw) ⟨.bl _,H,I,Z,?_⟩;rwa[show XU.m.any (SJ x)=XU.any (SJ x) by simp,xt r fs]
inductive yR0(K:Ad)(xs:List V)(H:Hp)(Q:VK):Prop
 |mk (p ys:_) (_:xs=[.ref p]) (_:(SqL K H p ys\/SqT K H p ys)) (_:Q (.int ys.f) H)
def ZL4:WB X (.builtin "len") (yR0 X.K):=by
 intro pins s σ H xs us Q I r h;let(p,ys,rfl,hq,q):=h;let(u,rfl,rx):=TR r;cases rx;let hn:=Ez
 rcases hq with hq|hq
 .let⟨XU,r',pl,hz⟩:=I.list hq;let hlen:=r'.f
  show Calls.call_len_list pl.isList (by simp only[Yd]<;>lia) {.int ys.f,H,I.tok _,{s.toks+1,by rw[Yd,hlen]},q}
 .let⟨XU,r',pl,hz⟩:=I.tuple hq;let hlen:=r'.f
  show len_tuple pl (by simp only[Yd]<;>omega) {.int ys.f,H,I.tok _,{s.toks+1,by rw[Yd,hlen]},q}
def ZK4:WB X (.type "list") (λxs H Q=>∃p ys,xs=[.ref p]/\(SqL X.K H p ys\/SqT X.K H p ys)/\∀l,H l=none->Q ↑l (upd H l (.lst ys))):=by
 intro pins s σ H xs us Q I r h;let(p,ys,rfl,hq,q):=h;let(u,rfl,rx):=TR r;cases rx;let fin:∀(XU:Ag),Vals ys XU->ys.f<=sizeLine->∀(h':Heap)(c':Nat),(∀b o',s.o.B b=some o'->h'.B b=some o')->
   h'.B (~~~s)=some {cls:=.type "list",dict:=none,data:=.seq XU.m c',slots:=#[]}->EP X pins σ Q (.ref (~~~s)) {s with heap:=h'}:=λXU r' hz h' c' kp e=>
  {.ref (~~~s),_,I.laid (t':=s.toks) kp (Ya _)<|show ObjOk X.prog X.w _ h' _ (.lst ys) from⟨hz,XU,c',r',e⟩,Z,q _<|I.hok.fresh<|Ya _}
 rcases hq with hq|hq
 .let⟨XU,r',pl,hz⟩:=I.list hq;let hlen:=r'.f
  let(o,ho,hc,n,hd):=pl.isList;show call_list_seq p (.inl rfl) ho hc hd (λh' c' kp e=>fin XU r' hz h' c' kp e) (by simp only[Yd]<;>omega)
 .let⟨XU,r',pl,hz⟩:=I.tuple hq;let hlen:=r'.f
  let(o,ho,hc,n,hd):=pl;show call_list_seq p (.inr rfl) ho hc hd (λh' c' kp e=>fin XU r' hz h' c' kp e) (by simp only[Yd]<;>omega)
def rn:WB X (.type "tuple") (λxs H Q=>∃p ys,xs=[.ref p]/\((SqL X.K H p ys/\∀l,H l=none->Q ↑l (upd H l (.tup ys)))\/(SqT X.K H p ys/\Q ↑p H))):=by
 intro pins s σ H xs us Q I r h;let(p,ys,rfl,h):=h;let(u,rfl,rx):=TR r;cases rx;rcases h with ⟨hq,q⟩|⟨hq,q⟩
 .let⟨XU,r',pl,hz⟩:=I.list hq;let hlen:=r'.f
  show call_tuple_list pl.isList (λh' kp=>?_) (by simp only[Yd]<;>omega)
  let I1:Inv X pins σ H {s with heap:=h'}:=I.kept (t':=s.toks) kp;let I2:Inv X pins σ (upd H h'.objs.G<|.tup ys) {s with heap:=h'.push {cls:=.type "tuple",data:=.seq XU.m} }:=
   I1.laid (t':=s.toks) (λb o e=>Xf _ e) (Ya _) (show ObjOk X.prog X.w _ _ _ (.tup ys) from{hz,XU,r',IsTup.new _ _})
  exists .ref h'.objs.G,_,I2,Z,q _<|I1.hok.fresh<|Ya _
 .let⟨XU,r',pl,hz⟩:=I.tuple hq;show call_tuple_same pl {.ref p,H,I,Z,q}
def rj(K:Ad)(T:String)(x:V)(H:Hp):(Prop):=match x with
 | .str _=>T="str"
 | .int _=>T="int"
 | .ref p=>(T="list"/\∃xs,SqL K H p xs)\/(T="tuple"/\∃o,K.L p=some o/\o.cls=.type "tuple"/\o.dict=none)\/
   (T="dict"/\((∃kvs,H p=some (.dK kvs))\/∃kvs,H p=some (.dT kvs)))\/(T="set"/\∃AP n,H p=some (.set AP n))
 |_=>False
def Ef(I:Inv X pins σ H s)(r:RelV x v)(ty:rj X.K T x H):
  s.TypeIs v T/\∀a,v=.ref a->∃ob,s.o.B a=some ob/\ob.dict=none:=by
 cases x with
 |str z=>
  let(t,rfl):=r;cases (show T="str" from ty);exists typeIs_str s z t,λ_ e=>nomatch e
 |int i=>
  let(t,rfl):=r;cases (show T="int" from ty);exists typeIs_int s i t,λ_ e=>nomatch e
 |ref p=>
  cases r;rcases ty with ⟨rfl,xs,hq⟩|⟨rfl,o,hk,hc,hd⟩|⟨rfl,hk⟩|⟨rfl,AP,n,hk⟩
  .let⟨XU,_,pl,_⟩:=I.list hq;exists pl.isList.typeIs,λa e=>?_;cases e;let(o,n,e,c,hd,_):=pl;exists o,e,hd
  .exists {o,I.kIn p o hk,hc},λa e=>?_;cases e;exists o,I.kIn _ o hk,hd
  .let z:∃o,s.o.B p=some o/\o.ExactDict:=by
    rcases hk with ⟨kvs,hk⟩|⟨kvs,hk⟩
    .let⟨_,_,_,_,o,_,_,e,ex,_⟩:=I.hok p _ hk;exists o,e,ex
    .let⟨_,_,_,_,o,_,_,e,ex,_⟩:=I.hok p _ hk;exists o,e,ex
   let(o,e,ex):=z;exists ⟨o,e,ex.1⟩,λa e2=>?_;cases e2;exists o,e,ex.2.1
  .let⟨o,_,_,_,e,ex,_⟩:=I.hok p _ hk;exists ⟨o,e,ex.1⟩,λa e2=>?_;cases e2;exists o,e,ex.2.1
 |_=>show False.elim ty
def Ee(K:Ad)(T:String)(r:V->List V->Hp->VK->Prop)(to:TE):(TE):=λσ H Q=>to σ H λx H1=>rj K T x H1/\r x [] H1 Q
def du(K:Ad)(T:String)(r:V->List V->Hp->VK->Prop)(to:TE)(t:TA):(TE):=λσ H Q=>to σ H λx H1=>rj K T x H1/\t σ H1 λxs H2=>r x xs H2 Q
variable{o e:Expr}{es:List Expr}{to:TE}{t:TA}{name:Str}{apos WY:Pos}{T id:String}{r:V->List V->Hp->VK->Prop}
def rh(pa:PlainAttrs T)(slot:Slot T name id)(Jz:typeOf (.builtin id)=pure (.type "method_descriptor"))(hm:xu X id r)(ho:PE X o to)
  (Vj:attributeBase o name X.R (eval o X.R)=eval o X.R:=by rfl)(Vi:(apos.endLine == WY.line)=true:=by rfl):PE X (.Call (.Attribute o name apos) [] [] WY) (Ee X.K T r to):=by intro pins s σ H Q I h;show wpAny_Call_method0_late Vj Vi (thn (ho pins s σ H _ I h) λv s1 XA=>?_);let(x,H1,I1,r1,ty,q1):=XA;let(h1,h2):=Ef I1 r1 ty;exists T,id,pa,slot,Jz,h1,h2,Calls.callWith_builtin Z<|PySem.evalArgs_none<|hm pins s1 σ H1 x [] v [] Q I1 r1 .nil q1
def rf(pa:PlainAttrs T)(slot:Slot T name id)(Jz:typeOf (.builtin id)=pure (.type "method_descriptor"))(hm:xu X id r)(ho:PE X o to)(ha:PA X (e::es) t)
  (Vj:attributeBase o name X.R (eval o X.R)=eval o X.R:=by rfl)
  (Jy:((backTo WY<|starEach (e::es) X.R).all (λx=>!x.1)&&(backToKw WY<|keywordEach [] X.R).all (λx=>x.1.isSome)
   && decide ((e::es).f+([]:List Keyword).f+(if ([]:List Keyword).isEmpty then 0 else 1)<30))=true:=by rfl)
  (Vi:(apos.endLine == WY.line)=true:=by rfl)(hs:starEach (e::es) X.R=(false,eval e X.R)::starEach es X.R:=by rfl)(Sn:(backTo WY<|starEach es X.R).any (·.1)=false:=by rfl):
  PE X (.Call (.Attribute o name apos) (e::es) [] WY) (du X.K T r to t):=by
 intro pins s σ H Q I h;show wpAny_Call_method_late Vj Jy Vi Z (thn (ho pins s σ H _ I h) λv s1 XA=>?_);let(x,H1,I1,r1,ty,q1):=XA;let(h1,h2):=Ef I1 r1 ty;exists T,id,pa,slot,Jz,h1,h2,?_;let hA:=ha WY pins s1 σ H1 _ I1 q1
 rw[hs]at hA ⊢;show Calls.callWith_builtin (by change(false||(backTo WY<|starEach es X.R).any (·.1))=false;rw[Sn]<;>rfl) (Calls.evalArgs_plain ?_)
 show thn hA λus s2 zz=>by let(vs,H2,I2,r2,q2):=zz;show hm pins s2 σ H2 x vs v us Q I2 r1 r2 q2
end
def GB(X:Cx)(id:String)(r:V->List V->Hp->VK->Prop):(Prop):=
 ∀(pins:List (Addr×Obj))(s:Shared)(σ:St)(H:Hp)(x:V)(xs:List V)(v:Value)(us:Ag)(Q:VK),Inv X pins σ H s->RelV x v->Vals xs us->r x xs H Q->
  wpAny (model X.prog X.w) X.A (call (.builtin id)<|v::us) (EP X pins σ Q) X.xe s
def Vals.one{x:V}{us:Ag}(r:Vals [x] us):∃u,us=[u]/\RelV x u:=by
 cases r with
 |cons a r=>cases r;exists _,Z,a
def Vals.eraseIdx{xs:List V}{us:Ag}(i:Nat)(h:Vals xs us):Vals (xs.eraseIdx i) (us.eraseIdx i):=by
 induction h generalizing i with
 |nil=>show .nil
 |cons r t ih=>
  cases i with
  |zero=>show t
  |succ i=>show .cons r (ih i)
def Vals.rep(h:Vals xs us):∀k:Nat,Vals (List.M k xs).D (List.M k us).D
 |0=>.nil
 |k+1=>by rw[Nt,Nt,YZ,YZ];show Vals.append h (Vals.rep h k)
def dr{α:Type}:∀(l:List α)(i:Nat),(l.eraseIdx i).f<=l.f
 |[],_=>Ya _
 |_::_,0=>Ur _
 |_::r,i+1=>Nat.succ_le_succ (dr r i)
def dq(XU:Ag):∀(k:Nat)(acc:Ag),
  List.foldl (λx1 x2=>x1++x2) acc.m (List.M k XU.m)=(acc++(List.M k XU).D).m
 |0,acc=>tG
 |k+1,acc=>by
  let e:acc.m++XU.m=(acc++XU).m:=tG;let e2:(acc++XU)++(List.M k XU).D=acc++(List.M (k+1) XU).D:=by rw[Nt,YZ,YG]
  rw[<-e2,<-dq XU k (acc++XU),<-e,Nt,xW]
section
variable{X:Cx}{pins:List (Addr×Obj)}{σ:St}{H:Hp}{s:Shared}{l:Addr}{xs ys:List V}
def Inv.lset{XU its':Ag}{f:Array Value->Array Value}{t':Nat}(I:Inv X pins σ H s)(hH:H l=some (.lst xs))
  (e:s.o.B l=some {cls:=.type "list",data:=.seq XU.m n})(hf:f XU.m=its'.m)(hv:Vals ys its')(hz:ys.f<=sizeLine):
  Inv X pins σ (upd H l<|.lst ys) {s with heap:=s.o.update l<|Obj.mapSeq f,toks:=t'}:=by let q:=PySem.IsL.update e f;rw[hf]at q;show I.write (x:=l) (e:=l) (by rw[hH];show trivial) (.inl Z) (λb' u hb hu=>(YW s.o (Obj.mapSeq f)<|YY hb).l hu) {_,q} ?_;exists hz,its',_,hv,q
def Inv.lnew{t':Nat}(I:Inv X pins σ H s)(hv:Vals ys XU)(hz:ys.f<=sizeLine):
  Inv X pins σ (upd H (~~~s)<|.lst ys) {s with heap:=s.o.push {cls:=.type "list",data:=.seq XU.m},toks:=t'}:=
 I.laid (λ_ _ q=>Xf _ q) (Ya _) {hz,XU,0,hv,Yl _ Z}
def Inv.fresh(I:Inv X pins σ H s):H (~~~s)=none:=I.hok.fresh (Ya _)
def Inv.lstM(I:Inv X pins σ H s)(hH:H l=some (.lst xs)):xs.f<=sizeLine/\∃(XU:Ag)(n:Nat),Vals xs XU/\xs.f=XU.f/\s.o.B l=some {cls:=.type "list",data:=.seq XU.m n}:=by let(z,XU,n,r,e):=I.hok l _ hH;exists z,XU,n,r,r.f,e
def dk(h:n<=sizeLine):Builtin.List.listTooLong n=false:=by unfold Builtin.List.listTooLong;show RV J
end
section
variable{X:Cx}
inductive rAppend(x:V)(vs:List V)(H:Hp)(Q:VK):Prop
 |mk (l xs y:_) (_:x=.ref l) (_:vs=[y]) (_:H l=some (.lst xs)) (_:xs.f<sizeLine) (_:Q .non (upd H l<|.lst<|xs++[y]))
def Ue:GB X "list.append" rAppend:=by intro pins s σ H x vs v us Q I rx rv h;let(l,xs,y,rfl,rfl,hH,hz,q):=h;cases rx;let(u,rfl,ru):=rv.one;let(z,XU,n,r,hl,e):=I.lstM hH;show GL F.slot_list_append {_,e,Z} F.entry_list_append (F.args_list_append_2 _ _) (PySem.list_append l XU.m n u<|by rw[Yd];lia) {e,?_};exists .non,_,I.lset (its':=XU++[u]) hH e tG (r.append<|.cons ru .nil) ?_,Z,q;rw[XB,Yo];lia
def rd:(V->List V->Hp->VK->Prop):=λx vs H Q=>∃l b xs zs,x=.ref l/\vs=[.ref b]/\H l=some (.lst xs)/\H b=some (.lst zs)/\xs.f+zs.f<=sizeLine/\Q .non (upd H l<|.lst<|xs++zs)
def dj:GB X "list.extend" rd:=by
 intro pins s σ H x vs v us Q I rx rv h;let(l,b,xs,zs,rfl,rfl,hH,hB,hz,q):=h;cases rx;let(u,rfl,ru):=rv.one;cases ru;let(z,XU,n,r,hl,e):=I.lstM hH;let(z2,VE,n2,r2,VL,e2):=I.lstM hB;let hsz:XU.m.G+VE.m.G<=sizeLine:=by rw[Yd,Yd];grind
 let Pn:¬(!XU.m.isEmpty&&Builtin.List.listTooLong (XU.m.G+VE.m.G))=true:=by rw[dk hsz,Bool.and_false];show Yx
 show GL F.slot_list_extend {_,e,Z} F.entry_list_extend (F.args_list_extend_2 _ _)
  (AutoSeq1.list_extend_list_list_0 l XU.m n b VE.m n2 Pn (by rw[Yd];grind) J) {e,e2,?_}
 exists .non,_,I.lset (its':=XU++VE) hH e tG (r.append r2) ?_,Z,q;rw[XB];lia
def q9:(V->List V->Hp->VK->Prop):=λx vs H Q=>∃l xs i k y,x=.ref l/\vs=[.int i]/\H l=some (.lst xs)/\-(2^63)<=i/\i<2^63/\seqIndex? i xs.f=some k/\xs[k]?=some y/\Q y (upd H l<|.lst<|xs.eraseIdx k)
def di:GB X "list.pop" q9:=by
 intro pins s σ H x vs v us Q I rx rv h;let(l,xs,i,k,y,rfl,rfl,hH,h1,h2,hk,hy,q):=h;cases rx;let(u,rfl,ru):=rv.one;let(t,rfl):=ru;let(z,XU,n,r,hl,e):=I.lstM hH;let(w,hw,Rb):=r.get hy;show GL F.slot_list_pop {_,e,Z} F.entry_list_pop (F.args_list_pop_2 _ _)
  (MeetsSeq.list_pop_at l XU.m n i t k w (fitsIndex_both h1 h2) (by rwa[Yd,<-hl]) (by rwa[<-VH])<|by rw[Yd];lia) {e,?_}
 exists y,_,I.lset (its':=XU.eraseIdx k) hH e ?_ (r.eraseIdx k) ?_,Rb,q
 .change XU.m.eraseIdxIfInBounds k=(XU.eraseIdx k).m;rw[List.eraseIdxIfInBounds_toArray]
 .have:=dr xs k
  lia
inductive rCat(x:V)(y:V)(H:Hp)(Q:VK):Prop
 |mk (l b xs zs:_) (_:x=.ref l) (_:y=.ref b) (_:H l=some (.lst xs)) (_:H b=some (.lst zs)) (_:xs.f+zs.f<=sizeLine) (_:∀p,H p=none->Q ↑p (upd H p<|.lst<|xs++zs))
def xr:Wx X (binaryOp .Add) rCat:=by
 intro pins s σ H x y v u Q I rx ry h;let(l,b,xs,zs,rfl,rfl,hH,hB,hz,q):=h;cases rx;cases ry;let(z,XU,n,r,hl,e):=I.lstM hH;let(z2,VE,n2,r2,VL,e2):=I.lstM hB;show PySem.P.add_list e e2 ?_ (by rw[Yd,Yd];omega);let ea:XU.m++VE.m=(XU++VE).m:=tG
 rw[ea];exists .ref _,_,I.lnew (t':=s.toks) (r.append r2) (by rw[XB];omega),Z,q _ I.fresh
def q8:(R2):=λx y H Q=>∃l k xs,x=.ref l/\y=.int k/\H l=some (.lst xs)/\-(2^63)<=k/\k<2^63/\xs.f*k.j<=sizeLine/\
 ∀p,H p=none->Q ↑p (upd H p<|.lst (List.M k.j xs).D)
def qZ{α:Type}(xs:List α)(k:Nat):(List.M k xs).D.f=k*xs.f:=by
 induction k with
 |zero=>simp
 |succ k ih=>rw[Nt,YZ,XB,ih,Nat.succ_mul,Nat.add_comm]
def Jx:Wx X (binaryOp .Mult) q8:=by
 intro pins s σ H x y v u Q I rx ry h;let(l,k,xs,rfl,rfl,hH,h1,h2,hz,q):=h;cases rx;let(t,rfl):=ry;let(z,XU,n,r,hl,e):=I.lstM hH;let hlen:XU.m.G*k.j<=sizeLine:=by rwa[Yd,<-hl]
 let qY:¬XU.m.G*k.j>(2^63-1)/8:=by
  have:(sizeLine:Nat)<=(2^63-1)/8:=tI
  grind
 let qX:¬(!Builtin.List.listFitsIndex k)=true:=by rw[fitsIndex_both h1 h2];show Yx
 let Pn:¬Builtin.List.listTooLong (XU.m.G*k.j)=true:=by rw[dk hlen];show Yx
 let Vh:List.foldl (λx1 x2=>x1++x2) #[] (List.M (if XU.m.isEmpty=true then 0 else k.j) XU.m)=(List.M k.j XU).D.m:=by
  let f0:∀m:Nat,List.foldl (λx1 x2=>x1++x2) #[] (List.M m XU.m)=(List.M m XU).D.m:=λm=>by
   have:=dq XU m []
   rwa[Uo]at this
  rw[f0];cases XU with
  |nil=>simp
  |cons a r'=>rw[if_neg tG]
 show wpAny_binaryOp_repeat_ref (T:="list") (U:="int") tI {_,e,Z} (λs'=>typeIs_int s' k t) noFill_list_mul F.fills_int_mul F.slot_int_rmul repeat_list F.slot_int_index.L
  (GL F.slot_int_rmul (typeIs_int s k t) F.entry_int_rmul (F.args_int_rmul_2 _ _) (int___rmul___int_list k t l XU.m n)
   {e,Z,{_,e,Z},GL F.slot_list_mul {_,e,Z} F.entry_list_mul (F.args_list_mul_2 _ _) (AutoListH.list___mul___list_int_3 l XU.m n k t qX qY Pn) {e,?_}})
 rw[Vh];exists .ref _,_,I.lnew (t':=s.toks) (r.rep k.j) (by rwa[qZ,xP]),Z,q _ I.fresh
end
section
variable{κ:Type}[DecidableEq κ]
def Xt(kvs:List (κ×V))(k:κ):(Option V):=(kvs.find? λkv=>decide<|kv.1=k).C (·.2)
def putK(kvs:List (κ×V))(k:κ)(v:V):(List (κ×V)):=
 if (kvs.any λkv=>decide<|kv.1=k)=true then kvs.C (λkv=>if kv.1=k then (kv.1,v) else kv) else kvs++[(k,v)]
def qW{k:κ}:Xt ([]:List (κ×V)) k=none:=rfl
def ZP{p:κ×V}{r:List (κ×V)}(e:p.1=k):Xt (p::r) k=some p.2:=by simp[Xt,LN,e]
def ZK{p:κ×V}(e:¬p.1=k):Xt (p::r) k=Xt r k:=by simp[Xt,LN,e]
def Ec(k:κ):∀kvs:List (κ×V),(kvs.any λkv=>decide (kv.1=k))=(Xt kvs k).isSome
 |[]=>rfl
 |p::r=>by
  rw[Fn];cases e:p.1=k
  .simp only[ZP e,YK e,Bool.true_or,Option.isSome_some]
  .rw[ZK e,RV e,Bool.false_or];show Ec k r
def dh(k j:κ)(y:V):∀kvs:List (κ×V),Xt (kvs.C λkv=>if kv.1=k then (kv.1,y) else kv) j=(Xt kvs j).C λx=>if j=k then y else x
 |[]=>rfl
 |p::r=>by
  let ih:=dh k j y r;rw[YD];cases h:p.1=k
  .rw[if_pos h];cases e:p.1=j
   .rw[ZP (p:=(p.1,y)) e,ZP e,Kk,if_pos (e.U.l h)]
   .rw[ZK (p:=(p.1,y)) e,ZK e,ih]
  .rw[if_neg h];cases e:p.1=j
   .rw[ZP (p:=p) e,ZP e,Kk,if_neg λz=>h (e.l z)]
   .rw[ZK (p:=p) e,ZK e,ih]
def dg(k j:κ)(y:V):∀kvs:List (κ×V),Xt kvs k=none->Xt (kvs++[(k,y)]) j=if j=k then some y else Xt kvs j
 |[],_=>by
  cases e:k=j
  .rw[if_pos e.U];show ZP (p:=(k,y)) e
  .rw[if_neg λz=>e z.U];show ZK (p:=(k,y)) e
 |p::r,hn=>by
  rw[Ko];let hk:¬p.1=k:=λz=>by rw[ZP z]at hn;cases hn
  rw[ZK hk]at hn;let ih:=dg k j y r hn
  cases e:p.1=j
  .rw[ZP e,ZP e,if_neg λz=>hk (e.l z)]
  .rw[ZK e,ZK e,ih]
def qV(kvs:List (κ×V))(k j:κ)(y:V):Xt (putK kvs k y) j=if j=k then some y else Xt kvs j:=by
 unfold putK;cases a:(kvs.any λkv=>decide<|kv.1=k)=true
 .rw[if_pos a,dh];rw[Ec]at a;cases e:j=k
  .let⟨x,hx⟩:=yq.E a;rw[if_pos e,e,hx,Kk,if_pos Z]
  .rw[if_neg e];cases Xt kvs j with
   |none=>rfl
   |some x=>rw[Kk,if_neg e]
 .rw[if_neg a];show dg k j y kvs ?_;rw[Ec]at a;cases q:Xt kvs k with
  |none=>rfl
  |some x=>rw[q]at a;show(a Z).elim
def xq(kvs:List (κ×V))(k:κ)(v:V):(putK kvs k v).f<=kvs.f+1:=by
 unfold putK;split
 .rw[Xz];lia
 .rw[XB,Yv,GU];lia
def df{kvs:List (κ×V)}{k:κ}(v:V)(h:Xt kvs k=none):putK kvs k v=kvs++[(k,v)]:=by unfold putK;rw[Ec,h];show if_neg tI
def RelO.isSome_eq(r:RelO o u):o.isSome=u.isSome:=by
 cases o with
 |none=>cases u with
  |none=>rfl
  |some _=>show(show False from r).elim
 |some _=>cases u with
  |none=>show(show False from r).elim
  |some _=>rfl
def KV.val(r:KV kvs vs)(k:κ):RelO (Xt kvs k) (valueAt vs k):=by
 unfold KV at r
 induction r with
 |nil=>show True.intro
 |@cons p q ps qs h t ih=>
  let(h1,h2):=h;cases e:p.1=k
  .let e':q.1=k:=h1.U.l e;let b:valueAt (q::qs) k=some q.2:=by simp[valueAt,LN,e']
   rwa[ZP e,b]
  .let e':¬q.1=k:=λz=>e (h1.l z);let b:valueAt (q::qs) k=valueAt qs k:=by simp[valueAt,LN,e']
   rwa[ZK e,b]
def KV.any(r:KV kvs vs)(k:κ):(kvs.any λkv=>decide (kv.1=k))=vs.any λkv=>decide (kv.1=k):=by
 unfold KV at r
 induction r with
 |nil=>rfl
 |cons h t ih=>rw[Fn,Fn,ih,h.1]
def KV.repl(r:KV kvs vs)(k:κ)(ry:RelV y u):
  KV (kvs.C λkv=>if kv.1=k then (kv.1,y) else kv) (vs.C λkv=>if kv.1=k then (kv.1,u) else kv):=by
 unfold KV at r ⊢
 induction r with
 |nil=>show .nil
 |@cons p q ps qs h t ih=>
  rw[YD,YD];show .cons ?_ ih;let(h1,h2):=h;cases e:p.1=k
  .rw[if_pos e,if_pos (h1.U.l e)];exists h1,ry
  .rw[if_neg e,if_neg λz=>e (h1.l z)];exists h1,h2
def KV.put(r:KV kvs vs)(k:κ)(ry:RelV y u):KV (putK kvs k y) (stored vs k u):=by
 unfold putK stored;rw[r.any k];cases e:(vs.any λkv=>decide<|kv.1=k)=true
 .rw[if_pos e,if_pos e];show r.repl k ry
 .rw[if_neg e,if_neg e];show Paired.snoc r ⟨Z,ry⟩
def KV.length{kvs:List (κ×V)}{vs:List (κ×Value)}(r:KV kvs vs):kvs.f=vs.f:=Paired.f r
end
def Pm(r:RelV (kV k) u):(ZT P w).is k u=true:=by
 cases k with
 |inl i=>let(t,e):=(show ∃t,u=Value.int i t from r);subst e;show Zaf P w i t
 |inr x=>let(t,e):=(show ∃t,u=Value.str x t from r);subst e;show ZZ5 P w x t
def de:∀{ks:List Key}{us:Ag},Vals (ks.C kV) us->ItemsAre (ZT P w) ks us
 |[],_,r=>by rw[Fl]at r;cases r;show .nil
 |k::ks,_,r=>by
  rw[YD]at r;cases r with
  |cons h t=>show .cons (Pm h) (de t)
abbrev KT(H:Hp):List (List Key×V)->List (List Key×Addr×Value)->Prop:=Paired λp q=>p.1=q.1/\H q.2.1=some (.tup<|p.1.C kV)/\RelV p.2 q.2.2
def KT.val(r:KT H kvs xs)(k:List Key):RelO (Xt kvs k) ((atKey xs k).C (·.2)):=by
 induction r with
 |nil=>show True.intro
 |@cons p q ps qs h t ih=>
  let(h1,_,h2):=h;cases e:p.1=k
  .let e':q.1=k:=h1.U.l e;let b:atKey (q::qs) k=some q.2:=by simp[atKey,LN,e']
   rwa[ZP e,b]
  .let e':¬q.1=k:=λz=>e (h1.l z);let b:atKey (q::qs) k=atKey qs k:=by simp[atKey,LN,e']
   rwa[ZK e,b]
def KT.repl(r:KT H kvs xs)(k:List Key)(ry:RelV y u):
  KT H (kvs.C λkv=>if kv.1=k then (kv.1,y) else kv) (xs.C<|putAt k u):=by
 induction r with
 |nil=>show .nil
 |@cons p q ps qs h t ih=>
  rw[YD,YD];show .cons ?_ ih;let(h1,h2,h3):=h;unfold putAt;cases e:p.1=k
  .rw[if_pos e,if_pos (h1.U.l e)];exists h1,h2,ry
  .rw[if_neg e,if_neg λz=>e (h1.l z)];exists h1,h2,h3
def KT.put(r:KT H kvs xs)(k:List Key){b:Addr}(hb:H b=some (.tup (k.C kV)))(ry:RelV y u):
  KT H (putK kvs k y) (storedH xs k b u):=by
 let e:(kvs.any λkv=>decide<|kv.1=k)=(atKey xs k).isSome:=by rw[Ec,(r.val k).isSome_eq,Option.isSome_map]
 unfold putK storedH;rw[e];cases q:(atKey xs k).isSome=true
 .rw[if_pos q,if_pos q];show r.repl k ry
 .rw[if_neg q,if_neg q];show Paired.snoc r ⟨Z,hb,ry⟩
def KT.keeps(r:KT H kvs xs)(ht:∀b ys,H b=some (.tup ys)->H' b=some (.tup ys)):KT H' kvs xs:=
 Paired.mapP r λ_ _ z=>{z.1,ht _ _ z.2.1,z.2.2}
section
variable{P:Program}{w:World}{H:Hp}{h:Heap}{a:Addr}
def LA(ok:HOk P w H h)(e:Rd H a u):ObjOk P w H h a u:=e.ok ok
def MW(ok:HOk P w H h)(e:Rd H a (.dK kvs)):kvs.f<=sizeLine/\(a == sysModules)=false/\∃vs,KV kvs vs/\h.DictOf (ZT P w) a vs:=
 show ObjOk P w H h a (.dK kvs) from LA ok e
def MV(ok:HOk P w H h)(e:H a=some (.dK kvs)):kvs.f<=sizeLine/\(a == sysModules)=false/\∃vs,KV kvs vs/\h.DictOf (ZT P w) a vs:=MW ok (.inl e)
def xp(ok:HOk P w H h)(e:H a=some (.tup (ks.C kV))):(tupleKind (ZT P w)).is h ks a:=by let(_,XU,r,o,h1,h2,n,h3):=(show ObjOk P w H h a (.tup<|ks.C kV) from ok a _ e);exists o,XU.m,n,h1,h2,h3,by simpa using de r
def MU(ok:HOk P w H h)(e:Rd H a (.dT kvs)):kvs.f<=sizeLine/\(a == sysModules)=false/\
  ∃xs,KT H kvs xs/\h.DictOfH (tupleKind<|ZT P w) a xs:=by
 let(z,y,xs,r,o,es,ep,h1,h2,h3,h4,h5):=(show ObjOk P w H h a (.dT kvs) from LA ok e);exists z,y,xs,r,o,es,ep,h1,h2,h3,h4,λx hx=>?_,h5;let all:∀{l:List (List Key×V)}{m:List (List Key×Addr×Value)},KT H l m->∀x∈m,(tupleKind<|ZT P w).is h x.1 x.2.1:=by
  intro l m q
  induction q with
  |nil=>intro x hx;show nomatch hx
  |@cons p q ps qs hq t ih=>
   intro x hx;rcases Yg.E hx with e|hx
   .subst e;show xp ok (by rw[<-hq.1];show hq.2.1)
   .show ih x hx
 show all r x hx
def qU(ok:HOk P w H h)(e:H a=some (.dT kvs)):kvs.f<=sizeLine/\(a == sysModules)=false/\
  ∃xs,KT H kvs xs/\h.DictOfH (tupleKind<|ZT P w) a xs:=MU ok (.inl e)
end
def DGet(H:Hp)(a:Addr)(y:V)(r:Option V):(Prop):=
 (∃kvs k,Rd H a (.dK kvs)/\y=kV k/\r=Xt kvs k)\/∃kvs k b,Rd H a (.dT kvs)/\y=.ref b/\H b=some (.tup<|k.C kV)/\r=Xt kvs k
def DPut(H:Hp)(a:Addr)(y v:V)(H':Hp):(Prop):=
 (∃kvs k,H a=some (.dK kvs)/\y=kV k/\kvs.f<sizeLine/\H'=upd H a (.dK<|putK kvs k v))\/
 ∃kvs k b,H a=some (.dT kvs)/\y=.ref b/\H b=some (.tup<|k.C kV)/\kvs.f<sizeLine/\H'=upd H a (.dT<|putK kvs k v)
def DGet.k{H:Hp}{a:Addr}{kvs:List (Key×V)}{k:Key}(e:H a=some (.dK kvs)):DGet H a (kV k) (Xt kvs k):=.inl {kvs,k,.inl e,Z,Z}
def DPut.k{H:Hp}{a:Addr}{kvs:List (Key×V)}{k:Key}{v:V}(e:H a=some (.dK kvs))(hl:kvs.f<sizeLine):DPut H a (kV k) v (upd H a (.dK (putK kvs k v))):=.inl ⟨kvs,k,e,Z,hl,Z⟩
section
variable{X:Cx}{pins:List (Addr×Obj)}{σ:St}{H:Hp}{s:Shared}{a:Addr}{y v:V}{u r:Value}{o:Option V}{A:Around}{E:Ae}
def Inv.big(I:Inv X pins σ H s):sysModules<(~~~s):=by let h:mainGlobals<(~~~s):=(I.mod.glob.keeps I.bk).lt;show Nat.lt_trans tI h
def Zg9{Q:Ae}(hu:A.units+1<cLine)(I:Inv X pins σ H s)(g:DGet H a y (some v))(ry:RelV y u)(h:∀w' s',Inv X pins σ H s'->RelV v w'->Q w' s'):
  wpAny (model X.prog X.w) A (getItem ↑a u) Q E s:=by
 rcases g with ⟨kvs,k,e,ey,l⟩|⟨kvs,k,b,e,ey,eb,l⟩
 .subst ey;let(z,hd,vs,rel,dd):=MW I.hok e;let(w',hw,Rb):=RelO.some_of (v:=v) (o:=valueAt vs k) (by rw[l];show rel.val k);show wpAny_getItem_of (Pm ry) dd.mapOf hw (h w' _ (I.tok _) Rb)
 .subst ey;cases (show u=Value.ref b from ry);let(z,hd,xs,rel,dd):=MU I.hok e;let(w',hw,Rb):=RelO.some_of (v:=v) (o:=(atKey xs k).C (·.2)) (by rw[l];show rel.val k);let(p,hp,Vu):=Option.map_eq_some_iff.E hw;show wpAny_getItem_heap (uf hu) (xp I.hok eb) dd hp ?_;rw[Vu];show h w' _ (I.tok _) Rb
def qT{Q:Ae}(hu:A.units+1<cLine)(I:Inv X pins σ H s)(g:DGet H a y o)(ry:RelV y u)(h:∀s',Inv X pins σ H s'->Q (.bool (!o.isSome)) s'):
  wpAny (model X.prog X.w) A (compareOp .NotIn u<|.ref a) Q E s:=by
 rcases g with ⟨kvs,k,e,ey,l⟩|⟨kvs,k,b,e,ey,eb,l⟩
 .subst ey;let(z,hd,vs,rel,dd):=MW I.hok e;show wpAny_notIn_of (Pm ry) hd dd.mapOf ?_;rw[<-(rel.val k).isSome_eq,<-l];show h _ (I.tok _)
 .subst ey;cases (show u=Value.ref b from ry);let(z,hd,xs,rel,dd):=MU I.hok e;show wpAny_notIn_heap (uf hu) (xp I.hok eb) hd dd ?_;let q:=(rel.val k).isSome_eq
  rw[Option.isSome_map]at q;rw[<-q,<-l];show h _ (I.tok _)
def qS{t':Nat}(I:Inv X pins σ H s)(mu:Fb (H a))(hs:Heap.SameBut a s.o h')(he:∃q,h'.B a=some q)(new:ObjOk X.prog X.w (upd H a ob) h' a ob):
  Inv X pins σ (upd H a ob) {s with heap:=h',toks:=t'}:=
 I.write (x:=a) (e:=a) mu (.inl Z) (λb q hb z=>(hs.2 b hb).l z) he new
def Eb(z:kvs.f<=sizeLine)(hd:(a == sysModules)=false)(rel:KV kvs vs)(dd:h'.DictOf (ZT P w) a vs):
  ObjOk P w H' h' a (.dK kvs):=⟨z,hd,vs,rel,dd⟩
def Zf9{Q:Unit->Shared->Prop}(hu:A.units+1<cLine)(I:Inv X pins σ H s)(g:DPut H a y v H')(ry:RelV y u)(rv:RelV v r)(h:∀s',Inv X pins σ H' s'->Q () s'):
  wpAny (model X.prog X.w) A (setItem ↑a u r) Q E s:=by
 rcases g with ⟨kvs,k,e,ey,l,eH⟩|⟨kvs,k,b,e,ey,eb,l,eH⟩
 .subst ey eH;let(z,hd,vs,rel,dd):=MV I.hok e;let hz:vs.f<=sizeLine:=by rwa[<-rel.f]
  let hl:(putK kvs k v).f<=sizeLine:=by have:=xq kvs k v;lia
  show wpAny_setItem_pairs (hsz:=hz) (Pm ry) dd λh' Jw hs=>h _ ?_;let he:∃q,h'.B a=some q:=by let(q,_,_,hq,_):=Jw;exists q,hq
  show qS I (by rw[e];show True.intro) hs he (Eb hl hd (rel.put k rv) Jw)
 .subst ey eH;cases (show u=Value.ref b from ry);let(z,hd,xs,rel,dd):=qU I.hok e;let hz:xs.f<=sizeLine:=by rwa[<-Paired.f rel]
  let hl:(putK kvs k v).f<=sizeLine:=by have:=xq kvs k v;lia
  show wpAny_setItem_heap (hsz:=hz) (uf hu) (xp I.hok eb) dd λh' Jw hs=>h _ ?_;let(q,es,ep,hq,h2,h3,h4,_,h5):=Jw;show qS I (by rw[e];show True.intro) hs ⟨q,hq⟩ {hl,hd,_,(rel.put k eb rv).keeps λc ys ec=>?_,q,es,ep,hq,h2,h3,h4,h5};rwa[XR (NV ec e (λz=>nomatch z))]
end
def Ea(i:Expr):(Prop):=∀ov iv,subscripted i false ov iv=operate [ov,iv] (getItem ov iv)
def qR{E:Ae}{s:Shared}{pos:Pos}{T id:String}{Q:Ae}
  (hl:typeLookup (.type T) "__getitem__"=pure (some<|.builtin id))(hs:Ea slice)
  (h:wpAny (model prog w) A (eval value env) (λo s₁=>wpAny (model prog w) A (eval slice env) (λi s₂=>s₂.TypeIs o T/\wpAny (model prog w) A (getItem o i) Q E s₂) E s₁) E s):
  wpAny (model prog w) A (eval (.Subscript value slice pos) env) Q E s:=by
 show Subscript_ (Uq h (λo s₁ h₁=>Uq h₁ (λi s₂ h₂=>?_) λ_ _ x=>x) λ_ _ x=>x);let(hT,h₂):=h₂;unfold subscriptTail;show XY ?_;rw[getitemInPython_of_ne hT.not_modules];show XY (Ki hT hl ?_);let fin:wpAny (model prog w) A (subscripted slice false o i) (λr s₃=>wpAny (model prog w) A (letTemporaryGo value o r >>= λ_=>pure r) Q E s₃) E s₂:=by rw[hs o i];show wpAny_operating (Uq h₂ (λr s₃ h₃=>XY<|wpAny_letTemporaryGo<|Yh h₃) λ_ _ x=>x)
 first
  |show Yh (XY fin)
  |show XY (Yh<|XY fin)
  |show XY fin
def qQ(I:Inv X pins σ H s)(g:DGet H a y o):s.TypeIs ↑a "dict":=by
 rcases g with ⟨kvs,k,e,_,_⟩|⟨kvs,k,b,e,_,_,_⟩
 .let⟨_,_,vs,_,dd⟩:=MW I.hok e;show dd.typeIs
 .let⟨_,_,xs,_,dd⟩:=MU I.hok e;show dd.typeIs
def qP(td ty:TE):(TE):=λσ H Q=>td σ H λx H1=>ty σ H1 λy H2=>∃a v,x=.ref a/\DGet H2 a y (some v)/\Q v H2
def qO(ty td:TE):(TE):=λσ H Q=>ty σ H λy H1=>td σ H1 λx H2=>∃a o,x=.ref a/\DGet H2 a y o/\Q (.bl<|!o.isSome) H2
def qN(td ty tv:TE):(TS):=λD σ H=>tv σ H λv H1=>td σ H1 λx H2=>ty σ H2 λy H3=>∃a H4,x=.ref a/\DPut H3 a y v H4/\D.nx σ H4
section
variable{X:Cx}{o i value:Expr}{pos pos':Pos}{td ty tv:TE}
def MT(hu:X.A.units+1<cLine)(ho:PE X o td)(hi:PE X i ty)(hs:Ea i):PE X (.Subscript o i pos) (qP td ty):=by intro pins s σ H Q I h;show qR PySem.F.slot_dict_getitem.L hs (thn (ho pins s σ H _ I h) λu s1 zz=>?_);let(x,H1,I1,rx,q1):=zz;show thn (hi pins s1 σ H1 _ I1 q1) λiv s2 XA=>?_;let(y,H2,I2,ry,a,v,ex,g,q2):=XA;subst ex;let rfl:u=Value.ref a:=rx;exists qQ I2 g,Zg9 hu I2 g ry λw' s3 I3 Rb=>⟨v,H2,I3,Rb,q2⟩
def ZC8(hu:X.A.units+1<cLine)(hi:PE X i ty)(ho:PE X o td):PC X .NotIn i o (qO ty td):=by intro pins s σ H Q I h;show thn (hi pins s σ H _ I h) λiv s1 zz=>?_;let(y,H1,I1,ry,q1):=zz;show thn (ho pins s1 σ H1 _ I1 q1) λu s2 XA=>?_;let(x,H2,I2,rx,a,ov,ex,g,q2):=XA;subst ex;let rfl:u=Value.ref a:=rx;show qT hu I2 g ry λs3 I3=>{.bl<|!ov.isSome,H2,I3,Z,q2}
def qM(hu:X.A.units+1<cLine)(ho:PE X o td)(hi:PE X i ty)(hv:PE X value tv)(hs:swapsWith value (some (.Subscript o i pos')) pos.line X.R=pure false):
  PS X (.Assign [.Subscript o i pos'] value pos) (qN td ty tv):=by intro pins s σ H D I h;show wpAny_Assign_Subscript (thn (hv pins s σ H _ I h) λr s1 zz=>?_) hs;let(v,H1,I1,rv,q1):=zz;show thn (ho pins s1 σ H1 _ I1 q1) λu s2 zz=>?_;let(x,H2,I2,rx,q2):=zz;show thn (hi pins s2 σ H2 _ I2 q2) λiv s3 XA=>?_;let(y,H3,I3,ry,a,H4,ex,g,q3):=XA;subst ex;let rfl:u=Value.ref a:=rx;show Zf9 hu I3 g ry rv λs4 I4=>⟨σ,H4,I4,q3⟩
end
def DZ(h:Heap)(hb:sysModules<h.objs.G):ObjOk P w H (h.push {cls:=.type "dict",data:=.dict #[]}) h.objs.G (.dK []):=
 {Yk _,Fz.H<|YY<|YA hb,[],.nil,Heap.DictOf.new h}
def DY:(TE):=λ_ H Q=>∀p,H p=none->Q ↑p (upd H p<|.dK [])
section
variable{X:Cx}{pos:Pos}
def xo:PE X (.Dict [] [] pos) DY:=λpins s σ H Q I h=>
 wpAny_Dict_empty {.ref (~~~s),_,I.laid (a:=(~~~s)) (o:=.dK []) (t':=s.toks) (λ_ _ q=>Xf _ q) (Ya _)<|DZ s.o I.big,Z,h _<|I.hok.fresh<|Ya _}
end
structure M1(X:Cx)(o:Expr)(m:Str)(apos:Pos)(e:Expr)(WY:Pos):Prop where
 base:attributeBase o m X.R (eval o X.R)=eval o X.R
 few:((backTo WY<|starEach [e] X.R).all (λx=>!x.1)&&(backToKw WY<|keywordEach [] X.R).all (λx=>x.1.isSome)
  && decide (([e]:List Expr).f+([]:List Keyword).f+(if ([]:List Keyword).isEmpty then 0 else 1)<30))=true
 line:(apos.endLine == WY.line)=true
 trees:backTo WY (starEach [e] X.R)=[(false,eval e X.R)]
structure M2(X:Cx)(o:Expr)(m:Str)(apos:Pos)(e f:Expr)(WY:Pos):Prop where
 base:attributeBase o m X.R (eval o X.R)=eval o X.R
 few:((backTo WY<|starEach [e,f] X.R).all (λx=>!x.1)&&(backToKw WY<|keywordEach [] X.R).all (λx=>x.1.isSome)
  && decide (([e,f]:List Expr).f+([]:List Keyword).f+(if ([]:List Keyword).isEmpty then 0 else 1)<30))=true
 line:(apos.endLine == WY.line)=true
 trees:backTo WY (starEach [e,f] X.R)=[(false,eval e X.R),(false,eval f X.R)]
end L2
namespace Att
open PySem PySem.W PySem.Calls PyProof.Rows
def ZS2:∀(ns:Ac)(vs:Ag),WellAll P h vs (ns.C WData.int)->IntsAre vs ns:=by
 intro ns
 induction ns with
 |nil=>
  intro vs w;rw[Fl]at w;cases w;show .nil
 |cons n ns ih=>
  intro vs w;rw[YD]at w;cases w with
  |cons a b=>
   cases a;show .cons _ _ (ih _ b)
def Zn8{l:OpenLaw}{n:Nat}(hn:l.most=some n) 
  (MS:l.row.toRowW.claim.pre args=true)(GA:WellAll P h vals args):
  ∃a vs ns,vals=[Value.ref a]/\args=[WData.list (ns.C WData.int)]/\h.B a=some {cls:=.type "list",data:=.seq vs.m}/\IntsAre vs ns/\ns.f<=n:=by
 let hsh:WShape.hasAll [] args [.list .int]=true:=(pre_splitW MS).1;let hc:l.pre.holds [] {args:=args}=true:=(pre_splitW MS).2
 let(d,r,rfl,h1,h2):=hasAllW_cons hsh;let rfl:=hasAllW_nil h2;let(xs,rfl,h3):=hasW_list h1;let(ns,rfl):=items_int h3;let hlen:ns.f<=n:=by
  unfold OpenLaw.pre at hc;let h4:(WTm.not<|.lt (.lit<|.int (n:Int))<|.len<|.arg 0).holds [] {args:=[.list (ns.C .int)]}=true:=by let h4:=(holds_andW hc).1;rwa[hn]at h4
  let h5:=condW_of h4 (w_not<|w_lt w_lit<|w_len_list<|w_arg Z);rw[Xz]at h5;show x8 λq=>?_;let q':(n:Int)<((ns.f:Nat):Int):=S
  first
   | (rw[YK q']at h5;show absurd h5 tI)
   | (simp at h5;omega)
 cases GA with
 |cons w1 w2=>
  cases w2;cases w1 with
  |list ho hall=>exists _,_,ns,Z,Z,ho,ZS2 ns _ hall,hlen
def ZA8(l:OpenLaw)(args:List WData):l.row.toRowW.claim.post args (.bool true) args=true:=
 postW_of (r:=l.row.toRowW) (X:=(true == true))
  (show WShape.has [] (.bool true) .bool=true by first|rfl|decide|simp[WShape.has,WShape.arms,WShape.armsAll])
  (show(WTm.eq .res<|.lit<|.bool true).value [] {args:=args,res:=some<|.bool true,after:=args}=some (.bool<|true == true) from w_eq_bool (w_res Z) w_lit) rfl
def Tt{l:OpenLaw}{n:Nat}{XP:Af->Heap->Prop}{YP:World->Heap->Prop} 
  (hn:l.most=some n)(qL:d.params.defaults=[])
  (call:∀(w:World)(s₀ s₁:Shared)(mg mb:Af)(fa:Addr)(o:Obj)(pm cd doc:Value)(a:Addr)(vs:Ag)(ns:Ac),
   Ground q loose [] XP w s₀ mg mb s₁.o->YP w s₁.o->
   s₁.o.B fa=some o->o.data=.func (docDef d.name d.params d.body d.scope pm cd doc)->s₁.o.CodeRec cd d.name->mg d.name=some ↑fa->
   s₁.o.B a=some {cls:=.type "list",data:=.seq vs.m}->IntsAre vs ns->ns.f<=n->s₁.gens=#[]->
   codeAny (model l.prog w) callerA (.call ↑fa {[.ref a],[]}) (λr s'=>r=.ok (.ret<|.bool true)/\OldK s₁.o s'.o/\s'.os=s₁.os/\AllBare s'.gens) s₁):
  WalkO q loose XP YP l.row.toRowW d [] (λf vs=>PySem.call f vs):=by intro w s₀ s₁ mg mb G Y fa o pm cd doc dV kV ho hd SS hD DX hg args vals as MS hlay dc GA hlo;let rfl:dV=.none:=Dflts.none hD qL;let rfl:kV=.none:=Dflts.noKw hD;let(a,vs,ns,rfl,rfl,Jv,hints,hlen):=Zn8 hn MS GA;show enter_call (LM (call w s₀ s₁ mg mb fa o pm cd doc a vs ns G Y ho (fd_plain hd) SS DX Jv hints hlen hg) λr s' hq=>?_);let(rfl,h2,h3,h4):=hq;exists .inl {.bool true,.bool true,[],Z,λ_=>rfl,.bool true,ZA8 l _,λ_=>{List.Q.nil,λ_ hm=>(nomatch hm)}},h2,h3,h4
section
def ZB16(h:Heap)(L d:Addr):(List (Addr×Obj)):=(List.range h.objs.G).filterMap λa=>if a=L\/a=d then none else (h.B a).C λo=>(a,o)
end
end Att
namespace L2
open PySem PySem.Spec PyProof.Rows
def Zd8{vs:Ag}{ns:Ac}(h:IntsAre vs ns):Vals (ns.C V.int) vs:=by
 induction h with
 |nil=>show .nil
 |cons n t h ih=>show .cons ⟨t,Z⟩ ih
abbrev Lz{K:Ad}{h:Heap}(_:K.In h):Ad:=K
def Ly(s:Stmt)(j:Nat):(Stmt):=match s with
 | .ClassDef _ _ _ body _ _ _ _ _ _ _=>body.t j (.Pass ⟨0,0,0,0⟩)
 |_=>.Pass ⟨0,0,0,0⟩
def Lx(s:Stmt):(Arguments):=match s with
 | .FunctionDef _ a _ _ _ _ _ _ _ _=>a
 |_=>{posonlyargs:=[],args:=[],vararg:=none,kwonlyargs:=[],kw_defaults:=[],kwarg:=none,defaults:=[]}
def Ra(s:Stmt):(List Stmt):=match s with
 | .FunctionDef _ _ b _ _ _ _ _ _ _=>b
 |_=>[]
def Zc(s:Stmt):(Scope):=match s with
 | .FunctionDef _ _ _ _ _ _ sc _ _ _=>sc
 |_=>{kind:=.function,names:=[],isGenerator:=false,isCoroutine:=false}
abbrev Xo:Qm:=λ_ _ _ _ _ _=>False
abbrev E0:XK:=λ_ _ _=>False
def Zr:Rf Xo X E0:=λ_ _ _ _ _ _ _ h=>h.elim
structure Fun(K:Ad)(x qual:Str)(st:Stmt)(f:Addr)(fd:FuncData):Prop where
 ex:∃(oc:Value)(od:Option Addr)(kV doc pm:Value)(an:Option Addr)(XD ct:Value)(TQ:Array (Option Value)),
  fd=PySem.W.fnOf x qual (Lx st) (Ra st) (Zc st) .none kV doc pm an XD ct/\K.L f=some {oc,od,.func fd,TQ}/\PySem.W.codeIn K XD qual=true
 kp:PySem.W.keepIn K ↑f=true
section
variable{P:Program}{w:World}{K:Ad}{mg:Af}{base:Heap}
def Fun.ok{x qual:Str}{st:Stmt}{f:Addr}{fd:FuncData}{N ps:List Str}{k:Nat}{sp:Sp}(F:Fun K x qual st f fd)(AP:FnScope N ps (Zc st))(len:∀vs H Q E,sp vs H Q E->vs.f=ps.f)
  (VR:∀(XD:Value)(A:Around)(outer:List Env)(s:Shared)(H:Hp)(vs:List V)(Q:VK)(E:XK),Room k (A.deeper<|envOfC qual (Zc st) (~~~s) f XD)->sp vs H Q E->
   ∃t,PSs (Uh Xo P w K mg base N qual (Zc st) f XD A outer s H E).nox (Ra st) t/\t {nx:=λ_ H'=>Q .non H',rt:=Q} (start N vs) H):FnOk P w K mg base Xo (k+1) f fd ps sp:=by let(oc,od,kV,doc,pm,an,XD,ct,TQ,rfl,lk,SS):=F.ex;show Ep lk SS AP len λA outer s H vs Q E hr Ql=>?_;let(t,h,q):=VR XD A outer s H vs Q E hr Ql;exists t,h.nox,q
def Fun.binds{x qual:Str}{st:Stmt}{f:Addr}{fd:FuncData}{ps:List Str}(F:Fun K x qual st f fd)
  (h:∀(kV doc pm:Value)(an:Option Addr)(XD ct:Value)(us:Ag),us.f=ps.f->bindArgs (PySem.W.fnOf x qual (Lx st) (Ra st) (Zc st) .none kV doc pm an XD ct) {us,[]}=pure (ps.zip us)):Binds K fd ps []:=by let(oc,od,kV,doc,pm,an,XD,ct,TQ,rfl,lk,SS):=F.ex;show .all (h kV doc pm an XD ct)
def MR{x qual:Str}{st:Stmt}{f:Addr}{oc:Value}{od an:Option Addr}{TQ:Array (Option Value)}{kV doc pm XD ct:Value}(l:K.L f=some {oc,od,.func (PySem.W.fnOf x qual (Lx st) (Ra st) (Zc st) .none kV doc pm an XD ct),TQ})
  (c:PySem.W.codeIn K XD qual=true)(k:PySem.W.keepIn K ↑f=true):Fun K x qual st f (PySem.W.fnOf x qual (Lx st) (Ra st) (Zc st) .none kV doc pm an XD ct):={⟨oc,od,kV,doc,pm,an,XD,ct,TQ,Z,l,c⟩,k}
end
def VA(hr:Room k A):A.units+1<cLine:=GZ (Nat.add_le_add_left (by decide:1<=64) _) hr.units
section
variable{X:Cx}
def pv(i:Nat){x:Str}{pos:Pos}(hN:X.N[i]?=some x:=by rfl)(hv:tE X.R.scope x:=by first|show Or.inl rfl|show Or.inr (Or.inl rfl)|show Or.inr<|Or.inr rfl)(hd:(x == ("__debug__":Str))=false:=by decide)
  (SS:(x == ("__classdict__":Str))=false:=by decide):PE X (.Name x pos) (tVar i):=Zak hN hv hd SS
end
def Ts{A B:Prop}(h:B):if false=true then A else B:=by rwa[if_neg Yx]
def UK{A B:Prop}(h:A):if true=true then A else B:=by rwa[if_pos Z]
def qK{c A B:Prop}[Decidable c](h1:c->A)(h2:¬c->B):if c then A else B:=by
 cases h:c
 .rw[if_pos h];show h1 h
 .rw[if_neg h];show h2 h
def Same(H H':Hp):(Prop):=∀b o,H b=some o->H' b=some o
def Same.refl(H:Hp):Same H H:=λ_ _ h=>h
def Same.trans{H H1 H2:Hp}(a:Same H H1)(b:Same H1 H2):Same H H2:=λc o h=>b c o (a c o h)
def Same.free(e:Same H H'){l:Addr}(h:H' l=Option.none):H l=Option.none:=by
 cases q:H l with
 |none=>rfl
 |some o=>
  rw[e l o q]at h;cases h
def Same.seq{K:Ad}{H H':Hp}{a:Addr}{xs:List V}(e:Same H H')(h:SqL K H a xs):SqL K H' a xs:=by
 rcases h with (h|⟨o,h⟩)|h
 .show .inl (.inl<|e _ _ h)
 .show .inl (.inr {o,e _ _ h})
 .show .inr h
def DW(X:Cx)(ifs:List Expr)(t:TT):(Prop):=
 ∀pins s σ H Q,Inv X pins σ H s->t σ H Q->
  wpAny (model X.prog X.w) X.A (forIn ifs true λc r=>if r=true then do let ok <-isTrue c X.R (eval c X.R);pure (ForInStep.yield ok) else pure (ForInStep.yield r)) (TP X pins σ Q) X.xe s
def tYes:(TT):=λ_ H Q=>Q true H
def ZY:DW X [] tYes:=λ_ _ _ H _ I h=>wpAny_tests_nil ⟨H,I,h⟩
def NS(hc:PT X c t):DW X [c] t:=λpins s σ H Q I h=>wpAny_tests_one (hc pins s σ H Q I h)
def ZF4{R:Result->Shared->Prop}{elt target iter:Expr}{scope:Scope}{pos:Pos}{it acc:Value}(tj:Nat->Shared->Prop)
  (turn:∀n s,tj n s->wpAny (model prog w) A (pyNext it) (λr s1=>match r with
   |none=>R (.ok .next) s1
   |some v=>wpAny (model prog w) A (letOwnedTupleGo target it v) (λ_ s2=>wpAny (model prog w) A (assign target env v) (λ_ s3=>
     wpAny (model prog w) A (forIn ifs true λc r=>if r=true then do let ok <-isTrue c env (eval c env);pure (ForInStep.yield ok) else pure (ForInStep.yield r)) (λok s4=>
      if ok=true then wpAny (model prog w) A (eval elt env) (λx s5=>
       wpAny (model prog w) A (call (.builtin "list.append") [acc,x]) (λ_ s6=>∃m,m<n/\tj m s6) (λ_ _=>False) s5) (λ_ _=>False) s4
      else ∃m,m<n/\tj m s4) (λ_ _=>False) s3) (λ_ _=>False) s2) (λ_ _=>False) s1) (λ_ _=>False) s)
  (n:Nat)(h:tj n s):codeAny (model prog w) A (.compLoop (.ListComp elt [⟨target,iter,ifs,0⟩] scope pos) 0 it acc env) R s:=by
 show codeAny_loop Z tj (λn s hI=>?_) n h;change wpAny _ A ((compTurn (.ListComp elt [⟨target,iter,ifs,0⟩] scope pos) 0 it acc env).onRaise λx=>do noteFrame x env;theTreesLotGoes x) _ _ s
 show wpAny_noted ?_;rw[compTurn_list];show XY (wpAny_standAt<|XY<|Uq (turn n s hI) (λr s1 h1=>?_) λ_ _ z=>z.elim);cases r with
 |none=>show Yh h1
 |some v=>
  show XY (Uq h1 (λ_ s2 h2=>?_) λ_ _ z=>z.elim);show XY (Uq h2 (λ_ s3 h3=>XY<|Uq h3 (λok s4 h4=>?_) λ_ _ z=>z.elim) λ_ _ z=>z.elim);cases ok with
  |false=>show Yh ⟨Z,h4⟩
  |true=>
   show XY (XY<|Uq h4 (λx s5 h5=>XY<|Uq h5 (λ_ s6 h6=>Yh<|Yh ⟨Z,h6⟩) λ_ _ z=>z.elim) λ_ _ z=>z.elim)
def RM(cells:List (Str×Addr)):(List (Str×NameKind)->List (Str×Addr)->List (Str×Addr))
 |[],acc=>acc
 | (n,k)::r,acc=>if k == .free then RM cells r ((n,(cells.L n).t 0)::acc) else RM cells r acc
def DV:∀names acc,(∀y∈names,y.2=.free->∃c,env.cells.L y.1=some c)->
  (forIn names acc λ(x:Str×NameKind) (cs:List (Str×Addr))=>(if (x.2 == .free)=true then do let a <-cellOf env x.1;pure (ForInStep.yield<|(x.1,a)::cs) else pure (ForInStep.yield cs):Sem (ForInStep<|List<|Str×Addr)))=pure (RM env.cells names acc)
 |[],acc,_=>rfl
 | (n,k)::r,acc,h=>by
  let ih:=λacc=>DV r acc λy hy=>h y (Ye _ hy);rw[List.forIn_cons];unfold RM;cases hk:(k == NameKind.free)=true
  .let⟨c,hc⟩:=h (n,k) Yb (by simpa using hk);let e:cellOf env n=pure c:=by unfold cellOf;rw[show env.cells.L n=some c from hc]
   simp only[hk,if_true,e,pure_bind];rw[ih,show env.cells.L n=some c from hc];rfl
  .simp only[hk,JZ,if_false,pure_bind];show ih acc
def ZX7(h:∀y∈scope.names,y.2=.free->∃c,env.cells.L y.1=some c):closureFor scope env=pure (RM env.cells scope.names []):=by let e:=DV scope.names [] h;unfold closureFor;simp only[bind_pure]at e ⊢;show e
def qJ{env:Env}:∀names acc,(∀y∈names,y.2=.free->∃c,env.cells.L y.1=some c)->(∀x c,acc.L x=some c->env.cells.L x=some c)->
  ∀x c,(RM env.cells names acc).L x=some c->env.cells.L x=some c
 |[],acc,_,ha,x,c,e=>ha x c e
 | (n,k)::r,acc,h,ha,x,c,e=>by
  unfold RM at e;cases hk:(k == NameKind.free)=true
  .rw[if_pos hk]at e;let(d,hd):=h (n,k) Yb (by simpa using hk);show qJ r _ (λy hy=>h y<|Ye _ hy) (λy b q=>?_) x c e;rw[LO]at q;cases hy:(y == n)=true
   .rw[hy]at q;let Ju:y=n:=by simpa using hy
    let GJ:env.cells.L n=some d:=hd;rw[GJ]at q;let q':d=b:=Yc q
    rw[Ju,GJ,q']
   .let Ju:(y == n)=false:=by simpa using hy
    rw[Ju]at q;show ha y b q
  .rw[if_neg hk]at e;show qJ r acc (λy hy=>h y<|Ye _ hy) ha x c e
def qI:∀names acc x,(acc.L x).isSome=true->((RM cells names acc).L x).isSome=true
 |[],_,_,h=>h
 | (n,k)::r,acc,x,h=>by
  unfold RM;cases hk:(k == NameKind.free)=true
  .rw[if_pos hk];show qI r _ x ?_;rw[LO];cases hx:(x == n)=true
   .rw[hx];rfl
   .let Vz:(x == n)=false:=by simpa using hx
    rwa[Vz]
  .rw[if_neg hk];show qI r acc x h
def xn:∀names acc x,(x,NameKind.free)∈names->((RM cells names acc).L x).isSome=true
 |[],_,_,h=>nomatch h
 | (n,k)::r,acc,x,h=>by
  unfold RM;rcases Yg.E h with e|h
  .cases e;rw[if_pos tK];show qI r _ _ ?_;rw[LO];simp
  .cases hk:(k == NameKind.free)=true
   .rw[if_pos hk];show xn r _ x h
   .rw[if_neg hk];show xn r _ x h
def MQ{env:Env}:∀{names:List (Str×NameKind)}{x:Str}{k:NameKind},(names.C λ(n,k)=>if (k == NameKind.free&&env.scope.kind == .function&&env.kindOf n == some .cell) then (n,NameKind.cell) else (n,k)).L x=some k->
  (k=.cell\/k=.free)->(x,NameKind.free)∈names\/(x,NameKind.cell)∈names
 |[],_,_,h,_=>by simp at h
 | (n,q)::r,x,k,h,hk=>by
  let h':List.L x ((if (q == NameKind.free&&env.scope.kind == .function&&env.kindOf n == some .cell)=true then (n,NameKind.cell) else (n,q))::r.C λ(n,k)=>if (k == NameKind.free&&env.scope.kind == .function&&env.kindOf n == some .cell) then (n,NameKind.cell) else (n,k))=some k:=h;cases hc:(q == NameKind.free&&env.scope.kind == .function&&env.kindOf n == some .cell)=true
  .rw[if_pos hc,LO]at h';let hq:q=.free:=by simp only[Km,Rn]at hc;show hc.1.1
   cases hx:(x == n)=true
   .let Vz:x=n:=by simpa using hx
    subst Vz;subst hq;show .inl Yb
   .let Vz:(x == n)=false:=by simpa using hx
    rw[Vz]at h';rcases MQ (env:=env) h' hk with z|z
    .show .inl (Ye _ z)
    .show .inr (Ye _ z)
  .rw[if_neg hc,LO]at h';cases hx:(x == n)=true
   .rw[hx]at h';let Vz:x=n:=by simpa using hx
    subst Vz;let e:q=k:=Yc h'
    subst e;rcases hk with rfl|rfl
    .show .inr Yb
    .show .inl Yb
   .let Vz:(x == n)=false:=by simpa using hx
    rw[Vz]at h';rcases MQ (env:=env) h' hk with z|z
    .show .inl (Ye _ z)
    .show .inr (Ye _ z)
def qH{env:Env}:∀{names:List (Str×NameKind)}{x:Str},names.L x=some .free->
  (names.C λ(n,k)=>if (k == NameKind.free&&env.scope.kind == .function&&env.kindOf n == some .cell) then (n,NameKind.cell) else (n,k)).L x=some .cell\/
  (names.C λ(n,k)=>if (k == NameKind.free&&env.scope.kind == .function&&env.kindOf n == some .cell) then (n,NameKind.cell) else (n,k)).L x=some .free
 |[],_,h=>by simp at h
 | (n,q)::r,x,h=>by
  change List.L x ((if (q == NameKind.free&&env.scope.kind == .function&&env.kindOf n == some .cell)=true then (n,NameKind.cell) else (n,q))::_)=_\/List.L x ((if (q == NameKind.free&&env.scope.kind == .function&&env.kindOf n == some .cell)=true then (n,NameKind.cell) else (n,q))::_)=_;rw[LO]at h;cases hc:(q == NameKind.free&&env.scope.kind == .function&&env.kindOf n == some .cell)=true
  .rw[if_pos hc,LO];cases hx:(x == n)=true
   .rw[hx];show .inl rfl
   .let Vz:(x == n)=false:=by simpa using hx
    rw[Vz]at h ⊢;show qH h
  .rw[if_neg hc,LO];cases hx:(x == n)=true
   .rw[hx]at h ⊢;show .inr h
   .let Vz:(x == n)=false:=by simpa using hx
    rw[Vz]at h ⊢;show qH h
def Uy(X:Cx)(N':List Str)(scope:Scope)(C:Addr)(s:Shared)(H:Hp)(fp:List Addr):(Cx) where
 prog:=X.prog
 w:=X.w
 K:=X.K
 mg:=X.mg
 base:=X.base
 A:=X.A
 N:=N'
 s₀:=s
 H₀:=H
 env:=compEnvC scope (RM X.R.cells scope.names []) C X.R
 outer:=X.stack
 stack:=X.stack
 ex:=fp
 fn:=λ_=>false
 calm:=X.calm
 pn:=[]
 xe:=λ_ _=>False
def σC(o:Nat)(fr:List Nat)(σ:St):(St):=List.M o none++fr.C λj=>(σ[j]?).join
structure CompScope(sc0:Scope)(N N':List Str)(o:Nat)(fr:List Nat)(scope:Scope):Prop where
 kind:scope.kind=.function
 nocell:(scope.names.all λy=>y.2 != .cell)=true
 loc:(scope.names.all λy=>y.2 != .local||scope.names.L y.1 == some .local)=true
 free:(scope.names.all λy=>y.2 != .free||sc0.names.L y.1 == some .cell||sc0.names.L y.1 == some .free)=true
 len:N'.f=o+fr.f
 sees:((List.range fr.f).all λj=>match fr[j]? with
  |none=>false
  |some y=>match N[y]? with
   |none=>false
   |some x=>N'[o+j]? == some x&&scope.names.L x == some .free)=true
def MP(tj:It)(g:TG)(tt:TT)(te:TE)(o:Nat)(fr:List Nat)(σ:St)(H1:Hp)(Q:VK):(Prop):=∃W:Nat->Nat->List V->Hp->Prop,(∃m,W 0 m [] H1)/\∀i m ys H,W i m ys H->
 (tj.stop i H/\ys.f<=sizeLine/\∀p,H p=none->Q ↑p (upd H p<|.lst ys))\/
 (tj.go i H/\ys.f<sizeLine/\∀x H',tj.yld i H x H'->g x (σC o fr σ) H' λσ2 H2=>tt σ2 H2 λb H3=>if b=true then te σ2 H3 λy H4=>∃m',m'<m/\W (i+1) m' (ys++[y]) H4 else ∃m',m'<m/\W (i+1) m' ys H3)
def qG(wi:TI)(g:TG)(tt:TT)(te:TE)(o:Nat)(fr:List Nat):(TE):=λσ H Q=>wi σ H λtj H1=>MP tj g tt te o fr σ H1 Q
def Pl(o:Nat)(g:TG):(Prop):=∀x ow fr H Q,ow.f=o->g x (ow++fr) H Q->g x (ow++fr) H λσ2 H2=>(∃DU,DU.f=o/\σ2=DU++fr)/\Q σ2 H2
def Zw(h:i<o):Pl o (NT i):=λx ow fr H Q hl q=>{{ow.set i<|some x,by rw[PL];show hl,by rw[List.set_append_left _ _ J]},q}
def MO(o:Nat)(g:JP):(Prop):=∀xs ow fr H Q,ow.f=o->g xs (ow++fr) H Q->g xs (ow++fr) H λσ2 H2=>(∃DU,DU.f=o/\σ2=DU++fr)/\Q σ2 H2
def DT:MO o gNil:=λ_ ow _ _ _ hl zz=>by let(e,q):=zz;exists e,⟨ow,hl,Z⟩,q
def NR(h:i<o)(h2:MO o u):MO o (gCons (NT i) u):=by
 rintro xs ow fr H Q hl ⟨v,r,rfl,q⟩;exists v,r,Z,?_;let q':u r ((ow++fr).set i (some v)) H Q:=q
 change u r ((ow++fr).set i (some v)) H _;rw[List.set_append_left _ _ S]at q' ⊢;show h2 r (ow.set i<|some v) fr H Q (by rwa[PL]) q'
def DS{K:Ad}{o n:Nat}{u:JP}(h:MO o u):Pl o (gTup K n u):=by rintro x ow fr H Q hl ⟨a,xs,rfl,hs,hn,q⟩;exists a,xs,Z,hs,hn,h xs ow fr H Q hl q
section
variable{X:Cx}{pins:List (Addr×Obj)}{σ:St}{H:Hp}{s:Shared}{N':List Str}{o:Nat}{fr:List Nat}{scope:Scope}{fp:List Addr}
abbrev Ux(us:Ag):Obj:={cls:=.type "list",data:=.seq us.m us.f}
def CompScope.nocell'(AP:CompScope sc0 N N' o fr scope):∀y∈scope.names,y.2≠.cell:=λy hy e=>by let q:=PN.E AP.nocell y hy;rw[e]at q;show absurd q tI
def CompScope.loc'(AP:CompScope sc0 N N' o fr scope):∀y∈scope.names,y.2=.local->scope.names.L y.1=some .local:=λy hy e=>by let q:=PN.E AP.loc y hy;rw[e]at q;simpa using q
def CompScope.free'(AP:CompScope sc0 N N' o fr scope)(hs:X.R.scope=sc0):∀y∈scope.names,y.2=.free->X.R.kindOf y.1=some .cell\/X.R.kindOf y.1=some .free:=λy hy e=>by
 let q:=PN.E AP.free y hy;rw[e]at q;change X.R.scope.names.L y.1=_\/X.R.scope.names.L y.1=_
 rw[hs];simpa using q
def CompScope.sees'(AP:CompScope sc0 N N' o fr scope):∀j y,fr[j]?=some y->∃x,N[y]?=some x/\N'[o+j]?=some x/\scope.names.L x=some .free:=λj y e=>by
 let hj:j<fr.f:=(Xy.E e).1;let q:=PN.E AP.sees j (YL.H hj)
 rw[e]at q;dsimp only at q;cases ex:N[y]? with
 |none=>rw[ex]at q;cases q
 |some x=>
  rw[ex]at q;dsimp only at q;rw[Km,Rn,Rn]at q;exists x,Z,q.1,q.2
def CompScope.cells(AP:CompScope sc0 N0 N' o fr scope)(hs:X.R.scope=sc0)(I:Inv X pins σ H s):∀y∈scope.names,y.2=.free->∃c,X.R.cells.L y.1=some c:=λy hy e=>I.ok.has y.1 (AP.free' hs y hy e)
def CompScope.sub(AP:CompScope sc0 N0 N' o fr scope)(hs:X.R.scope=sc0)(I:Inv X pins σ H s):∀x c,(RM X.R.cells scope.names []).L x=some c->X.R.cells.L x=some c:=
 qJ (env:=X.R) scope.names [] (AP.cells hs I) (λ_ _ z=>nomatch z)
def Inv.block(AP:CompScope sc0 N0 N' o fr scope)(hs:X.R.scope=sc0)(hN:X.N=N0)(I:Inv X pins σ H s)(hf:∀b∈fp,FpOk X pins H b)(QZ:∀b∈fp,b<(~~~s)){h1:Heap}{C D:Addr}{m:Af}{t:Nat}
  (hC:(~~~s)<=C)(hD:(~~~s)<=D)(NQ:D≠C)
  (old:∀b ob,s.o.B b=some ob->h1.B b=some ob)(hn:h1.Ns C m)(ha:h1.B D=some (Ux us)):Inv (Uy X N' scope C s H fp) [(D,Ux us)] (σC o fr σ) H {s with heap:=h1,toks:=t}:=by
 let sub:=AP.sub hs I;let frC:∀b∈TU X.stack,b<(~~~s):=λb hb=>by let(_,ob,ho,_):=I.stack.mem hb;show Ys ho
 show⟨{I.ok.mod,AP.kind,I.ok.glob,I.ok.blt,hC,λx y c h1 h2=>I.ok.inj x y c (sub x c h1)<|sub y c h2,λx hx=>?_,λx c hfx _=>(nomatch hfx),I.ok.hd,I.ok.frames,.inl Z,λb hb=>?_,I.bs,YE I.ok.bsz I.sz,λb ob e hb=>?_,λb hb Pk=>?_,I.stack,I.stkFree},
  rfl,I.bare,Un.kept old,{m,hn,λi x v e1 e2 e3=>?_},λx c e=>?_,I.hok.fresh hC,λx c e=>I.freeC x c<|sub x c e,λp hp=>?_,I.hok.kept old,?_⟩
 .let Vz:(relabel scope X.R).names.L x=some .cell\/(relabel scope X.R).names.L x=some .free:=hx;let key:(x,NameKind.free)∈scope.names:=by
   rcases Vz with z|z
   .rcases MQ (env:=X.R) z (.inl rfl) with q|q
    .show q
    .show absurd Z (AP.nocell' _ q)
   .rcases MQ (env:=X.R) z (.inr rfl) with q|q
    .show q
    .show absurd Z (AP.nocell' _ q)
  show yq.E (xn (cells:=X.R.cells) scope.names [] x key)
 .let⟨f0,f1,f2,f3,f4,f5⟩:=hf b hb;exists YA<|Yu (QZ b hb) hC,λx c e=>f4 x c<|sub x c e
 .let⟨f0,f1,f2,f3,f4,f5⟩:=hf b hb;rcases f3 with z|z
  .show I.ok.noex b ob e z
  .show absurd (Yu (Ys e)<|YE I.ok.bsz z) (RT _)
 .let⟨f0,f1,f2,f3,f4,f5⟩:=hf b hb;rcases Yg.E (I.stkSub b Pk) with z|z
  .show f1 z
  .show f2 z
 .unfold σC at e2;cases hi:i<o
  .rw[Yn (by rwa[Yw]),He,if_pos hi]at e2;cases e2
  .rw[Ym (by rw[Yw];show Nat.not_lt.E hi),Yw,Yr]at e2;cases hy:fr[i-o]? with
   |none=>rw[hy]at e2;cases e2
   |some y=>
    rw[hy]at e2;let xm:(σ[y]?).join=some v:=Yc e2
    let e3':σ[y]?=some (some v):=by
     cases q:σ[y]? with
     |none=>rw[q]at xm;cases xm
     |some z=>rw[q]at xm;show XG some xm
    let(x',s2,s1,s3):=AP.sees' (i-o) y hy;rw[<-hN]at s2;rw[show o+(i-o)=i by grind]at s1;let ex:x=x':=by let e1':N'[i]?=some x:=e1;rw[e1']at s1;show Yc s1
    subst ex;let hmem:=Su s3
    let(m0,_,hl):=I.loc;let hk:=AP.free' hs (x,.free) hmem rfl
    let(u,ru,lk):=hl y x v s2 e3' (by rcases hk with z|z;show .inr (.inl z);show .inr<|.inr z);exists u,ru,.inr {qH (env:=X.R) s3,?_};let(c',WO):=yq.E (xn (cells:=X.R.cells) scope.names [] x hmem);exists c',WO,?_;rcases lk with ⟨z,_⟩|⟨_,c,e,ob,ho,hd⟩
    .rcases hk with z'|z'
     .rw[z]at z';cases z'
     .rw[z]at z';cases z'
    .let ec:c=c':=by
      have:=sub x c' WO
      rw[e]at this;show Yc this
     subst ec;exists ob,old _ _ ho,hd
 .let⟨v,ob,ho,hd⟩:=I.cell x c (sub x c e);exists v,ob,old _ _ ho,hd
 .let e:p=(D,Ux us):=by simpa using (show p∈([]:List (Addr×Obj))++[(D,Ux us)] from hp)
  subst e;exists ha,I.hok.fresh hD,NQ,λz=>absurd (Yu (frC D z) hD)<|RT _,λv z=>nomatch z
 .change(σC o fr σ).f=N'.f;unfold σC;rw[XB,Yw,Xz,AP.len]
def Inv.unblock(I:Inv X pins σ H s)(hf:∀b∈fp,FpOk X pins H b){σ':St}{s':Shared}(hC:(~~~s)<=C)(hD:(~~~s)<=D)(NQ:D≠C)
  (I':Inv (Uy X N' scope C s H fp) [(D,Ux us)] σ' H' s')(r:Vals ys us)(hz:ys.f<=sizeLine):∃oC m,s'.o.B C=some oC/\s'.o.Ns C m/\Inv X (pins++[(C,oC)]) σ (upd H' D<|.lst ys) s':=by
 let(aD,nD,_,_,_):=I'.pin (D,Ux us) tG;let aD:s'.o.B D=some (Ux us):=aD
 let nD:H' D=none:=nD;let un:Un (TU X.stack) fp H H' s.o s'.o:=I'.base
 let lt:∀b u,H b=some u->b≠D:=λb u e=>YA (Yu (I.hok.lt e) hD);let qF:Un (TU X.stack) fp H (upd H' D<|.lst ys) s.o s'.o:=by
  exists un.keep,un.slot,λb ob e n hx=>?_,un.there,λb xs e=>?_,λb ob u e=>?_,λb ps e=>?_
  .rw[XR (YA<|Yu (Ys e) hD)];show un.free b ob e n hx
  .rw[XR (lt b _ e)];show un.tups b xs e
  .rw[XR (lt b _ e)];show un.frzs b ob u e
  .let⟨more,q⟩:=un.tbls b ps e;exists more,by rwa[XR (lt b _ e)]
 let hok:HOk X.prog X.w (upd H' D<|.lst ys) s'.o:=λb u e=>by
  cases hb:b=D
  .subst hb;rw[XS]at e;cases e;exists hz,us,us.f,r,aD
  .rw[XR hb]at e;show(I'.hok b u e).stay (λc v _ q=>q) (λc q=>by rwa[XR (Za q nD)]) λc xs q=>by rwa[XR (Za q nD)]
 let os:s'.os=s.os:=I'.os;let tj:Inv X pins σ (upd H' D<|.lst ys) s':=I.call' (ch:=fp) os qF hok I'.bare λb hb=>by let(f0,f1,f2,f3,f4,f5):=hf b hb;exists f3,f1,f4,f5
 let(m,hn,_):=I'.loc;let hn:s'.o.Ns C m:=hn
 let(oC,es,ep,qE,hdC,_):=id hn;exists oC,m,qE,hn,tj.pins_of λp hp=>?_;rcases Xx.E hp with z|z
 .show tj.pin p (Yi _ z)
 .let e:p=(C,oC):=by simpa using z
  subst e;let nC:H' C=none:=I'.free
  show{qE,by rw[XR (YY NQ)];show nC,Rr<|Yu I.lt hC,I.nofs hC,λv z=>?_};let z':oC.data=.cell v:=z
  rw[hdC]at z';cases z'
end
section
variable{X:Cx}{N':List Str}{o:Nat}{fr:List Nat}{scope:Scope}{elt tg iter:Expr}{ifs:List Expr}{pos:Pos}{wi:TI}{g:TG}{tt:TT}{te:TE}
def DR(hc:X.calm=true)(AP:CompScope sc0 N0 N' o fr scope)(hi:PI X tg iter wi)(ho:Pl o g)
  (hg:∀C s H fp,PG (Uy X N' scope C s H fp) tg g)
  (ht:∀C s H fp,DW (Uy X N' scope C s H fp) ifs tt)
  (he:∀C s H fp,PE (Uy X N' scope C s H fp) elt te)
  (hs:∀x,foldedSetIterable iter X.R x=pure x)(Qj:X.R.scope=sc0)(DQ:X.N=N0)(I:Inv X pins σ H s)(h:qG wi g tt te o fr σ H Qv)
  {use:Option (Value->Sem Unit)}{Q:Ae}{E:Ae}
  (hE:∀e s',X.xe e s'->E e s')
  (fin:∀C oC D m H' ys s',Inv X (pins++[(C,oC)]) σ (upd H' D<|.lst ys) s'->Qv ↑D (upd H' D<|.lst ys)->s'.o.Ns C m->H' C=none->C≠D->
   C≠X.R.locals->(~~~X.s₀)<=C->(∀x c,X.R.cells.L x=some c->c≠C)->(∀p∈X.pn++pins,p.1≠C)->compPost (model X.prog X.w) X.A E use Q ↑D C (.ok .next) s'):
  wpAny (model X.prog X.w) X.A (comprehension (.ListComp elt [⟨tg,iter,ifs,0⟩] scope pos) scope X.R (firstIterPos [⟨tg,iter,ifs,0⟩] pos) (newList []) false (eval iter X.R) use) Q E s:=by
 show wpAny_comprehension_free (use:=use) Z hs (ZX7<|AP.cells Qj I) AP.kind AP.loc' (Uq (hi pins s σ H _ I h) (λxv s1 h1=>Uq h1 (λsD s2 h2=>?_) hE) hE);let(it,fp,tn,tj,H2,rfl,I2,T,Na,f2,W,(m0,w0),turn):=h2;let QZ:∀b∈fp,b<(~~~s2):=λb hb=>by let(ob,e,_):=T.obj 0 _ Na b hb;show Ys e
 show RY (wpAny_newFunctionEnv AP.nocell' (by intro y hy;simp at hy) (λh1 Jt MN=>?_) AP.kind);dsimp only at Jt MN ⊢;generalize qD:s2.o.push {cls:=.type "list",dict:=none,data:=.seq ([]:Ag).m}=G at Jt MN ⊢;let c9:G.objs.G=(~~~s2)+1:=by rw[<-qD,Qo]
 let hC:(~~~s2)<=G.objs.G:=by rw[c9];show Ur _
 let NQ:(~~~s2)≠G.objs.G:=by rw[c9];show YA (NY _)
 let old:∀b ob,s2.o.B b=some ob->h1.B b=some ob:=λb ob e=>
  MN.extBut b ob (YA<|Yu (Ys e) hC) (Xf _<|qD▸Xf _ e)
 let VQ:h1.B (~~~s2)=some (Ux []):=MN.extBut _ _ NQ (Xf _<|qD▸Yl _ Z);let Jr:tn 0 h1:=T.keep _ _ _ Na λb _ ob e=>old b ob e
 let qC:∀{us:Ag}{H':Hp},(∀b∈fp,H' b=none)->∀b∈fp,FpOk (Uy X N' scope G.objs.G s2 H2 fp) [((~~~s2),Ux us)] H' b:=λ{us H'} hn b hb=>by
  let(f0,f1,f3,f4,f5,f6):=f2 b hb;exists hn b hb,YA<|Yu (QZ b hb) hC,λz=>?_,.inl hb,λx c e=>f5 x c<|AP.sub Qj I2 x c e,λp hp=>?_
  .rcases Yg.E (I2.stkSub b z) with q|q
   .show f1 q
   .show f3 q
  .let e:p=((~~~s2),Ux us):=by simpa using (show p∈([]:List (Addr×Obj))++[((~~~s2),Ux us)] from hp)
   subst e;show Rr (QZ b hb)
 let loop:∀s3:Shared,s3={s2 with heap:=h1,toks:=s2.toks+([]:List (Str×Value)).f}->
   codeAny (model X.prog X.w) X.A (.compLoop (.ListComp elt [⟨tg,iter,ifs,0⟩] scope pos) 0 ↑it (.ref (~~~s2))<|compEnvC scope (RM X.R.cells scope.names []) G.objs.G X.R)
    (compPost (model X.prog X.w) X.A E use Q (.ref (~~~s2)) G.objs.G) s3:=by
  rintro s3 rfl;show ZF4 (λn s'=>∃i σ' H' ys us,Inv (Uy X N' scope G.objs.G s2 H2 fp) [((~~~s2),Ux us)] σ' H' s'/\σ'=σC o fr σ/\Vals ys us/\tn i s'.o/\(∀b∈fp,H' b=none)/\W i n ys H') ?_ m0
   {0,_,H2,[],[],I2.block AP Qj DQ f2 QZ hC (Ya _) NQ old Jt VQ,Z,.nil,Jr,λb hb=>(f2 b hb).1,w0}
  rintro n s' ⟨i,σ',H',ys,us,I',rfl,rv,VB,c8,w'⟩;rcases turn i n ys H' w' with ⟨stop,hz,q⟩|⟨go,hz,step⟩
  .show thn (T.done (Uy X N' scope G.objs.G s2 H2 fp) Z Z Z hc i _ s' _ H' _ I' (qC c8) VB stop) λr s4 zz=>?_;let(hr,I4):=zz;subst hr;let(oC,m,qE,hn,J4):=I2.unblock f2 hC (Ya _) NQ I4 rv hz;show fin _ oC _ m H' ys s4 J4 (q _ (I4.pin ((~~~s2),Ux us) tG).2.1) hn I4.free (YY NQ) (Rr<|Yu I2.lt hC) (YE I2.sz hC)
    (λx c e=>by let(v,z):=I2.cell x c e;show YA<|Yu z.lt hC) λp hp=>YA (Yu (Ys (I2.pin p hp).1) hC)
  .show thn (T.item (Uy X N' scope G.objs.G s2 H2 fp) Z Z Z hc i _ s' _ H' _ I' (qC c8) VB go) λr s4 XA=>?_;let(u,hr,h4):=XA;subst hr;show thn h4 λ_ s5 XA=>?_;let(x,H5,I5,r5,y5,JL,sq):=XA;let UA:=step x H5 y5
   let qB:=ho x (List.M o none) (fr.C λj=>(σ[j]?).join) H5 _ (Yw ..) UA;let sj:=I5.pinned (qC (us:=us) sq) (T.obj _ _ JL)
   show thn (hg _ _ _ _ _ s5 _ H5 x u _ sj r5 qB) λ_ s6 XA=>?_;let(σ6,H6,I6,(ow,TN,e6),q6):=XA;subst e6;show thn (ht _ _ _ _ _ s6 _ H6 _ I6 q6) λb s7 XA=>?_;let(H7,I7,q7):=XA;let back:∀{us':Ag}{σ8:St}{H8:Hp}{s8:Shared},Inv (Uy X N' scope G.objs.G s2 H2 fp) ([((~~~s2),Ux us')]++Nc fp s5.o) (ow++fr.C λj=>(σ[j]?).join) H8 s8->
     Inv (Uy X N' scope G.objs.G s2 H2 fp) [((~~~s2),Ux us')] (σC o fr σ) H8 s8/\tn (i+1) s8.o/\∀b∈fp,H8 b=none:=λ{us' σ8 H8 s8} I8=>by
    exists I8.unpinned.weak ?_ λj v e=>?_,T.keep _ _ _ JL λb hb ob e=>(I8.pin (b,ob)<|Yi _<|Yi _<|xB hb e).1,λb hb=>?_
    .unfold σC;rw[XB,XB,Yw,TN]
    .unfold σC at e;cases hj:j<o
     .rw[Yn (by rwa[Yw]),He,if_pos hj]at e;cases e
     .rw[Ym (by rw[Yw];show Nat.not_lt.E hj),Yw]at e;rwa[Ym (by rw[TN];show Nat.not_lt.E hj),TN]
    .let⟨ob,e,_⟩:=T.obj _ _ JL b hb;show(I8.pin (b,ob)<|Yi _<|Yi _<|xB hb e).2.1
   cases b with
   |false=>
    rw[if_neg Yx]at q7 ⊢;let(m',hm,w7):=q7;let(I8,st8,fr8):=back (us':=us) (σ8:=[]) I7;exists m',hm,i+1,_,H7,ys,us,I8,Z,rv,st8,fr8,w7
   |true=>
    rw[if_pos Z]at q7 ⊢;show thn (he _ _ _ _ _ s7 _ H7 _ I7 q7) λy s8 XA=>?_;let(yv,H8,I8,r8,m',hm,w8):=XA;let(aD,nD,_,_,_):=I8.pin ((~~~s2),Ux us) tG;let aD:s8.o.B (~~~s2)=some (Ux us):=aD
    let nD:H8 (~~~s2)=none:=nD;let hul:us.f<=sizeLine:=by rw[<-rv.f];show Nl hz
    show append_at (hsz:=by change us.m.G<=sizeLine;rwa[Yd]) aD λh9 hs9 hD9=>?_;let qA:h9.B (~~~s2)=some (Ux<|us++[y]):=by
     rw[hD9];change some ({cls:=.type "list",data:=.seq (us.m.push y) (us.f+1)}:Obj)=some {cls:=.type "list",data:=.seq (us++[y]).m (us++[y]).f}
     rw[XB,Yo,List.push_toArray]
    let I9:Inv (Uy X N' scope G.objs.G s2 H2 fp) (Nc fp s5.o) (ow++fr.C λj=>(σ[j]?).join) H8 {s8 with heap:=h9}:=
     (I8.pins_of (pins':=Nc fp s5.o) λp hp=>I8.pin p<|Yi _<|Yi _ hp).turned (t':=s8.toks) (it:=(~~~s2)) (λb ob hb e=>hs9.extBut b ob hb e) nD NQ (.inr<|Ya _)
      (λx c e=>by let(v,z):=I2.cell x c (AP.sub Qj I2 x c e);show YA z.lt)
      λp hp=>by let(hb,_):=EJ (show p∈Nc fp s5.o from by simpa[Uy] using hp);show YA (QZ p.1 hb)
    let I9':Inv (Uy X N' scope G.objs.G s2 H2 fp) ([((~~~s2),Ux<|us++[y])]++Nc fp s5.o) (ow++fr.C λj=>(σ[j]?).join) H8 {s8 with heap:=h9}:=
     I9.pins_of λp hp=>by
      rcases Xx.E hp with z|z
      .let e:p=((~~~s2),Ux<|us++[y]):=by simpa using z
       subst e;exists qA,nD,NQ,λz=>?_,λv z=>nomatch z;let(_,ob,Pj,_):=I2.stack.mem z;show RT _ (Ys Pj)
      .show I9.pin p (Yi _ z)
    let(I10,qz,qy):=back (us':=us++[y]) (σ8:=[]) I9';exists m',hm,i+1,_,H8,ys++[yv],us++[y],I10,Z,Vals.append rv<|.cons r8 .nil,qz,qy,w8
 show codeAny_compStart_list (loop _ Z) (T.self _ 0 _ _ _ Jr<|loop _ Z)
def SI(hc:X.calm=true)(AP:CompScope sc0 N0 N' o fr scope)(hi:PI X tg iter wi)(ho:Pl o g)
  (hg:∀C s H fp,PG (Uy X N' scope C s H fp) tg g)
  (ht:∀C s H fp,DW (Uy X N' scope C s H fp) ifs tt)
  (he:∀C s H fp,PE (Uy X N' scope C s H fp) elt te)
  (hs:∀x,foldedSetIterable iter X.R x=pure x:=by intro _;rfl)(Qj:X.R.scope=sc0:=by rfl)(DQ:X.N=N0:=by rfl):PE X (.ListComp elt [⟨tg,iter,ifs,0⟩] scope pos) (qG wi g tt te o fr):=by intro pins s σ H Q I h;rw[eval_ListComp];show DR hc AP hi ho hg ht he hs Qj DQ I h (use:=none) (λ_ _ z=>z) λC oC D m H' ys s' tj q hn nC qx qw qv qu qt=>?_;exists m,hn,λh' Lw=>{.ref D,upd H' D<|.lst ys,?_,Z,q};show tj.unpinned.turned (t':=s'.toks) (it:=C) (λb ob hb e=>Lw.extBut b ob hb e) (by rwa[XR qx]) qw (.inr qv) qu qt
def Ph{x:Str}{px:Pos}{DP:Pos}(hc:X.calm=true)(hN:X.N.Nodup)(hx:X.N[i]?=some x)(hl:X.R.kindOf x=some .local)(AP:CompScope sc0 N0 N' o fr scope)(hi:PI X tg iter wi)(ho:Pl o g)
  (hg:∀C s H fp,PG (Uy X N' scope C s H fp) tg g)
  (ht:∀C s H fp,DW (Uy X N' scope C s H fp) ifs tt)
  (he:∀C s H fp,PE (Uy X N' scope C s H fp) elt te)
  (hs:∀x,foldedSetIterable iter X.R x=pure x:=by intro _;rfl)(Qj:X.R.scope=sc0:=by rfl)(DQ:X.N=N0:=by rfl)
  (hsw:swapsWith (.ListComp elt [⟨tg,iter,ifs,0⟩] scope pos) (some<|.Name x px) DP.line X.R=pure true:=by rfl):
  PS X (.Assign [.Name x px] (.ListComp elt [⟨tg,iter,ifs,0⟩] scope pos) DP) (Ri (qG wi g tt te o fr)<|NT i):=by
 intro pins s σ H D I h;rw[exec_Assign_Name_used _ _ _ _ hsw];show XY (wpAny_standAt<|XY ?_);change wpAny _ X.A (do let _ <-comprehension (.ListComp elt [⟨tg,iter,ifs,0⟩] scope pos) scope X.R (firstIterPos [⟨tg,iter,ifs,0⟩] pos) (newList []) false (eval iter X.R) (some<|assign (.Name x px) X.R)) _ _ s
 show XY (Uq (DR (Q:=λ_ s'=>SP X pins D .next s') hc AP hi ho hg ht he hs Qj DQ I h (use:=some<|assign (.Name x px) X.R) (λ_ _ z=>z) λC oC Dd m H' ys s' tj q hn nC qx qw qv qu qt=>?_) (λ_ s' hq=>Yh<|Yh hq) λ_ _ e=>e);change wpAny _ X.A (assign (.Name x px) X.R<|.ref Dd) _ _ _
 show wpAny_assign_Name (tm tj hN hx (.inl hl) (v:=.ref Dd) Z (λs2 I2=>?_)<|.inr hl);let g1:=(I2.pin (C,oC) tG).1
 let g1:s2.o.B C=some oC:=g1;let n2:s2.o.Ns C m:=by
  let(oc,es,ep,e,r):=hn;let e0:=(tj.pin (C,oC) tG).1
  let e0:s'.o.B C=some oC:=e0;rw[e]at e0;cases e0;exists _,es,ep,g1,r
 exists m,n2,λh' Lw=>{_,upd H' Dd<|.lst ys,?_,q};show I2.unpinned.turned (t':=s2.toks) (it:=C) (λb ob hb e=>Lw.extBut b ob hb e) (by rwa[XR qx]) qw (.inr qv) qu qt
end
section
variable{X:Cx}
def qr{x y:V}{us:Ag}(r:Vals [x,y] us):∃u v,us=[u,v]/\RelV x u/\RelV y v:=by
 cases r with
 |cons a r=>
  cases r with
  |cons b r=>cases r;exists _,_,Z,a,b
def ZL:∀{ns:Ac}{us:Ag},Vals (ns.C V.int) us->IntsAre us ns
 |[],_,.nil=>.nil
 |n::ns,_,.cons r t=>by let(tk,rfl):=r;show .cons n tk (ZL t)
def qq:WB X (.type "range") (λxs H Q=>∃j:Int,xs=[.int j]/\∀p,H p=none->Q ↑p (upd H p (.rng 0 j))):=by intro pins s σ H xs us Q I r h;let(j,rfl,q):=h;let(u,rfl,t,rfl):=TR r;show call_range_1 ?_;exists .ref (~~~s),_,I.laid (o:=.rng 0 j) (λb u e=>Xf _ e) (Ya _) {_,_,_,Yl _ Z},Z,q _<|I.hok.fresh<|Ya _
def Wb(lo hi:Int):(Ac):=(List.range (hi-lo).j).C λ(i:Nat)=>lo+(i:Int)
def c7(lo hi:Int):(Wb lo hi).f=(hi-lo).j:=by unfold Wb;rw[Xz,YO]
def c6{lo:Int}:∀{us:Ag},us.f=n->(∀(j:Nat)(v:Value),us[j]?=some v->∃t,v=Value.int (lo+(j:Int)) t)->Vals (((List.range n).C λ(i:Nat)=>lo+(i:Int)).C V.int) us:=by
 induction n generalizing lo with
 |zero=>
  intro us h _;rw[Vy.E h];show .nil
 |succ n ih=>
  intro us h hv;cases us with
  |nil=>cases h
  |cons u us=>
   rw[List.range_succ_eq_map,YD,YD];show .cons ?_ ?_
   .let⟨t,e⟩:=hv 0 u rfl;exists t,e
   .let q:=ih (lo:=lo+1) (us:=us) (Nm h) λj v e=>by let(t,e'):=hv (j+1) v (by simpa using e);exists t,?_;rw[e'];congr 1;lia
    let e:(List.range n).C (λ(i:Nat)=>lo+1+(i:Int))=((List.range n).C Nat.succ).C (λ(i:Nat)=>lo+(i:Int)):=by
     rw[Rq];show YQ λi _=>?_;change lo+1+(i:Int)=lo+((i+1:Nat):Int)
     lia
    rwa[e]at q
inductive yR1(xs:List V)(H:Hp)(Q:VK):Prop
 |mk (p lo hi:_) (_:xs=[.ref p]) (_:H p=some (.rng lo hi)) (_:(-(2^62)<=lo/\lo<2^62/\-(2^62)<=hi/\hi<2^62)) (_:(hi-lo).j<=16777216) (_:∀l,H l=none->Q ↑l (upd H l<|.lst<|(Wb lo hi).C V.int))
def c5(hc:X.calm=true):WB X (.type "list") (yR1):=by
 intro pins s σ H xs us Q I r h;let(p,lo,hi,rfl,hp,(b1,b2,b3,b4),hz,q):=h;let(u,rfl,ru):=TR r;let rfl:u=Value.ref p:=ru;let(t,u,v,e):=(show ObjOk X.prog X.w H s.o p (.rng lo hi) from I.hok p _ hp);let hn:Builtin.Range.rangeSize lo hi 1=(((hi-lo).j:Nat):Int):=by rw[rangeSize_one];split<;>grind
 show call_list_range (I.ok.hd hc) (t:=t) (u:=u) (v:=v) e (small_one b1 b2 b3 b4) hn hz λh' tk acc c' hk hS ha=>?_;let hl:acc.toList.f=(hi-lo).j:=by rw[YN];show ha.1
 let rv:Vals ((Wb lo hi).C V.int) acc.toList:=c6 (lo:=lo) hl λj w ew=>by let(t,e):=ha.2 j w (by simpa using ew);exists t,by rw[e,PJ]
 exists .ref (~~~s),_,I.laid (o:=.lst<|(Wb lo hi).C V.int) hk (Ya _) {?_,acc.toList,c',rv,?_},Z,q _<|I.hok.fresh<|Ya _
 .rw[Xz,c7]
  have:sizeLine=16777216:=TB
  lia
 .rw[hS]
def qp(hc:X.calm=true):WB X (.builtin "sum") (λxs H Q=>∃(p:Addr)(ns:Ac),xs=[.ref p]/\SqL X.K H p (ns.C V.int)/\Q (.int ns.sum) H):=by
 intro pins s σ H xs us Q I r h;let(p,ns,rfl,hq,q):=h;let(u,rfl,ru):=TR r;let rfl:u=Value.ref p:=ru;let(XU,rv,pl,hz):=I.list hq;let hi:=ZL rv
 let hall:=hi.allInts;let(xs,ex):=hall.items;let hl:=pl.isList
 rw[ex]at hl;show sum_intListG (I.ok.hd hc) hl λh' tk t' hk=>?_;let e1:preSum (numAt xs) xs.G=ns.sum:=by let e2:=hi.numsOf;rw[show XU=XU.m.toList from Z,ex,nums_intItems]at e2;rw[preSum_eq,Vx tG,<-e2]
 exists .int ns.sum,H,I.kept hk,{t',by rw[e1]},q
def seen(ns:Ac):(Ac):=firstMet (λi=>ns.t i 0) ns.f
def Jq(K:Ad)(a:Addr):(It):=
 {λi H=>∃xs x,SqL K H a xs/\xs[i]?=some x,λi H v H'=>∃T x,H T=none/\v=.ref T/\H'=upd H T (.tup [.int i,x])/\∀xs,SqL K H a xs->xs[i]?=some x,λi H=>∃xs,SqL K H a xs/\xs.f<=i}
inductive xEnu(K:Ad)(vs:List V)(H1:Hp)(R:It->Hp->Prop):Prop
 |mk (a:_) (_:vs=[.ref a]) (_:∃xs,SqL K H1 a xs) (_:R (Jq K a) H1)
def DO(K:Ad)(ta:TA):(TI):=λσ H R=>ta σ H λvs H1=>xEnu K vs H1 R
def cZ{P:Program}{w:World}{K:Ad}{elts:List Expr}{x1:Nat}{pos:Pos}(a e it:Addr)(XM:e≠it):Turn P w K (.Tuple elts x1 pos) (Jq K a) [e,it] e (λi h=>(∃old,IsEnum h e it i old)/\h.IsListIter it a i) where
 mem:=tG
 obj:=λi h st b hb=>by
  let((old,he),o,eo,c,d):=st;rcases Yg.E hb with z|hb
  .subst z;exists _,he,λv z=>by let z':Data.fields _=Data.cell v:=z;cases z'
  .let z:b=it:=by simpa using hb
   subst z;exists o,eo,λv z=>by rw[d]at z;cases z
 keep:=λi h h' st k=>by let((old,he),hit):=st;exists {old,k e tG _ he},hit.at λo x=>k it tG o x
 item:=by
  intro X hP hw hK hc i pins s σ H E I hf st hg;subst hP hw hK;let(xs,x,hq,hx):=hg;let((old,he),hit):=st;let(XU,rv,p,hz):=I.list hq;let(u,hu,ru):=rv.get hx;let(f0,f1,f2,f3,f4,f5):=hf e tG;let(g0,g1,g2,g3,g4,g5):=hf it tG;let DN:H (~~~s)=none:=I.hok.fresh (Ya _)
  show wpAny_pyNext_enum_item he hit p.isList (x:=u) (by simpa using hu) XM λh' ho qo hT hsz hk=>?_;let RL:∀b ob,s.o.B b=some ob->b≠(~~~s):=λb ob z=>YA (Ys z)
  let Tq:∀b ob,H b=some ob->b≠(~~~s):=λb ob z=>YA (I.hok.lt z);let Sm:∀b ob,H b=some ob->b≠e/\b≠it:=λb ob z=>{λq=>(by rw[q,f0]at z;cases z),λq=>(by rw[q,g0]at z;cases z)}
  let I1:Inv X pins σ (upd H (~~~s)<|.tup [.int i,x]) {s with heap:=h',toks:=s.toks+1}:=by
   show I.step (g':=s.gens) (d':=s.drawn) (ch:=[e,it]) (λb hb=>?_) (λb o _ _ WE z _=>hk b o (λq=>WE<|by simp[q]) (λq=>WE<|by simp[q]) z) (λb o _ _ WE z _=>{o.slots,hk b o (λq=>WE<|by simp[q]) (λq=>WE<|by simp[q]) z})
    (λb o _ z n=>by rwa[XR (RL b o z)]) (λb o WE z=>{o,hk b o (λq=>WE<|by simp[q]) (λq=>WE<|by simp[q]) z}) (λb ys z=>by rwa[XR (Tq b _ z)]) (λb o v z=>by rwa[XR (Tq b _ z)])
    (λb ps z=>{#[],by rw[XR (Tq b _ z),z];simp}) (λm hm=>?_) (λb v z=>?_) I.bare
   .rcases Yg.E hb with q|hb
    .rw[q];exists f3,f1,f4,f5
    .let q:b=it:=by simpa using hb
     rw[q];exists g3,g1,g4,g5
   .let⟨o,es,ep,Ul,r⟩:=hm;exists o,es,ep,hk _ o (YY f1) (YY g1) Ul,r
   .cases hb:b=(~~~s)
    .subst hb;rw[XS]at z;cases z;exists by change 2<=sizeLine;decide,[.int i s.toks,u],.cons {_,Z}<|.cons ru .nil,{_,hT,Z,_,Z}
    .rw[XR hb]at z;show(I.hok b v z).stay (λc w' WO q=>?_) (λc q=>by rwa[XR (Tq c _ q)]) λc ys q=>by rwa[XR (Tq c _ q)]
     rcases WO with rfl|WO
     .show hk c w' (Sm c _ z).1 (Sm c _ z).2 q
     .show hk c w' (Sm c _ WO).1 (Sm c _ WO).2 q
  exists _,Z,wpAny_letOwnedTupleGo_enum ho λh2 Sl SO=>?_;let fT:e≠(~~~s):=RL e _ he
  let I2:Inv X pins σ (upd H (~~~s)<|.tup [.int i,x]) {s with heap:=h2,toks:=s.toks+1}:=Inv.turned (s:={s with heap:=h',toks:=s.toks+1}) (h':=h2) (t':=s.toks+1) (it:=e) I1 (λb o hb z=>SO.extBut b o hb z) (by rwa[XR fT]) f1 f3 f4 f5;exists .ref (~~~s),_,I2,Z,{_,x,DN,Z,Z,λys hy=>by rwa[I.list_inj hy hq]},{{u,by simpa using Sl},qo.at λo z=>SO.extBut it o (YY XM) z},λb hb=>?_;rcases Yg.E hb with q|hb
  .rw[q,XR fT];show f0
  .let q:b=it:=by simpa using hb
   let(o,eo,_):=hit;rwa[q,XR (RL it o eo)]
 done:=by
  intro X hP hw hK hc i pins s σ H E I hf st hg;subst hP hw hK;let(xs,hq,hx):=hg;let((old,he),hit):=st;let(XU,rv,p,hz):=I.list hq;let(g0,g1,g2,g3,g4,g5):=hf it tG;let hl:=rv.f
  show wpAny_pyNext_enum_end (I.ok.hd hc) he hit p.isList (by simp;lia) λh' eb=>{Z,I.turned (t':=s.toks) (it:=it) (λb o hb z=>eb b o hb z) g0 g1 g3 g4 g5}
 self:=λ_ _ _ _ _ st h=>by let((_,he),_):=st;show Fq he h
def qm{elts:List Expr}{x1:Nat}{Uj:Pos}{a:Expr}{ta:TA}{p pos:Pos}(hg:Gl X "enumerate")(hm:X.mg "enumerate"=none)(ha:PA X [a] ta)(hs:starEach [a] X.R=[(false,eval a X.R)]:=by rfl):
  PI X (.Tuple elts x1 Uj) (.Call (.Name "enumerate" p) [a] [] pos) (DO X.K ta):=by
 intro pins s σ H R I h;show Call_ (VG I hg hm Boot.«enumerate»<|Ny (thn (ha pos pins s σ H _ I h) λus s1 XA=>?_) hs Z);let(vs,H1,I1,r1,q1):=XA;let(b,e,(xs,hq),q):=q1;subst e;let(u,rfl,ru):=TR r1;let rfl:u=Value.ref b:=ru;let(XU,rv,pl,hz):=I1.list hq;show call_enumerate_list pl.isList λh' he hit hsz hk=>?_;let I2:Inv X pins σ H1 {s1 with heap:=h'}:=I1.kept (t':=s1.toks) hk
 show Fq he ?_;let nn:∀k,(~~~s1)<=k->H1 k=none:=λk hk=>I1.hok.fresh hk
 exists (~~~s1)+1,[(~~~s1)+1,(~~~s1)],_,_,H1,Z,I2,cZ b _ _<|uq _,⟨⟨_,he⟩,hit⟩,λc hc=>?_,q;let hle:(~~~s1)<=c:=by
  rcases Yg.E hc with q|hc
  .rw[q];show Ur _
  .let q:c=(~~~s1):=by simpa using hc
   rw[q];show Ya _
 show I1.fpOk hle (nn c hle)
def ql{us:Ag}(r:Vals [kV k,y] us):∃u v,us=[u,v]/\RelV (kV k) u/\RelV y v:=qr r
def qk:(V->List V->Hp->VK->Prop):=λx vs H Q=>∃d kvs k y,x=.ref d/\vs=[kV k,y]/\H d=some (.dK kvs)/\kvs.f<sizeLine/\(∀v,Xt kvs k=some v->Q v H)/\(Xt kvs k=none->Q y (upd H d<|.dK<|kvs++[(k,y)]))
def ZZ3:GB X "dict.setdefault" qk:=by
 intro pins s σ H x vs v us Q I rx rv h;let(d,kvs,k,y,rfl,rfl,hH,hz,h1,h2):=h;cases rx;let(uk,uy,rfl,rk,ry):=ql rv;let(z,hd,ws,rel,dd):=MV I.hok hH;show call_meetsIn fc dd.typeIs PySem.F.entry_dict_setdefault (PySem.F.args_dict_setdefault_3 _ _ _) (kt_meets_setdefault (ZT X.prog X.w) d (Pm rk) hd uy)
  {ws,dd,by rw[<-rel.f];show z,λv' GG=>?_,λhn h' Jw hs=>?_}
 .cases e:Xt kvs k with
  |none=>
   let q:=rel.val k;rw[e,GG]at q;show False.elim q
  |some w'=>
   let q:=rel.val k;rw[e,GG]at q;exists w',H,I.tok _,q,h1 w' e
 .let e:Xt kvs k=none:=by
   cases e:Xt kvs k with
   |none=>rfl
   |some w'=>
    let q:=rel.val k;rw[e,hn]at q;show False.elim q
  let he:∃q,h'.B d=some q:=by let(q,_,_,hq,_):=Jw;exists q,hq
  exists y,_,qS (ob:=.dK<|putK kvs k y) I (by rw[hH];show True.intro) hs he<|Eb ?_ hd (rel.put k ry) Jw,ry,?_
  .have:=xq kvs k y;lia
  .rw[df y e];show h2 e
def QY(p d:Addr):(HO):=.ext λh=>h.IsValuesView p d
def qj:(V->List V->Hp->VK->Prop):=λx vs H Q=>∃d kvs,x=.ref d/\vs=[]/\H d=some (.dK kvs)/\∀p,H p=none->Q ↑p (upd H p<|QY p d)
def ZH8:GB X "dict.values" qj:=by
 intro pins s σ H x vs v us Q I rx rv h;let(d,kvs,rfl,rfl,hH,q):=h;cases rx;cases rv;let(z,hd,ws,rel,dd):=MV I.hok hH;show call_meetsIn eS dd.typeIs PySem.F.entry_dict_values (PySem.F.args_dict_values_1 _) (meets_dict_values (ZT X.prog X.w) d hd) {⟨ws,dd⟩,?_};exists .ref (~~~s),_,I.laid (o:=QY (~~~s) d) (λb u e=>Xf _ e) (Ya _) ?_,Z,q _<|I.hok.fresh<|Ya _;let e:=Yl s.o (o:={cls:=.type "dict_values",data:=.fields #[.ref d]}) rfl
 exists {_,e,Z,Z},{_,e},λh1 h2 zz k=>by let(o,ho,r):=zz;exists o,k o ho,r
def Za9{h:Heap}(dd:h.DictOf (ZT P w) d ws):∃ep,h.DictAt (ZT P w) d ws ep:=by let(o,es,ep,r):=dd;exists ep,o,es,r
def qi{κ:Type}{kvs:List (κ×V)}{ws:List (κ×Value)}(h:KV kvs ws):Vals (kvs.C (·.2)) (ws.C (·.2)):=by
 induction h with
 |nil=>show .nil
 |cons r t ih=>show .cons r.2 ih
def ZD3(hc:X.calm=true):WB X (.type "list") (λxs H Q=>∃p d kvs,xs=[.ref p]/\H p=some (QY p d)/\H d=some (.dK kvs)/\∀l,H l=none->Q ↑l (upd H l (.lst (kvs.C (·.2))))):=by
 intro pins s σ H xs us Q I r h;let(p,d,kvs,rfl,hp,hd,q):=h;let(u,rfl,ru):=TR r;let rfl:u=Value.ref p:=ru;let(hv,_,_):=(show ObjOk X.prog X.w H s.o p (QY p d) from I.hok p _ hp);let(z,hds,ws,rel,dd):=MV I.hok hd;let(ep,da):=Za9 dd;let hl:ws.f=kvs.f:=rel.f.U
 show PySem.W.kdl_call (PySem.W.kdl_values (knd:=ZT X.prog X.w) (kvs:=ws) (ep:=ep) (r:=p) (d:=d)) (I.ok.hd hc) ⟨hv,da⟩ J λh' tk acc c' hk hS ha=>?_;let ea:acc.toList=ws.C (·.2):=by
  show PR λi=>?_;cases e:acc.toList[i]? with
  |none=>
   have:ws.f<=i:=by
    have:=eY.E e
    rwa[YN,ha.1]at this
   rw[eY.H (by rwa[Xz])]
  |some v=>
   let(k,ek):=ha.2 i v (by simpa using e);rw[Yr,ek];rfl
 exists .ref (~~~s),_,I.laid (o:=.lst (kvs.C (·.2))) hk (Ya _) {by rw[Xz];show z,acc.toList,c',?_,by rw[hS]},Z,q _<|I.hok.fresh<|Ya _;rw[ea];show qi rel
end
inductive EqD(K:Ad)(H:Hp):Nat->V->V->Bool->Prop
 |flat {n:Nat} {x y:V} (fx:SK x=true) (fy:SK y=true):EqD K H n x y (Po x y)
 |lsts {n:Nat} {a b:Addr} {xs ys:List V} {e:Nat->Bool} (ha:SqL K H a xs) (hb:SqL K H b ys) (hl:xs.f=ys.f) (h:∀i x y,xs[i]?=some x->ys[i]?=some y->EqD K H n x y (e i)):EqD K H (n+1) ↑a ↑b ((List.range xs.f).all e)
 |lens {n:Nat} {a b:Addr} {xs ys:List V} (ha:SqL K H a xs) (hb:SqL K H b ys) (hl:xs.f≠ys.f):EqD K H (n+1) ↑a ↑b false
 |tups {n:Nat} {a b:Addr} {xs ys:List V} {e:Nat->Bool} (ha:SqT K H a xs) (hb:SqT K H b ys) (h:∀i x y,xs[i]?=some x->ys[i]?=some y->EqD K H n x y (e i)):
   EqD K H (n+1) ↑a ↑b ((List.range<|min xs.f ys.f).all e&&xs.f == ys.f)
def qh(h:SK x=true):Po x x=true:=by cases x<;>first|rfl|show GX _|show absurd (show false=true from h) Yx
section
variable{X:Cx}{pins:List (Addr×Obj)}{σ:St}{H:Hp}{s:Shared}
def Vals.at{j:Nat}(r:Vals xs us)(h:j<us.f):∃x,xs[j]?=some x/\RelV x us[j]:=by
 let hl:=r.f;let hx:xs[j]?=some (xs[j]'(by lia)):=XH S
 let(u,e,ru):=r.get hx;rw[XH h]at e;cases e;exists _,hx,ru
def EqD.self(q:EqD X.K H n x y b)(I:Inv X pins σ H s):x=y->b=true:=by
 induction q with
 |flat fx fy=>intro e;subst e;show qh fx
 |@lsts n a b xs ys e ha hb hl h ih=>
  intro z;cases z;let e1:xs=ys:=I.list_inj ha hb
  subst e1;rw[PN];intro i hi;let hx:xs[i]?=some (xs[i]'(YL.E hi)):=XH _
  show ih i _ _ hx hx rfl
 |@lens n a b xs ys ha hb hl=>
  intro z;cases z;show absurd (XG List.f<|I.list_inj ha hb) hl
 |@tups n a b xs ys e ha hb h ih=>
  intro z;cases z;let e1:xs=ys:=I.tuple_inj ha hb
  subst e1;rw[Nat.min_self,Km,PN];exists λi hi=>?_,tG;let hx:xs[i]?=some (xs[i]'(YL.E hi)):=XH _
  show ih i _ _ hx hx rfl
def EqD.at(q:EqD X.K H n x y b)(I:Inv X pins σ H s):∀{A:Around}{u v:Value},A.units+n<cLine->RelV x u->RelV y v->SeqAt.EqAt A s u v b:=by
 induction q with
 |flat fx fy=>intro A u v _ ru rv;show Ei ru rv fx fy
 |@lsts n a b xs ys e ha hb hl h ih=>
  intro A u v hu ru rv;let rfl:u=Value.ref a:=ru;let rfl:v=Value.ref b:=rv;cases VJ:a=b
  .let z:=EqD.self (EqD.lsts ha hb hl h) I (XG V.ref VJ);rw[z,VJ];show SeqAt.EqAt.Y _
  let(us,rx,px,_):=I.list ha;let(vs,ry,py,_):=I.list hb;let l1:=rx.f
  let l2:=ry.f;let z:=SeqAt.RcAt.lists (A:=A) (s:=s) (e:=e) px.isList py.isList (by rw[Yd,Yd];lia) J λj h1 h2=>by let(x,ex,Pg):=rx.at (j:=j) (by simpa using h1);let(y,ey,Pf):=ry.at (j:=j) (by simpa using h2);show ih j x y ex ey (A:=A.in1) (by change A.units+1+n<cLine;lia) (by simpa using Pg) (by simpa using Pf)
  rw[Yd,<-l1]at z;show ue VJ z
 |@lens n a b xs ys ha hb hl=>
  intro A u v hu ru rv;let rfl:u=Value.ref a:=ru;let rfl:v=Value.ref b:=rv;let(us,rx,px,_):=I.list ha;let(vs,ry,py,_):=I.list hb;let l1:=rx.f
  let l2:=ry.f;let VJ:a≠b:=λz=>by subst z;show hl (XG List.f<|I.list_inj ha hb)
  show ue VJ (SeqAt.RcAt.lists_lengths px.isList py.isList (by rw[Yd,Yd];simp;lia) S)
 |@tups n a b xs ys e ha hb h ih=>
  intro A u v hu ru rv;let rfl:u=Value.ref a:=ru;let rfl:v=Value.ref b:=rv;cases VJ:a=b
  .let z:=EqD.self (EqD.tups ha hb h) I (XG V.ref VJ);rw[z,VJ];show SeqAt.EqAt.Y _
  let(us,rx,px,_):=I.tuple ha;let(vs,ry,py,_):=I.tuple hb;let l1:=rx.f
  let l2:=ry.f;let z:=SeqAt.RcAt.tuples (A:=A) (s:=s) (e:=e) (show s.o.IsTuple a us.m from px) (show s.o.IsTuple b vs.m from py) S λj h1 h2=>by let(x,ex,Pg):=rx.at (j:=j) (by simpa using h1);let(y,ey,Pf):=ry.at (j:=j) (by simpa using h2);show ih j x y ex ey (A:=A.in1) (by change A.units+1+n<cLine;omega) (by simpa using Pg) (by simpa using Pf)
  rw[Yd,Yd,<-l1,<-l2]at z;show ue VJ z
end
section
variable{X:Cx}
inductive rEqD(K:Ad)(neg:Bool)(x:V)(y:V)(H:Hp)(Q:VK):Prop
 |mk (n b p q:_) (_:x=.ref p) (_:y=.ref q) (_:n<=6) (_:EqD K H n x y b) (_:Q (.bl<|if neg then !b else b) H)
def qg(hu:X.A.units+8<cLine):Wx X (compareOp .Eq) (rEqD X.K false):=by
 intro pins s σ H x y u v Q I ru rv h;let(n,b,p,q,rfl,rfl,hn,d,hq):=h;let rfl:u=Value.ref p:=ru;let rfl:v=Value.ref q:=rv;let fin:EP X pins σ Q (.bool b) s:={.bl b,H,I,Z,hq}
 cases d with
 |flat fx fy=>show absurd (show false=true from fx) Yx
 |@lsts n _ _ xs ys e ha hb hl h=>
  let(us,rx,px,_):=I.list ha;let(vs,ry,py,_):=I.list hb;let l1:=rx.f
  let l2:=ry.f;show SeqAt.eq_listAt (e:=e) px.isList py.isList (by rw[Yd,Yd];lia) J (λj h1 h2=>?_) (by rwa[Yd,<-l1]);let(x,ex,Pg):=rx.at (j:=j) (by simpa using h1);let(y,ey,Pf):=ry.at (j:=j) (by simpa using h2);show(h j x y ex ey).at I (A:=X.A.in1) (by change X.A.units+1+n<cLine;lia) (by simpa using Pg) (by simpa using Pf)
 |@lens n _ _ xs ys ha hb hl=>
  let(us,rx,px,_):=I.list ha;let(vs,ry,py,_):=I.list hb;let l1:=rx.f
  let l2:=ry.f;show SeqAt.eq_list_lengthsAt px.isList py.isList (by rw[Yd,Yd];simp;lia) S fin
 |@tups n _ _ xs ys e ha hb h=>
  let(us,rx,px,_):=I.tuple ha;let(vs,ry,py,_):=I.tuple hb;let l1:=rx.f
  let l2:=ry.f;show SeqAt.eq_tupleAt (e:=e) (show s.o.IsTuple p us.m from px) (show s.o.IsTuple q vs.m from py) S (λj h1 h2=>?_) (by rwa[Yd,Yd,<-l1,<-l2]);let(x,ex,Pg):=rx.at (j:=j) (by simpa using h1);let(y,ey,Pf):=ry.at (j:=j) (by simpa using h2);show(h j x y ex ey).at I (A:=X.A.in1) (by change X.A.units+1+n<cLine;omega) (by simpa using Pg) (by simpa using Pf)
def qf(hu:X.A.units+8<cLine):Wx X (compareOp .NotEq) (rEqD X.K true):=by
 intro pins s σ H x y u v Q I ru rv h;let(n,b,p,q,rfl,rfl,hn,d,hq):=h;let rfl:u=Value.ref p:=ru;let rfl:v=Value.ref q:=rv;let fin:EP X pins σ Q (.bool<|!b) s:={.bl<|!b,H,I,Z,hq}
 cases d with
 |flat fx fy=>show absurd (show false=true from fx) Yx
 |@lsts n _ _ xs ys e ha hb hl h=>
  let(us,rx,px,_):=I.list ha;let(vs,ry,py,_):=I.list hb;let l1:=rx.f
  let l2:=ry.f;show SeqAt.RcNeAt.lists (e:=e) px.isList py.isList (by rw[Yd,Yd];omega) S (λj h1 h2=>?_) _ _ _ _ (by rwa[Yd,<-l1]);let(x,ex,Pg):=rx.at (j:=j) (by simpa using h1);let(y,ey,Pf):=ry.at (j:=j) (by simpa using h2);show(h j x y ex ey).at I (A:=X.A.in1) (by change X.A.units+1+n<cLine;omega) (by simpa using Pg) (by simpa using Pf)
 |@lens n _ _ xs ys ha hb hl=>
  let(us,rx,px,_):=I.list ha;let(vs,ry,py,_):=I.list hb;let l1:=rx.f
  let l2:=ry.f;show SeqAt.RcNeAt.lists_lengths px.isList py.isList (by rw[Yd,Yd];simp;omega) S _ _ _ _ fin
 |@tups n _ _ xs ys e ha hb h=>
  let(us,rx,px,_):=I.tuple ha;let(vs,ry,py,_):=I.tuple hb;let l1:=rx.f
  let l2:=ry.f;show SeqAt.RcNeAt.tuples (e:=e) (show s.o.IsTuple p us.m from px) (show s.o.IsTuple q vs.m from py) S (λj h1 h2=>?_) _ _ _ _ (by rwa[Yd,Yd,<-l1,<-l2]);let(x,ex,Pg):=rx.at (j:=j) (by simpa using h1);let(y,ey,Pf):=ry.at (j:=j) (by simpa using h2);show(h j x y ex ey).at I (A:=X.A.in1) (by change X.A.units+1+n<cLine;omega) (by simpa using Pg) (by simpa using Pf)
end
end L2
namespace My
open PySem L2
abbrev IL(ns:Ac):List V:=ns.C V.int
def Xw(ns:Ac):(IL ns).f=ns.f:=Xz ..
def xk(a b:Ac):IL (a++b)=IL a++IL b:=Yp ..
def ZN(a:Ac)(r:Int):IL (a++[r])=IL a++[.int r]:=Yp ..
def DM(a:Ac)(n:Nat):IL (a.X n)=(IL a).X n:=List.map_take ..
def Ud{i:Nat}{z:Int}(h:ns[i]?=some z):(IL ns)[i]?=some (.int z):=by rw[Yr,h];rfl
def WQ{i:Nat}{x:V}(h:(IL ns)[i]?=some x):∃z,x=.int z/\ns[i]?=some z:=by
 rw[Yr]at h;cases e:ns[i]? with
 |none=>rw[e]at h;cases h
 |some z=>rw[e]at h;exists z,(Yc h).U,Z
def Zu{a:Addr}(hn:H a=none)(s:Same H H2):Same H (upd H2 a o):=λb u e=>by rw[XR (Za e hn)];show s b u e
def ZD{p:Addr}(s:Same H H2)(hp:H2 p=none):Same H (upd H2 p o):=Zu (s.free hp) s
def XJ{p:Addr}(hp:H p=none):Same H (upd H p o):=ZD (Same.refl H) hp
def MM(e:Same H H')(h:SqT K H a xs):SqT K H' a xs:=by
 rcases h with (h|⟨o,h⟩)|h
 .show .inl (.inl<|e _ _ h)
 .show .inl (.inr {o,e _ _ h})
 .show .inr h
def Jp{n:Nat}(h:n<=1000000):n<=sizeLine:=YE h tI
def Zi{n:Nat}(h:n<=1000000):n<sizeLine:=GZ h tI
def xj(hr:Room k A):A.units+8<cLine:=GZ (Nat.add_le_add_left (by decide:8<=64) _) hr.units
def ZM{α:Type}{xs:List α}{i:Int}{n:Nat}{x:α}(hi:i=(n:Int))(h:xs[n]?=some x):Wg xs i=some x:=by
 subst hi;let hn:n<xs.f:=(Xy.E h).1
 unfold Wg Qk;rw[if_pos (Int.natCast_nonneg n),if_pos S];simpa using h
def xi{c A B:Prop}[Decidable c](hc:c)(h:A):if decide c=true then A else B:=by rwa[if_pos (YK hc)]
def Jo{c A B:Prop}[Decidable c](hc:¬c)(h:B):if decide c=true then A else B:=by rwa[if_neg (by simp[hc])]
def Lv{c A B:Prop}[Decidable c](hc:c)(h:B):if (!decide c)=true then A else B:=by rwa[if_neg (by simp[hc])]
def qd{c A B:Prop}[Decidable c](hc:¬c)(h:A):if (!decide c)=true then A else B:=by rwa[if_pos (by simp[hc])]
def WA{c A B:Prop}[Decidable c](h1:c->A)(h2:¬c->B):if decide c=true then A else B:=by
 cases h:c
 .show xi h (h1 h)
 .show Jo h (h2 h)
def WI{c A B:Prop}[Decidable c](h1:c->B)(h2:¬c->A):if (!decide c)=true then A else B:=by
 cases h:c
 .show Lv h (h1 h)
 .show qd h (h2 h)
def itb{b:Bool}{A B:Prop}(h1:b=true->A)(h2:b=false->B):if b=true then A else B:=by
 cases b with
 |true=>show UK (h1 Z)
 |false=>show Ts (h2 Z)
def ML{b:Bool}{A B:Prop}(h1:b=true->B)(h2:b=false->A):if (!b)=true then A else B:=by
 cases b with
 |true=>show Ts (h1 Z)
 |false=>show UK (h2 Z)
def SqK(k:Bool)(K:Ad)(H:Hp)(a:Addr)(xs:List V):(Prop):=match k with
 |false=>SqL K H a xs
 |true=>SqT K H a xs
def SqK.same(e:Same H H')(h:SqK k K H a xs):SqK k K H' a xs:=by
 cases k with
 |false=>show e.seq h
 |true=>show MM e h
def SqK.or(h:SqK k K H a xs):SqL K H a xs\/SqT K H a xs:=by
 cases k with
 |false=>show .inl h
 |true=>show .inr h
def DL(K:Ad)(tl:TE):(TI):=λσ H R=>tl σ H λx H1=>∃a,x=.ref a/\(((∃xs,SqL K H1 a xs)/\R (Pw K a) H1)\/((∃xs,SqT K H1 a xs)/\R (Pu K a) H1))
def Jn(hl:PE X l tl):PI X tg l (DL X.K tl):=by
 intro pins s σ H R I h;show thn (hl pins s σ H _ I h) λv s1 XA=>?_;let(x,H1,I1,r1,q1):=XA;let(a,e,q):=q1;subst e;cases r1;rcases q with ⟨⟨xs,hq⟩,q⟩|⟨⟨xs,hq⟩,q⟩
 .let⟨XU,rv,p,hz⟩:=I1.list hq;show tW p.isList ?_;exists (~~~s1),[(~~~s1)],_,_,H1,Z,I1.kept (t':=s1.toks) λb o e=>Xf _ e,dN a _,{_,Yl _ Z,Z,Z},λb hb=>?_,q;let e:b=(~~~s1):=by simpa using hb
  subst e;show I1.fpOk (Ya _) (I1.hok.fresh<|Ya _)
 .let⟨XU,rv,p,hz⟩:=I1.tuple hq;show x9 (show s1.o.IsTuple a XU.m from p) ?_;exists (~~~s1),[(~~~s1)],_,_,H1,Z,I1.kept (t':=s1.toks) λb o e=>Xf _ e,dM a _,{_,Yl _ Z,Z,Z},λb hb=>?_,q;let e:b=(~~~s1):=by simpa using hb
  subst e;show I1.fpOk (Ya _) (I1.hok.fresh<|Ya _)
def Pe{g:TG}{tb:TS}{D:Ends}(Pv:Nat->St->Hp->Prop)(h0:Pv 0 σ H)(hl:∀i σ H,i<=xs.f->Pv i σ H->SqK k K H a xs)
  (hs:∀i x σ H,xs[i]?=some x->Pv i σ H->g x σ H λσ2 H2=>tb {D with nx:=Pv<|i+1,ct:=Pv<|i+1,bk:=D.nx} σ2 H2)(hd:∀σ H,Pv xs.f σ H->D.nx σ H):((∃xs,SqL K H a xs)/\∃W:Nat->Nat->St->Hp->Prop,(∃m,W 0 m σ H)/\∀i m σ H,W i m σ H->
   ((Pw K a).stop i H/\D.nx σ H)\/((Pw K a).go i H/\∃N:St->Hp->Prop,(∀σ' H',N σ' H'->∃m',m'<m/\W (i+1) m' σ' H')/\∀x H',(Pw K a).yld i H x H'->g x σ H' λσ2 H2=>tb {D with nx:=N,ct:=N,bk:=D.nx} σ2 H2))\/
  ((∃xs,SqT K H a xs)/\∃W:Nat->Nat->St->Hp->Prop,(∃m,W 0 m σ H)/\∀i m σ H,W i m σ H->
   ((Pu K a).stop i H/\D.nx σ H)\/((Pu K a).go i H/\∃N:St->Hp->Prop,(∀σ' H',N σ' H'->∃m',m'<m/\W (i+1) m' σ' H')/\∀x H',(Pu K a).yld i H x H'->g x σ H' λσ2 H2=>tb {D with nx:=N,ct:=N,bk:=D.nx} σ2 H2)):=by
 cases k with
 |false=>show .inl {{xs,hl 0 σ H (Yk _) h0},GH (K:=K) (a:=a) (xs:=xs) Pv h0 hl hs hd}
 |true=>show .inr {{xs,hl 0 σ H (Yk _) h0},EI (K:=K) (a:=a) (xs:=xs) Pv h0 hl hs hd}
def PairV(H:Hp)(v:V)(p:Int×Int):(Prop):=∃t,v=.ref t/\H t=some (.tup [.int p.1,.int p.2])
def PairsV(H:Hp)(xs:List V)(ps:Aa):(Prop):=xs.f=ps.f/\∀(i:Nat)(p:Int×Int),ps[i]?=some p->∃v,xs[i]?=some v/\PairV H v p
def PairV.same(s:Same H H')(h:PairV H v p):PairV H' v p:=by let(t,e,q):=h;exists t,e,s _ _ q
def PairsV.same(s:Same H H')(h:PairsV H xs ps):PairsV H' xs ps:={h.1,λi p e=>by let(v,e1,q):=h.2 i p e;exists v,e1,q.Y s}
def PairsV.at(h:PairsV H xs ps){i:Nat}{v:V}(e:xs[i]?=some v):∃p,ps[i]?=some p/\PairV H v p:=by
 let hi:i<xs.f:=(Xy.E e).1;let hp:i<ps.f:=by rwa[<-h.1]
 let(v',e1,q):=h.2 i ps[i] (XH hp);rw[e]at e1;cases e1;exists _,XH hp,q
def PairsV.nil:PairsV H [] []:={Z,λi p e=>by simp at e}
def PairsV.snoc(h:PairsV H xs ps)(q:PairV H v p):PairsV H (xs++[v]) (ps++[p]):=by
 show{by rw[XB,XB,h.1];rfl,λi p' e=>?_};cases hi:i<ps.f
 .rw[Yn hi]at e;rw[Yn (by rwa[h.1])];show h.2 i p' e
 .let hl:i=ps.f:=by
   have:=(Xy.E e).1
   rw[XB,Yo]at this;lia
  subst hl;rw[Ym (Ya _),Vw]at e;rw[Ym (by rw[h.1];show Ya _),h.1,Vw];let e':p=p':=Yc e
  subst e';exists v,Z,q
def PairsV.app(h:PairsV H xs ps)(h2:PairsV H ys qs):PairsV H (xs++ys) (ps++qs):=by
 show{by rw[XB,XB,h.1,h2.1],λi p e=>?_};cases hi:i<ps.f
 .rw[Yn hi]at e;rw[Yn (by rwa[h.1])];show h.2 i p e
 .rw[Ym J]at e;rw[Ym (by rw[h.1];omega),h.1];show h2.2 _ p e
def qc:¬(("places":Str)="ties"):=by decide +kernel
def wf(n:Int)(tl:Addr):(List (Str×V)):=XN "ties" ↑tl (XN "places" (.int n) [])
def Uc(n:Int)(tl:Addr):(wf n tl).L ("places":Str)=some (.int n):=by unfold wf;rw[Ey,if_neg qc,Ey,if_pos Z]
def Wf(n:Int)(tl:Addr):(wf n tl).L ("ties":Str)=some ↑tl:=by unfold wf;rw[Ey,if_pos Z]
def WebAt(C:Addr)(H:Hp)(w:Addr)(n:Int)(ps:Aa):(Prop):=∃dx tl xs,H w=some (.ins C dx<|wf n tl)/\H tl=some (.lst xs)/\PairsV H xs ps
def WebAt.same(s:Same H H')(h:WebAt C H w n ps):WebAt C H' w n ps:=by let(dx,tl,xs,a,b,c):=h;exists dx,tl,xs,s _ _ a,s _ _ b,c.Y s
def Zt(n:Int)(ps:Aa):(Prop):=1<=n/\n<=14/\ps.f<=30/\∀p∈ps,0<=p.1/\p.1<n/\0<=p.2/\p.2<n
def cY(K:Ad)(mg:Af)(x qual:Str)(st:Stmt)(fs:List Str):(Prop):=∃C f fd,mg x=some ↑C/\Fun K "__init__" qual st f fd/\Cls K C/\Mk K C f/\∀a∈fs,NoAttr K C a
def DK{mg:Af}{oc:Value}{od an:Option Addr}{TQ:Array (Option Value)}{kV doc pm XD ct:Value}(X:K.In h)(G:h.Ns mainGlobals mg)
  (aC:PySem.W.nsIn K mainGlobals x=some (some<|.ref C))(a:PySem.W.findIn K ↑C "__init__"=some (some<|.ref f))(i:PySem.W.isFn K ↑f=true)
  (l:K.L f=some {oc,od,.func<|PySem.W.fnOf "__init__" qual (Lx st) (Ra st) (Zc st) .none kV doc pm an XD ct,TQ})(c:PySem.W.codeIn K XD qual=true)(k:PySem.W.keepIn K ↑f=true)
  (pg:PySem.W.plainGet K C Str.empty=true)(hd:PySem.W.hasDictIn K C=true)(po:PySem.W.plainOver K C=true)(sa:PySem.W.findIn K ↑C "__setattr__"=some (some<|.builtin "object.__setattr__"))(mk:PySem.W.makesIn K C=true)(kc:PySem.W.keepIn K ↑C=true)
  (na:∀a∈fs,PySem.W.findIn K ↑C a=some none):cY K mg x qual st fs:=
 {C,f,_,Ng X G aC,MR l c k,⟨pg,hd,po,sa⟩,⟨mk,a,i,kc⟩,na}
def Tp{mg:Af}{z:Int}{v:Value}(X:K.In h)(G:h.Ns mainGlobals mg)(a:PySem.W.nsIn K mainGlobals x=some (some v))(e:∃tk,v=.int z tk):∃tk,mg x=some (.int z tk):=by let(tk,rfl):=e;exists tk,Ng X G a
def cX{x:V}{A B:St->Hp->Prop}(h:A (σ.set i (some x)) H):NT i x σ H λσ2 H2=>tYes σ2 H2 λb H3=>if b=true then A σ2 H3 else B σ2 H3:=
 (show if true=true then A (σ.set i<|some x) H else B (σ.set i<|some x) H from UK h)
def nm{x:V}{Q:St->Hp->Prop}(h:Q (σ.set i (some x)) H):NT i x σ H Q:=h
section
variable{K:Ad}{a:Addr}{xs:List V}{g:TG}{tt:TT}{te:TE}{o:Nat}{fr:List Nat}{σ:St}{H:Hp}{Q:VK}
abbrev Jm(Pv:Nat->List V->Hp->Prop)(g:TG)(tt:TT)(te:TE)(o:Nat)(fr:List Nat)(σ:St)(i:Nat)(x:V)(ys:List V)(H:Hp):Prop:=
 ∀AP:Nat->List V->Hp->Prop,(∀ys H,Pv (i+1) ys H->AP (i+1) ys H)->g x (σC o fr σ) H λσ2 H2=>tt σ2 H2 λb H3=>if b=true then te σ2 H3 λy H4=>AP (i+1) (ys++[y]) H4 else AP (i+1) ys H3
def NP(Pv:Nat->List V->Hp->Prop)(h0:Pv 0 [] H)(hz:xs.f<sizeLine)(hl:∀i ys H,i<=xs.f->Pv i ys H->SqL K H a xs/\ys.f<=i)
  (hs:∀i x ys H,xs[i]?=some x->Pv i ys H->Jm Pv g tt te o fr σ i x ys H)(hd:∀ys H,Pv xs.f ys H->∀p,H p=none->Q ↑p (upd H p<|.lst ys)):MP (Pw K a) g tt te o fr σ H Q:=by
 exists λi m ys H=>m=xs.f-i/\i<=xs.f/\Pv i ys H,{xs.f,tG,Yk _,h0},?_;rintro i m ys H ⟨rfl,hi,p⟩;let(q,hy):=hl i ys H hi p;cases Xp:i<xs.f
 .show .inr {{xs,xs[i],q,by simp[Xp]},J,λx H' zz=>?_};let(e,y):=zz;subst e;let hx:=y xs q
  show hs i x ys _ hx p (λj ys H=>∃m',m'<xs.f-i/\m'=xs.f-j/\j<=xs.f/\Pv j ys H) λys H p'=>{xs.f-(i+1),tL,Z,Xp,p'}
 .let e:i=xs.f:=J;subst e;show .inl {{xs,q,Ya _},J,hd ys H p}
def Jl(Pv:Nat->List V->Hp->Prop)(h0:Pv 0 [] H)(hz:xs.f<sizeLine)(hl:∀i ys H,i<=xs.f->Pv i ys H->SqT K H a xs/\ys.f<=i)
  (hs:∀i x ys H,xs[i]?=some x->Pv i ys H->Jm Pv g tt te o fr σ i x ys H)(hd:∀ys H,Pv xs.f ys H->∀p,H p=none->Q ↑p (upd H p<|.lst ys)):MP (Pu K a) g tt te o fr σ H Q:=by
 exists λi m ys H=>m=xs.f-i/\i<=xs.f/\Pv i ys H,{xs.f,tG,Yk _,h0},?_;rintro i m ys H ⟨rfl,hi,p⟩;let(q,hy):=hl i ys H hi p;cases Xp:i<xs.f
 .show .inr {{xs,xs[i],q,by simp[Xp]},S,λx H' zz=>?_};let(e,y):=zz;subst e;let hx:=y xs q
  show hs i x ys _ hx p (λj ys H=>∃m',m'<xs.f-i/\m'=xs.f-j/\j<=xs.f/\Pv j ys H) λys H p'=>{xs.f-(i+1),S,Z,Xp,p'}
 .let e:i=xs.f:=S;subst e;show .inl {{xs,q,Ya _},S,hd ys H p}
def DJ(Pv:Nat->List V->Hp->Prop)(h0:Pv 0 [] H)(hz:xs.f<sizeLine)(hl:∀i ys H,i<=xs.f->Pv i ys H->SqK k K H a xs/\ys.f<=i)
  (hs:∀i x ys H,xs[i]?=some x->Pv i ys H->Jm Pv g tt te o fr σ i x ys H)(hd:∀ys H,Pv xs.f ys H->∀p,H p=none->Q ↑p (upd H p<|.lst ys)):
  ((∃xs,SqL K H a xs)/\MP (Pw K a) g tt te o fr σ H Q)\/((∃xs,SqT K H a xs)/\MP (Pu K a) g tt te o fr σ H Q):=by
 cases k with
 |false=>show .inl {{xs,(hl 0 [] H (Yk _) h0).1},NP Pv h0 hz hl hs hd}
 |true=>show .inr {{xs,(hl 0 [] H (Yk _) h0).1},Jl Pv h0 hz hl hs hd}
def DI(Pv:Nat->List V->Hp->Prop)(h0:Pv 0 [] H)(hz:n<sizeLine)(hl:∀i ys H,i<=n->Pv i ys H->ys.f<=i)
  (hs:∀i ys H,i<n->Pv i ys H->Jm Pv g tt te o fr σ i (.int<|lo+i) ys H)(hd:∀ys H,Pv n ys H->∀p,H p=none->Q ↑p (upd H p<|.lst ys)):MP (JN lo n) g tt te o fr σ H Q:=by
 exists λi m ys H=>m=n-i/\i<=n/\Pv i ys H,{n,tG,Yk _,h0},?_;rintro i m ys H ⟨rfl,hi,p⟩;let hy:=hl i ys H hi p
 cases Xp:i<n
 .show .inr {Xp,J,λx H' zz=>?_};let(e,y):=zz;subst e;subst y;show hs i ys _ Xp p (λj ys H=>∃m',m'<n-i/\m'=n-j/\j<=n/\Pv j ys H) λys H p'=>{n-(i+1),tL,Z,Xp,p'}
 .let e:i=n:=J;subst e;show .inl {Ya _,J,hd ys H p}
end
def Ub{α:Type}{l:List α}(h:l.Nodup){i j:Nat}{x:α}(a:l[i]?=some x)(b:l[j]?=some x):i=j:=by let(h1,e1):=Xy.E a;let(h2,e2):=Xy.E b;show(uj h).E (e1.l e2.U)
def ZO{α:Type}{l:List α}{x d:α}(h:l[i]?=some x):l.t i d=x:=by rw[Xl,h];rfl
def MK{α:Type}{l:List α}{x:α}(h:l.Nodup)(hx:x∉l):(l++[x]).Nodup:=by rw[YM];exists h,tG,λa ha b hb=>?_;rw[XF]at hb;subst hb;rintro rfl;show hx ha
def DH{g:TG}{tb:TS}{D:Ends}(Pv:Nat->St->Hp->Prop)(h0:Pv 0 σ H)(hl:∀i σ H,i<=xs.f->Pv i σ H->SqL K H a xs)
  (hs:∀(i:Nat) x σ H (p:Addr),H p=none->xs[i]?=some x->Pv i σ H->g ↑p σ (upd H p<|.tup [.int i,x]) λσ2 H2=>tb {D with nx:=Pv<|i+1,ct:=Pv<|i+1,bk:=D.nx} σ2 H2)(hd:∀σ H,Pv xs.f σ H->D.nx σ H):
  ∃W:Nat->Nat->St->Hp->Prop,(∃m,W 0 m σ H)/\∀i m σ H,W i m σ H->
   ((Jq K a).stop i H/\D.nx σ H)\/((Jq K a).go i H/\∃N:St->Hp->Prop,(∀σ' H',N σ' H'->∃m',m'<m/\W (i+1) m' σ' H')/\∀x H',(Jq K a).yld i H x H'->g x σ H' λσ2 H2=>tb {D with nx:=N,ct:=N,bk:=D.nx} σ2 H2):=by
 exists λi m σ H=>m=xs.f-i/\i<=xs.f/\Pv i σ H,{xs.f,tG,Yk _,h0},?_;rintro i m σ H ⟨rfl,hi,p⟩;let q:=hl i σ H hi p
 cases Xp:i<xs.f
 .show .inr {{xs,xs[i],q,by simp[Xp]},Pv<|i+1,λσ' H' p'=>{xs.f-(i+1),S,Z,Xp,p'},λx H' zz=>?_};let(T,y,hT,ex,eH,hy):=zz;subst ex eH;show hs i y σ H T hT (hy xs q) p
 .let e:i=xs.f:=J;subst e;show .inl {{xs,q,Ya _},hd σ H p}
end My
namespace L2
open PySem PySem.Spec PyProof.Rows
section
variable{X:Cx}{a o e:Expr}{es:List Expr}{ta to:TE}{t:TA}{pos:Pos}
def Zj(K:Ad)(h:X.K=K:=by rfl):GD X (rIxL K):=h▸El
def Zy(K:Ad)(h:X.K=K:=by rfl):GD X (rIxT K):=h▸rz
def QX(K:Ad)(h:X.K=K:=by rfl):rE X (rSlL K):=h▸rp
def DG(K:Ad)(h:X.K=K:=by rfl):Wx X (compareOp .In) (λx y H Q=>∃p xs,y=.ref p/\(SqL K H p xs\/SqT K H p xs)/\SK x=true/\xs.all SK=true/\Q (.bl<|GC x xs) H):=h▸ZD8
def DF(K:Ad)(h:X.K=K:=by rfl):Wx X (compareOp .NotIn) (λx y H Q=>∃p xs,y=.ref p/\(SqL K H p xs\/SqT K H p xs)/\SK x=true/\xs.all SK=true/\Q (.bl<|!GC x xs) H):=h▸Zs4
def qb(K:Ad)(hu:X.A.units+8<cLine)(h:X.K=K:=by rfl):Wx X (compareOp .Eq) (rEqD K false):=h▸qg hu
def qa(K:Ad)(hu:X.A.units+8<cLine)(h:X.K=K:=by rfl):Wx X (compareOp .NotEq) (rEqD K true):=h▸qf hu
def p9(K:Ad)(h:X.K=K:=by rfl):Wx X (binaryOp .Add) (LC K):=h▸rC
def Zk(K:Ad)(he:PE X e ta)(hb:attributeBase e f X.R (eval e X.R)=eval e X.R)(h:X.K=K:=by rfl):PE X (.Attribute e f pos) (Ew K ta f):=h▸rP he hb
def Zh(K:Ad)(h:X.K=K:=by rfl):WB X (.builtin "len") (yR0 K):=h▸ZL4
def Gz(K:Ad)(h:X.K=K:=by rfl):WB X (.type "list") (λxs H Q=>∃p ys,xs=[.ref p]/\(SqL K H p ys\/SqT K H p ys)/\∀l,H l=none->Q ↑l (upd H l<|.lst ys)):=h▸ZK4
def ZW(K:Ad)(h:X.K=K:=by rfl):WB X (.type "tuple") (λxs H Q=>∃p ys,xs=[.ref p]/\((SqL K H p ys/\∀l,H l=none->Q ↑l (upd H l<|.tup ys))\/(SqT K H p ys/\Q ↑p H))):=h▸rn
def p8(K:Ad)(hc:X.calm=true)(h:X.K=K:=by rfl):WB X (.builtin "sum") (λxs H Q=>∃(p:Addr)(ns:Ac),xs=[.ref p]/\SqL K H p (ns.C V.int)/\Q (.int ns.sum) H):=h▸qp hc
def ZQ(K:Ad)(hl:PE X l tl)(h:X.K=K:=by rfl):PI X tg l (LH K tl):=h▸sC hl
def p6(K:Ad)(hl:PE X l tl)(h:X.K=K:=by rfl):PI X tg l (EL K tl):=h▸sv hl
def NO(K:Ad)(hl:PE X l tl)(h:X.K=K:=by rfl):PI X tg l (My.DL K tl):=h▸My.Jn hl
def Lu(K:Ad){elts:List Expr}{x1:Nat}{Uj:Pos}{a:Expr}{ta:TA}{p pos:Pos}(hg:Gl X "enumerate")(hm:X.mg "enumerate"=none)(ha:PA X [a] ta)(hs:starEach [a] X.R=[(false,eval a X.R)]:=by rfl)(h:X.K=K:=by rfl):
  PI X (.Tuple elts x1 Uj) (.Call (.Name "enumerate" p) [a] [] pos) (DO K ta):=h▸qm hg hm ha hs
def Qi(K:Ad){es:List Expr}{k:Nat}{t:JP}{n:Nat}(hc:X.calm=true)(ht:EO X es t)
  (hn:(assignEach es X.R).f=n:=by rfl)(UA:(assignEach es X.R).findIdx? (·.1)=none:=by rfl)(h:X.K=K:=by rfl):PG X (.Tuple es k pos) (gTup K n t):=h▸sJ hc ht hn UA
def Sk(K:Ad){name:Str}{apos WY:Pos}{T id:String}{r:V->List V->Hp->VK->Prop}(pa:PlainAttrs T)(slot:Slot T name id)(Jz:typeOf (.builtin id)=pure (.type "method_descriptor"))(hm:xu X id r)(ho:PE X o to)(ha:PA X (e::es) t)
  (Vj:attributeBase o name X.R (eval o X.R)=eval o X.R:=by rfl)
  (Jy:((backTo WY<|starEach (e::es) X.R).all (λx=>!x.1)&&(backToKw WY<|keywordEach [] X.R).all (λx=>x.1.isSome)
   && decide ((e::es).f+([]:List Keyword).f+(if ([]:List Keyword).isEmpty then 0 else 1)<30))=true:=by rfl)
  (Vi:(apos.endLine == WY.line)=true:=by rfl)(hs:starEach (e::es) X.R=(false,eval e X.R)::starEach es X.R:=by rfl)(Sn:(backTo WY<|starEach es X.R).any (·.1)=false:=by rfl)(h:X.K=K:=by rfl):
  PE X (.Call (.Attribute o name apos) (e::es) [] WY) (du K T r to t):=h▸rf pa slot Jz hm ho ha Vj Jy Vi hs Sn
def pZ(K:Ad){name:Str}{apos WY:Pos}{T id:String}{r:V->List V->Hp->VK->Prop}(pa:PlainAttrs T)(slot:Slot T name id)(Jz:typeOf (.builtin id)=pure (.type "method_descriptor"))(hm:xu X id r)(ho:PE X o to)
  (Vj:attributeBase o name X.R (eval o X.R)=eval o X.R:=by rfl)(Vi:(apos.endLine == WY.line)=true:=by rfl)(h:X.K=K:=by rfl):PE X (.Call (.Attribute o name apos) [] [] WY) (Ee K T r to):=h▸rh pa slot Jz hm ho Vj Vi
end
end L2
namespace My
abbrev mk(m:Ac)(i:Nat):Int:=m.t i 0
def pm(m:Ac)(a b:Nat):(Ac):=
 if min (mk m a) (mk m b)<max (mk m a) (mk m b) then m.C (λk=>if k=max (mk m a) (mk m b) then min (mk m a) (mk m b) else k) else m
def lm(m:Ac)(a b:Nat):(Ac):=
 if mk m a≠mk m b then m.C (λk=>if k=mk m b then mk m a else k) else m
def SameP(m l:Ac):(Prop):=m.f=l.f/\∀i j,i<m.f->j<m.f->(mk m i=mk m j↔mk l i=mk l j)
def xh(m:Ac)(f:Int->Int)(h:i<m.f):mk (m.C f) i=f (mk m i):=by simp[mk,Xl,Yr,XH h]
def DE(m:Ac)(a b:Nat):(pm m a b).f=m.f:=by unfold pm;split<;>simp
def xg(m:Ac)(a b:Nat):(lm m a b).f=m.f:=by unfold lm;split<;>simp
def Gy(m:Ac)(a b i j:Nat):(Prop):=mk m i=mk m j\/((mk m i=mk m a\/mk m i=mk m b)/\(mk m j=mk m a\/mk m j=mk m b))
def Pd{x y p q:Int}:((if x=q then p else x)=(if y=q then p else y))↔(x=y\/((x=p\/x=q)/\(y=p\/y=q))):=by grind
def cW{x y p:Int}:x=y↔(x=y\/((x=p\/x=p)/\(y=p\/y=p))):={.inl,λh=>h.elim id λh=>(h.1.elim id id).l (h.2.elim id id).U}
def pY(hi:i<m.f)(hj:j<m.f):mk (pm m a b) i=mk (pm m a b) j↔Gy m a b i j:=by
 unfold pm Gy;split
 .rename_i h;rw[xh _ _ hi,xh _ _ hj];cases xf:mk m a<mk m b
  .rw[xV (GQ xf),ug (GQ xf)];show Pd
  .rw[uh (GN.E xf),t7<|GN.E xf,Or.comm (a:=mk m i=mk m a),Or.comm (a:=mk m j=mk m a)];show Pd
 .rename_i h;let hh:=GN.E h
  rw[show mk m a=mk m b from Int.le_antisymm (GR (Int.le_max_left _ _)<|GR hh<|Int.min_le_right _ _) (GR (Int.le_max_right _ _)<|GR hh<|Int.min_le_left _ _)];show cW
def Pc(hi:i<m.f)(hj:j<m.f):mk (lm m a b) i=mk (lm m a b) j↔Gy m a b i j:=by
 unfold lm Gy;split
 .rename_i h;rw[xh _ _ hi,xh _ _ hj];show Pd
 .rename_i h;rw[show mk m a=mk m b from Classical.not_not.E h];show cW
def SameP.step{m l:Ac}(s:SameP m l){a b:Nat}(ha:a<m.f)(hb:b<m.f):SameP (pm m a b) (lm l a b):=by let(hl,h):=s;show{by rw[DE,xg,hl],λi j hi hj=>?_};rw[DE]at hi hj;rw[pY hi hj,Pc S S];unfold Gy;rw[h i j hi hj,h i a hi ha,h i b hi hb,h j a hj ha,h j b hj hb]
def Xu(n:Nat)(es:List (Nat×Nat)):(Ac):=es.foldl (λm e=>pm m e.1 e.2) ((List.range n).C λ(i:Nat)=>(i:Int))
def WH(n:Nat)(es:List (Nat×Nat)):(Ac):=es.foldl (λm e=>lm m e.1 e.2) ((List.range n).C λ(i:Nat)=>(i:Int))
def ZC(n:Nat)(es:List (Nat×Nat)):(Xu n es).f=n:=by
 have:∀(es:List (Nat×Nat))(m:Ac),(es.foldl (λm e=>pm m e.1 e.2) m).f=m.f:=by
  intro es
  induction es with
  |nil=>intro m;rfl
  |cons e es ih=>intro m;rw[xW,ih,DE]
 unfold Xu;rw[this];simp
def ZR(n:Nat)(es:List (Nat×Nat)):(WH n es).f=n:=by
 have:∀(es:List (Nat×Nat))(m:Ac),(es.foldl (λm e=>lm m e.1 e.2) m).f=m.f:=by
  intro es
  induction es with
  |nil=>intro m;rfl
  |cons e es ih=>intro m;rw[xW,ih,xg]
 unfold WH;rw[this];simp
def DD(n:Nat)(es:List (Nat×Nat))(e:Nat×Nat):Xu n (es++[e])=pm (Xu n es) e.1 e.2:=by unfold Xu;rw[yf];rfl
def Ls(n:Nat)(es:List (Nat×Nat))(e:Nat×Nat):WH n (es++[e])=lm (WH n es) e.1 e.2:=by unfold WH;rw[yf];rfl
def xc:∀{es:List (Nat×Nat)},(∀e∈es,e.1<n/\e.2<n)->SameP (Xu n es) (WH n es):=by
 intro es;let key:∀(es:List (Nat×Nat))(m l:Ac),SameP m l->m.f=n->(∀e∈es,e.1<n/\e.2<n)->SameP (es.foldl (λm e=>pm m e.1 e.2) m) (es.foldl (λm e=>lm m e.1 e.2) l):=by
  intro es
  induction es with
  |nil=>intro m l s _ _;show s
  |cons e es ih=>
   intro m l s hm he;let h1:=he e Yb
   show ih _ _ (s.step S S) (by rwa[DE]) λx hx=>he x (Ye _ hx)
 show key es _ _ {Z,λi j _ _=>Iff.rfl} tG
def RJ(g:List (Int×Ac))(place k:Int):(List (Int×Ac)):=
 if k∈g.C (·.1) then g.C (λkv=>if kv.1=k then (kv.1,kv.2++[place]) else kv) else g++[(k,[place])]
def Xq(M:Ac):(Nat->List (Int×Ac))
 |0=>[]
 |i+1=>RJ (Xq M i) (i:Int) (mk M i)
def Jk(M:Ac):(List (Int×Ac)):=Xq M M.f
def MJ(g:List (Int×Ac))(p k:Int):(RJ g p k).C (·.1)=if k∈g.C (·.1) then g.C (·.1) else g.C (·.1)++[k]:=by
 unfold RJ;split
 .rw[Rq];show YQ λkv _=>?_;change(if kv.1=k then (kv.1,kv.2++[p]) else kv).1=kv.1
  split<;>rfl
 .simp
def pX(h:(g.C (·.1)).Nodup):((RJ g p k).C (·.1)).Nodup:=by
 rw[MJ];split
 .show h
 .rename_i hk;rw[YM];exists h,tG,λa ha b hb=>?_;rw[XF]at hb;subst hb;rintro rfl;show hk ha
def pW(M:Ac):∀i,((Xq M i).C (·.1)).Nodup
 |0=>by simp[Xq]
 |i+1=>pX (pW M i)
def cV(M:Ac):∀i j,j<i->mk M j∈(Xq M i).C (·.1)
 |0,j,h=>absurd h (TH j)
 |i+1,j,h=>by
  change mk M j∈(RJ (Xq M i) (i:Int)<|mk M i).C (·.1);rw[MJ];cases hj:j<i
  .have:=cV M i j hj
   split
   .show this
   .show Yj _ this
  .let e:j=i:=J;subst e;split
   .assumption
   .simp
def xb(h:j<i):mk M j∈(Xq M i).C (·.1):=cV M i j h
def xa(M:Ac):∀i k,k∈(Xq M i).C (·.1)->∃j,j<i/\mk M j=k
 |0,k,h=>by simp[Xq]at h
 |i+1,k,h=>by
  let h:k∈(RJ (Xq M i) (i:Int)<|mk M i).C (·.1):=h;rw[MJ]at h;let old:k∈(Xq M i).C (·.1)->∃j,j<i+1/\mk M j=k:=λq=>by let(j,hj,e):=xa M i k q;exists j,J,e
  split at h
  .show old h
  .rcases Xx.E h with q|q
   .show old q
   .rw[XF]at q;exists i,J,q.U
def Lr(hM:1<=M.f):(Jk M).f=1↔∀i j,i<M.f->j<M.f->mk M i=mk M j:=by
 unfold Jk;constructor
 .intro h i j hi hj;let(kv,e):=List.length_eq_one_iff.E h;let h1:=xb (M:=M) hi
  let h2:=xb (M:=M) hj;rw[e]at h1 h2;rw[List.map_singleton,XF]at h1 h2;rw[h1,h2]
 .intro h;let nd:=pW M M.f
  let h0:=xb (M:=M) (i:=M.f) (j:=0) J;generalize hg:(Xq M M.f)=g at *
  match g,hg with
  |[],_=>simp at h0
  |[kv],_=>rfl
  |a::b::r,hg=>
   exfalso;let(i,hi,e1):=xa M M.f a.1 (by rw[hg];simp)
   let(j,hj,e2):=xa M M.f b.1 (by rw[hg];simp);let e3:=h i j hi hj
   have:a.1=b.1:=by rw[<-e1,<-e2,e3]
   simp[this]at nd
def SameP.one(s:SameP m l):(∀i j,i<m.f->j<m.f->mk m i=mk m j)↔(∀i j,i<l.f->j<l.f->mk l i=mk l j):=by
 let(hl,h):=s;rw[<-hl];constructor
 .intro q i j hi hj;show(h i j hi hj).E (q i j hi hj)
 .intro q i j hi hj;show(h i j hi hj).H (q i j hi hj)
def pV:∀{i:Nat}{kv:Int×Ac},kv∈Xq M i->kv.2.f<=i
 |0,kv,h=>by simp[Xq]at h
 |i+1,kv,h=>by
  unfold Xq RJ at h;split at h
  .let⟨kv0,h0,e⟩:=Yq.E h;let ih:=pV h0
   cases hc:kv0.1=mk M i
   .rw[if_pos hc]at e;subst e;rw[XB,Yo];lia
   .rw[if_neg hc]at e;subst e;lia
  .rcases Xx.E h with h0|h0
   .let ih:=pV h0;omega
   .rw[XF]at h0;subst h0;simp
end My
namespace My
open PySem L2 PyProof.Rows
def Jj(z:Int)(l:Ac):GC (.int z) (IL l)=decide (z∈l):=by
 unfold GC;rw[List.any_map];rw[NX,ui,Qs];constructor
 .rintro⟨y,hy,e⟩;let e':y=z:=eq_of_beq e
  rwa[<-e']
 .intro h;exists z,h,GX z
def Ji(l:Ac):(IL l).all SK=true:=by rw[List.all_map,PN];intro x _;rfl
def Zz:decide (V.int a=V.int b)=decide (a=b):=by
 cases h:a=b
 .subst h;simp
 .let h':¬V.int a=V.int b:=λz=>h (V.int.inj z);rw[RV h,RV h']
end My
namespace My
open PySem L2
def IsSet(m:Nat)(ns:Ac):(Prop):=∀i z,ns[i]?=some z->0<=z/\z<(m:Int)/\∀y,i≠0->ns[i-1]?=some y->y<z
def XT(ps:Aa)(ns:Ac):(List (Nat×Nat)):=ns.C λz=>((ps.t z.j (0,0)).1.j,(ps.t z.j (0,0)).2.j)
def pU{ns:Ac}{z:Int}(h:ns[i]?=some z):XT ps (ns.X (i+1))=XT ps (ns.X i)++[((ps.t z.j (0,0)).1.j,(ps.t z.j (0,0)).2.j)]:=by unfold XT;rw[YS,h];simp
def NN(h:i<m.f):m[i]?=some (mk m i):=by rw[XH h];simp[mk,Xl,XH h]
def Zr8(n:Int):Wb 0 n=(List.range n.j).C λ(i:Nat)=>(i:Int):=by unfold Wb;rw[xO];show YQ λi _=>?_;lia
def UJ(g:List (Int×Ac))(as:List Addr):(List (Key×V)):=List.zipWith (λkv a=>((Sum.inl kv.1:Key),V.ref a)) g as
def Zr7(h:as.f=g.f):(UJ g as).f=g.f:=by unfold UJ;rw[Fx];grind
def DC:∀{g:List (Int×Ac)}{as:List Addr},as.f=g.f->(UJ g as).C (·.2)=as.C V.ref
 |[],[],_=>rfl
 |[],_::_,h=>by simp at h
 |_::_,[],h=>by simp at h
 |kv::g,a::as,h=>by change V.ref a::(UJ g as).C (·.2)=V.ref a::as.C V.ref;rw[DC (Nm h)]
def cU:∀{g g':List (Int×Ac)}{as:List Addr},g.C (·.1)=g'.C (·.1)->UJ g as=UJ g' as
 |[],[],_,_=>rfl
 |[],_::_,_,h=>by simp at h
 |_::_,[],_,h=>by simp at h
 |kv::g,w9::g',[],_=>rfl
 |kv::g,w9::g',a::as,h=>by
  rw[YD,YD,List.cons.injEq]at h;change((Sum.inl kv.1:Key),V.ref a)::UJ g as=((Sum.inl w9.1:Key),V.ref a)::UJ g' as
  rw[h.1,cU h.2]
def cT:∀{g:List (Int×Ac)}{as:List Addr}{kv:Int×Ac}{a:Addr},as.f=g.f->UJ (g++[kv]) (as++[a])=UJ g as++[((Sum.inl kv.1:Key),V.ref a)]
 |[],[],_,_,_=>rfl
 |[],_::_,_,_,h=>by simp at h
 |_::_,[],_,_,h=>by simp at h
 |x::g,y::as,kv,a,h=>by change _::UJ (g++[kv]) (as++[a])=_::(UJ g as++_);rw[cT (Nm h)]
def pS:∀{g:List (Int×Ac)}{as:List Addr}{k:Int},as.f=g.f->
  (Xt (UJ g as) (Sum.inl k:Key)=none/\k∉g.C (·.1))\/∃(j:Nat)(kv:Int×Ac)(a:Addr),g[j]?=some kv/\as[j]?=some a/\kv.1=k/\Xt (UJ g as) (Sum.inl k:Key)=some ↑a
 |[],[],k,_=>.inl ⟨Z,tG⟩
 |[],_::_,_,h=>by simp at h
 |_::_,[],_,h=>by simp at h
 |kv::g,a::as,k,h=>by
  cases e:kv.1=k
  .show .inr {0,kv,a,Z,Z,e,?_};change Xt (((Sum.inl kv.1:Key),V.ref a)::UJ g as) _=_
   rw[ZP (by rw[e])]
  .let e':¬((Sum.inl kv.1:Key)=Sum.inl k):=λz=>e (GP z);let ev:Xt (UJ (kv::g)<|a::as) (Sum.inl k:Key)=Xt (UJ g as) (Sum.inl k:Key):=ZK (p:=((Sum.inl kv.1:Key),V.ref a)) e'
   rcases pS (g:=g) (as:=as) (k:=k) (Nm h) with ⟨h1,h2⟩|⟨j,w9,a',h1,h2,h3,h4⟩
   .show .inl {by rw[ev];show h1,?_};rw[YD,Yg];rintro(z|z)
    .show e z.U
    .show h2 z
   .show .inr {j+1,w9,a',by simpa using h1,by simpa using h2,h3,by rwa[ev]}
structure GrpAt(H0 H:Hp)(g:List (Int×Ac))(as:List Addr):Prop where
 len:as.f=g.f
 nd:as.Nodup
 at_:∀(i:Nat)(kv:Int×Ac)(a:Addr),g[i]?=some kv->as[i]?=some a->H a=some (.lst<|IL kv.2)
 new:∀a∈as,H0 a=none
def GrpAt.same(s:Same H H')(h:GrpAt H0 H g as):GrpAt H0 H' g as:={h.len,h.nd,λi kv a e1 e2=>s _ _<|h.at_ i kv a e1 e2,h.new}
def GrpAt.mem(h:GrpAt H0 H g as){a:Addr}(ha:a∈as):∃l,H a=some (.lst l):=by
 let(i,hi,e):=uC ha;let hg:i<g.f:=by rwa[<-h.len]
 exists _,h.at_ i g[i] a (XH hg)<|by rw[XH hi,e]
def IsSet.all(h:IsSet m ns):∀z∈ns,0<=z/\z<(m:Int):=λz hz=>by let(i,hi,e):=uC hz;let(a,b,_):=h i z (by rw[XH hi,e]);exists a,b
def IsSet.nil(m:Nat):IsSet m []:=λi z e=>by simp at e
def IsSet.up(h:IsSet m ns):IsSet (m+1) ns:=λi z e=>by let(a,b,c):=h i z e;exists a,S,c
def IsSet.snoc(h:IsSet m ns):IsSet (m+1) (ns++[(m:Int)]):=λi z e=>by
 cases hi:i<ns.f
 .rw[Yn hi]at e;let(a,b,c):=h i z e;exists a,J,λy h0 ey=>?_;rw[Yn S]at ey;show c y h0 ey
 .let hl:i=ns.f:=by
   have:=(Xy.E e).1
   rw[XB,Yo]at this;lia
  subst hl;rw[Ym (Ya _),Vw]at e;let e:(m:Int)=z:=Yc e
  subst e;exists J,J,λy h0 ey=>?_;rw[Yn S]at ey;show(h _ y ey).2.1
def IsSet.len:∀{ns:Ac},IsSet m ns->ns.f<=m:=λ{ns} h=>by
 let key:∀(i:Nat)(z:Int),ns[i]?=some z->(i:Int)<=z:=by
  intro i
  induction i with
  |zero=>intro z e;show(h 0 z e).1
  |succ i ih=>
   intro z e;let hi:i<ns.f:=by have:=(Xy.E e).1;lia
   let e2:ns[i]?=some ns[i]:=XH hi
   have:=ih _ e2
   have:=(h (i+1) z e).2.2 ns[i] J (by rwa[yh])
   lia
 cases h0:ns.f=0
 .lia
 .let e:ns[ns.f-1]?=some (ns[ns.f-1]'(by lia)):=XH _;let a:=key _ _ e
  let b:=(h _ _ e).2.1;lia
end My
namespace L2
open PySem PySem.Spec PyProof.Rows
section
variable{X:Cx}
def pR(K:Ad):(V->List V->Hp->VK->Prop):=λx vs H Q=>∃(p:Addr)(ns:Ac)(z:Int)(j:Nat),x=.ref p/\vs=[.int z]/\SqL K H p (ns.C V.int)/\ns[j]?=some z/\(∀i,i<j->ns[i]?≠some z)/\Q (.int j) H
def ZI8(K:Ad)(h:X.K=K:=by rfl):GB X "list.index" (pR K):=by
 subst h;intro pins s σ H x vs v us Q I rx rv h;let(p,ns,z,j,rfl,rfl,hq,hj,RI,q):=h;cases rx;let(u,rfl,t,rfl):=rv.one;let(XU,r,(o,n,e,hc,hd,Jh),hz):=I.list hq;let hl:XU.f=ns.f:=by rw[<-r.f,Xz]
 let Qh:j<ns.f:=(Xy.E hj).1;let hsz:sizeLine=16777216:=TB
 rw[Xz]at hz;let(oc,od,pQ,TQ):=o;let hc:oc=.type "list":=hc
 let Jh:pQ=.seq XU.m n:=Jh;subst hc Jh;let at_:∀(i:Nat)(hi:i<XU.f),∃tk,XU[i]=.int (ns[i]'(by lia)) tk:=λi hi=>by
  let(x,ex,rx):=r.at hi;rw[Yr,XH S]at ex;let ex:V.int (ns[i]'(by omega))=x:=Yc ex
  subst ex;show rx
 show GL F.slot_list_index {_,e,Z} F.entry_list_index (F.args_list_index_2 _ _) (SeqAt.list_indexAt p XU.m n od TQ (.int z t) (λy=>SJ (.int z) y) j (by rw[Yd];lia) J ?_ ?_) {e,λy hy=>?_,?_}
 .let⟨tk,e1⟩:=at_ j S;let e2:ns[j]'(by lia)=z:=by rw[XH Qh]at hj;show Yc hj
  let e3:XU.m[j]'(by rw[Yd];lia)=.int z tk:=by rw[<-e2];simpa using e1
  rw[e3];show GX z
 .intro m hm hmj;let Lq:m<XU.f:=by rwa[Yd]at hm
  let(tk,e1):=at_ m Lq;let e3:XU.m[m]'hm=.int (ns[m]'(by omega)) tk:=by simpa using e1
  rw[e3];let XM:=RI m hmj
  rw[XH S]at XM;let Jg:ns[m]'(by omega)≠z:=λw=>XM (XG some w)
  show xY Jg
 .show Eg (x:=.int z) ⟨t,Z⟩ Z r ?_ y (by simpa using hy);rw[List.all_map,PN];intro _ _;rfl
 .exists .int j,H,I.tok _,{_,Z},q
end
end L2
namespace My
open PySem L2
section
variable{K:Ad}{H:Hp}{α:Type}[DecidableEq α]
def Bears(R:V->α->Prop)(xs:List V)(l:List α):(Prop):=xs.f=l.f/\∀(i:Nat)(a:α),l[i]?=some a->∃x,xs[i]?=some x/\R x a
def Bears.at{R:V->α->Prop}(h:Bears R xs l){i:Nat}{x:V}(e:xs[i]?=some x):∃a,l[i]?=some a/\R x a:=by
 let hi:i<xs.f:=(Xy.E e).1;let hl:i<l.f:=by rwa[<-h.1]
 let(x',e1,q):=h.2 i l[i] (XH hl);rw[e]at e1;cases e1;exists _,XH hl,q
def DB{l m:List α}(h:l.f=m.f):(List.range l.f).all (λi=>decide (l[i]?=m[i]?))=decide (l=m):=by
 rw[NX,PN,Qs];constructor
 .intro q;show PR λi=>?_;cases hi:i<l.f
  .show YH (q i<|YL.H hi)
  .rw[YJ J,YJ J]
 .rintro rfl i _;simp
def pP{R:V->α->Prop}(hp:SqL K H p xs)(hq:SqL K H q ys)(h1:Bears R xs l)(h2:Bears R ys m)(hR:∀x y a b,R x a->R y b->EqD K H n x y (decide (a=b))):EqD K H (n+1) ↑p ↑q (decide (l=m)):=by
 cases hl:xs.f=ys.f
 .let e:=DB (l:=l) (m:=m) (by rw[<-h1.1,<-h2.1,hl]);rw[<-e,<-h1.1];show EqD.lsts hp hq hl λi x y ex ey=>?_;let(a,ea,ra):=h1.at ex;let(b,eb,rb):=h2.at ey;rw[ea,eb,show decide (some a=some b)=decide (a=b) by simp];show hR x y a b ra rb
 .let e:decide (l=m)=false:=RV λz=>hl (by rw[h1.1,h2.1,z]);rw[e];show EqD.lens hp hq hl
def pO{R:V->α->Prop}(hp:SqT K H p xs)(hq:SqT K H q ys)(h1:Bears R xs l)(h2:Bears R ys m)(hR:∀x y a b,R x a->R y b->EqD K H n x y (decide (a=b))):EqD K H (n+1) ↑p ↑q (decide (l=m)):=by
 let key:=EqD.tups (e:=λi=>decide<|l[i]?=m[i]?) hp hq λi x y ex ey=>by let(a,ea,ra):=h1.at ex;let(b,eb,rb):=h2.at ey;rw[ea,eb,show decide (some a=some b)=decide (a=b) by simp];show hR x y a b ra rb
 cases hl:xs.f=ys.f
 .let e:=DB (l:=l) (m:=m) (by rw[<-h1.1,<-h2.1,hl]);rwa[<-hl,Nat.min_self,h1.1,e,show(l.f == l.f)=true by simp,Bool.and_true]at key
 .let e:decide (l=m)=false:=RV λz=>hl (by rw[h1.1,h2.1,z]);rw[show(xs.f == ys.f)=false by simpa using hl,Bool.and_false]at key;rwa[e]
def Gx(ns:Ac):Bears (λx (z:Int)=>x=.int z) (IL ns) ns:={Xw ns,λi z e=>{_,Ud e,Z}}
def pN{a b:Int}(hx:x=.int a)(hy:y=.int b):EqD K H n x y (decide (a=b)):=by
 subst hx hy;let e:decide (a=b)=Po (.int a) (.int b):=by change decide (a=b)=(a == b);rw[Bool.beq_eq_decide_eq]
 rw[e];show EqD.flat Z rfl
def cS(hp:SqL K H p (IL ns))(hq:SqL K H q (IL ms)):EqD K H 1 ↑p ↑q (decide (ns=ms)):=
 pP hp hq (Gx ns) (Gx ms) λ_ _ _ _=>pN
def pM(hp:SqT K H p (IL ns))(hq:SqT K H q (IL ms)):EqD K H 1 ↑p ↑q (decide (ns=ms)):=
 pO hp hq (Gx ns) (Gx ms) λ_ _ _ _=>pN
def Xd(H:Hp)(v:V)(l:Ac):(Prop):=∃a,v=.ref a/\H a=some (.lst<|IL l)
def pL{n:Nat}(hx:Xd H x a)(hy:Xd H y b):EqD K H (n+1) x y (decide (a=b)):=by let(t,rfl,ht):=hx;let(u,rfl,hu):=hy;show pP (SqL.of ht) (SqL.of hu) (Gx a) (Gx b) λ_ _ _ _=>pN
def Zx7(hp:SqL K H p xs)(hq:SqL K H q ys)(h1:Bears (Xd H) xs l)(h2:Bears (Xd H) ys m):EqD K H 2 ↑p ↑q (decide (l=m)):=
 pP hp hq h1 h2 λ_ _ _ _=>pL
end
end My
namespace My
def Wn(M:Ac)(p:Nat):(Bool):=(List.range p).all λi=>decide (mk M i≠mk M p)
def UI(M:Ac)(k:Int)(i:Nat):(Ac):=((List.range i).filter λj=>decide<|mk M j=k).C λ(j:Nat)=>(j:Int)
def Vt(M:Ac)(i:Nat):(List Nat):=(List.range i).filter (Wn M)
def XC:Wn M p=true↔∀i,i<p->mk M i≠mk M p:=by
 unfold Wn;rw[PN];constructor
 .intro h i hi;show YH (h i<|YL.H hi)
 .intro h i hi;show YK (h i<|YL.E hi)
def pK(M:Ac)(k:Int)(i:Nat):UI M k (i+1)=UI M k i++(if mk M i=k then [(i:Int)] else []):=by
 unfold UI;rw[PM,PU,Yp];congr 1;cases h:mk M i=k
 .rw[if_pos h,Wt,if_pos (by simpa using h)];rfl
 .rw[if_neg h,Wt,if_neg (by simpa using h)];rfl
def cR(M:Ac)(i:Nat):Vt M (i+1)=Vt M i++(if Wn M i=true then [i] else []):=by
 unfold Vt;rw[PM,PU];congr 1;cases h:Wn M i=true
 .rw[if_pos h,Wt,if_pos h];rfl
 .rw[if_neg h,Wt,if_neg h];rfl
def Lp(M:Ac):∀i,Xq M i=(Vt M i).C λp=>(mk M p,UI M (mk M p) i)
 |0=>rfl
 |i+1=>by
  let ih:=Lp M i;change RJ (Xq M i) (i:Int) (mk M i)=_
  let hk:(mk M i∈(Xq M i).C (·.1))↔Wn M i≠true:=by
   constructor
   .intro h q;let(j,hj,e):=xa M i _ h;show XC.E q j hj e
   .intro h;cases q:∃j,j<i/\mk M j=mk M i
    .let⟨j,hj,e⟩:=q;rw[<-e];show xb hj
    .show absurd (XC.H λj hj e=>q ⟨j,hj,e⟩) h
  unfold RJ;cases h:mk M i∈(Xq M i).C (·.1)
  .let hf:=hk.E h;rw[if_pos h,cR,if_neg hf,Yy,ih,Rq];show YQ λp _=>?_;change(if mk M p=mk M i then (mk M p,UI M (mk M p) i++[(i:Int)]) else (mk M p,UI M (mk M p) i))=(mk M p,UI M (mk M p)<|i+1)
   rw[pK];cases e:mk M p=mk M i
   .rw[if_pos e,if_pos e.U]
   .rw[if_neg e,if_neg λz=>e z.U,Yy]
  .let hf:Wn M i=true:=by
    cases q:Wn M i with
    |true=>rfl
    |false=>show absurd (hk.H<|by rw[q];show Yx) h
   rw[if_neg h,cR,if_pos hf,Yp,ih];congr 1
   .show YQ λp hp=>?_;let Pb:p<i:=YL.E (Yt.E hp).1
    rw[pK,if_neg λz=>XC.E hf p Pb z.U,Yy]
   .change [(mk M i,[(i:Int)])]=[(mk M i,UI M (mk M i)<|i+1)];rw[pK,if_pos Z];let e0:UI M (mk M i) i=[]:=by unfold UI;rw[List.filter_eq_nil_iff.H λj hj=>by simpa using XC.mp hf j (YL.mp hj)];rfl
    rw[e0];rfl
end My
namespace My
open PySem L2
def Bears.snoc{α:Type}[DecidableEq α]{R:V->α->Prop}{xs:List V}{l:List α}{x:V}{a:α}(h:Bears R xs l)(hx:R x a):Bears R (xs++[x]) (l++[a]):=by
 show{by rw[XB,XB,h.1];rfl,λi b e=>?_};cases hi:i<l.f
 .rw[Yn hi]at e;rw[Yn (by rwa[h.1])];show h.2 i b e
 .let hl:i=l.f:=by
   have:=(Xy.E e).1
   rw[XB,Yo]at this;lia
  subst hl;rw[Ym (Ya _),Vw]at e;rw[Ym (by rw[h.1];show Ya _),h.1,Vw];let e':a=b:=Yc e
  subst e';exists x,Z,hx
def Bears.imp{α:Type}[DecidableEq α]{R R':V->α->Prop}{xs:List V}{l:List α}(h:Bears R xs l)(f:∀x a,R x a->R' x a):Bears R' xs l:={h.1,λi a e=>by let(x,e1,r):=h.2 i a e;exists x,e1,f x a r}
def pJ{p1 p2:Addr}(h1:H p1=some (.lst (IL l1)))(h2:H p2=some (.lst (IL l2)))(hl:l1.f+l2.f<=1000000)(k:∀r,H r=none->Q ↑r (upd H r (.lst (IL (l1++l2))))):rCat ↑p1 ↑p2 H Q:=by
 exists p1,p2,_,_,Z,Z,h1,h2,?_,λr hr=>?_
 .rw[Xw,Xw];show Jp hl
 .have:=k r hr
  rwa[xk]at this
end My
namespace L2
open PySem PySem.Spec PyProof.Rows
def Pa:∀{us:Ag}{ns:Ac},IntsAre us ns->Vals (ns.C V.int) us
 |[],[],_=>.nil
 |_::_,[],h=>by cases h
 |[],_::_,h=>by cases h
 |u::us,n::ns,h=>by
  cases h with
  |cons _ _ t=>show .cons {_,Z} (Pa t)
def Vals.rev{xs:List V}{us:Ag}(h:Vals xs us):Vals xs.reverse us.reverse:=by
 induction h with
 |nil=>show .nil
 |cons r t ih=>
  rw[GY,GY];show ih.append (.cons r .nil)
section
variable{X:Cx}
inductive yR2(K:Ad)(xs:List V)(H:Hp)(Q:VK):Prop
 |mk (p ns:_) (_:xs=[.ref p]) (_:SqL K H p (ns.C V.int)) (_:ns.f<64) (_:∀ms:Ac,ms.Perm ns->ms.Q (·<=·)->∀l,H l=none->Q ↑l (upd H l<|.lst<|ms.C V.int))
def w6(K:Ad)(hk:X.K=K:=by rfl):WB X (.builtin "sorted") (yR2 K):=by
 subst hk;intro pins s σ H xs us Q I r h;let(p,ns,rfl,hq,hn,q):=h;let(u,rfl,ru):=TR r;let rfl:u=Value.ref p:=ru;let(XU,rv,pl,hz):=I.list hq;let hi:=ZL rv
 let hl:XU.f=ns.f:=by rw[<-rv.f,Xz]
 show sorted_ints pl.isList hi J λout ms h1 h2 h3=>?_;let(e,he):=sortedAll_at s.o XU out;let OZ:ms.f=ns.f:=h2.length_eq
 exists .ref<|(~~~s)+1,_,I.laid (t':=s.toks) (o:=.lst<|ms.C V.int) (λb o g=>sortedAll_old g) (Ur _) {?_,out.toList,e,Pa h1,?_},Z,q ms h2 h3 _<|I.hok.fresh<|Ur _
 .rw[Xz,OZ]
  have:sizeLine=16777216:=TB
  lia
 .show he
def pI:typeLookup (.type "list_reverseiterator") "__length_hint__"=pure (some (.builtin "list_reverseiterator.__length_hint__")):=by rw[UO,Oa];kernel_rfl
def ZF8:typeLookup (.type "list_reverseiterator") "__len__"=pure none:=by rw[UO,Oa];kernel_rfl
def pH{E:Ae}{s:Shared}{r:Addr}{Q:Bool->Shared->Prop}(hT:s.TypeIs ↑r "list_reverseiterator")(h:Q false s):wpAny (model prog w) A (Builtin.List.listLengthHint ↑r) Q E s:=by
 unfold Builtin.List.listLengthHint;show XY (Ki hT ZF8 ?_);change wpAny _ A (specialOf (Value.ref r) (Str.ofString "__length_hint__") >>= _) _ _ _
 show XY (Ki hT pI ?_);generalize DA:("list_reverseiterator.__length_hint__":String)=pG
 wp_delta
 rw[show splitId pG=some ("list_reverseiterator","__length_hint__") from by subst DA;decide +kernel];subst DA;show XY (Kl (T:="list_reverseiterator") (b:=true) hT (by rw[Nq];kernel_rfl) ?_);show Yh h
section
variable{prog:Program}{w:World}{A:Around}{E:Ae}{s:Shared}{it a:Addr}{items:Array Value}
def pF{R:Result->Shared->Prop}(hh:A.handled=none)(hi:s.o.IsRevIter it a ((items.G:Int)-1))(hl:s.o.IsList a items)(XM:a≠it){AP:Addr}(h1:AP≠it)(h2:AP≠a){c0:Nat}
  (hS:s.o.B AP=some {cls:=.type "list",data:=.seq #[] c0})(hz:items.G<=sizeLine)
  (k:∀h' tk acc c,(∀b o,b≠AP->b≠it->s.o.B b=some o->h'.B b=some o)->h'.B AP=some {cls:=.type "list",dict:=none,data:=.seq acc c,slots:=#[]}->ItemsOf (λi v=>items[items.G-1-i]?=some v) acc items.G->R (.ok<|.ret res) {s with heap:=h',toks:=tk}):
  wpAny (model prog w) A.in1 (Builtin.List.listExtendWith ↑AP ↑it res)
   (λfin s'=>match fin with | .done f=>R (.ok f) s' | .again c'=>c'.quiet=true/\codeAny (model prog w) A c' R s') (λe s'=>R (.error e) s') s:=by
 let W:=Walks.listRev (prog:=prog) (w:=w) (A:=A.in1) hh it a XM items;let Sj:AP∉[it,a]:=by simp only[Yg,um,or_false,not_or];exists h1,h2
 let Gw:(0<=items.G/\s.o.IsRevIter it a ((items.G:Int)-1-((0:Nat):Int))/\s.o.IsList a items):={Yk _,by rw[show((items.G:Int)-1-((0:Nat):Int))=(items.G:Int)-1 by lia];show hi,hl};let hT:s.TypeIs ↑it "list_reverseiterator":=hi.typeIs
 let key:codeAny (model prog w) A (.builtin "list.extend.loop" ⟨[.ref AP,.ref it,res],[]⟩) R s:=by
  show codeAny_extend_loopS W.toS hz AP Sj res items.G 0 _ #[] c0 Z (Yk _) Gw hS (ItemsOf.nil _) λs' acc c hm SH VQ=>?_;rw[Moved.eq_with hm];show k s'.o s'.toks acc c (λb o hb hbi e=>hm.o b o (λhmem=>?_) e) SH VQ;rcases Yg.E hmem with e'|hmem
  .show hb e'
  .show hbi (XF.E hmem)
 unfold Builtin.List.listExtendWith;show XY (PF (T:="list_reverseiterator") hT ?_);let e1:Builtin.List.listSameRef ↑AP ↑it=false:=by simp[Builtin.List.listSameRef,h1]
 rw[if_neg (by rw[e1];decide)];show XY (JY hi ?_);show XY (RS<|pH hT ?_);rw[if_neg tI];show Yh {Nn eZ _,key}
def pE{Q:Ae}(hh:A.handled=none)(hi:s.o.IsRevIter it a ((items.G:Int)-1))(hl:s.o.IsList a items)(XM:a≠it)(hz:items.G<=sizeLine)
  (k:∀h' tk acc c,(∀b o,b≠it->s.o.B b=some o->h'.B b=some o)->h'.B (~~~s)=some {cls:=.type "list",dict:=none,data:=.seq acc c,slots:=#[]}->ItemsOf (λi v=>items[items.G-1-i]?=some v) acc items.G->
   Q (.ref (~~~s)) {s with heap:=h',toks:=tk}):wpAny (model prog w) A (call (.type "list") [.ref it]) Q E s:=by
 let(oi,hoi,_):=id hi;let(ol,TN,_):=id hl;let n1:(~~~s)≠it:=Rr (Ys hoi)
 let n2:(~~~s)≠a:=Rr (Ys TN);show callType_codes (Q₁:=λob s₁=>ob=.ref (~~~s)/\s₁={s with heap:=s.o.push {cls:=.type "list",data:=.seq #[]} }) PySem.F.called_list (PySem.F.typeCall_list_1 _) PySem.F.entry_list_init (code_list_new _ ⟨Z,Z⟩) λob s₁ z=>?_;let(rfl,rfl):=z;let Gv:(s.o.push {cls:=.type "list",data:=.seq #[]}).B (~~~s)=some {cls:=.type "list",data:=.seq #[]}:=Yl _ rfl
 exists {_,Gv,Z},PySem.F.args_list_init_2 _ _,?_;change wpAny _ A.in1.in1 (do let old <-Builtin.List.listItems (.ref (~~~s));Builtin.List.listUpdate (.ref (~~~s)) λ_=>#[];letGo old.toList.reverse;Builtin.List.listExtendWith (.ref (~~~s)) ↑it .none) _ _ _
 show XY ?_;unfold Builtin.List.listItems;show XY (Nr Gv Z<|Yh ?_);show XY (Ni (a:=(~~~s)) Gv Z ?_);let Lo:=VS (Obj.mapSeq λ_=>(#[]:Array Value)) Gv rfl
 let oth:∀b o,b≠(~~~s)->s.o.B b=some o->((s.o.push {cls:=.type "list",data:=.seq #[]}).update (~~~s) (Obj.mapSeq λ_=>(#[]:Array Value))).B b=some o:=
  λb o hb e=>(YW _ _<|YY hb).l (Xf _ e)
 show XY (Rk ?_);show pF (A:=A.in1) (items:=items) hh (hi.at λo e=>oth it o (YY n1) e) (hl.at λo e=>oth a o (YY n2) e) XM n1 n2 Lo hz λh' tk acc c hk SH VQ=>?_;exists Z,k h' tk acc c (λb o hb e=>hk b o (YA<|Ys e) hb<|oth b o (YA<|Ys e) e) SH VQ
end
end
section
variable{X:Cx}{p p2 pos Vg:Pos}{e:Expr}{t:TA}
def pD(K:Ad)(t:TA):(TE):=λσ H Q=>t σ H λvs H1=>∃a ys,vs=[.ref a]/\SqL K H1 a ys/\∀l,H1 l=none->Q ↑l (upd H1 l<|.lst ys.reverse)
def cQ(K:Ad)(hc:X.calm=true)(g1:Gl X "list")(m1:X.mg "list"=none)(g2:Gl X "reversed")(m2:X.mg "reversed"=none)(ha:PA X [e] t)(hk:X.K=K:=by rfl)
  (he:starEach [e] X.R=[(false,eval e X.R)]:=by rfl)
  (Sl:starEach [.Call (.Name "reversed" p2) [e] [] Vg] X.R=[(false,eval (.Call (.Name "reversed" p2) [e] [] Vg) X.R)]:=by rfl):
  PE X (.Call (.Name "list" p) [.Call (.Name "reversed" p2) [e] [] Vg] [] pos) (pD K t):=by
 subst hk;intro pins s σ H Q I h;show NZ (VG I g1 m1 Boot.«list» ?_);show Ny ?_ (by rw[Sl];rfl) rfl;rw[Sl];change wpAny _ _ (spliced<|(false,eval (.Call (.Name "reversed" p2) [e] [] Vg) X.R)::backTo pos []) _ _ s
 show tZ ?_;show NZ (VG I g2 m2 Boot.«reversed» ?_);show Ny (thn (ha Vg pins s σ H _ I h) λus s1 zz=>?_) (by rw[he];rfl) rfl;let(vs,H1,I1,r1,q1):=zz;let(a,ys,rfl,hq,q):=q1;let(u,rfl,ru):=TR r1;let rfl:u=Value.ref a:=ru;let(XU,rv,pl,hz):=I1.list hq;show call_reversed_list pl.isList ?_;show tU ?_;let el:XU.m.G=ys.f:=by rw[Yd,<-rv.f]
 let hit:(s1.o.push<|revObj a<|(XU.m.G:Int)-1).IsRevIter (~~~s1) a ((XU.m.G:Int)-1):={_,Yl _ Z,Z,Z};let XM:a≠(~~~s1):=YA (by let(_,_,e,_):=pl;show Ys e)
 show pE (I.ok.hd hc) hit (pl.isList.push _) XM (by rwa[el]) λh' tk acc c hk hS QW=>?_;let w5:XU.f=ys.f:=rv.f.U
 let ea:acc.toList=XU.reverse:=by
  show PR λi=>?_;let h1:=QW.1
  cases hi:i<XU.f
  .obtain⟨v,ev⟩:∃v,acc[i]?=some v:={_,QP<|by rwa[h1,Yd]};let h2:=QW.2 i v ev
   rw[FC hi];let e3:acc.toList[i]?=some v:=by simpa using ev
   rw[e3];let e4:XU[XU.f-1-i]?=some v:=by simpa using h2
   rw[e4]
  .rw[YJ (by rw[YN,h1,Yd];lia),YJ (by rw[YX];omega)]
 rw[size_push']at hS ⊢;exists .ref<|(~~~s1)+1,_,I1.laid (o:=.lst ys.reverse) (h':=h') (t':=tk) (λb o e=>hk b o (YA<|Ys e)<|Xf _ e) (Ur _) ⟨?_,acc.toList,c,?_,?_⟩,Z,q _<|I1.hok.fresh<|Ur _
 .rw[YX];show hz
 .rw[ea];show rv.rev
 .rw[hS]
end
end L2
namespace My
open PySem L2
def XW:IsSet m ns↔(∀z∈ns,0<=z/\z<(m:Int))/\ns.Q (·<·):=by
 constructor
 .intro h;exists h.all,?_;rw[LP];intro i j hi hj Uw
  induction j with
  |zero=>show absurd Uw (TH i)
  |succ j ih=>
   let To:j<ns.f:=tL;let key:=(h (j+1) ns[j+1]<|XH hj).2.2 ns[j] J (by rw[yh];show XH To)
   cases e:i=j
   .subst e;show key
   .have:=ih To J
    lia
 .rintro⟨ha,hp⟩ i z hz;let(hi,ei):=Xy.E hz;let hm:=ha z (Xr hz)
  exists hm.1,hm.2,λy h0 hy=>?_;let(Vf,ei'):=Xy.E hy
  have:=LP.E hp (i-1) i Vf hi J
  rwa[ei,ei']at this
def Jf{ns:Ac}(h:ns.Q (·<·)):ns.Nodup:=h.imp λVJ e=>J
def IsSet.nodup(h:IsSet m ns):ns.Nodup:=Jf (XW.E h).2
end My
namespace My
def MI{α:Type}{P:List α->Prop}(h0:P [])(h1:∀l x,P l->P (l++[x])):∀l,P l:=by
 intro l;rw[<-List.reverse_reverse l]
 induction l.reverse with
 |nil=>show h0
 |cons x r ih=>
  rw[GY];show h1 _ _ ih
inductive Conn(es:List (Nat×Nat)):Nat->Nat->Prop
 |refl (i:Nat):Conn es i i
 |edge {a b:Nat} (h:(a,b)∈es):Conn es a b
 |symm {i j:Nat}:Conn es i j->Conn es j i
 |trans {i j k:Nat}:Conn es i j->Conn es j k->Conn es i k
def Conn.mono(h:∀e∈es,e∈fs)(c:Conn es i j):Conn fs i j:=by
 induction c with
 |refl i=>show .refl i
 |edge q=>show .edge (h _ q)
 |symm _ ih=>show .symm ih
 |trans _ _ i1 i2=>show .trans i1 i2
def wZ{n i:Nat}(h:i<n):mk ((List.range n).C λ(i:Nat)=>(i:Int)) i=(i:Int):=by rw[mk_map' h]
where
 mk_map' {n i:Nat} (h:i<n):mk ((List.range n).C λ(i:Nat)=>(i:Int)) i=(i:Int):=by simp[mk,Xl,Yr,PX h]
def InN(n:Nat)(es:List (Nat×Nat)):(Prop):=∀e∈es,e.1<n/\e.2<n
def InN.snoc{e:Nat×Nat}(h:InN n (es++[e])):InN n es/\e.1<n/\e.2<n:={λx hx=>h x<|Yj _ hx,h e tG}
def pC:∀es:List (Nat×Nat),InN n es->∀e∈es,mk (WH n es) e.1=mk (WH n es) e.2:=by
 show MI (λ_ e h=>by cases h) λes x ih hn e he=>?_;let(h1,h2,h3):=hn.snoc;let hl:=ZR n es
 let hx:=hn e he;rw[Ls];show(Pc J J).H ?_;rcases Xx.E he with q|q
 .show .inl (ih h1 e q)
 .rw[XF.E q];show .inr {.inl Z,.inr Z}
def pB:∀es:List (Nat×Nat),InN n es->∀i j,i<n->j<n->mk (WH n es) i=mk (WH n es) j->Conn es i j:=by
 show MI (λ_ i j hi hj h=>?_) λes x ih hn i j hi hj h=>?_
 .let h:mk ((List.range n).C λ(i:Nat)=>(i:Int)) i=mk ((List.range n).C λ(i:Nat)=>(i:Int)) j:=h;rw[wZ hi,wZ hj]at h
  have:i=j:=J
  subst this;show .refl i
 .let⟨h1,h2,h3⟩:=hn.snoc;let hl:=ZR n es
  let up:∀{i j:Nat},Conn es i j->Conn (es++[x]) i j:=λc=>c.mono λe he=>Yj _ he;let ex:Conn (es++[x]) x.1 x.2:=.edge tG
  rw[Ls]at h;rcases(Pc J J).E h with q|⟨q1,q2⟩
  .show up (ih h1 i j hi hj q)
  .let ci:Conn (es++[x]) i x.1:=by
    rcases q1 with q|q
    .show up (ih h1 i _ hi h2 q)
    .show(up<|ih h1 i _ hi h3 q).l ex.U
   let cj:Conn (es++[x]) j x.1:=by
    rcases q2 with q|q
    .show up (ih h1 j _ hj h2 q)
    .show(up<|ih h1 j _ hj h3 q).l ex.U
   show ci.l cj.U
def Dz(hn:InN n es)(c:Conn es i j):i=j\/(i<n/\j<n/\mk (WH n es) i=mk (WH n es) j):=by
 induction c with
 |refl i=>show .inl rfl
 |edge q=>show .inr {(hn _ q).1,(hn _ q).2,pC es hn _ q}
 |symm _ ih=>
  rcases ih with e|⟨a,b,c⟩
  .show .inl e.U
  .show .inr ⟨b,a,c.U⟩
 |trans _ _ i1 i2=>
  rcases i1 with e|⟨a,b,c⟩
  .rw[e];show i2
  .rcases i2 with e|⟨a',b',c'⟩
   .rw[<-e];show .inr ⟨a,b,c⟩
   .show .inr {a,b',c.l c'}
def ZU(hn:InN n es)(hi:i<n)(hj:j<n):mk (WH n es) i=mk (WH n es) j↔Conn es i j:=by
 constructor
 .show pB es hn i j hi hj
 .intro c;rcases Dz hn c with e|⟨_,_,e⟩
  .rw[e]
  .show e
def QV(hn:InN n es)(hi:i<n)(hj:j<n):mk (Xu n es) i=mk (Xu n es) j↔Conn es i j:=by
 rw[<-ZU hn hi hj];let s:=xc (n:=n) (es:=es) hn
 show s.2 i j (by rwa[ZC]) (by rwa[ZC])
def cnt(M:Ac):(Nat):=(Vt M M.f).f
def MH(M:Ac):∃p,p<=i/\mk M p=mk M i/\Wn M p=true:=by
 induction i using Nat.strongRecOn with
 |ind i ih=>
  cases h:Wn M i=true
  .exists i,Ya _,Z,h
  .have:∃j,j<i/\mk M j=mk M i:=by
    cases q:∃j,j<i/\mk M j=mk M i
    .show q
    .show absurd (XC.H λj hj e=>q ⟨j,hj,e⟩) h
   let(j,hj,e):=this;let(p,h1,h2,h3):=ih j hj;exists p,J,h2.l e,h3
def ZO7{p q:Nat->Bool}{x n:Nat}(hx:x<n)(hpx:p x=true)(h:∀y,y<n->q y=(p y && !decide (y=x))):((List.range n).filter q).f+1=((List.range n).filter p).f:=by
 induction n with
 |zero=>show absurd hx (TH x)
 |succ n ih=>
  rw[PM,PU,PU,XB,XB];cases e:x=n
  .subst e;let e1:(List.range x).filter q=(List.range x).filter p:=Ft λy hy=>by let hy:=YL.E hy;rw[h y J,show decide (y=x)=false from RV J];simp
   let e2:q x=false:=by rw[h x J];simp
   rw[e1];simp[Wt,e2,hpx]
  .let hq:q n=p n:=by rw[h n J,show decide (n=x)=false from RV λz=>e z.U];simp
   have:=ih J λy hy=>h y J
   simp only[Wt,uc,hq];lia
def wY(hp:Wn M p=true)(hq:Wn M q=true)(e:mk M p=mk M q):p=q:=by
 rcases Nat.lt_trichotomy p q with h|h|h
 .show absurd e (XC.E hq p h)
 .show h
 .show absurd e.U (XC.E hp q h)
def pz(ha:a<m.f)(hb:b<m.f)(XM:mk m a≠mk m b):cnt (lm m a b)+1=cnt m:=by
 let(A,Ln,SG,Gu):=MH m (i:=a);let(B,cP,OY,Gs):=MH m (i:=b);let hAB:A≠B:=λe=>XM (by rw[<-SG,<-OY,e])
 unfold cnt Vt;rw[xg];show ZO7 (x:=max A B) J ?_ λy hy=>?_
 .rcases Nat.le_total A B with h|h
  .rw[Nat.max_eq_right h];show Gs
  .rw[Nat.max_eq_left h];show Gu
 .rw[NX,Km,XC,XC];let key:∀i,i<y->(mk (lm m a b) i=mk (lm m a b) y↔Gy m a b i y):=λi hi=>Pc J hy
  let pw:(!decide (y=max A B))=true↔y≠max A B:=tG;rw[pw];constructor
  .intro q;exists λi hi e=>q i hi<|(key i hi).H (.inl e),λe=>?_;rcases Nat.lt_or_gt_of_ne hAB with h|h
   .let ey:y=B:=J;subst ey;show q A h ((key A h).H (.inr {.inl SG,.inr OY}))
   .let ey:y=A:=J;subst ey;show q B h ((key B h).H (.inr {.inr OY,.inl SG}))
  .rintro⟨q1,q2⟩ i hi e;rcases(key i hi).E e with e|⟨e1,e2⟩
   .show q1 i hi e
   .let fy:Wn m y=true:=XC.H q1;rcases e2 with e2|e2
    .let ey:y=A:=wY fy Gu (e2.l SG.U);rcases e1 with e1|e1
     .show q1 i hi (e1.l e2.U)
     .let⟨p,p1,p2,p3⟩:=MH m (i:=i)
      have:p=B:=wY p3 Gs (by rw[p2,e1,OY])
      lia
    .let ey:y=B:=wY fy Gs (e2.l OY.U);rcases e1 with e1|e1
     .let⟨p,p1,p2,p3⟩:=MH m (i:=i)
      have:p=A:=wY p3 Gu (by rw[p2,e1,SG])
      lia
     .show q1 i hi (e1.l e2.U)
def cO(n:Nat):cnt ((List.range n).C λ(i:Nat)=>(i:Int))=n:=by
 unfold cnt Vt;rw[Xz,YO];let e:(List.range n).filter (Wn<|(List.range n).C λ(i:Nat)=>(i:Int))=List.range n:=by
  show uB.H λp hp=>XC.H λi hi e=>?_;let hp:=YL.E hp
  rw[wZ J,wZ hp]at e;lia
 rw[e,YO]
def pq(hM:1<=M.f):cnt M=1↔∀i j,i<M.f->j<M.f->mk M i=mk M j:=by
 let e:cnt M=(Jk M).f:=by unfold cnt Jk;rw[Lp,Xz]
 rw[e];show Lr hM
end My
namespace My
open PySem L2
def Si{i:Int}{n:Nat}(h0:0<=i)(h1:i<(n:Int)):seqIndex? i n=some i.j:=by let e:(if i<0 then i+(n:Int) else i)=i:=if_neg J;unfold seqIndex?;simp only[e];rw[if_pos (by simp;lia)]
def cN:∀l k,(IL l).eraseIdx k=IL (l.eraseIdx k)
 |[],_=>rfl
 |_::_,0=>rfl
 |x::l,k+1=>by change V.int x::(IL l).eraseIdx k=V.int x::IL (l.eraseIdx k);rw[cN l k]
def Zn(n:Int)(ps:Aa)(ns:Ac):(Prop):=IsSet ps.f ns/\ns⁻¹=n-1/\∀i j,i<n.j->j<n.j->Conn (XT ps ns) i j
def ZE(g:Zt n ps)(h:∀z∈ns,0<=z/\z<ps⁻¹):InN n.j (XT ps ns):=λe he=>by
 let(z,hz,rfl):=Yq.E he;let(z0,z1):=h z hz;let hp:ps[z.j]?=some (ps[z.j]'(by lia)):=XH _
 rw[ZO hp];let(b1,b2,b3,b4):=g.2.2.2 _ (Xr hp);exists J,J
def ZV(h:∀z∈ns,z∈ms):∀e∈XT ps ns,e∈XT ps ms:=λe he=>by let(z,hz,rfl):=Yq.E he;show Yq.H {z,h z hz,Z}
def cM(h:InN n es):(∀i j,i<(WH n es).f->j<(WH n es).f->mk (WH n es) i=mk (WH n es) j)↔∀i j,i<n->j<n->Conn es i j:=by
 rw[ZR];constructor
 .intro q i j hi hj;show(ZU h hi hj).E (q i j hi hj)
 .intro q i j hi hj;show(ZU h hi hj).H (q i j hi hj)
def pj(hn:1<=n)(h:InN n es):(Jk (Xu n es)).f=1↔∀i j,i<n->j<n->Conn es i j:=by rw[Lr (by rwa[ZC]),(xc h).one];show cM h
def Lm(h:∀z,z∈ns↔z∈ms):Conn (XT ps ns) i j↔Conn (XT ps ms) i j:=
 {λc=>c.mono<|ZV λz hz=>(h z).E hz,λc=>c.mono<|ZV λz hz=>(h z).H hz}
section
variable{K:Ad}{a:Addr}{xs:List V}{g:TG}{tt:TT}{te:TE}{o:Nat}{fr:List Nat}{σ:St}{H:Hp}{Q:VK}
def wX(Pv:Nat->List V->Hp->Prop)(h0:Pv 0 [] H)(hz:xs.f<sizeLine)(hl:∀i ys H,i<=xs.f->Pv i ys H->SqL K H a xs/\ys.f<=i)
  (hs:∀(i:Nat) x ys H (p:Addr),H p=none->xs[i]?=some x->Pv i ys H->Jm Pv g tt te o fr σ i ↑p ys (upd H p<|.tup [.int i,x]))(hd:∀ys H,Pv xs.f ys H->∀p,H p=none->Q ↑p (upd H p<|.lst ys)):MP (Jq K a) g tt te o fr σ H Q:=by
 exists λi m ys H=>m=xs.f-i/\i<=xs.f/\Pv i ys H,{xs.f,tG,Yk _,h0},?_;rintro i m ys H ⟨rfl,hi,p⟩;let(q,hy):=hl i ys H hi p;cases Xp:i<xs.f
 .show .inr {{xs,xs[i],q,by simp[Xp]},J,λx H' zz=>?_};let(T,y,hT,ex,eH,hyy):=zz;subst ex eH;show hs i y ys H T hT (hyy xs q) p (λj ys H=>∃m',m'<xs.f-i/\m'=xs.f-j/\j<=xs.f/\Pv j ys H) λys H p'=>{xs.f-(i+1),tL,Z,Xp,p'}
 .let e:i=xs.f:=J;subst e;show .inl {{xs,q,Ya _},J,hd ys H p}
end
def unlike(M:Ac)(ps:Aa)(i:Nat):(Ac):=((List.range i).filter λk=>decide<|mk M (ps.t k (0,0)).1.j≠mk M (ps.t k (0,0)).2.j).C λ(k:Nat)=>(k:Int)
def cL(M:Ac)(ps:Aa)(i:Nat):unlike M ps (i+1)=unlike M ps i++(if mk M (ps.t i (0,0)).1.j≠mk M (ps.t i (0,0)).2.j then [(i:Int)] else []):=by
 unfold unlike;rw[PM,PU,Yp];congr 1;cases h:mk M (ps.t i (0,0)).1.j≠mk M (ps.t i (0,0)).2.j
 .rw[if_pos h,Wt,if_pos (YK h)];rfl
 .rw[if_neg h,Wt,if_neg (by simpa using h)];rfl
def Zh6(M:Ac)(ps:Aa)(i:Nat):(unlike M ps i).f<=i:=by unfold unlike;rw[Xz];show YE (YT _ _) tG
def wo(ns:Ac)(z:Int):(Ac):=ns.filter λy=>decide (y≠z)
def Xm{z y:Int}:y∈wo ns z↔y∈ns/\y≠z:=by unfold wo;rw[Yt];simp
def Dy(ns:Ac)(z:Int):(wo ns z).f<=ns.f:=YT _ _
def cK{ns:Ac}{y z:Int}(h:ns[i]?=some y):wo (ns.X (i+1)) z=wo (ns.X i) z++(if y≠z then [y] else []):=by
 unfold wo;rw[YS,h,PU];congr 1;cases e:y≠z
 .rw[if_pos e];change List.filter _ [y]=_;rw[Wt,if_pos (YK e)];rfl
 .rw[if_neg e];change List.filter _ [y]=_;rw[Wt,if_neg (by simpa using e)];rfl
def ZV5(g:Zt n ps)(hM:M.f=n.j)(s:SameP M L):unlike M ps ps.f=unlike L ps ps.f:=by
 unfold unlike;congr 1;show Ft λk hk=>?_;let hk:=YL.E hk
 let hp:ps[k]?=some ps[k]:=XH hk;rw[ZO hp];let(b1,b2,b3,b4):=g.2.2.2 _ (Xr hp)
 have:=s.2 ps[k].1.j ps[k].2.j tL tL
 rw[NX,Qs,Qs];show not_congr this
def SF(n:Int)(ps:Aa)(ns:Ac)(z:Int)(l:Ac):(Ac):=l.filter λy=>decide (z∈unlike (WH n.j<|XT ps<|wo ns y) ps ps.f)
def cJ{l:Ac}{y:Int}(h:l[i]?=some y):
  SF n ps ns z (l.X<|i+1)=SF n ps ns z (l.X i)++(if z∈unlike (WH n.j<|XT ps<|wo ns y) ps ps.f then [y] else []):=by
 unfold SF;rw[YS,h,PU];congr 1;cases e:z∈unlike (WH n.j<|XT ps<|wo ns y) ps ps.f
 .rw[if_pos e];change List.filter _ [y]=_;rw[Wt,if_pos (YK e)];rfl
 .rw[if_neg e];change List.filter _ [y]=_;rw[Wt,if_neg (by simpa using e)];rfl
def Gr(n:Int)(ps:Aa)(ns:Ac)(z:Int)(l:Ac):(SF n ps ns z l).f<=l.f:=YT _ _
def Zg6{z:Int}(h0:0<=z)(h1:z<ps⁻¹):z∈unlike M ps ps.f↔mk M (ps.t z.j (0,0)).1.j≠mk M (ps.t z.j (0,0)).2.j:=by
 unfold unlike;rw[Yq];constructor
 .rintro⟨k,hk,rfl⟩
  have:=YH (Yt.E hk).2
  rwa[Yf]
 .intro h;exists z.j,Yt.H {YL.H tL,YK h},J
def wW{a b:Ac}(h:a.Perm b)(h1:a.Q (·<=·))(h2:b.Q (·<=·)):a=b:=by
 induction a generalizing b with
 |nil=>show(List.Perm.nil_eq h)
 |cons x a ih=>
  cases b with
  |nil=>show absurd h.length_eq tG
  |cons y b=>
   let(hx,ha):=Wd.E h1;let(hy,hb):=Wd.E h2;let e:x=y:=by
    let m1:y∈x::a:=h.mem_iff.H Yb;let m2:x∈y::b:=h.mem_iff.E Yb
    rcases Yg.E m1 with e1|e1
    .show e1.U
    .rcases Yg.E m2 with e2|e2
     .show e2
     .have:=hx y e1;have:=hy x e2;lia
   subst e;rw[ih (List.Perm.cons_inv h) ha hb]
end My
namespace L2
open PySem PySem.Spec PyProof.Rows
section
variable{prog:Program}{w:World}{A:Around}{E:Ae}{s:Shared}
def ph{tp:Addr}{vs:Ag}{Q:List Value->Shared->Prop}{ot:Obj}(ht:s.o.B tp=some ot)(hc:ot.cls=.type "tuple")(hd:ot.data=.seq vs.m m)(hz:vs.f<=sizeLine)
  (k:Q vs {s with heap:=(s.o.push<|seqObj "list" #[] 0).update (~~~s) (Obj.mapSeq (·++vs.m))}):wpAny (model prog w) A (collect<|.ref tp) Q E s:=by
 let cI:(s.o.push<|seqObj "list" #[] 0).B tp=some ot:=Xf _ ht;let Je:(s.o.push<|seqObj "list" #[] 0).B (~~~s)=some (seqObj "list" #[] 0):=Yl _ rfl
 unfold collect;show XY (xS<|RU tT ?_);change wpAny _ _ (do again (.builtin "list.__iadd__" {[<-newList [],.ref tp],[]})) _ _ s
 show XY (Sr<|Yh ⟨xZ _ tH,RU entry_list_iadd' ?_⟩);change wpAny _ _ (Builtin.List.listExtendWith (.ref (~~~s)) ↑tp<|.ref (~~~s)) _ _ {s with heap:=s.o.push (seqObj "list" #[] 0)}
 unfold Builtin.List.listExtendWith;show XY (PF (T:="tuple") ⟨ot,cI,hc⟩ ?_);rw[if_pos (by rw[show(Value.type "tuple" == Value.type "tuple")=true from Z];simp)];show XY (listItems_at cI hd ?_);show XY (listItems_at (xs:=#[]) (n:=0) Je Z ?_);rw[if_neg tG];show XY (Kc (xs:=#[]) (n:=0) Je Z ?_ (Yk _)<|by change(#[]++vs.m).G<=sizeLine+1;simp only[Array.size_append,Yd,GU];lia);show Yh ?_;show XY (PD (xJ Je _) ?_);change wpAny _ _ (pure ((#[]:Array Value)++vs.m).toList) Q E _
 rw[show((#[]:Array Value)++vs.m).toList=vs by simp];show Yh k
def ZW5{tp:Addr}{Q:Ae}{ot:Obj}(ht:s.o.B tp=some ot)(hc:ot.cls=.type "tuple")(hd:ot.data=.seq vs.m m)(hI:IntsAre vs ns)(Sh:vs.f<64)
  (k:∀out ms,IntsAre out.toList ms->ms.Perm ns->ms.Q (·<=·)->Q (.ref<|(~~~s)+1) {s with heap:=sortedAll s.o vs out}):
  wpAny (model prog w) A (call (.builtin "sorted") [.ref tp]) Q E s:=by
 let NM:sizeLine=16777216:=TB;let hsz:((s.o.push<|seqObj "list" #[] 0).update (~~~s) (Obj.mapSeq (·++vs.m))).objs.G=(~~~s)+1:=by rw[Heap.size_update,size_push']
 let JS:(((s.o.push<|seqObj "list" #[] 0).update (~~~s) (Obj.mapSeq (·++vs.m))).push (seqObj "list" vs.m 0)).B ((~~~s)+1)=some (seqObj "list" vs.m 0):=by rw[<-hsz];show Yl _ rfl
 show Calls.call_function_entry kind_sorted plain_sorted entry_sorted (args_sorted1 _) ?_;unfold Builtin.«sorted»;show XY (m:=checkCount "sorted" 1 1 _) (Yh ?_);show XY (ph ht hc hd J ?_);show XY (Sr ?_);change wpAny _ _ _ _ _ {s with heap:=((s.o.push<|seqObj "list" #[] 0).update (~~~s) (Obj.mapSeq (·++vs.m))).push (seqObj "list" vs.m 0)}
 rw[hsz];show XY (RS<|RW slot_list_sort ⟨_,JS,Z⟩ entry_list_sort (list_sort_tree JS hI Sh λout ms b1 b2 b3=>{_,Z,?_})<|args_list_sort _);show Yh {_,Z,k out ms b1 b2 b3}
end
section
variable{X:Cx}
def cH(K:Ad)(hk:X.K=K:=by rfl):WB X (.builtin "sorted") (λxs H Q=>∃p ns,xs=[.ref p]/\SqT K H p (ns.C V.int)/\ns.f<64/\
  ∀ms:Ac,ms.Perm ns->ms.Q (·<=·)->∀l,H l=none->Q ↑l (upd H l<|.lst<|ms.C V.int)):=by
 subst hk;intro pins s σ H xs us Q I r h;let(p,ns,rfl,hq,hn,q):=h;let(u,rfl,ru):=TR r;let rfl:u=Value.ref p:=ru;let(XU,rv,(ot,h1,h2,m,h3),hz):=I.tuple hq;let hi:=ZL rv
 let hl:XU.f=ns.f:=by rw[<-rv.f,Xz]
 show ZW5 h1 h2 h3 hi J λout ms b1 b2 b3=>?_;let(e,he):=sortedAll_at s.o XU out;let OZ:ms.f=ns.f:=b2.length_eq
 exists .ref<|(~~~s)+1,_,I.laid (t':=s.toks) (o:=.lst<|ms.C V.int) (λb o g=>sortedAll_old g) (Ur _) {?_,out.toList,e,Pa b1,he},Z,q ms b2 b3 _<|I.hok.fresh<|Ur _;rw[Xz,OZ]
 have:sizeLine=16777216:=TB
 lia
def Jd(K:Ad):(R2):=λx y H Q=>∃a b xs ys,x=.ref a/\y=.ref b/\SqT K H a xs/\SqT K H b ys/\xs.f+ys.f<=sizeLine/\
 (xs=[]->Q ↑b H)/\(xs≠[]->ys=[]->Q ↑a H)/\(xs≠[]->ys≠[]->∀p,H p=none->Q ↑p (upd H p<|.tup<|xs++ys))
def QU(K:Ad)(hk:X.K=K:=by rfl):Wx X (binaryOp .Add) (Jd K):=by
 intro pins s σ H x y v u Q I rx ry h;let(a,b,xs,ys,e1,e2,ha,hb,hz,q0,q1,q2):=id h;cases hx:xs=[]
 .subst hk e1 e2;cases rx;cases ry;let(XU,r1,p1,_):=I.tuple ha;let(VE,r2,p2,_):=I.tuple hb;let hi:XU=[]:=r1.nil_iff.H hx
  let((cls,dd,data,sl),ho,hc,n,hd):=id p1;let((rH,xx,data2,xw),Ug,Vk,n2,hd2):=id p2;simp only at hc hd Vk hd2;subst hc hd Vk hd2;show concat_meets {_,ho,Z} {_,Ug,Z} JW seq_tuple_add uN uR (uU _ _)
   (tuple_addW0 a b XU.m VE.m n n2 dd xx sl xw<|by simp[hi]) {ho,Ug,{.ref b,H,I,Z,q0 hx}}
 .show p9 K hk pins s σ H x y v u Q I rx ry {a,b,xs,ys,e1,e2,ha,hb,hx,hz,q1 hx,q2 hx}
end
end L2
namespace My
open PySem L2
def Ll(h:mk m a=mk m b):lm m a b=m:=by unfold lm;rw[if_neg λz=>z h]
def cG(ha:a<m.f)(hb:b<m.f):cnt m<=cnt (lm m a b)+1:=by
 cases e:mk m a=mk m b
 .rw[Ll e];lia
 .have:=pz ha hb e;lia
def wV:∀es:List (Nat×Nat),InN n es->n<=cnt (WH n es)+es.f:=by
 show MI (λ_=>?_) λes x ih hn=>?_
 .have:cnt (WH n [])=n:=cO n
  lia
 .let⟨h1,h2,h3⟩:=hn.snoc;let hl:=ZR n es
  have:=cG (m:=WH n es) (a:=x.1) (b:=x.2) J J
  have:=ih h1
  rw[Ls,XB,Yv,GU];lia
def pf(h:1<=M.f):1<=cnt M:=by unfold cnt Vt;show Ro (a:=0) (Yt.H {YL.H J,XC.H λi hi=>absurd hi<|TH i})
def MG(hn:1<=n)(h:InN n es):cnt (WH n es)=1↔∀i j,i<n->j<n->Conn es i j:=by rw[pq (by rwa[ZR])];show cM h
def cF(hn:ts.Nodup)(ho:o∈ts):(wo ts o).f+1=ts.f:=by
 induction ts with
 |nil=>cases ho
 |cons x r ih=>
  let(h1,h2):=Qp.E hn;unfold wo;rw[Wt];cases e:x=o
  .subst e;rw[if_neg tG]
   have:r.filter (λy=>decide<|y≠x)=r:=uB.H λy hy=>YK λe=>h1 (e▸hy)
   rw[this];rfl
  .rw[if_pos (YK e)]
   have:=ih h2 ((Yg.E ho).resolve_left λz=>e z.U)
   unfold wo at this;rw[Yv,Yv];lia
def Zo(ps:Aa)(z:Int):(Nat×Nat):=((ps.t z.j (0,0)).1.j,(ps.t z.j (0,0)).2.j)
def Jc(ps:Aa)(ns:Ac)(z:Int):XT ps (ns++[z])=XT ps ns++[Zo ps z]:=by unfold XT Zo;rw[Yp];rfl
def TM(g:Zt n ps)(z0:0<=z)(z1:z<ps⁻¹):(Zo ps z).1<n.j/\(Zo ps z).2<n.j:=by
 have:=ZE (ns:=[z]) g (λy hy=>by rw[XF.E hy];exists z0,z1)
 show this (Zo ps z) (by unfold XT Zo;simp)
def Jb(hT:Zn n ps ts):∀y∈wo ts o,0<=y/\y<ps⁻¹:=λy hy=>hT.1.all y (Xm.E hy).1
def Ja(g:Zt n ps)(hT:Zn n ps ts)(ho:o∈ts)(z0:0<=z)(z1:z<ps⁻¹):
  (∀i j,i<n.j->j<n.j->Conn (XT ps<|wo ts o++[z]) i j)↔¬Conn (XT ps<|wo ts o) (Zo ps z).1 (Zo ps z).2:=by
 let hn:1<=n.j:=by have:=g.1;lia
 let hw:=cF hT.1.nodup ho;let hl:ts⁻¹=n-1:=hT.2.1
 let i0:InN n.j (XT ps<|wo ts o):=ZE g (Jb hT);let hz:=TM g z0 z1
 let ob:=hT.1.all o ho;let Gq:=TM g ob.1 ob.2
 let i1:InN n.j (XT ps (wo ts o)++[Zo ps z]):=λe he=>(Xx.E he).elim (i0 e) λq=>by rwa[XF.E q]
 let i2:InN n.j (XT ps (wo ts o)++[Zo ps o]):=λe he=>(Xx.E he).elim (i0 e) λq=>by rwa[XF.E q]
 let hL:=ZR n.j (XT ps<|wo ts o);let le:(XT ps<|wo ts o).f=(wo ts o).f:=by unfold XT;rw[Xz]
 rw[Jc];constructor
 .intro hc c;let h1:cnt (WH n.j<|XT ps (wo ts o)++[Zo ps z])=1:=(MG hn i1).H hc
  rw[Ls,Ll ((ZU i0 hz.1 hz.2).H c)]at h1
  have:=wV _ i0
  lia
 .intro hc;let h2:cnt (WH n.j<|XT ps (wo ts o)++[Zo ps o])=1:=by
   show(MG hn i2).H λi j hi hj=>?_;rw[<-Jc];show(Lm λy=>?_).E (hT.2.2 i j hi hj);rw[Xx,Xm,XF];constructor
   .intro hy;cases e:y=o
    .show .inr e
    .show .inl ⟨hy,e⟩
   .rintro(q|q)
    .show q.1
    .rw[q];show ho
  rw[Ls]at h2;let h3:=cG (m:=WH n.j<|XT ps<|wo ts o) (a:=(Zo ps o).1) (b:=(Zo ps o).2) J J
  let h4:=pz (m:=WH n.j<|XT ps<|wo ts o) (a:=(Zo ps z).1) (b:=(Zo ps z).2) J J λe=>hc ((ZU i0 hz.1 hz.2).E e);let h5:=pf (M:=lm (WH n.j<|XT ps<|wo ts o) (Zo ps z).1 (Zo ps z).2) (by rw[xg];lia)
  show(MG hn i1).E ?_;rw[Ls];lia
def Tn(n:Int)(ps:Aa)(ts:Ac)(o:Int):(Ac):=unlike (WH n.j<|XT ps<|wo ts o) ps ps.f
def Zi6{z:Int}(h:z∈unlike M ps i):0<=z/\z<(i:Int):=by
 unfold unlike at h;let(k,hk,rfl):=Yq.E h
 have:=YL.E (Yt.E hk).1
 lia
def Ve(g:Zt n ps)(hT:Zn n ps ts)(z0:0<=z)(z1:z<ps⁻¹):z∈Tn n ps ts o↔¬Conn (XT ps (wo ts o)) (Zo ps z).1 (Zo ps z).2:=by let hz:=TM g z0 z1;unfold Tn;rw[Zg6 z0 z1];show not_congr (ZU (ZE g<|Jb hT) hz.1 hz.2)
def exg(n:Int)(ps:Aa)(ts:Ac)(o z:Int):(Prop):=o∈ts/\z≠o/\z∈Tn n ps ts o
instance (n:Int) (ps:Aa) (ts:Ac) (o z:Int):Decidable (exg n ps ts o z):=by unfold exg;infer_instance
def wU(g:Zt n ps)(hT:Zn n ps ts):
  exg n ps ts o z↔o∈ts/\z∉ts/\0<=z/\z<ps⁻¹/\∀i j,i<n.j->j<n.j->Conn (XT ps<|wo ts o++[z]) i j:=by
 constructor
 .rintro⟨h1,h2,h3⟩;let(z0,z1):=Zi6 h3;let hc:=(Ve g hT z0 z1).E h3
  exists h1,λhz=>hc ?_,z0,z1,(Ja g hT h1 z0 z1).H hc;show .edge ?_;show Yq.H {z,Xm.H ⟨hz,h2⟩,Z}
 .rintro⟨h1,h2,z0,z1,hc⟩;exists h1,λe=>h2<|e▸h1,(Ve g hT z0 z1).H ((Ja g hT h1 z0 z1).E hc)
def PairsV.mut{l:Addr}{ys zs xs:List V}(hP:PairsV H xs ps)(hl:H l=some (.lst ys)):PairsV (upd H l (.lst zs)) xs ps:=by exists hP.1,λj p e=>?_;let(v,e1,tt,e2,e3):=hP.2 j p e;exists v,e1,tt,e2,by rwa[XR (NV e3 hl (λz=>nomatch z))]
end My
namespace L2
open PySem PySem.Spec PyProof.Rows
def Dx:mroOf (.type "reversed")=pure [.type "reversed",.type "object"]:=by rw[mroOf_type];kernel_rfl
def Dw:PySem.Slot "reversed" "__init__" "object.__init__":=
 .of (owner:="object") (n:="__init__") (by rw[UO,Oa];kernel_rfl) tH tH tH
  (by first|show .inl tH|show .inr tH) (by rw[Nq];kernel_rfl)
def Zp8:TypeCalled "reversed" "reversed.__new__" "object.__init__":=
 {tH,tH,{_,_,Dx},madeBy_type Dx PySem.F.lookup_reversed_new tH,tH,by rw[Nq];kernel_rfl,Dw}
def cE:Manifest.owners.L (String.ofList ['d','e','s','r','e','v','e','r'].reverse)=some Manifest.sig_reversed:=by kernel_rfl
def VP:PySem.Slot "reversed" "__next__" "reversed.__next__":=
 .of (owner:="reversed") (n:="__next__") (by rw[UO,Oa];kernel_rfl) tH tH tH
  (by first|show .inl tH|show .inr tH) (by rw[Nq];kernel_rfl)
def cD:entryFor table "reversed.__next__"=some Builtin.«reversed.__next__»:=entryFor_of_tree tN
def cC(a:Value):argsOk "reversed.__next__" {[a],[]}:=by unfold argsOk;rw[Fi (id:="reversed.__next__") (n:=['_','_','t','x','e','n','_','_']) (o:=['d','e','s','r','e','v','e','r']) tN cE];kernel_rfl
def cB:PySem.Slot "reversed" "__iter__" "reversed.__iter__":=
 .of (owner:="reversed") (n:="__iter__") (by rw[UO,Oa];kernel_rfl) tH tH tH
  (by first|show .inl tH|show .inr tH) (by rw[Nq];kernel_rfl)
def pe(a:Value):argsOk "reversed.__iter__" {[a],[]}:=by unfold argsOk;rw[Fi (id:="reversed.__iter__") (n:=['_','_','r','e','t','i','_','_']) (o:=['d','e','s','r','e','v','e','r']) tN cE];kernel_rfl
def pd:entryFor table "reversed.__iter__"=some Builtin.«dict_keyiterator.__iter__»:=
 entryFor_alias (id':="dict_keyiterator.__iter__") tN (by first|rfl|decide +kernel|(unfold String.splitOn;simp +decide [String.splitOnAux])) tH tN
def o9:typeLookup (.type "tuple") "__reversed__"=pure none:=by rw[UO,Oa];kernel_rfl
def Zo8:isSubtype (.type "tuple") (.type "dict")=pure false:=by rw[Nq];kernel_rfl
def o8(l:Addr)(items:Array Value)(n:Nat)(dd:Option Addr)(sl:Array (Option Value)):
  Meets (Builtin.«reversed.__new__» {[.type "reversed",.ref l],[]}) (λ_ R s=>s.o.B l=some {cls:=.type "tuple",dict:=dd,data:=.seq items n,slots:=sl}/\¬(items.G:Int) >= 2^63/\
   ∀tk,R (.ok<|.ret<|.ref (~~~s)) {s with heap:=s.o.push {cls:=.type "reversed",data:=.fields #[.ref l,rawInt ((items.G:Int)-1)]},toks:=tk}):=
 .of_wp λprog w A R s h=>by
  let(hl,hf,h):=h;let hT:s.TypeIs ↑l "tuple":={_,hl,Z}
  let f0:=PySem.F.sub_reversed_self;let f1:=o9
  let f2:=Zo8;let f3:=fb.L
  unfold Builtin.«reversed.__new__»;show XY (TF (newClass_reversed _) ?_)
  try dsimp only
  show XY (TF (a:=()) (by first|rfl|kernel_rfl) ?_)
  show XY (TF (a:=()) (by first|rfl|kernel_rfl) ?_)
  try dsimp only
  show XY (Ki hT f1 ?_)
  try dsimp only
  show XY ?_
  wp_delta
  show XY (Kl (T:="tuple") (b:=false) hT f2 ?_);rw[if_neg tI];show XY (Ki hT f3 ?_);dsimp only;rw[if_pos tH];show Yh ?_;rw[if_neg tI];show XY (len_tuple {_,hl,Z,n,Z} S ?_);show XY (TF (a:=some (items.G:Int)) Z ?_);dsimp only;show XY ?_;unfold Builtin.SmallTypes.newRecord;show RY ?_ (by size_fits);show Yh {_,Z,h _}
def IsRv(h:Heap)(r l:Addr)(i:Int):(Prop):=∃o,h.B r=some o/\o.cls=.type "reversed"/\o.data=.fields #[.ref l,rawInt i]
def IsRv.ty{s:Shared}(x:IsRv s.o r l i):s.TypeIs ↑r "reversed":=by let(o,a,b,_):=x;exists o,a,b
def IsRv.keep(x:IsRv h r l i)(e:∀o,h.B r=some o->h'.B r=some o):IsRv h' r l i:=by let(o,a,b):=x;exists o,e _ a,b
section
variable{prog:Program}{w:World}{A:Around}{E:Ae}{s:Shared}
def Dv{Q:Ae}(hl:IsTup s.o l items)(hf:(items.G:Int)<2^63)
  (k:∀tk h',IsRv h' (~~~s) l ((items.G:Int)-1)->(∀b o,s.o.B b=some o->h'.B b=some o)->h'.objs.G=(~~~s)+1->Q (.ref (~~~s)) {s with heap:=h',toks:=tk}):
  wpAny (model prog w) A (call (.type "reversed") [.ref l]) Q E s:=by
 let((cls,dd,data,sl),ho,hc,n,hd):=id hl;simp only at hc hd;subst hc hd;show callType_new Zp8 tI (PySem.F.typeCall_reversed_1 _) (PySem.F.newCall_reversed_1 _) (λobj=>PySem.F.args_object_init_2 obj _) PySem.F.entry_reversed_new (o8 l items n dd sl) {ho,J,λtk=>?_};let e:=Yl s.o (o:={cls:=.type "reversed",data:=.fields #[.ref l,rawInt ((items.G:Int)-1)]}) rfl
 exists {_,e,Z},k tk _ {_,e,Z,Z} (λb o g=>Xf _ g)<|Qo ..
def o7{i:Nat}{x:Value}{Q:Option Value->Shared->Prop}(hr:IsRv s.o r l (i:Int))(hl:IsTup s.o l items)(hx:items[i]?=some x)(h63:(i:Int)<2^63)
  (hQ:∀h' tk,IsRv h' r l ((i:Int)-1)->Heap.SameBut r s.o h'->Q (some x) {s with heap:=h',toks:=tk}):wpAny (model prog w) A (pyNext<|.ref r) Q E s:=by
 let(o,ho,hc,hd):=id hr;let hi:i<items.G:=(e8.E hx).1
 unfold pyNext;show XY (Np<|Nv (name:=Str.ofString "__next__") hr.ty VP<|RW VP hr.ty cD ?_<|cC _);unfold Builtin.«reversed.__next__»;show XY (TF (a:=(Value.ref r,[])) Z ?_);dsimp only;show XY (NW ho hd (x:=.ref l) Z ?_);show XY (NW ho hd (x:=rawInt (i:Int)) Z ?_);change wpAny _ _ (if (i:Int)<0 then _ else _) _ _ s
 rw[if_neg J];show XY (Ki hl.typeIs fb.L ?_);rw[if_neg tG];show XY (wpAny_mkInt ?_);show XY (Np<|getItem_tuple (j:=i) hl J h63 (My.Si J S) hx ?_);dsimp only;show XY (NW ho hd (x:=rawInt (i:Int)) Z ?_);change wpAny _ _ (setField ↑r 1 (rawInt<|(i:Int)-1) >>= _) _ _ _
 show XY (Vl ho hd tG ?_);show Yh {x,Z,Yh<|hQ _ _ ⟨_,VS _ ho<|Ks<|Wh hd _,(Fp ..).l hc,?_⟩<|Rt ..};rw[Wh hd];simp
def Du{Q:Option Value->Shared->Prop}(hh:A.handled=none)(hr:IsRv s.o r l (-1))(hQ:∀h',Heap.ExtBut r s.o h'->Q none {s with heap:=h'}):wpAny (model prog w) A (pyNext<|.ref r) Q E s:=by
 let(o,ho,hc,hd):=id hr;unfold pyNext;show XY (Np<|Nv (name:=Str.ofString "__next__") hr.ty VP<|RW VP hr.ty cD ?_<|cC _);unfold Builtin.«reversed.__next__»;show XY (TF (a:=(Value.ref r,[])) Z ?_);dsimp only;show XY (NW ho hd (x:=.ref l) Z ?_);show XY (NW ho hd (x:=rawInt (-1)) Z ?_);change wpAny _ _ (if (-1:Int)<0 then _ else _) _ _ s
 rw[if_pos tI];show XY (Kb ?_);show XY ?_
 wp_delta
 show XY (Vl ho hd tG ?_);let Ug:=VS (Obj.mapFields λvs=>vs.setIfInBounds 1<|rawInt (-1)) ho (Ks<|Wh hd _)
 show Vl Ug (Wh hd _) tG ?_;show XY ?_;change wpAny _ _ (newExc (.type "StopIteration") [] >>= _) _ _ _
 show XY ?_;simp only[newExc,newTuple];show XY (RY ?_<|by size_fits);show XY (m:=firstArgMember _ _) (TF (a:=Value.none) (by first|rfl|(simp only[firstArgMember];rfl)) ?_)
 show RY ?_ (by size_fits);simp only[raiseNew];show XY (xM ?_);rw[show A.in1.handled=none from hh];show XY (Yh<|wpAny_throw ?_);show XY (Kl (T:="StopIteration") (b:=true) {_,Yl _ Z,Z} xQ ?_);show Yh (hQ _<|((((Rt ..).l (Rt ..)).extBut).push _).push _)
def cz{Q:Ae}(hr:IsRv s.o r l i)(h:Q ↑r s):wpAny (model prog w) A (pyIter ↑r) Q E s:=by
 show tX hr.ty cB (RW cB hr.ty pd ?_<|pe _);change wpAny _ _ (ret<|.ref r) _ _ s
 show Yh {_,Z,"reversed",_,hr.ty,VP.L,h}
end
end L2
namespace My
open PySem L2
def QT{o y:Int}(g:Zt n ps)(hT:Zn n ps ts)(ho:o∈ts)(hy:y∈ts):y∈Tn n ps ts o↔y=o:=by
 let yb:=hT.1.all y hy;rw[Ve g hT yb.1 yb.2];constructor
 .intro h;cases e:y=o
  .show e
  .show absurd (.edge<|Yq.H {y,Xm.H ⟨hy,e⟩,Z}) h
 .rintro rfl;show(Ja g hT hy yb.1 yb.2).E λi j hi hj=>(Lm λz=>?_).E (hT.2.2 i j hi hj);rw[Xx,Xm,XF];constructor
  .intro hz;cases e:z=y
   .show .inr e
   .show .inl ⟨hz,e⟩
  .rintro(q|q)
   .show q.1
   .rw[q];show hy
def VD:y∈SF n ps ts z l↔y∈l/\z∈Tn n ps ts y:=by unfold SF;rw[Yt,Qs];show Iff.rfl
def o6(g:Zt n ps)(hT:Zn n ps ts)(hx:exg n ps ts o z)(Wa:ms.Perm (wo ts o++[z]))(MF:ms.Q (·<=·)):Zn n ps ms:=by
 let(ho,hz,z0,z1,hc):=(wU g hT).E hx;let nd:(wo ts o++[z]).Nodup:=MK (hT.1.nodup.sublist List.filter_sublist) λh=>hz (Xm.E h).1
 let ndm:ms.Nodup:=Wa.nodup_iff.H nd;let hl:=cF hT.1.nodup ho
 let VL:=Wa.length_eq;rw[XB,Yo]at VL;show{XW.H {λy hy=>?_,(List.pairwise_and_iff.H ⟨MF,ndm⟩).imp λ{x y} h=>by have:=h.1;have:=h.2;lia},by rw[VL,hl];show hT.2.1,λi j hi hj=>(Lm λy=>Wa.mem_iff).H (hc i j hi hj)};rcases Xx.E (Wa.mem_iff.E hy) with h|h
 .show hT.1.all y (Xm.E h).1
 .rw[XF.E h];exists z0,z1
section
variable{n:Int}{ps:Aa}{ts ms:Ac}{o z:Int}(g:Zt n ps)(hT:Zn n ps ts)(hx:exg n ps ts o z)(Wa:ms.Perm (wo ts o++[z]))(MF:ms.Q (·<=·))
include g hT hx Wa MF
def wR{y:Int}:y∈ms↔(y∈ts/\y≠o)\/y=z:=by rw[Wa.mem_iff,Xx,Xm,XF]
end
def cx:∀{a b:Ac},a.f=b.f->HT.lexLt a b=true->∃p x y r s,a=p++x::r/\b=p++y::s/\x<y
 |[],[],_,h=>by cases h
 |[],_::_,e,_=>by simp at e
 |_::_,[],e,_=>by simp at e
 |x::xs,y::ys,e,h=>by
  rw[HT.Xn]at h;cases q:x=y
  .subst q;rw[if_pos Z]at h;let(p,u,v,r,s,e1,e2,e3):=cx (by simpa using e) h;exists x::p,u,v,r,s,by rw[e1];rfl,by rw[e2];rfl,e3
  .rw[if_neg q]at h;exists [],x,y,xs,ys,Z,Z,YH h
def IZ:∀{a b:Ac},HT.lexLt a b=false->HT.lexLt b a=false->a=b
 |[],[],_,_=>rfl
 |[],_::_,h,_=>by cases h
 |_::_,[],_,h=>by cases h
 |x::xs,y::ys,h1,h2=>by
  rw[HT.Xn]at h1 h2;cases q:x=y
  .subst q;rw[if_pos Z]at h1 h2;rw[IZ h1 h2]
  .rw[if_neg q]at h1;rw[if_neg λe=>q e.U]at h2
   have:=of_decide_eq_false h1
   have:=of_decide_eq_false h2
   lia
def cu:∀{a b c:Ac},HT.lexLt a b=true->HT.lexLt b c=true->HT.lexLt a c=true
 |[],[],_,h,_=>by cases h
 |[],_::_,[],_,h=>by cases h
 |[],_::_,_::_,_,_=>rfl
 |_::_,[],_,h,_=>by cases h
 |_::_,_::_,[],_,h=>by cases h
 |x::xs,y::ys,z::zs,h1,h2=>by
  rw[HT.Xn]at h1 h2 ⊢;cases e1:x=y
  .subst e1;rw[if_pos Z]at h1;cases e2:x=z
   .subst e2;rw[if_pos Z]at h2 ⊢;show cu h1 h2
   .rw[if_neg e2]at h2 ⊢;show h2
  .rw[if_neg e1]at h1;let h1:=YH h1
   cases e2:y=z
   .subst e2;rw[if_neg e1];show YK h1
   .rw[if_neg e2]at h2;let h2:=YH h2
    rw[if_neg J];show YK S
def o5:∀a:Ac,HT.lexLt a a=false
 |[]=>rfl
 |x::xs=>by rw[HT.Xn,if_pos Z];show o5 xs
def RH(bt:Nat->Nat->Bool):∀j,argBest bt j<=j
 |0=>Ya _
 |j+1=>by
  unfold argBest;split
  .show Ya _
  .have:=RH bt j;lia
def Vd(H:Hp)(v:V)(l:Ac):(Prop):=∃a,v=.ref a/\H a=some (.tup<|IL l)
def Tj(s:Ac):(Int):=match s.getLast? with|none=>0|some x=>x+1
def Vc(m:Int)(s:Ac):(Ab):=(List.range (m-Tj s).j).C λ(i:Nat)=>s++[Tj s+(i:Int)]
def OX(m:Int):(Nat->Ab)
 |0=>[[]]
 |k+1=>(OX m k).flatMap (Vc m)
def o4(s:Ac)(x:Int):Tj (s++[x])=x+1:=by unfold Tj;rw[List.getLast?_append];rfl
def Wm{s l:Ac}:l∈Vc m s↔∃t,Tj s<=t/\t<m/\l=s++[t]:=by
 unfold Vc;rw[Yq];constructor
 .rintro⟨i,hi,rfl⟩
  have:=YL.E hi
  exists _,J,S,Z
 .rintro⟨t,h1,h2,rfl⟩;exists (t-Tj s).j,YL.H J,by rw[show Tj s+(((t-Tj s).j:Nat):Int)=t by lia]
def Ti{t:Int}:IsSet m (s++[t])↔IsSet m s/\Tj s<=t/\0<=t/\t<(m:Int):=by
 rw[XW,XW,Nu];let last:(∀a∈s,∀b∈[t],a<b)/\s.Q (·<·)->Tj s<=t\/t<0:=by
  rintro⟨h,_⟩;unfold Tj;cases e:s.getLast? with
  |none=>by_cases h0:0<=t;show .inl h0;show .inr J
  |some x=>have:=h x (uG e) t tG;show .inl (by change x+1<=t;lia)
 constructor
 .rintro⟨h1,h2,_,h3⟩;let ht:=h1 t tG
  exists {λz hz=>h1 z<|Yj _ hz,h2},?_,ht;rcases last ⟨h3,h2⟩ with h|h
  .show h
  .omega
 .rintro⟨⟨h1,h2⟩,h3,h4,h5⟩;exists λz hz=>?_,h2,Hf ..,λa ha b hb=>?_
  .rcases Xx.E hz with h|h
   .show h1 z h
   .rw[XF.E h];exists h4,h5
  .rw[XF.E hb];let key:∀{s:Ac}{a:Int},s.Q (·<·)->a∈s->a<Tj s:=by
    show λ{s}=>MI (P:=λs=>∀{a:Int},s.Q (·<·)->a∈s->a<Tj s) (λ{a} _ h=>by cases h) (λl x ih {a} hp h=>?_) s;rw[o4];rw[Nu]at hp;rcases Xx.E h with h|h
    .have:=hp.2.2 a h x tG;lia
    .rw[XF.E h];lia
   have:=key h2 ha
   lia
def VO{m:Nat}:∀{k:Nat}{l:Ac},l∈OX (m:Int) k↔l.f=k/\IsSet m l
 |0,l=>by
  change l∈[[]]↔_;rw[XF];constructor
  .rintro rfl;exists Z,λi z e=>by simp at e
  .rintro⟨h,_⟩;show Vy.E h
 |k+1,l=>by
  change l∈(OX (m:Int) k).flatMap (Vc m)↔_;rw[x6];constructor
  .rintro⟨s,hs,hl⟩;let(t,h1,h2,rfl):=Wm.E hl;let(e,hI):=VO.E hs;let n0:0<=Tj s:=by
    unfold Tj;cases q:s.getLast? with
    |none=>show PH 0
    |some x=>have:=(hI.all x<|uG q).1;change 0<=x+1;lia
   exists by rw[XB,e];rfl,Ti.H ⟨hI,h1,J,h2⟩
  .rintro⟨e,hI⟩;let XM:l≠[]:=λz=>by rw[z]at e;simp at e
   obtain⟨s,t,rfl⟩:∃s t,l=s++[t]:={l.dropLast,l.getLast XM,(uW XM).U};let(h1,h2,h3,h4):=Ti.E hI;exists s,VO.H {by rw[XB]at e;simpa using e,h1},Wm.mpr ⟨t,h2,h4,Z⟩
def o3(h:IsSet m s):(Vc (m:Int) s).f<=m:=by
 unfold Vc;rw[Xz,YO];let n0:0<=Tj s:=by
  unfold Tj;cases q:s.getLast? with
  |none=>show PH 0
  |some x=>have:=(h.all x<|uG q).1;change 0<=x+1;lia
 omega
def flat_len:∀L:Ab,(∀s∈L,IsSet m s)->(L.flatMap (Vc (m:Int))).f<=m*L.f
 |[],_=>Yk _
 |s::L,h=>by
  have:=flat_len L λx hx=>h x (Ye _ hx)
  have:=o3 (h s Yb)
  rw[ye,XB,Yv,Nat.mul_succ];lia
def Dt:∀{w t:Ac},t.Q (·<·)->w.Q (·<·)->(∀z∈t,z∈w)->t.Sublist w
 |[],[],_,_,_=>List.Sublist.slnil
 |[],x::t,_,_,h=>absurd (h x Yb) tG
 |y::w,[],_,_,_=>List.nil_sublist _
 |y::w,x::t,ht,hw,h=>by
  let(h1,h2):=Wd.E ht;let(h3,h4):=Wd.E hw;cases e:x=y
  .subst e;show List.Sublist.cons₂ _ (Dt h2 h4 λz hz=>?_);rcases Yg.E (h z<|Ye _ hz) with q|q
   .have:=h1 z hz;lia
   .show q
  .let hx:x∈w:=(Yg.E<|h x Yb).resolve_left e;show List.Sublist.cons _ (Dt ht h4 λz hz=>?_);rcases Yg.E (h z hz) with q|q
   .have:=h3 x hx
    rcases Yg.E hz with q2|q2
    .rw[q2];show hx
    .have:=h1 z q2;lia
   .show q
def NL(M:Ac)(es:List (Nat×Nat)):(Ac):=es.foldl (λm e=>pm m e.1 e.2) M
def Ds(M:Ac)(es:List (Nat×Nat))(e:Nat×Nat):NL M (es++[e])=pm (NL M es) e.1 e.2:=by unfold NL;rw[yf];rfl
def ZN6(M:Ac):∀es:List (Nat×Nat),(NL M es).f=M.f:=by
 intro es;unfold NL
 induction es generalizing M with
 |nil=>rfl
 |cons e l ih=>rw[xW,ih,DE]
def cq{i:Int}(h0:0<=i):Ws xs none (some i)=xs.X i.j:=by
 let e:HT.SM xs.f xs.f (some i)=min i.j xs.f:=by change(if i<0 then (i+xs⁻¹).j else min i.j xs.f)=_;rw[if_neg J]
 unfold Ws;rw[e,HT.Tu,tV,Nat.sub_zero];cases h:i.j<=xs.f
 .rw[Fo h]
 .rw[uo J,Vx<|Ya _,Vx S]
def Xh(m:Nat):(Ac):=(List.range m).C λ(i:Nat)=>(i:Int)
def XO{z:Int}:z∈Xh m↔0<=z/\z<(m:Int):=by
 unfold Xh;rw[Yq];constructor
 .rintro⟨i,hi,rfl⟩
  have:=YL.E hi
  lia
 .intro h;exists z.j,YL.H J,J
def ZB(m:Nat):(Xh m).f=m:=by unfold Xh;simp
def NK(m:Nat):(Xh m).Q (·<·):=by unfold Xh;rw[Sv];show Rp.imp λh=>S
def NJ(m:Nat):IsSet m (Xh m):=XW.H {λz hz=>XO.E hz,NK m}
def cn(m:Nat):Wb 0 (m:Int)=Xh m:=by unfold Wb Xh;rw[xO,Yf];show YQ λi _=>J
def Th(n:Int)(ps:Aa):(Prop):=∀i j,i<n.j->j<n.j->Conn (XT ps<|Xh ps.f) i j
end My
namespace L2
open PySem PySem.Spec PyProof.Rows
section
variable{prog:Program}{w:World}{A:Around}{E:Ae}{s:Shared}
def oZ{r:Addr}{a b c:Int}{t u v:Tok}{n:Nat}{Q:List Value->Shared->Prop}(hh:A.handled=none)(hr:IsRange s.o r a b c t u v)(hm:Builtin.Range.small a b c=true)(hn:Builtin.Range.rangeSize a b c=n)(hl:n<=2^24)
  (k:∀h' tk acc,(∀b o,s.o.B b=some o->h'.B b=some o)->ItemsOf (λi v=>∃t,v=.int (a+i*c) t) acc n->Q acc.toList {s with heap:=h',toks:=tk}):wpAny (model prog w) A (collect<|.ref r) Q E s:=by
 let Je:(s.o.push<|seqObj "list" #[] 0).B (~~~s)=some (seqObj "list" #[] 0):=Yl _ rfl;unfold collect;show XY (xS<|RU tT ?_);change wpAny _ A.in1 (do again (.builtin "list.__iadd__" {[<-newList [],.ref r],[]})) _ _ s
 show XY (Sr<|Yh ⟨xZ _ tH,RU entry_list_iadd' ?_⟩);change wpAny _ A.in1 (Builtin.List.listExtendWith (.ref (~~~s)) ↑r<|.ref (~~~s)) _ _ {s with heap:=s.o.push (seqObj "list" #[] 0)}
 show Uq (wpAny_extend_range (A:=A) (R:=λx s'=>∃h' tk acc c',x=.ok (.ret<|.ref (~~~s))/\s'={s with heap:=h',toks:=tk}/\(∀b o,s.o.B b=some o->h'.B b=some o)/\
   h'.B (~~~s)=some {cls:=.type "list",dict:=none,data:=.seq acc c',slots:=#[]}/\ItemsOf (λi v=>∃t,v=.int (a+i*c) t) acc n)
  (s:={s with heap:=s.o.push (seqObj "list" #[] 0)}) hh (Xf _ hr) hm hn hl _ _ 0 Je λh' tk acc c' k1 k2 k3=>{h',tk,acc,c',Z,Z,λb o e=>k1 b o (YA<|Ys e)<|Xf _ e,k2,k3}) (λfin s' z=>?_) (λe s' z=>?_)
 .cases fin with
  |done f=>
   let(h',tk,acc,c',e,rfl,k1,k2,k3):=z;cases e;show XY (PD k2 ?_);show Yh (k h' tk acc k1 k3)
  |again c'=>
   exists z.1,LM z.2 λx s2 z=>?_;let(h',tk,acc,c',rfl,rfl,k1,k2,k3):=z;show XY (PD k2 ?_);show Yh (k h' tk acc k1 k3)
 .let⟨h',tk,acc,c',e,_⟩:=z;cases e
def ZX3{r:Addr}{a b c:Int}{t u v:Tok}{n:Nat}(hm:Builtin.Range.small a b c=true)(hn:Builtin.Range.rangeSize a b c=n)(hl:n<=2^24):
  Meets (Builtin.«tuple.__new__» {[.type "tuple",.ref r],[]}) (λA R s=>A.handled=none/\IsRange s.o r a b c t u v/\∀(h':Heap)(tk:Nat)(acc:Array Value),(∀b o,s.o.B b=some o->h'.B b=some o)->ItemsOf (λi v=>∃t,v=.int (a+i*c) t) acc n->
   R (.ok<|.ret<|.ref h'.objs.G) {s with heap:=h'.push<|seqObj "tuple" acc 0,toks:=tk}):=
 .of_wp λprog w A R s h=>by
  let(hh,hr,h):=h;let e1:=sub_tuple_self
  let e2:=init_tuple_lookup;let e3:=madeHere_tuple
  let hT:s.TypeIs ↑r "range":={_,hr,Z};let Dr:A.in1.handled=none:=hh
  wp_walk using PF hT,oZ Dr hr hm hn hl
  intro h' tk acc hk VQ;change wpAny _ _ (Builtin.Tuple.tupleExact acc.toList.m >>= ret) _ _ _
  unfold Builtin.Tuple.tupleExact;let e:acc.toList.m=acc:=tG
  rw[e];show XY (RY ?_<|by change acc.G<=sizeLine;rwa[VQ.1,TB]);show Yh {_,Z,h h' tk acc hk VQ}
def ZO2{r:Addr}{a b c:Int}{t u v:Tok}{n:Nat}{Q:Ae}(hh:A.handled=none)(hr:IsRange s.o r a b c t u v)(hm:Builtin.Range.small a b c=true)(hn:Builtin.Range.rangeSize a b c=n)(hl:n<=2^24)
  (k:∀(h':Heap)(tk:Nat)(acc:Array Value),(∀b o,s.o.B b=some o->h'.B b=some o)->ItemsOf (λi v=>∃t,v=.int (a+i*c) t) acc n->Q (.ref h'.objs.G) {s with heap:=h'.push<|seqObj "tuple" acc 0,toks:=tk}):wpAny (model prog w) A (call (.type "tuple") [.ref r]) Q E s:=
 callType_new F.called_tuple tI (F.typeCall_tuple_1 _) (F.newCall_tuple_1 _) (λo=>F.args_object_init_2 o _) F.entry_tuple_new (ZX3 (t:=t) (u:=u) (v:=v) hm hn hl)
  {hh,hr,λh' tk acc hk VQ=>{{_,Yl _ Z,Z},k h' tk acc hk VQ}}
end
section
variable{X:Cx}
def Yz3(hc:X.calm=true):WB X (.type "tuple") (λxs H Q=>∃p lo hi,xs=[.ref p]/\H p=some (.rng lo hi)/\(-(2^62)<=lo/\lo<2^62/\-(2^62)<=hi/\hi<2^62)/\(hi-lo).j<=16777216/\
  ∀l,H l=none->Q ↑l (upd H l<|.tup<|(Wb lo hi).C V.int)):=by
 intro pins s σ H xs us Q I r h;let(p,lo,hi,rfl,hp,(b1,b2,b3,b4),hz,q):=h;let(u,rfl,ru):=TR r;let rfl:u=Value.ref p:=ru;let(t,u,v,e):=(show ObjOk X.prog X.w H s.o p (.rng lo hi) from I.hok p _ hp);let hn:Builtin.Range.rangeSize lo hi 1=(((hi-lo).j:Nat):Int):=by rw[rangeSize_one];split<;>grind
 show ZO2 (I.ok.hd hc) (t:=t) (u:=u) (v:=v) e (small_one b1 b2 b3 b4) hn hz λh' tk acc hk ha=>?_;let hl:acc.toList.f=(hi-lo).j:=by rw[YN];show ha.1
 let rv:Vals ((Wb lo hi).C V.int) acc.toList:=c6 (lo:=lo) hl λj w ew=>by let(t,e):=ha.2 j w (by simpa using ew);exists t,by rw[e,PJ]
 let I1:Inv X pins σ H {s with heap:=h',toks:=tk}:=I.kept (t':=tk) hk;let oY:((Wb lo hi).C V.int).f<=sizeLine:=by
  rw[Xz,c7]
  have:sizeLine=16777216:=TB
  lia
 let I2:Inv X pins σ (upd H h'.objs.G<|.tup<|(Wb lo hi).C V.int) {s with heap:=h'.push<|seqObj "tuple" acc.toList.m 0,toks:=tk}:=
  I1.laid (t':=tk) (λb o e=>Xf _ e) (Ya _) (show ObjOk X.prog X.w _ _ _ (.tup<|(Wb lo hi).C V.int) from{oY,acc.toList,rv,IsTup.new _ _})
 let ea:acc.toList.m=acc:=tG;rw[ea]at I2;exists .ref h'.objs.G,_,I2,Z,q _<|I1.hok.fresh<|Ya _
end
end L2
namespace My
open PySem L2
def QS(n:Nat)(ps:Aa)(G:Ac)(z:Int):(Ac):=if mk (WH n<|XT ps G) (Zo ps z).1=mk (WH n<|XT ps G) (Zo ps z).2 then G else G++[z]
def WR(n:Nat)(ps:Aa)(zs:Ac):(Ac):=zs.foldl (QS n ps) []
def Lk(n:Nat)(ps:Aa)(zs:Ac)(z:Int):WR n ps (zs++[z])=QS n ps (WR n ps zs) z:=by unfold WR;rw[yf];rfl
def wQ(n:Nat)(ps:Aa)(zs:Ac):∀ys,∃us,WR n ps (zs++ys)=WR n ps zs++us/\us.Sublist ys:=by
 show MI {[],tG} λys y ih=>?_;let(us,e,s):=ih;rw[<-YG,Lk,e];unfold QS;split
 .exists us,Z,s.l<|List.sublist_append_left _ _
 .exists us++[y],by rw[YG],s.append<|List.Sublist.refl _
def OW(n:Nat)(ps:Aa)(zs:Ac):(WR n ps zs).Sublist zs:=by let(us,e,s):=wQ n ps [] zs;rw[Uo]at e;rwa[e]
def Dq(h:∀z∈zs,0<=z/\z<ps⁻¹):∀z∈WR n ps zs,0<=z/\z<ps⁻¹:=λz hz=>h z ((OW n ps zs).subset hz)
def IY(g:Zt n ps)(h:∀z∈zs,0<=z/\z<ps⁻¹):InN n.j (XT ps (WR n.j ps zs)):=ZE g (Dq h)
def OV(g:Zt n ps):∀zs:Ac,(∀z∈zs,0<=z/\z<ps⁻¹)->cnt (WH n.j (XT ps (WR n.j ps zs)))+(WR n.j ps zs).f=n.j:=by
 show MI (λ_=>cO n.j) λzs z ih h=>?_;let h1:∀z∈zs,0<=z/\z<ps⁻¹:=λy hy=>h y (Yj _ hy)
 let ih:=ih h1;let(z0,z1):=h z (Yi _<|XF.H Z);let he:=TM (z:=z) g z0 z1
 let hl:=ZR n.j (XT ps<|WR n.j ps zs);rw[Lk];unfold QS;split
 .show ih
 .rename_i h;rw[Jc,Ls,XB,Yo]
  have:=pz (m:=WH n.j<|XT ps<|WR n.j ps zs) J J h
  lia
def Lj(g:Zt n ps)(h:∀z∈zs,0<=z/\z<ps⁻¹):(WR n.j ps zs).f<=14:=by
 have:=OV g zs h
 have:=g.2.1
 lia
def cm(g:Zt n ps):∀zs:Ac,(∀z∈zs,0<=z/\z<ps⁻¹)->∀{i j:Nat},Conn (XT ps zs) i j->Conn (XT ps (WR n.j ps zs)) i j:=by
 show MI (λ_ _ _ c=>c) λzs z IH h i j c=>?_;let h1:∀z∈zs,0<=z/\z<ps⁻¹:=λy hy=>h y (Yj _ hy)
 let(z0,z1):=h z (Yi _<|XF.H Z);let he:=TM (z:=z) g z0 z1
 let up:∀{a b:Nat},Conn (XT ps<|WR n.j ps zs) a b->Conn (XT ps<|WR n.j ps<|zs++[z]) a b:=λc=>by
  rw[Lk];unfold QS;split
  .show c
  .show c.mono (ZV λy hy=>Yj _ hy)
 let own:Conn (XT ps<|WR n.j ps<|zs++[z]) (Zo ps z).1 (Zo ps z).2:=by
  rw[Lk];unfold QS;split
  .rename_i e;show(ZU (IY g h1) he.1 he.2).E e
  .rw[Jc];show .edge (Yi _<|XF.H Z)
 induction c with
 |refl i=>show .refl i
 |symm _ ih=>show .symm ih
 |trans _ _ i1 i2=>show .trans i1 i2
 |@edge a b e=>
  rw[Jc]at e;rcases Xx.E e with e|e
  .show up (IH h1<|.edge e)
  .let e:=XF.E e;let ea:a=(Zo ps z).1:=XG Prod.fst e
   let eb:b=(Zo ps z).2:=XG Prod.snd e;rwa[ea,eb]
end My
namespace PyProof.Rows
open PySem
abbrev dK:Keyed:=(Value.none,Value.none)
section
variable{O:KeyOrd}{key:Keyed->O.α}{kd:SortKind}
def RK(O:KeyOrd)(key:Keyed->O.α)(x y:Keyed):(Prop):=O.kle (key x) (key y)
abbrev LoS:=Option (Array Keyed)×Array Keyed×Nat×Nat×Nat×Nat×Nat
abbrev HiS:=Option (Array Keyed)×Nat×Nat×Array Keyed×Nat×Nat×Nat
def Dp:(List (List Keyed)->Nat->List (Nat×Nat))
 |[],_=>[]
 |g::gs,o=>(o,g.f)::Dp gs (o+g.f)
structure PI(O:KeyOrd)(key:Keyed->O.α)(kd:SortKind)(a₀:Array Keyed)(st:SortSt)(IX:List (List Keyed))(rest:List Keyed):Prop where
 kind:kindOf st=kd
 fail:failedOf st=none
 perm:(arrOf st).Perm a₀
 arr:(arrOf st).toList=IX.D++rest
 srt:∀g∈IX,1<=g.f/\g.Q (RK O key)
 pend:(pendingOf st).toList.C (λp=>(p.1,p.2.1))=Dp IX 0
end
end PyProof.Rows
namespace L2
open PySem PySem.Spec PyProof.Rows
section
def sameBut(a:Addr)(h h':Heap):(Prop):=∀b o,b≠a->h.B b=some o->h'.B b=some o
end
end L2
namespace My
open PySem L2
abbrev ME(a b:Ac):Prop:=HT.lexLt a b=true
def cg:∀p a b,HT.lexLt (p++a) (p++b)=HT.lexLt a b
 |[],a,b=>rfl
 |x::p,a,b=>by rw[Ko,Ko,HT.Xn,if_pos Z,cg p]
def cf:∀{s t:Ac}(a b:Ac),s.f=t.f->HT.lexLt s t=true->HT.lexLt (s++a) (t++b)=true
 |[],[],a,b,_,h=>by cases h
 |[],_::_,a,b,e,_=>by simp at e
 |_::_,[],a,b,e,_=>by simp at e
 |x::s,y::t,a,b,e,h=>by
  rw[HT.Xn]at h;rw[Ko,Ko,HT.Xn];split
  .rename_i q;rw[if_pos q]at h;show cf a b (by simpa using e) h
  .rename_i q;rwa[if_neg q]at h
def oX(m:Int):∀k,∀l∈OX m k,l.f=k
 |0,l,h=>by rw[XF.E h];rfl
 |k+1,l,h=>by let(s,hs,hl):=x6.E h;let(t,_,_,rfl):=Wm.E hl;rw[XB,oX m k s hs];rfl
def Dn(m:Int):∀k,(OX m k).Q ME
 |0=>Hf ..
 |k+1=>by
  change((OX m k).flatMap (Vc m)).Q ME;rw[List.pairwise_flatMap];exists λs _=>?_,uS (λ{s t} hs ht UA=>?_)<|Dn m k
  .unfold Vc;rw[Sv];show Rp.imp λ{i j} Uw=>?_;change HT.lexLt _ _=true
   rw[cg,HT.Xn,if_neg J];show YK J
  .intro x hx y hy;let(u,_,_,rfl):=Wm.E hx;let(v,_,_,rfl):=Wm.E hy;show cf _ _ (by rw[oX m k s hs,oX m k t ht]) UA
def IW{α:Type}[DecidableEq α]:∀{l m:List α},l.Nodup->(∀x∈l,x∈m)->l.f<=m.f
 |[],m,_,_=>Yk _
 |x::l,m,h,hs=>by
  let(h1,h2):=Qp.E h;let hx:=hs x Yb
  have:=IW (l:=l) (m:=m.erase x) h2 λy hy=>(uE λ(e:y=x)=>h1<|e▸hy).H (hs y<|Ye _ hy)
  rw[yn hx]at this
  have:=Ro hx
  rw[Yv];lia
end My
namespace L2
open PySem PySem.Spec PyProof.Rows
def Dm(i j:Int):(Prop):=(-(10^200)<i/\i<10^200)/\(-(10^200)<j/\j<10^200)
def Dl(h1:-(10^200)<a)(h2:a<10^200):Builtin.Int.intBits a<=1000:=by let h:a.natAbs<10^200:=S;show PySem.intBits_le_iff.H (Nat.lt_trans h tI)
section
variable{X:Cx}
def oW:Wx X (binaryOp .Mult) (rI Dm λi j=>.int (i*j)):=JH λ_ _ _ _ _ _ _ hc q=>mul_int q (.of_bits (YE (Dl hc.1.1 hc.1.2) tI)<|YE (Dl hc.2.1 hc.2.2) tI)
end
end L2
namespace My
open PySem L2
def Dk(g:Zt n ps)(hT:Zn n ps T)(z0:0<=z)(z1:z<ps⁻¹):Conn (XT ps (SF n ps T z T)) (Zo ps z).1 (Zo ps z).2:=by
 let he:=TM (z:=z) g z0 z1;let key:∀D:Ac,(∀o∈D,o∈T/\z∉Tn n ps T o)->Conn (XT ps<|T.filter λy=>decide<|y∉D) (Zo ps z).1 (Zo ps z).2:=by
  intro D
  induction D with
  |nil=>
   intro _;let e:(T.filter λy=>decide<|y∉([]:Ac))=T:=uB.H λy _=>tG
   rw[e];show hT.2.2 _ _ he.1 he.2
  |cons o D ih=>
   intro hD;let c:=ih λy hy=>hD y (Ye _ hy)
   let(Li,xG):=hD o Yb;cases xy:o∈D
   .show c.mono (ZV λy hy=>?_);let(h1,h2):=Yt.E hy;let h2:=YH h2
    show Yt.H {h1,YK λh=>(Yg.E h).elim (λe=>h2<|e▸xy) h2}
   .show YC λRI=>?_;let Dj:∀y,y∈(T.filter λy=>decide<|y∉o::D)->y∈wo T o:=λy hy=>by
     let(h1,h2):=Yt.E hy;let h2:=YH h2
     show Xm.H {h1,λe=>h2<|by rw[e];show Yb}
    let c2:Conn (XT ps<|(T.filter λy=>decide<|y∉o::D)++[o]) (Zo ps z).1 (Zo ps z).2:=(Lm λy=>by
     rw[Xx,Yt,Yt,XF];simp only[Kq,Yg,not_or];constructor
     .rintro⟨h1,h2⟩;cases e:y=o
      .show .inr e
      .show .inl ⟨h1,e,h2⟩
     .rintro(⟨h1,_,h2⟩|e)
      .exists h1,h2
      .rw[e];exists Li,xy).E c
    let hall:∀y∈(T.filter λy=>decide<|y∉o::D),0<=y/\y<ps⁻¹:=λy hy=>hT.1.all y (Yt.E hy).1;let(o0,o1):=hT.1.all o Li;let Wu:InN n.j (XT ps<|T.filter λy=>decide<|y∉o::D):=ZE g hall
    let oV:InN n.j (XT ps<|(T.filter λy=>decide<|y∉o::D)++[o]):=ZE g λy hy=>by
     rcases Xx.E hy with h|h
     .show hall y h
     .rw[XF.E h];exists o0,o1
    let Gq:=TM (z:=o) g o0 o1;let hl:=ZR n.j (XT ps<|T.filter λy=>decide<|y∉o::D)
    let own:¬Conn (XT ps<|wo T o) (Zo ps o).1 (Zo ps o).2:=(Ve g hT o0 o1).E ((QT g hT Li Li).H Z);let cw:Conn (XT ps<|wo T o) (Zo ps z).1 (Zo ps z).2:=YC λh=>xG ((Ve g hT z0 z1).H h)
    let up:∀{i j:Nat},i<n.j->j<n.j->mk (WH n.j<|XT ps<|T.filter λy=>decide<|y∉o::D) i=mk (WH n.j<|XT ps<|T.filter λy=>decide<|y∉o::D) j->Conn (XT ps<|wo T o) i j:=λhi hj e=>((ZU Wu hi hj).E e).mono (ZV Dj);let m:=(ZU oV he.1 he.2).H c2
    rw[Jc,Ls,Pc J J]at m;rcases m with m|⟨m1,m2⟩
    .show RI ((ZU Wu he.1 he.2).E m)
    .rcases m1 with m1|m1<;>rcases m2 with m2|m2
     .show RI ((ZU Wu he.1 he.2).E (m1.l m2.U))
     .show own (((up he.1 Gq.1 m1).U.l cw).l (up he.2 Gq.2 m2))
     .show own (((up he.2 Gq.1 m2).U.l cw.U).l (up he.1 Gq.2 m1))
     .show RI ((ZU Wu he.1 he.2).E (m1.l m2.U))
 let c:=key (T.filter λy=>decide<|z∉Tn n ps T y) λo ho=>by let(h1,h2):=Yt.E ho;exists h1,YH h2
 show c.mono (ZV λy hy=>?_);let(h1,h2):=Yt.E hy;let h2:=YH h2
 show VD.H {h1,YC λh=>h2<|Yt.H {h1,YK h}}
def Di{a b:Ac}(ha:a.Q (·<·))(hb:b.Q (·<·))(h:∀z,z∈a↔z∈b):a=b:=
 (Dt ha hb λz hz=>(h z).E hz).eq_of_length (xX (Dt ha hb λz hz=>(h z).E hz).length_le (Dt hb ha λz hz=>(h z).H hz).length_le)
def b9{i:Int}(h0:0<=i):Ws xs (some i) none=xs.drop i.j:=by
 let e:HT.SM xs.f 0 (some i)=min i.j xs.f:=by change(if i<0 then (i+xs⁻¹).j else min i.j xs.f)=_;rw[if_neg J]
 unfold Ws;rw[e,HT.Tu,Vx (by rw[Qq];show Ya _)];cases h:i.j<=xs.f
 .rw[Fo h]
 .rw[uo J,Kt<|Ya _,Kt S]
def cutz{α:Type}(l:List α)(z:Int):(List α):=l.X z.j++l.drop (z.j+1)
def oU{z:Int}(h0:0<=z):Ws xs none (some z)++Ws xs (some (z+1)) none=cutz xs z:=by rw[cq h0,b9 J,show(z+1).j=z.j+1 by lia];rfl
def Dh{α:Type}(l:List α)(z:Int):(cutz l z).f<=l.f:=by unfold cutz;rw[XB,YB,Qq];grind
def dn(lo hi i:Int):(Int):=if i=hi then lo else if i<hi then i else i-1
def oS{n i:Nat}(h:i<n):(Xh n)[i]?=some (i:Int):=by unfold Xh;rw[Yr,PX h];rfl
def b8(i:Nat):Xh (i+1)=Xh i++[(i:Int)]:=by unfold Xh;rw[PM,Yp];rfl
end My
namespace L2
open PySem PySem.Spec PyProof.Rows
section
variable{X:Cx}
def oR(K:Ad):(R2):=λx y H Q=>∃k p xs i v,x=.ref p/\y=.int i/\My.SqK k K H p xs/\Wg xs i=some v/\Q v H
def oQ(K:Ad)(h:X.K=K:=by rfl):GD X (oR K):=by
 intro value slice pins s σ H x y v u Q I rx ry h1 hs;let(k,p,xs,i,z,e1,e2,hq,he,q):=h1;cases k with
 |false=>show Zj K h value slice pins s σ H x y v u Q I rx ry ⟨p,xs,i,z,e1,e2,hq,he,q⟩ hs
 |true=>show Zy K h value slice pins s σ H x y v u Q I rx ry ⟨p,xs,i,z,e1,e2,hq,he,q⟩ hs
end
def UH{N a b:St->Hp->Prop}{r:VK}{σ:St}{H:Hp}(h:N σ H):Ends.nx {nx:=N,rt:=r,bk:=a,ct:=b} σ H:=h
end L2
namespace My
def Dg{α:Type}{l:List α}(h:l.f=1):∃a,l=[a]:=by
 cases l with
 |nil=>cases h
 |cons a l=>cases l with
  |nil=>exists a,Z
  |cons b l=>simp at h
def Df{α:Type}{l:List α}(h:l.f=2):∃a b,l=[a,b]:=by
 cases l with
 |nil=>cases h
 |cons a l=>
  let(b,rfl):=Dg (Nm h);exists a,b,Z
def De{α:Type}{l:List α}(h:l.f=3):∃a b c,l=[a,b,c]:=by
 cases l with
 |nil=>cases h
 |cons a l=>
  let(b,c,rfl):=Df (Nm h);exists a,b,c,Z
def Dc{α:Type}{l:List α}(h:l.f=4):∃a b c d,l=[a,b,c,d]:=by
 cases l with
 |nil=>cases h
 |cons a l=>
  let(b,c,d,rfl):=De (Nm h);exists a,b,c,d,Z
end My
namespace My
open PySem L2
def oP(k:Nat)(v:V):(List.M k [v]).D=List.M k v:=by
 induction k with
 |zero=>rfl
 |succ k ih=>
  rw[Nt,YZ,ih];rfl
def PairsV.rep(h:PairV H v p)(k:Nat):PairsV H (List.M k v) (List.M k p):=by
 show{by rw[Yw,Yw],λi q e=>?_};rw[He]at e;split at e
 .rename_i hi;cases e;exists v,by rw[He,if_pos hi],h
 .cases e
def IV{l:Ac}{f:Int->Bool}{y:Int}(h:l[i]?=some y):(l.X (i+1)).filter f=(l.X i).filter f++(if f y=true then [y] else []):=by
 rw[YS,h,PU];congr 1;cases e:f y=true
 .rw[if_pos e];change List.filter _ [y]=_;rw[Wt,if_pos e];rfl
 .rw[if_neg e];change List.filter _ [y]=_;rw[Wt,if_neg e];rfl
def Conn.lift(h:∀e∈es,Conn fs e.1 e.2)(c:Conn es i j):Conn fs i j:=by
 induction c with
 |refl i=>show .refl i
 |edge e=>show h _ e
 |symm _ ih=>show ih.U
 |trans _ _ OU SE=>show OU.l SE
def bZ(g:Zt n ps)(hT:Zn n ps T)(hW:Zn n ps W)(hz:z∈T)(hzW:z∉W):∃y,exg n ps T z y/\exg n ps W y z:=by
 let(z0,z1):=hT.1.all z hz;show YC λRI=>?_;show(Ve g hT z0 z1).E ((QT g hT hz hz).H Z) ((Dk g hW z0 z1).lift λe he=>?_);unfold XT at he;let(y,hy,rfl):=Yq.E he;let(oO,hyc):=VD.E hy;let(y0,y1):=hW.1.all y oO;let bY:y≠z:=λe=>hzW (e▸oO)
 have:=(Ve (o:=z) g hT y0 y1)
 show YC λh=>RI {y,{hz,bY,this.H h},{oO,YY bY,hyc}}
def bX(g:Zt n ps)(hD:IsSet ps.f D)(hc:∀i j,i<n.j->j<n.j->Conn (XT ps D) i j):∃T,Zn n ps T/\∀y∈T,y∈D:=by
 let hs:=OW n.j ps D;let hall:=hD.all
 let hG:=IY g hall;let EW:∀i j,i<n.j->j<n.j->Conn (XT ps<|WR n.j ps D) i j:=λi j hi hj=>cm g D hall (hc i j hi hj)
 let h1:=(MG (by have:=g.1;lia) hG).H EW;let h2:=OV g D hall
 exists WR n.j ps D,{XW.H {λz hz=>hall z<|hs.subset hz,(XW.E hD).2.sublist hs},by have:=g.1;grind,EW},λy hy=>hs.subset hy
def oN(l:Ac):∃m:Ac,m.Perm l/\m.Q (·<=·):=by
 induction l with
 |nil=>exists [],.refl _,.nil
 |cons x l ih=>
  let(m,h1,h2):=ih;let key:∀m:Ac,m.Q (·<=·)->∃k:Ac,k.Perm (x::m)/\k.Q (·<=·):=by
   intro m
   induction m with
   |nil=>intro _;exists [x],.refl _,Hf _ _
   |cons y m SE=>
    intro hp;let(hy,hm):=Wd.E hp;cases Ua:x<=y
    .exists x::y::m,.refl _,Wd.H {λz hz=>?_,hp};rcases Yg.E hz with e|e
     .rw[e];show Ua
     .show GR Ua (hy z e)
    .let⟨k,k1,k2⟩:=SE hm;exists y::k,(k1.cons y).l (List.Perm.swap x y m),Wd.H {λz hz=>?_,k2};rcases Yg.E (k1.mem_iff.E hz) with e|e
     .rw[e];lia
     .show hy z e
  let(k,k1,k2):=key m h2;exists k,k1.l<|h1.cons x,k2
def oM(s:SameP M N):cnt M=cnt N:=by
 unfold cnt Vt;rw[<-s.1];show XG List.f (Ft λp hp=>?_);let hp:=YL.E hp
 rw[NX,XC,XC];constructor
 .intro h i hi e;show h i hi ((s.2 i p J hp).H e)
 .intro h i hi e;show h i hi ((s.2 i p J hp).E e)
def CZ(g:Zt n ps)(hU:Zn n ps U):∀V:Ac,V.Nodup->(∀z∈V,z∈U)->WR n.j ps V=V:=by
 show MI (λ_ _=>rfl) λV z ih hn hs=>?_;let RQ:=YM.E hn
 let hV:∀y∈V,y∈U:=λy hy=>hs y (Yj _ hy);let hz:z∈U:=hs z (Yi _<|XF.H Z)
 let hzV:z∉V:=λh=>RQ.2.2 z h z (XF.H Z) rfl;let(z0,z1):=hU.1.all z hz;let he:=TM (z:=z) g z0 z1
 rw[Lk,ih RQ.1 hV];unfold QS;rw[if_neg];intro e;let c:=(ZU (ZE g λy hy=>hU.1.all y<|hV y hy) he.1 he.2).E e
 show(Ve g hU z0 z1).E ((QT g hU hz hz).H Z) (c.mono<|ZV λy hy=>Xm.H {hV y hy,λe'=>hzV<|by rwa[<-e']})
def oK{as bs:Ac}(g:Zt n ps)(h:∀y∈as,0<=y/\y<ps⁻¹)(z0:0<=z)(z1:z<ps⁻¹)(hz:z∉WR n.j ps (as++z::bs)):Conn (XT ps (WR n.j ps as)) (Zo ps z).1 (Zo ps z).2:=by
 let(us,e,_):=wQ n.j ps (as++[z]) bs;rw[YG]at e;let e:WR n.j ps (as++z::bs)=WR n.j ps (as++[z])++us:=e
 rw[e,Lk]at hz;let he:=TM (z:=z) g z0 z1
 show(ZU (IY g h) he.1 he.2).E (YC λXM=>hz ?_);unfold QS;rw[if_neg XM];show Yj _ (Yi _<|XF.H Z)
def oJ{as bs:Ac}{y:Int}(h:y∈WR n ps as):y∈WR n ps (as++bs):=by let(us,e,_):=wQ n ps as bs;rw[e];show Yj _ h
def Fr(n:Nat)(ps:Aa)(l:Ac):(Bool):=decide (WR n ps l=l)
def TU(n:Nat)(ps:Aa)(k:Nat):(Ab):=(OX ps⁻¹ k).filter (Fr n ps)
def oI(g:Zt n ps):l∈TU n.j ps (n-1).j↔Zn n ps l:=by
 unfold TU;rw[Yt,VO];let g1:=g.1
 constructor
 .rintro⟨⟨h1,h2⟩,h3⟩;let e:WR n.j ps l=l:=YH h3
  let c:=OV g l h2.all;rw[e]at c;exists h2,J,(MG tL<|ZE g h2.all).E tL
 .intro h;exists {by have:=h.2.1;lia,h.1},YK<|CZ g h l h.1.nodup λz hz=>hz
def oH{f:Int->Int}{a b:Ac}(h:a.Perm b):(a.C f).sum=(b.C f).sum:=by
 induction h with
 |nil=>rfl
 |cons x _ ih=>rw[YD,YD,YV,YV,ih]
 |swap x y l=>rw[YD,YD,YD,YD,YV,YV,YV,YV];lia
 |trans _ _ i1 i2=>show i1.l i2
def MD(hT:Zn n ps T):T.Q (·<·):=(XW.E hT.1).2
def VZ{a:Ac}(h:a.Q (·<=·))(hn:a.Nodup):a.Q (·<·):=(h.and hn).imp λh=>by have:=h.1;have:=h.2;lia
def oG(g:Zt n ps):∀zs:Ac,(∀z∈zs,0<=z/\z<ps⁻¹)->(WR n.j ps zs).Nodup:=by
 show MI (λ_=>List.Q.nil) λzs z ih hb=>?_;let Pk:∀y∈zs,0<=y/\y<ps⁻¹:=λy hy=>hb y (Yj _ hy)
 let(z0,z1):=hb z (Yi _<|XF.H Z);let he:=TM (z:=z) g z0 z1
 rw[Lk];unfold QS;split
 .show ih Pk
 .next XM=>
  show YM.H {ih Pk,tG,λa ha b CY e=>?_};rw[XF.E CY]at e;subst e;show XM ((ZU (IY g Pk) he.1 he.2).H (.edge ?_));show Yq.H ⟨a,ha,Z⟩
def oF(g:Zt n ps)(hb:∀z∈zs,0<=z/\z<ps⁻¹)(hl:¬((WR n.j ps zs).f:Int)<n-1)(Wa:ms.Perm (WR n.j ps zs))(MF:ms.Q (·<=·)):Zn n ps ms:=by
 let g1:=g.1;let h2:=OV g zs hb
 let h3:=pf (M:=WH n.j<|XT ps<|WR n.j ps zs) (by rw[ZR];grind);let OT:=(MG tL<|IY g hb).E tL
 show{XW.H {λz hz=>hb z<|(OW _ _ _).subset (Wa.mem_iff.E hz),VZ MF<|Wa.nodup_iff.H<|oG g zs hb},by rw[Wa.length_eq];grind,λi j hi hj=>?_};show(Lm λy=>Wa.mem_iff).H (OT i j hi hj)
def CW{I os U:Ac}(g:Zt n ps)(hU:Zn n ps U)(hI:I.Nodup)(oE:∀z∈I,z∈U)(oB:∀z∈U,z∈I++os)(hb:∀z∈I++os,0<=z/\z<ps⁻¹):(WR n.j ps (I++os)).X I.f=I/\¬((WR n.j ps (I++os)).f:Int)<n-1:=by
 let g1:=g.1;let(us,e,_):=wQ n.j ps I os;rw[CZ g hU I hI oE]at e;show{by rw[e,List.take_left],?_};let OT:∀i j,i<n.j->j<n.j->Conn (XT ps<|WR n.j ps<|I++os) i j:=λi j hi hj=>cm g _ hb ((hU.2.2 i j hi hj).mono (ZV oB))
 let h1:=(MG J<|IY g hb).H OT;let h2:=OV g (I++os) hb
 grind
def wO{p r:Ac}{x:Int}(h:(p++x::r).Q (·<·)):(∀z∈p,z<x)/\∀z∈x::r,x<=z:=by
 let a:=Nu.E h;exists λz hz=>a.2.2 z hz x Yb,λz hz=>?_;rcases Yg.E hz with h|h
 .rw[h];show PH _
 .show GQ ((Wd.E a.2.1).1 z h)
def Zo7{I os U F:Ac}(g:Zt n ps)(hU:Zn n ps U)(oE:∀z∈I,z∈U)(oB:∀z∈U,z∈I++os)(hb:∀z∈I++os,0<=z/\z<ps⁻¹)(ho:os.Q (·<·))(hF:Zn n ps F)(hf:F.Perm (WR n.j ps (I++os)))(hIF:∀z∈I,z∈F):HT.lexLt U F=false:=by
 cases MC:HT.lexLt U F with
 |false=>rfl
 |true=>
  exfalso;let(p,x,y,r,s,eU,ef,Ua):=cx (by have:=hF.2.1;have:=hU.2.1;lia) MC
  let IU:x∈U:=by rw[eU];show Yi _ Yb
  let(x0,x1):=hU.1.all x IU;let aU:=wO (eU▸MD hU)
  let aF:=wO (ef▸MD hF);let oz:x∉F:=λh=>by
   rw[ef]at h;rcases Xx.E h with h|h
   .have:=aU.1 x h
    lia
   .have:=aF.2 x h
    lia
  let hxI:x∉I:=λh=>oz (hIF x h);let hxo:x∈os:=(Xx.E<|oB x IU).resolve_left hxI
  let(as,bs,eo):=yg hxo;let ao:=wO (eo▸ho)
  let Pk:∀z∈I++as,0<=z/\z<ps⁻¹:=λz hz=>hb z ((Xx.E hz).elim (λh=>Yj _ h) λh=>Yi _<|by rw[eo];show Yj _ h);let hxG:x∉WR n.j ps ((I++as)++x::bs):=by rw[YG,<-eo];show λh=>oz (hf.mem_iff.H h)
  let c:=oK g Pk x0 x1 hxG;show(Ve g hU x0 x1).E ((QT g hU IU IU).H Z) (c.mono<|ZV λz hz=>?_);let Gp:z∈F:=hf.mem_iff.H (by
   have:=oJ (bs:=x::bs) hz
   rwa[YG,<-eo]at this)
  let hzx:z≠x:=λe=>oz (e▸Gp);show Xm.H {?_,hzx};rcases Xx.E ((OW _ _ _).subset hz) with h|h
  .show oE z h
  .let h1:=ao.1 z h;rw[ef]at Gp;rcases Xx.E Gp with h|h
   .rw[eU];show Yj _ h
   .have:=aF.2 z h
    lia
def With(n:Int)(ps:Aa)(I O U:Ac):(Prop):=Zn n ps U/\(∀z∈I,z∈U)/\∀z∈O,z∉U
def With.sub{I O U os:Ac}(h:With n ps I O U)(ho:∀z,z∈os↔(0<=z/\z<ps⁻¹)/\z∉O):∀z∈U,z∈I++os:=λz hz=>Yi _ ((ho z).H {h.1.1.all z hz,λh2=>h.2.2 z h2 hz})
end My
namespace L2
open PySem PySem.Spec PyProof.Rows
def IT(K:Ad)(a:Addr)(m:Nat):(It):=
 {λi H=>i<m/\∃xs x,SqL K H a xs/\xs[m-1-i]?=some x,λi H x H'=>H'=H/\∀xs,SqL K H a xs->xs[m-1-i]?=some x,λi _=>i=m}
def CV(K:Ad)(a:Addr)(m:Nat):(It):=
 {λi H=>i<m/\m<2^62/\∃xs x,SqT K H a xs/\xs[m-1-i]?=some x,λi H x H'=>H'=H/\∀xs,SqT K H a xs->xs[m-1-i]?=some x,λi _=>i=m}
def Zf8{P:Program}{w:World}{K:Ad}{tg:Expr}(a it:Addr)(m:Nat):Turn P w K tg (IT K a m) [it] it (λi h=>h.IsRevIter it a ((m:Int)-1-(i:Int))) where
 mem:=tG
 obj:=λi h st b hb=>by
  let e:b=it:=by simpa using hb
  subst e;let(o,e,c,d):=st;exists o,e,λv z=>by rw[d]at z;cases z
 keep:=λi h h' st k=>st.at λo e=>k it tG o e
 item:=by
  intro X hP hw hK hc i pins s σ H E I hf st hg;subst hP hw hK;let(him,xs,x,hq,hx):=hg;let(XU,rv,p,hz):=I.list hq;let(u,hu,ru):=rv.get hx;let(f0,f1,f2,f3,f4,f5):=hf it tG;rw[show(m:Int)-1-(i:Int)=((m-1-i:Nat):Int) by grind]at st;show wpAny_pyNext_rev_item st p.isList (x:=u) (by simpa using hu) λh' VB sb=>?_;rw[show((m-1-i:Nat):Int)-1=(m:Int)-1-((i+1:Nat):Int) by grind]at VB;let I1:Inv X pins σ H {s with heap:=h'}:=I.turned (t':=s.toks) (λb o hb e=>(sb.2 b hb).l e) f0 f1 f3 f4 f5
  let(o,e,c,d):=id VB;exists u,Z,Px (s:={s with heap:=h'}) e c d tI {x,H,I1,ru,{Z,λys hy=>by rwa[I.list_inj hy hq]},VB,λb hb=>(hf b hb).1}
 done:=by intro X hP hw hK hc i pins s σ H E I hf st hg;subst hP hw hK;let rfl:i=m:=hg;rw[show(i:Int)-1-(i:Int)=-1 by lia]at st;let(f0,f1,f2,f3,f4,f5):=hf it tG;show wpAny_pyNext_rev_end (I.ok.hd hc) st λh' eb=>{Z,I.turned (t':=s.toks) (λb o hb e=>eb b o hb e) f0 f1 f3 f4 f5}
 self:=λ_ _ _ _ _ st h=>JY st h
def Ze8{P:Program}{w:World}{K:Ad}{tg:Expr}(a it:Addr)(m:Nat):Turn P w K tg (CV K a m) [it] it (λi h=>IsRv h it a ((m:Int)-1-(i:Int))) where
 mem:=tG
 obj:=λi h st b hb=>by
  let e:b=it:=by simpa using hb
  subst e;let(o,e,c,d):=st;exists o,e,λv z=>by rw[d]at z;cases z
 keep:=λi h h' st k=>st.keep λo e=>k it tG o e
 item:=by
  intro X hP hw hK hc i pins s σ H E I hf st hg;subst hP hw hK;let(him,hm62,xs,x,hq,hx):=hg;let(XU,rv,p,hz):=I.tuple hq;let(u,hu,ru):=rv.get hx;let(f0,f1,f2,f3,f4,f5):=hf it tG;rw[show(m:Int)-1-(i:Int)=((m-1-i:Nat):Int) by omega]at st;show o7 st p (x:=u) (by simpa using hu) S λh' tk VB sb=>?_;rw[show((m-1-i:Nat):Int)-1=(m:Int)-1-((i+1:Nat):Int) by omega]at VB;let I1:Inv X pins σ H {s with heap:=h',toks:=tk}:=I.turned (t':=tk) (λb o hb e=>(sb.2 b hb).l e) f0 f1 f3 f4 f5
  let(o,e,c,d):=id VB;exists u,Z,Px (s:={s with heap:=h',toks:=tk}) e c d tI {x,H,I1,ru,{Z,λys hy=>by rwa[I.tuple_inj hy hq]},VB,λb hb=>(hf b hb).1}
 done:=by intro X hP hw hK hc i pins s σ H E I hf st hg;subst hP hw hK;let rfl:i=m:=hg;rw[show(i:Int)-1-(i:Int)=-1 by omega]at st;let(f0,f1,f2,f3,f4,f5):=hf it tG;show Du (I.ok.hd hc) st λh' eb=>{Z,I.turned (t':=s.toks) (λb o hb e=>eb b o hb e) f0 f1 f3 f4 f5}
 self:=λ_ _ _ _ _ st h=>cz st h
def ou(K:Ad)(ta:TA):(TI):=λσ H R=>ta σ H λvs H1=>∃a,vs=[.ref a]/\((∃xs,SqL K H1 a xs/\R (IT K a xs.f) H1)\/∃xs,SqT K H1 a xs/\R (CV K a xs.f) H1)
section
variable{X:Cx}
def oq(K:Ad){p pos:Pos}(hg:Gl X "reversed")(hm:X.mg "reversed"=none)(ha:PA X [a] ta)(hs:starEach [a] X.R=[(false,eval a X.R)]:=by rfl)(hk:X.K=K:=by rfl):
  PI X tg (.Call (.Name "reversed" p) [a] [] pos) (ou K ta):=by
 subst hk;intro pins s σ H R I h;show Call_ (VG I hg hm Boot.«reversed»<|Ny (thn (ha pos pins s σ H _ I h) λus s1 XA=>?_) hs Z);let(vs,H1,I1,r1,q1):=XA;let(b,e,q):=q1;subst e;let(u,rfl,ru):=TR r1;let rfl:u=Value.ref b:=ru;rcases q with ⟨xs,hq,q⟩|⟨xs,hq,q⟩
 .let⟨XU,rv,pl,hz⟩:=I1.list hq;let el:XU.m.G=xs.f:=by rw[Yd,<-rv.f]
  show call_reversed_list pl.isList ?_;let hit:(s1.o.push<|revObj b<|(XU.m.G:Int)-1).IsRevIter (~~~s1) b ((XU.m.G:Int)-1):={_,Yl _ Z,Z,Z}
  show JY (s:={s1 with heap:=s1.o.push (revObj b<|(XU.m.G:Int)-1)}) hit ?_;exists (~~~s1),[(~~~s1)],_,_,H1,Z,I1.kept (t':=s1.toks) λb o e=>Xf _ e,Zf8 b _ xs.f,?_,λc hc=>?_,q
  .rw[el]at hit;change Heap.IsRevIter _ _ _ _
   rwa[show xs⁻¹-1-((0:Nat):Int)=xs⁻¹-1 by lia,el]
  .let e:c=(~~~s1):=by simpa using hc
   subst e;show I1.fpOk (Ya _) (I1.hok.fresh<|Ya _)
 .let⟨XU,rv,pl,hz⟩:=I1.tuple hq;let el:XU.m.G=xs.f:=by rw[Yd,<-rv.f]
  let IS:sizeLine=16777216:=TB;show Dv pl J λbW h1 hit Vc bV=>?_;show cz (s:={s1 with heap:=h1,toks:=bW}) hit ?_;exists (~~~s1),[(~~~s1)],_,_,H1,Z,I1.kept (t':=bW) Vc,Ze8 b _ xs.f,?_,λc hc=>?_,q
  .rw[el]at hit;change IsRv _ _ _ _
   rwa[show xs⁻¹-1-((0:Nat):Int)=xs⁻¹-1 by lia]
  .let e:c=(~~~s1):=by simpa using hc
   subst e;show I1.fpOk (Ya _) (I1.hok.fresh<|Ya _)
end
end L2
namespace My
open PySem L2
def TC(n:Int)(ps:Aa)(c:Nat):(Prop):=∃L:Ab,L.Nodup/\(∀l,l∈L↔Zn n ps l)/\L.f=c
def TC.uniq(h1:TC n ps c)(h2:TC n ps d):c=d:=by let(L,a1,a2,rfl):=h1;let(M,b1,b2,rfl):=h2;show((Vm a1 b1).H λl=>by rw[a2,b2]).length_eq
def OS:IsSet (m+1) (T++[(m:Int)])↔IsSet m T:=by
 constructor
 .intro h;let a:=XW.E h
  let b:=Nu.E a.2;show XW.H {λz hz=>?_,b.1};let c:=a.1 z (Yj _ hz)
  let d:=b.2.2 z hz m (XF.H Z);omega
 .show λh=>h.snoc
def oo(h:IsSet (m+1) T):IsSet m T\/∃T',T=T'++[(m:Int)]/\IsSet m T':=by
 let a:=XW.E h;cases hm:(m:Int)∈T
 .let⟨p,r,e⟩:=yg hm;let b:=wO (e▸a.2)
  cases r with
  |nil=>show .inr {p,e,OS.E<|e▸h}
  |cons y r=>
   let h1:=a.1 y (by rw[e];simp);let h2:=(Wd.E (Nu.E<|e▸a.2).2.1).1 y Yb
   omega
 .show .inl (XW.H {λz hz=>?_,a.2});let h1:=a.1 z hz
  let h2:z≠(m:Int):=λe=>hm (e▸hz);lia
def bU{es:List (Nat×Nat)}{a b i j:Nat}(c:Conn (es++[(a,b)]) i j):Conn (es++[(b,a)]) i j:=c.lift λe he=>by
 rcases Xx.E he with q|q
 .show .edge (Yj _ q)
 .rw[XF.E q];show .symm (.edge tG)
def PairsV.set(h:PairsV H xs ps)(i:Nat)(q:PairV H v p):PairsV H (xs.set i v) (ps.set i p):=by
 show{by rw[PL,PL];show h.1,λj x e=>?_};let hl:=h.1
 cases c:i=j
 .subst c;rw[Qr]at e;rw[if_pos Z]at e;cases Xp:i<ps.f
  .rw[if_pos Xp]at e;let rfl:=Yc e;exists v,by rw[Qr,if_pos Z,if_pos J],q
  .rw[if_neg Xp]at e;cases e
 .rw[Qr,if_neg c]at e;let(w,e1,r):=h.2 j x e;exists w,by rw[Qr,if_neg c];show e1,r
end My
namespace L2
open PySem PySem.Spec PyProof.Rows
def Gn(K:Ad)(a b:Addr):(It):=
 ⟨λi H=>∃xs ys x y,SqL K H a xs/\SqL K H b ys/\xs[i]?=some x/\ys[i]?=some y,λi H v H'=>∃T x y,H T=none/\v=.ref T/\H'=upd H T (.tup [x,y])/\(∀xs,SqL K H a xs->xs[i]?=some x)/\∀ys,SqL K H b ys->ys[i]?=some y,
  λi H=>∃xs ys,SqL K H a xs/\SqL K H b ys/\(xs.f<=i\/ys.f<=i)⟩
def om{P:Program}{w:World}{K:Ad}{elts:List Expr}{x1:Nat}{pos:Pos}(a b z TI TO i1 i2:Addr)(D:ZipApart z TI TO i1 i2 a b):
  Turn P w K (.Tuple elts x1 pos) (Gn K a b) [z,TI,TO,i1,i2] z (λi h=>IsZip h z TI TO .none/\IsPair h TI ↑i1 ↑i2/\(∃c d,IsPair h TO c d)/\h.IsListIter i1 a i/\h.IsListIter i2 b i) where
 mem:=tG
 obj:=λi h st c hc=>by
  let(hz,OR,(u,v,NI),(o1,e1,_,d1),(o2,e2,_,d2)):=st;let WO:c=z\/c=TI\/c=TO\/c=i1\/c=i2:=by simpa using hc
  rcases WO with rfl|rfl|rfl|rfl|rfl
  .exists _,hz,λv q=>by let q':Data.fields _=Data.cell v:=q;cases q'
  .exists _,OR,λv q=>by let q':Data.seq _ _=Data.cell v:=q;cases q'
  .exists _,NI,λv q=>by let q':Data.seq _ _=Data.cell v:=q;cases q'
  .exists o1,e1,λv q=>by rw[d1]at q;cases q
  .exists o2,e2,λv q=>by rw[d2]at q;cases q
 keep:=λi h h' st k=>by let(hz,OR,(u,v,NI),h1,h2):=st;exists k z tG _ hz,k TI tG _ OR,{u,v,k TO tG _ NI},h1.at λo e=>k i1 tG o e,h2.at λo e=>k i2 tG o e
 item:=by
  intro X hP hw hK hc i pins s σ H E I hf st hg;subst hP hw hK;let(xs,ys,x,y,hq,Lh,hx,hy):=hg;let(hz,OR,(u0,v0,NI),h1,h2):=st;let(XU,rv,p,_):=I.list hq;let(u,hu,ru):=rv.get hx;let(VE,wN,p2,_):=I.list Lh;let(v,hv,oj):=wN.get hy;let fz:=hf z tG
  let QR:=hf TO tG;let QQ:=hf i1 tG
  let QO:=hf i2 tG;let DN:H (~~~s)=none:=I.hok.fresh (Ya _)
  show wpAny_pyNext_zip_item D hz OR NI h1 h2 p.isList p2.isList (x:=u) (y:=v) (by simpa using hu) (by simpa using hv) λh' a1 a2 a3 a4 a5 hsz hk=>?_;let RL:∀b ob,s.o.B b=some ob->b≠(~~~s):=λb ob z=>YA (Ys z)
  let Tq:∀b ob,H b=some ob->b≠(~~~s):=λb ob z=>YA (I.hok.lt z);let Sm:∀c ob,H c=some ob->c≠z/\c≠TO/\c≠i1/\c≠i2:=λc ob q=>{λe=>(by rw[e,fz.1]at q;cases q),λe=>(by rw[e,QR.1]at q;cases q),λe=>(by rw[e,QQ.1]at q;cases q),λe=>(by rw[e,QO.1]at q;cases q)}
  let Lg:∀c o,c∉[z,TO,i1,i2]->s.o.B c=some o->h'.B c=some o:=λc o WE q=>hk c o (λe=>WE<|by simp[e]) (λe=>WE<|by simp[e]) (λe=>WE<|by simp[e]) (λe=>WE<|by simp[e]) q;let I1:Inv X pins σ (upd H (~~~s)<|.tup [x,y]) {s with heap:=h'}:=by
   show I.step (g':=s.gens) (d':=s.drawn) (t':=s.toks) (ch:=[z,TO,i1,i2]) (λc hb=>?_) (λc o _ _ WE q _=>Lg c o WE q) (λc o _ _ WE q _=>{o.slots,Lg c o WE q})
    (λc o _ q n=>by rwa[XR (RL c o q)]) (λc o WE q=>{o,Lg c o WE q}) (λc ys q=>by rwa[XR (Tq c _ q)]) (λc o v q=>by rwa[XR (Tq c _ q)])
    (λc ps q=>{#[],by rw[XR (Tq c _ q),q];simp}) (λm hm=>?_) (λc v' q=>?_) I.bare
   .let WO:c=z\/c=TO\/c=i1\/c=i2:=by simpa using hb
    rcases WO with rfl|rfl|rfl|rfl
    .exists fz.2.2.2.1,fz.2.1,fz.2.2.2.2.1,fz.2.2.2.2.2
    .exists QR.2.2.2.1,QR.2.1,QR.2.2.2.2.1,QR.2.2.2.2.2
    .exists QQ.2.2.2.1,QQ.2.1,QQ.2.2.2.2.1,QQ.2.2.2.2.2
    .exists QO.2.2.2.1,QO.2.1,QO.2.2.2.2.1,QO.2.2.2.2.2
   .let⟨o,es,ep,Ul,r⟩:=hm;exists o,es,ep,hk _ o (YY fz.2.1) (YY QR.2.1) (YY QQ.2.1) (YY QO.2.1) Ul,r
   .cases hb:c=(~~~s)
    .subst hb;rw[XS]at q;cases q;exists by change 2<=sizeLine;decide,[u,v],.cons ru<|.cons oj .nil,{_,a5,Z,_,Z}
    .rw[XR hb]at q;show(I.hok c v' q).stay (λe w' WO q'=>?_) (λe q=>by rwa[XR (Tq e _ q)]) λe ys q=>by rwa[XR (Tq e _ q)]
     rcases WO with rfl|WO
     .have:=Sm e _ q
      show hk e w' this.1 this.2.1 this.2.2.1 this.2.2.2 q'
     .have:=Sm e _ WO
      show hk e w' this.1 this.2.1 this.2.2.1 this.2.2.2 q'
  exists _,Z,wpAny_letOwnedTupleGo_zip a1 λh2 oY SO=>?_;let fT:z≠(~~~s):=RL z _ hz
  let I2:Inv X pins σ (upd H (~~~s)<|.tup [x,y]) {s with heap:=h2}:=Inv.turned (s:={s with heap:=h'}) (h':=h2) (t':=s.toks) (it:=z) I1 (λb o hb q=>SO.extBut b o hb q) (by rw[XR fT];show fz.1) fz.2.1 fz.2.2.2.1 fz.2.2.2.2.1 fz.2.2.2.2.2;show⟨.ref (~~~s),_,I2,Z,{_,x,y,DN,Z,Z,λys Ju=>by rw[I.list_inj Ju hq];show hx,λys Ju=>by rwa[I.list_inj Ju Lh]},
   {oY,SO.extBut _ _ D.TIz (Lg _ _ (by have:=D.TIz;have:=D.TITO;have:=D.TIi1;have:=D.TIi2;simp;exists D.TIz,D.TITO,D.TIi1,D.TIi2) OR),⟨u,v,SO.extBut _ _ D.TOz a2⟩,a3.at λo q=>SO.extBut i1 o D.i1z q,a4.at λo q=>SO.extBut i2 o D.i2z q},λc hc=>?_⟩
  let WO:c=z\/c=TI\/c=TO\/c=i1\/c=i2:=by simpa using hc
  let hn:=(hf c hc).1;rcases WO with rfl|rfl|rfl|rfl|rfl
  .rw[XR fT];show hn
  .rw[XR (RL _ _ OR)];show hn
  .rw[XR (RL _ _ NI)];show hn
  .let⟨o,eo,_⟩:=h1;rwa[XR (RL _ o eo)]
  .let⟨o,eo,_⟩:=h2;rwa[XR (RL _ o eo)]
 done:=by
  intro X hP hw hK hc i pins s σ H E I hf st hg;subst hP hw hK;let(xs,ys,hq,Lh,oh):=hg;let(hz,OR,(u0,v0,NI),h1,h2):=st;let(XU,rv,p,_):=I.list hq;let(VE,wN,p2,_):=I.list Lh;let l1:=rv.f
  let l2:=wN.f;let fz:=hf z tG
  let QR:=hf TO tG;let QQ:=hf i1 tG
  let QO:=hf i2 tG;show wpAny_pyNext_zip_end (I.ok.hd hc) D hz OR NI h1 h2 p.isList p2.isList (by
   rcases oh with e|e
   .show .inl (by simp;lia)
   .show .inr<|by simp;lia) λh' hk=>{Z,?_}
  let Lg:∀c o,c∉[z,TO,i1,i2]->s.o.B c=some o->h'.B c=some o:=λc o WE q=>hk c o (λe=>WE<|by simp[e]) (λe=>WE<|by simp[e]) (λe=>WE<|by simp[e]) (λe=>WE<|by simp[e]) q;let Sm:∀c ob,H c=some ob->c≠z/\c≠TO/\c≠i1/\c≠i2:=λc ob q=>{λe=>(by rw[e,fz.1]at q;cases q),λe=>(by rw[e,QR.1]at q;cases q),λe=>(by rw[e,QQ.1]at q;cases q),λe=>(by rw[e,QO.1]at q;cases q)}
  show I.step (g':=s.gens) (d':=s.drawn) (t':=s.toks) (ch:=[z,TO,i1,i2]) (λc hb=>?_) (λc o _ _ WE q _=>Lg c o WE q) (λc o _ _ WE q _=>{o.slots,Lg c o WE q})
   (λc o _ q n=>n) (λc o WE q=>{o,Lg c o WE q}) (λc ys q=>q) (λc o v q=>q)
   (λc ps q=>{#[],by rw[q];simp}) (λm hm=>?_) (λc v' q=>?_) I.bare
  .let WO:c=z\/c=TO\/c=i1\/c=i2:=by simpa using hb
   rcases WO with rfl|rfl|rfl|rfl
   .exists fz.2.2.2.1,fz.2.1,fz.2.2.2.2.1,fz.2.2.2.2.2
   .exists QR.2.2.2.1,QR.2.1,QR.2.2.2.2.1,QR.2.2.2.2.2
   .exists QQ.2.2.2.1,QQ.2.1,QQ.2.2.2.2.1,QQ.2.2.2.2.2
   .exists QO.2.2.2.1,QO.2.1,QO.2.2.2.2.1,QO.2.2.2.2.2
  .let⟨o,es,ep,Ul,r⟩:=hm;exists o,es,ep,hk _ o (YY fz.2.1) (YY QR.2.1) (YY QQ.2.1) (YY QO.2.1) Ul,r
  .show(I.hok c v' q).stay (λe w' WO q'=>?_) (λe q=>q) λe ys q=>q;rcases WO with rfl|WO
   .have:=Sm e _ q
    show hk e w' this.1 this.2.1 this.2.2.1 this.2.2.2 q'
   .have:=Sm e _ WO
    show hk e w' this.1 this.2.1 this.2.2.1 this.2.2.2 q'
 self:=λ_ _ _ _ _ st h=>wpAny_pyIter_zip st.1 h
def og(K:Ad)(ta:TA):(TI):=λσ H R=>ta σ H λvs H1=>∃a b,vs=[.ref a,.ref b]/\(∃xs ys,SqL K H1 a xs/\SqL K H1 b ys)/\R (Gn K a b) H1
section
variable{X:Cx}
def CU(K:Ad){elts:List Expr}{x1:Nat}{Uj:Pos}{e f:Expr}{ta:TA}{p pos:Pos}(hg:Gl X "zip")(hm:X.mg "zip"=none)(ha:PA X [e,f] ta)(hs:starEach [e,f] X.R=(false,eval e X.R)::starEach [f] X.R:=by rfl)(Wc:(backTo pos<|starEach [f] X.R).any (·.1)=false:=by rfl)(hk:X.K=K:=by rfl):
  PI X (.Tuple elts x1 Uj) (.Call (.Name "zip" p) [e,f] [] pos) (og K ta):=by
 subst hk;intro pins s σ H R I h;show Call_ (VG I hg hm Boot.«zip»<|Ny (thn (ha pos pins s σ H _ I h) λus s1 XA=>?_) hs Wc);let(vs,H1,I1,r1,q1):=XA;let(a,b,ev,(xs,ys,hq,Lh),q):=q1;subst ev;let(u,u',rfl,ru,ru'):=JE r1;let rfl:u=Value.ref a:=ru;let rfl:u'=Value.ref b:=ru';let(XU,rv,pl,_):=I1.list hq;let(VE,wN,bT,_):=I1.list Lh;let lt1:a<(~~~s1):=by let(_,_,e,_):=pl;show Ys e
 let n9:b<(~~~s1):=by let(_,_,e,_):=bT;show Ys e
 let D:ZipApart ((~~~s1)+4) ((~~~s1)+2) ((~~~s1)+3) (~~~s1) ((~~~s1)+1) a b:=by
  let key:∀n x y:Nat,x<n->y<n->ZipApart (n+4) (n+2) (n+3) n (n+1) x y:=λn x y h1 h2=>by constructor<;>(intro q;let q':(_:Nat)=_:=q;lia)
  show key _ _ _ lt1 n9
 show call_zip_2 pl.isList bT.isList λh' hz OR NI Gm Vs hsz hk=>?_;show wpAny_pyIter_zip (s:={s1 with heap:=h'}) hz ?_;exists (~~~s1)+4,[(~~~s1)+4,(~~~s1)+2,(~~~s1)+3,(~~~s1),(~~~s1)+1],_,_,H1,Z,I1.kept (t':=s1.toks) hk,om a b _ _ _ _ _ D,{hz,OR,{_,_,NI},Gm,Vs},λc hc=>?_,q;let hle:(~~~s1)<=c:=by
  let WO:c=(~~~s1)+4\/c=(~~~s1)+2\/c=(~~~s1)+3\/c=(~~~s1)\/c=(~~~s1)+1:=by simpa using hc
  rcases WO with e|e|e|e|e<;>rw[e]<;>first|show Ya _|show Nat.le_add_right _ _
 show I1.fpOk hle (I1.hok.fresh hle)
end
end L2
namespace My
open PySem L2
section
variable{K:Ad}{a b:Addr}{xs ys:List V}{g:TG}{tt:TT}{te:TE}{o:Nat}{fr:List Nat}{σ:St}{H:Hp}{Q:VK}
def n8(Pv:Nat->List V->Hp->Prop)(h0:Pv 0 [] H)(Ua:xs.f=ys.f)(hz:xs.f<sizeLine)(hl:∀i zs H,i<=xs.f->Pv i zs H->SqL K H a xs/\SqL K H b ys/\zs.f<=i)
  (hs:∀(i:Nat) x y zs H (p:Addr),H p=none->xs[i]?=some x->ys[i]?=some y->Pv i zs H->Jm Pv g tt te o fr σ i ↑p zs (upd H p<|.tup [x,y]))(hd:∀zs H,Pv xs.f zs H->∀p,H p=none->Q ↑p (upd H p<|.lst zs)):MP (Gn K a b) g tt te o fr σ H Q:=by
 exists λi m zs H=>m=xs.f-i/\i<=xs.f/\Pv i zs H,{xs.f,tG,Yk _,h0},?_;rintro i m zs H ⟨rfl,hi,p⟩;let(q,q2,hy):=hl i zs H hi p;cases Xp:i<xs.f
 .show .inr {{xs,ys,xs[i],ys[i]'(by lia),q,q2,by simp[Xp],XH S},J,λx H' ⟨T,u,v,hT,ex,eH,hu,hv⟩=>?_};subst ex eH;show hs i u v zs H T hT (hu xs q) (hv ys q2) p (λj zs H=>∃m',m'<xs.f-i/\m'=xs.f-j/\j<=xs.f/\Pv j zs H) λzs H p'=>{xs.f-(i+1),tL,Z,Xp,p'}
 .let e:i=xs.f:=J;subst e;show .inl {{xs,ys,q,q2,.inl<|Ya _},J,hd zs H p}
end
end My
namespace My
abbrev Mx:=Nat->Nat->Int
def sm:(Nat->(Nat->Int)->Int)
 |0,_=>0
 |n+1,f=>sm n f+f n
def ZA{f g:Nat->Int}:∀{n:Nat},(∀i,i<n->f i=g i)->sm n f=sm n g
 |0,_=>rfl
 |n+1,h=>by change sm n f+f n=sm n g+g n;rw[ZA λi hi=>h i J,h n J]
def IQ{f g:Nat->Int}:∀{n:Nat},sm n (λi=>f i+g i)=sm n f+sm n g
 |0=>rfl
 |n+1=>by change sm n (λi=>f i+g i)+(f n+g n)=sm n f+f n+(sm n g+g n);rw[IQ];lia
def Lf{c:Int}{f:Nat->Int}:∀{n:Nat},sm n (λi=>c*f i)=c*sm n f
 |0=>(UP c).U
 |n+1=>by change sm n (λi=>c*f i)+c*f n=c*(sm n f+f n);rw[Lf,Tw]
def TZ:∀{n:Nat},sm n (λ_=>0)=0
 |0=>rfl
 |n+1=>by change sm n (λ_=>0)+0=0;rw[TZ];rfl
def Le{f:Nat->Int}(h:∀i,i<n->f i=0):sm n f=0:=by rw[ZA h];show TZ
def CT{f:Nat->Int}:∀{n:Nat},sm (n+1) f=f 0+sm n (λi=>f (i+1))
 |0=>by change 0+f 0=f 0+0;lia
 |n+1=>by change sm (n+1) f+f (n+1)=f 0+(sm n (λi=>f<|i+1)+f (n+1));rw[CT];lia
def n6{f:Nat->Nat->Int}:∀{n:Nat},sm n (λi=>sm m (f i))=sm m (λj=>sm n λi=>f i j)
 |0=>TZ.U
 |n+1=>by change sm n (λi=>sm m<|f i)+sm m (f n)=sm m λj=>sm n (λi=>f i j)+f n j;rw[n6,IQ]
def sk(j k:Nat):(Nat):=if k<j then k else k+1
def mn(A:Mx)(j:Nat):(Mx):=λi k=>A (i+1) (sk j k)
def sg(j:Nat):(Int):=if j%2=0 then 1 else -1
def wM(j:Nat):sg (j+1)=- sg j:=by
 unfold sg;cases h:j%2=0
 .rw[if_pos h,if_neg S]
 .rw[if_neg h,if_pos J];rfl
def det:(Nat->Mx->Int)
 |0,_=>1
 |n+1,A=>sm (n+1) λj=>sg j*A 0 j*det n (mn A j)
def OQ{j k n:Nat}(h:k<n):sk j k<n+1:=by unfold sk;split<;>lia
def Zg:∀{n:Nat}{A B:Mx},(∀i j,i<n->j<n->A i j=B i j)->det n A=det n B
 |0,_,_,_=>rfl
 |n+1,A,B,h=>ZA λj hj=>by rw[h 0 j J hj,Zg (A:=mn A j) (B:=mn B j) λi k hi hk=>h (i+1) (sk j k) J (OQ hk)]
def IP:∀{n:Nat}{A B C:Mx}{c:Int}{i:Nat},i<n->(∀r j,r<n->j<n->r≠i->A r j=B r j/\A r j=C r j)->(∀j,j<n->A i j=c*B i j+C i j)->det n A=c*det n B+det n C
 |0,_,_,_,_,_,hi,_,_=>absurd hi (TH _)
 |n+1,A,B,C,c,i,hi,h1,h2=>by
  change sm (n+1) (λj=>sg j*A 0 j*det n (mn A j))=c*sm (n+1) (λj=>sg j*B 0 j*det n (mn B j))+sm (n+1) λj=>sg j*C 0 j*det n (mn C j);rw[<-Lf,<-IQ];show ZA λj hj=>?_;cases i with
  |zero=>
   let e1:det n (mn B j)=det n (mn A j):=Zg λr k hr hk=>(h1 (r+1) (sk j k) S (OQ hk) J).1.U;let e2:det n (mn C j)=det n (mn A j):=Zg λr k hr hk=>(h1 (r+1) (sk j k) J (OQ hk) J).2.U
   rw[e1,e2,h2 j hj];generalize det n (mn A j)=d;generalize sg j=s;rw[Tw,GO,<-SV s c,TX s c,SV c s,SV c]
  |succ i=>
   let e:=IP (n:=n) (A:=mn A j) (B:=mn B j) (C:=mn C j) (c:=c) (i:=i) J (λr k hr hk XM=>h1 (r+1) (sk j k) J (OQ hk) J) λk hk=>h2 (sk j k) (OQ hk);let e0:=h1 0 j J hj J
   rw[e,<-e0.1,<-e0.2];generalize det n (mn B j)=d;generalize det n (mn C j)=d';generalize sg j*A 0 j=s;rw[Tw,<-SV,<-SV,TX s c]
def n5(h:j<=k):mn (mn A j) k i l=mn (mn A (k+1)) j i l:=by
 change A (i+1+1) (sk j<|sk k l)=A (i+1+1) (sk (k+1)<|sk j l);show XG _ ?_;unfold sk;cases h1:l<j
 .rw[if_pos (show l<k by lia),if_pos h1,if_pos (show l<k+1 by lia)]
 .rw[if_neg h1];cases h2:l<k
  .rw[if_pos h2,if_neg h1,if_pos (show l+1<k+1 by lia)]
  .rw[if_neg h2,if_neg (show ¬l+1<j by lia),if_neg (show ¬l+1<k+1 by lia)]
def n4:∀{n:Nat}{A:Mx}{i:Nat},i+1<n->(∀j,j<n->A i j=A (i+1) j)->det n A=0
 |0,_,_,hi,_=>absurd hi (TH _)
 |n+1,A,i+1,hi,h=>Le λj hj=>by rw[n4 (A:=mn A j) (i:=i) J λk hk=>h (sk j k)<|OQ hk,UP]
 |1,_,0,hi,_=>absurd hi S
 |n+2,A,0,_,h=>by
  obtain⟨t,ht⟩:∃t:Nat->Nat->Int,t=λj k=>sg j*A 0 j*(sg k*A 1 (sk j k)*det n (mn (mn A j) k)):={_,Z};let e1:det (n+2) A=sm (n+2) λj=>sm (n+1) (t j):=ZA λj hj=>by rw[ht,Lf];rfl
  let e2:∀j k,j<=k->k<n+1->t (k+1) j=- t j k:=λj k hjk hk=>by
   rw[ht];change sg (k+1)*A 0 (k+1)*(sg j*A 1 (sk (k+1) j)*det n (mn (mn A<|k+1) j))=- (sg j*A 0 j*(sg k*A 1 (sk j k)*det n (mn (mn A j) k)))
   let f1:sk (k+1) j=j:=by unfold sk;rw[if_pos J]
   let f2:sk j k=k+1:=by unfold sk;rw[if_neg J]
   let f3:det n (mn (mn A<|k+1) j)=det n (mn (mn A j) k):=Zg λi l _ _=>(n5 hjk).U;rw[f1,f2,f3,wM,<-h j J,<-h (k+1) J];generalize det n (mn (mn A j) k)=d;generalize A 0 j=x;generalize A 0 (k+1)=y;generalize sg j=s;generalize sg k=u;simp only[xK,Int.neg_inj];simp only[TX,yd,SV]
  let e3:sm (n+2) (λj=>sm (n+1)<|t j)=sm (n+2) (λj=>sm (n+1) λk=>if k<j then t j k else 0)+sm (n+2) (λj=>sm (n+1) λk=>if k<j then 0 else t j k):=by rw[<-IQ];show ZA λj _=>?_;rw[<-IQ];show ZA λk _=>?_;split<;>lia
  let e4:sm (n+2) (λj=>sm (n+1) λk=>if k<j then t j k else 0)=sm (n+1) (λk=>sm (n+1) λj=>if k<=j then t (j+1) k else 0):=by
   rw[n6];show ZA λk _=>?_;rw[CT,if_neg J,RR];show ZA λj _=>?_;cases c:k<=j
   .rw[if_pos c,if_pos S]
   .rw[if_neg c,if_neg J]
  let e5:sm (n+2) (λj=>sm (n+1) λk=>if k<j then 0 else t j k)=sm (n+1) (λj=>sm (n+1) λk=>if j<=k then t j k else 0):=by
   change sm (n+1) (λj=>sm (n+1) λk=>if k<j then 0 else t j k)+sm (n+1) (λk=>if k<n+1 then 0 else t (n+1) k)=_;rw[Le (f:=λk=>if k<n+1 then 0 else t (n+1) k) λk hk=>if_pos hk,TV];show ZA λj _=>ZA λk _=>?_;cases c:j<=k
   .rw[if_pos c,if_neg J]
   .rw[if_neg c,if_pos J]
  rw[e1,e3,e4,e5,<-IQ];show Le λj hj=>?_;rw[<-IQ];show Le λk hk=>?_;cases c:j<=k
  .rw[if_pos c,if_pos c,e2 j k c hk];lia
  .rw[if_neg c,if_neg c];rfl
def put2(A:Mx)(i:Nat)(x y:Nat->Int):(Mx):=λr=>if r=i then x else if r=i+1 then y else A r
def CS{x x' y:Nat->Int}(hi:i+1<n):det n (put2 A i (λj=>x j+x' j) y)=det n (put2 A i x y)+det n (put2 A i x' y):=by
 have:=IP (n:=n) (A:=put2 A i (λj=>x j+x' j) y) (B:=put2 A i x y) (C:=put2 A i x' y) (c:=1) (i:=i) J (λr j _ _ XM=>by unfold put2;rw[if_neg XM,if_neg XM,if_neg XM];exists Z,Z) (λj _=>by unfold put2;rw[if_pos Z,if_pos Z,if_pos Z,UW])
 rw[this,UW]
def bS{x y y':Nat->Int}(hi:i+1<n):det n (put2 A i x λj=>y j+y' j)=det n (put2 A i x y)+det n (put2 A i x y'):=by
 let ne:¬i+1=i:=J
 have:=IP (n:=n) (A:=put2 A i x λj=>y j+y' j) (B:=put2 A i x y) (C:=put2 A i x y') (c:=1) (i:=i+1) J (λr j _ _ XM=>by unfold put2;rw[if_neg XM,if_neg XM,if_neg XM];exists Z,Z) (λj _=>by unfold put2;rw[if_neg ne,if_neg ne,if_neg ne,if_pos Z,if_pos Z,if_pos Z,UW])
 rw[this,UW]
def nZ{x:Nat->Int}(hi:i+1<n):det n (put2 A i x x)=0:=n4 hi λj _=>by unfold put2;rw[if_pos Z,if_neg J,if_pos Z]
def CQ{x y:Nat->Int}(hi:i+1<n):det n (put2 A i y x)=- det n (put2 A i x y):=by let h:=nZ (A:=A) (x:=λj=>x j+y j) hi;rw[CS hi,bS hi,bS hi,nZ hi,nZ hi]at h;lia
def CO:put2 A i (A i) (A (i+1))=A:=by
 funext r
 unfold put2;cases h:r=i
 .rw[if_pos h,h]
 .rw[if_neg h];cases h2:r=i+1
  .rw[if_pos h2,h2]
  .rw[if_neg h2]
def bR(hi:i+1<n):det n (put2 A i (A (i+1)) (A i))=- det n A:=by
 have:=CQ (A:=A) (x:=A i) (y:=A<|i+1) hi
 rwa[CO]at this
def wL:∀{d:Nat}{A:Mx},a+d+1<n->(∀j,j<n->A a j=A (a+d+1) j)->det n A=0
 |0,A,hn,h=>n4 hn h
 |d+1,A,hn,h=>by
  let e:=bR (n:=n) (A:=A) (i:=a+d+1) J;let z:det n (put2 A (a+d+1) (A<|a+d+1+1)<|A<|a+d+1)=0:=by show wL (a:=a) (d:=d) J λj hj=>?_;unfold put2;rw[if_neg J,if_neg J,if_pos Z];show h j hj
  lia
def rotN(k t i:Nat):(Nat):=if i<k then i else if i=k then k+t else if i<=k+t then i-1 else i
def Zq8(k i:Nat):rotN k 0 i=i:=by
 unfold rotN;cases h:i<k
 .rw[if_pos h]
 .rw[if_neg h];cases h2:i=k
  .rw[if_pos h2,h2];rfl
  .rw[if_neg h2,if_neg J]
def nY:∀{t:Nat}{A:Mx},k+t<n->det n (λi=>A (rotN k t i))=sg t*det n A
 |0,A,_=>by rw[show sg 0=1 from Z,UW];show Zg λi j _ _=>by rw[Zq8]
 |t+1,A,h=>by
  let e:=nY (n:=n) (k:=k) (t:=t) (A:=put2 A (k+t) (A<|k+t+1)<|A<|k+t) J;rw[bR J]at e;let f:det n (λi=>A<|rotN k (t+1) i)=det n (λi=>put2 A (k+t) (A<|k+t+1) (A<|k+t)<|rotN k t i):=Zg λi j _ _=>by
   show congrFun ?_ j;let r1:rotN k (t+1) i=if i<k then i else if i=k then k+(t+1) else if i<=k+(t+1) then i-1 else i:=rfl
   let r2:rotN k t i=if i<k then i else if i=k then k+t else if i<=k+t then i-1 else i:=rfl
   unfold put2;cases h1:i<k
   .rw[if_pos h1]at r1 r2;rw[r1,r2,if_neg J,if_neg J]
   .rw[if_neg h1]at r1 r2;cases h2:i=k
    .rw[if_pos h2]at r1 r2;rw[r1,r2,if_pos Z];rfl
    .rw[if_neg h2]at r1 r2;cases h3:i<=k+t
     .rw[if_pos J]at r1;rw[if_pos h3]at r2;rw[r1,r2,if_neg J,if_neg J]
     .rw[if_neg h3]at r2;cases h4:i=k+t+1
      .rw[if_pos J]at r1;rw[r1,r2,if_neg J,if_pos h4];show XG A J
      .rw[if_neg J]at r1;rw[r1,r2,if_neg J,if_neg h4]
  rw[f,e,wM,Int.mul_neg,xK]
def nX:∀{n:Nat}{A:Mx},(∀i,i<n+1->A i 0=0)->det (n+1) A=0
 |0,A,h=>by change 0+sg 0*A 0 0*1=0;rw[h 0 S,UP];rfl
 |n+1,A,h=>Le λj hj=>by
  cases j with
  |zero=>rw[h 0 J,UP,PK]
  |succ j=>
   rw[nX (A:=mn A<|j+1) λi hi=>?_,UP];change A (i+1) (sk (j+1) 0)=0
   rw[show sk (j+1) 0=0 from Z];show h (i+1) J
def Zc9(h:∀i,i<n->A (i+1) 0=0):det (n+1) A=A 0 0*det n (λi j=>A (i+1) (j+1)):=by
 change sm (n+1) (λj=>sg j*A 0 j*det n (mn A j))=_;rw[CT,Le λj hj=>?_]
 .rw[TV,show sg 0=1 from Z,UW];show XG (A 0 0 * ·) (Zg λi j _ _=>?_);rfl
 .cases n with
  |zero=>show absurd hj (TH _)
  |succ n=>
   rw[nX (A:=mn A<|j+1) λi hi=>?_,UP];show h i hi
def bQ{i:Nat}(hi:i<n)(h:∀j,j<n->A i j=0):det n A=0:=by
 have:=IP (A:=A) (B:=A) (C:=A) (c:=1) hi (λr j _ _ _=>⟨Z,Z⟩) (λj hj=>by rw[h j hj];rfl)
 lia
def bP{c:Int}:∀{n:Nat}{A:Mx},det n (λi j=>c*A i j)=c^n*det n A
 |0,_=>by change(1:Int)=c^0*1;rw[Kd];rfl
 |n+1,A=>by
  change sm (n+1) (λj=>sg j*(c*A 0 j)*det n (mn (λi j=>c*A i j) j))=c^(n+1)*sm (n+1) λj=>sg j*A 0 j*det n (mn A j);rw[<-Lf];show ZA λj _=>?_;let e:det n (mn (λi j=>c*A i j) j)=c^n*det n (mn A j):=bP (A:=mn A j)
  rw[e,Fj];generalize det n (mn A j)=d;generalize c^n=p;generalize sg j=s;generalize A 0 j=x;simp only[TX,yd,SV]
def offN(R:Mx):(Mx):=λi j=>R 0 0*R (i+1) (j+1)-R (i+1) 0*R 0 (j+1)
def WN(R:Mx)(k:Nat):(Mx):=λr j=>if r=0 then R 0 j else if r<=k then R 0 0*R r j-R r 0*R 0 j else R r j
def bO{m:Nat}:∀{k:Nat},k<m+1->det (m+1) (WN R k)=R 0 0^k*det (m+1) R
 |0,_=>by
  rw[Kd,UW];show Zg λi j _ _=>?_;unfold WN;cases h:i=0
  .rw[if_pos h,h]
  .rw[if_neg h,if_neg J]
 |k+1,hk=>by
  let ih:=bO (m:=m) (R:=R) (k:=k) J;obtain⟨C,hC⟩:∃C:Mx,C=λr j=>if r=k+1 then-R (k+1) 0*R 0 j else WN R k r j:={_,Z}
  obtain⟨B,hB⟩:∃B:Mx,B=λr j=>if r=k+1 then R 0 j else WN R k r j:={_,Z}
  obtain⟨sZ,hZ⟩:∃sZ:Mx,sZ=λr j=>if r=k+1 then 0 else WN R k r j:={_,Z}
  let hBz:det (m+1) B=0:=wL (n:=m+1) (a:=0) (d:=k) J λj hj=>by
   rw[hB];change(if 0=k+1 then _ else WN R k 0 j)=if 0+k+1=k+1 then _ else _
   rw[if_neg J,if_pos J];rfl
  let hZz:det (m+1) sZ=0:=bQ (i:=k+1) hk λj hj=>by rw[hZ];show if_pos rfl
  let hCz:det (m+1) C=0:=by
   have:=IP (A:=C) (B:=B) (C:=sZ) (c:=- R (k+1) 0) hk (λr j _ _ XM=>by
    rw[hC,hB,hZ];change(if r=k+1 then _ else WN R k r j)=(if r=k+1 then _ else WN R k r j)/\(if r=k+1 then _ else WN R k r j)=(if r=k+1 then _ else WN R k r j)
    rw[if_neg XM,if_neg XM,if_neg XM];exists Z,Z) (λj _=>by
    rw[hC,hB,hZ];change(if k+1=k+1 then _ else _)=_*(if k+1=k+1 then _ else _)+(if k+1=k+1 then _ else _)
    rw[if_pos Z,if_pos Z,if_pos Z,TV])
   rw[this,hBz,hZz,UP];rfl
  have:=IP (A:=WN R<|k+1) (B:=WN R k) (C:=C) (c:=R 0 0) hk (λr j _ _ XM=>by
   let e1:WN R (k+1) r j=WN R k r j:=by
    unfold WN;cases h0:r=0
    .rw[if_pos h0,if_pos h0]
    .rw[if_neg h0,if_neg h0];cases h1:r<=k
     .rw[if_pos h1,if_pos J]
     .rw[if_neg h1,if_neg J]
   exists e1,?_;rw[hC,e1];change _=if r=k+1 then _ else _
   rw[if_neg XM]) (λj _=>by
   let e1:WN R (k+1) (k+1) j=R 0 0*R (k+1) j-R (k+1) 0*R 0 j:=by unfold WN;rw[if_neg J,if_pos J]
   let e2:WN R k (k+1) j=R (k+1) j:=by unfold WN;rw[if_neg S,if_neg J]
   rw[e1,e2,hC];change _=_+(if k+1=k+1 then-R (k+1) 0*R 0 j else _)
   rw[if_pos Z,xK]
   rfl)
  rw[this,hCz,ih,TV,Fj];rw[<-SV,TX (R 0 0)]
def nW:R 0 0*det m (offN R)=R 0 0^m*det (m+1) R:=by
 rw[<-bO (k:=m) J,Zc9 λi hi=>?_]
 .let e0:WN R m 0 0=R 0 0:=if_pos rfl;rw[e0];show XG (R 0 0 * ·) (Zg λi j hi hj=>?_);unfold WN offN;rw[if_neg J,if_pos J]
 .unfold WN;rw[if_neg J,if_pos J,TX];lia
def ex(k:Nat)(r:Nat->Nat)(i:Nat):(Nat):=if i<k then i else k+r (i-k)
def RG(A:Mx)(k M:Nat)(R:Mx)(last:Int):(Prop):=last≠0/\∀m r c,(∀i,i<m+1->r i<M/\c i<M)->
 det (m+1) (λi j=>R (r i)<|c j)=det (k+m+1) (λi j=>A (ex k r i)<|ex k c j)*last^m
def Zm9(A:Mx)(n:Nat):RG A 0 n A 1:={tI,λm r c _=>by rw[Int.one_pow,PJ,SU];show Zg λi j _ _=>?_;unfold ex;rw[if_neg (TH _),if_neg<|TH _,SU,SU,Nat.sub_zero,Nat.sub_zero]}
def OO{p:Int}(h:p≠0):∀n:Nat,p^n≠0
 |0=>by rw[Kd];decide
 |n+1=>by rw[Fj];show Int.mul_ne_zero (OO h n) h
def ON(r:Nat->Nat):(Nat->Nat)
 |0=>0
 |i+1=>r i+1
def CN(k:Nat)(r:Nat->Nat)(i:Nat):ex k (ON r) i=ex (k+1) r i:=by
 unfold ex;cases h:i<k
 .rw[if_pos h,if_pos J]
 .rw[if_neg h];cases h2:i=k
  .rw[if_pos J,h2,Vw];rfl
  .rw[if_neg J];obtain⟨d,rfl⟩:∃d,i=k+d+1:={i-k-1,tL};rw[show k+d+1-k=d+1 by lia,show k+d+1-(k+1)=d by lia];change k+(r d+1)=k+1+r d
   lia
def CM{k M:Nat}(h:RG A k (M+1) R last)(hp:R 0 0≠0){m:Nat}{r c:Nat->Nat}(hb:∀i,i<m+1->r i<M/\c i<M):
  det (m+1) (λi j=>offN R (r i)<|c j)=R 0 0^m*(last^(m+1)*det (k+1+m+1) λi j=>A (ex (k+1) r i)<|ex (k+1) c j):=by
 let e1:=nW (m:=m+1) (R:=λi j=>R (ON r i)<|ON c j);let e2:=h.2 (m+1) (ON r) (ON c) λi hi=>by
  cases i with
  |zero=>exists Nat.succ_pos _,Nat.succ_pos _
  |succ i=>have:=hb i J;exists Nat.succ_lt_succ this.1,Nat.succ_lt_succ this.2
 let e3:det (m+1) (offN λi j=>R (ON r i)<|ON c j)=det (m+1) (λi j=>offN R (r i)<|c j):=rfl;let e4:det (k+(m+1)+1) (λi j=>A (ex k (ON r) i)<|ex k (ON c) j)=det (k+1+m+1) (λi j=>A (ex (k+1) r i)<|ex (k+1) c j):=by rw[show k+(m+1)+1=k+1+m+1 by lia];show Zg λi j _ _=>by rw[CN,CN]
 rw[e3]at e1;rw[e4]at e2;let e5:R (ON r 0) (ON c 0)=R 0 0:=rfl
 rw[e5,e2]at e1;generalize det (m+1) (λi j=>offN R (r i)<|c j)=x at *;generalize det (k+1+m+1) (λi j=>A (ex (k+1) r i)<|ex (k+1) c j)=y at *;rw[Fj]at e1;show uV hp ?_;rw[e1,TX y,TX<|R 0 0^m,SV]
def nV(A:Mx):det 1 A=A 0 0:=by change 0+sg 0*A 0 0*1=A 0 0;rw[show sg 0=1 from Z];lia
def nU{k M:Nat}(h:RG A k (M+1) R last)(hp:R 0 0≠0)(hi:i<M)(hj:j<M):
  offN R i j=last*det (k+2) (λa b=>A (ex (k+1) (λ_=>i) a)<|ex (k+1) (λ_=>j) b):=by
 have:=CM h hp (m:=0) (r:=λ_=>i) (c:=λ_=>j) λ_ _=>⟨hi,hj⟩
 rwa[nV,Kd,UW,Fj,Kd,UW]at this
def nT(h:RG A k (M+1) R last)(hp:R 0 0≠0)(hR:∀i j,i<M->j<M->R' i j=(offN R i j).fdiv last):RG A (k+1) M R' (R 0 0):=by
 exists hp,λm r c hb=>?_;let nS:∀i j,i<M->j<M->offN R i j=last*R' i j:=λi j hi hj=>by rw[hR i j hi hj,nU h hp hi hj,FG _ h.1]
 let e1:=CM h hp hb;let e2:det (m+1) (λi j=>offN R (r i)<|c j)=last^(m+1)*det (m+1) (λi j=>R' (r i)<|c j):=by rw[<-bP];show Zg λi j hi hj=>nS _ _ (hb i hi).1 (hb j hj).2
 rw[e2]at e1;show uV (OO h.1<|m+1) ?_;rw[e1];generalize det (k+1+m+1) (λi j=>A (ex (k+1) r i)<|ex (k+1) c j)=y;rw[yd,TX y]
def nR(h:RG A k M R last)(ht:t<M):RG (λi=>A (rotN k t i)) k M (λi=>R (rotN 0 t i)) last:=by
 exists h.1,λm r c hb=>?_;let e:=h.2 m (λi=>rotN 0 t<|r i) c λi hi=>⟨by
  have:=(hb i hi).1
  unfold rotN;rw[if_neg J];split
  .lia
  .split<;>lia,(hb i hi).2⟩
 rw[e];show XG (· * last^m) (Zg λi j _ _=>?_);show XG (λa=>A a<|ex k c j) ?_;unfold ex;cases hi:i<k
 .rw[if_pos hi,if_pos hi];unfold rotN;rw[if_pos hi]
 .rw[if_neg hi,if_neg hi];change k+rotN 0 t (r<|i-k)=rotN k t (k+r (i-k))
  generalize r (i-k)=a;let r1:rotN 0 t a=if a<0 then a else if a=0 then 0+t else if a<=0+t then a-1 else a:=rfl
  let r2:rotN k t (k+a)=if k+a<k then k+a else if k+a=k then k+t else if k+a<=k+t then k+a-1 else k+a:=rfl
  rw[if_neg J]at r1 r2;cases h1:a=0
  .rw[if_pos h1]at r1;rw[if_pos J]at r2;rw[r1,r2];lia
  .rw[if_neg h1]at r1;rw[if_neg J]at r2;cases h2:a<=t
   .rw[if_pos J]at r1;rw[if_pos J]at r2;rw[r1,r2];lia
   .rw[if_neg J]at r1;rw[if_neg J]at r2;rw[r1,r2]
def MB(k i:Nat):ex k (λi=>i) i=i:=by
 unfold ex;cases h:i<k
 .rw[if_pos h]
 .rw[if_neg h];change k+(i-k)=i
  grind
def nQ{k M:Nat}(h:RG A k (M+1) R last)(h0:∀i,i<M+1->R i 0=0):det (k+M+1) A=0:=by
 let e:=h.2 M (λi=>i) (λi=>i) λi hi=>⟨hi,hi⟩;rw[nX (A:=λi j=>R i j) h0]at e;let e2:det (k+M+1) (λi j=>A (ex k (λi=>i) i)<|ex k (λi=>i) j)=det (k+M+1) A:=Zg λi j _ _=>by rw[MB,MB]
 rw[e2]at e;rcases Int.mul_eq_zero.E e.U with z|z
 .show z
 .show absurd z (OO h.1 M)
def nP(h:RG A k 1 R last):R 0 0=det (k+1) A:=by
 let e:=h.2 0 (λi=>i) (λi=>i) λi hi=>⟨J,S⟩;rw[nV,Kd,PJ]at e;let e2:det (k+0+1) (λi j=>A (ex k (λi=>i) i)<|ex k (λi=>i) j)=det (k+1) A:=Zg λi j _ _=>by rw[MB,MB]
 rwa[e2]at e
end My
namespace L2
open PySem PySem.Spec PyProof.Rows
def nO(i j:Int):(Prop):=i.natAbs<2^9000/\j.natAbs<2^9000
def IM(i j:Int):(Prop):=j≠0/\j.natAbs<2^9000
def bN(h:a.natAbs<2^9000):Builtin.Int.intBits a<=9000:=PySem.intBits_le_iff.H h
section
variable{X:Cx}
def nN:Wx X (binaryOp .Mult) (rI nO λi j=>.int (i*j)):=JH λ_ _ _ _ _ _ _ hc q=>mul_int q (.of_bits (YE (bN hc.1) tI)<|YE (bN hc.2) tI)
def nM:Wx X (binaryOp .FloorDiv) (rI IM λi j=>.int (i.fdiv j)):=JH λ_ _ _ _ _ _ _ hc q=>floordiv_int hc.1 q (.inl<|PyProof.noPylong_of_log2<|(Nat.log2_lt (by have:=hc.1;lia)).H hc.2)
end
end L2
namespace My
def fnL(L:Ab):(Mx):=λi j=>(L.t i []).t j 0
def NH{l:Ac}{x:Int}(h:L[i]?=some l)(h2:l[j]?=some x):fnL L i j=x:=by
 let e:L.t i []=l:=by rw[Xl,h];rfl
 unfold fnL;rw[e,Xl,h2];rfl
def wK(B:Nat):(Nat->Nat)
 |0=>1
 |n+1=>(n+1)*(B*wK B n)
def CL{f:Nat->Int}{C:Nat}:∀{n:Nat},(∀i,i<n->(f i).natAbs<=C)->(sm n f).natAbs<=n*C
 |0,_=>by change(0:Int).natAbs<=0*C;rw[Nat.zero_mul];show Ya 0
 |n+1,h=>by
  let h1:=CL (n:=n) λi hi=>h i J;let h2:=h n J
  let h3:(sm n f+f n).natAbs<=(sm n f).natAbs+(f n).natAbs:=Int.natAbs_add_le ..;change(sm n f+f n).natAbs<=(n+1)*C
  rw[Nat.succ_mul];lia
def CK:∀{n:Nat}{A:Mx},(∀i j,i<n->j<n->(A i j).natAbs<=B)->(det n A).natAbs<=wK B n
 |0,_,_=>Ya 1
 |n+1,A,h=>by
  show CL λj hj=>?_;let e:(sg j).natAbs=1:=by unfold sg;split<;>rfl
  rw[Rm,Rm,e,Nat.one_mul];show Kg (h 0 j J hj) (CK λi k hi hk=>h (i+1) (sk j k) J<|OQ hk)
def CJ{b:Nat}:∀{n:Nat},n<=16->wK (2^b) n<=2^((b+4)*n)
 |0,_=>by change 1<=2^((b+4)*0);rw[Nat.mul_zero];show Ya 1
 |n+1,h=>by
  let ih:=CJ (b:=b) (n:=n) J;let e:2^((b+4)*(n+1))=16*(2^b*2^((b+4)*n)):=by rw[Nat.mul_succ,Nat.pow_add,Nat.pow_add,xP<|2^((b+4)*n),xP (2^b)<|2^4,Nat.mul_assoc]
  rw[e];change(n+1)*(2^b*wK (2^b) n)<=_
  show Kg h (Kg (Ya _) ih)
def Zb9(hn:n<=16)(h:∀i j,i<n->j<n->(A i j).natAbs<=2^400):(det n A).natAbs<2^9000:=by
 let h1:=CK h;let h2:=CJ (b:=400) hn
 let h3:2^((400+4)*n)<=2^(404*16):=Nk tI (Kg (Ya _) hn);let h4:2^(404*16)<2^9000:=Nat.pow_lt_pow_right tI tI
 show GZ (YE h1<|YE h2 h3) h4
def nL(h:RG A k M R last){i j:Nat}(hi:i<M)(hj:j<M):R i j=det (k+1) (λa b=>A (ex k (λ_=>i) a) (ex k (λ_=>j) b)):=by
 have:=h.2 0 (λ_=>i) (λ_=>j) λ_ _=>⟨hi,hj⟩
 rwa[nV,Kd,PJ]at this
def Zn9{k M n:Nat}(h:RG A k M R last)(hn:k+M=n)(hn16:n<=16)(hA:∀i j,i<n->j<n->(A i j).natAbs<=2^400){i j:Nat}(hi:i<M)(hj:j<M):(R i j).natAbs<2^9000:=by
 rw[nL h hi hj];show Zb9 J λa b ha hb=>hA _ _ ?_ ?_
 .let e:ex k (λ_=>i) a=if a<k then a else k+i:=rfl
  rw[e];split<;>lia
 .let e:ex k (λ_=>j) b=if b<k then b else k+j:=rfl
  rw[e];split<;>lia
def CI{L:Ab}{l:Ac}(h:L[t]?=some l)(i:Nat):(l::L.eraseIdx t)[i]?=L[rotN 0 t i]?:=by
 let ht:=(Xy.E h).1;let r:rotN 0 t i=if i<0 then i else if i=0 then 0+t else if i<=0+t then i-1 else i:=rfl
 rw[if_neg J]at r;cases i with
 |zero=>
  rw[if_pos Z,SU]at r;rw[r,h];rfl
 |succ i=>
  rw[if_neg J,SU]at r;rw[r,Ff,uL];cases c:i+1<=t
  .rw[if_pos c,if_pos J];rfl
  .rw[if_neg c,if_neg J]
def CH{l:Ac}(h:L[t]?=some l):fnL (l::L.eraseIdx t)=λi=>fnL L (rotN 0 t i):=by
 funext i j
 change((l::L.eraseIdx t).t i []).t j 0=(L.t (rotN 0 t i) []).t j 0;show XG (λr:Ac=>r.t j 0) ?_;rw[Xl,Xl,CI h]
def OM(y:Int)(p:Ac)(last:Int)(l:Ac):(Ac):=List.zipWith (λown other=>(y*own-l.headD 0*other).fdiv last) l.tail p
def bM(h:l.f=p.f+1):(OM y p last l).f=p.f:=by unfold OM;rw[Fx,List.length_tail];lia
def nK{L:Ab}{M:Nat}(hp:p.f=M)(hL:L.f=M)(hl:∀l∈L,l.f=M+1){i j:Nat}(hi:i<M)(hj:j<M):
  fnL (L.C<|OM y p last) i j=(offN (fnL<|(y::p)::L) i j).fdiv last:=by
 obtain⟨l,Ld⟩:∃l,L[i]?=some l:={_,XH J};let Lc:=hl l (Xr Ld)
 obtain⟨x,l',rfl⟩:∃x l',l=x::l':=by
  cases l with
  |nil=>cases Lc
  |cons x l'=>exists x,l',Z
 let Uk:l'.f=M:=by rw[Yv]at Lc;lia
 obtain⟨u,hu⟩:∃u,l'[j]?=some u:={_,XH J};obtain⟨v,hv⟩:∃v,p[j]?=some v:={_,XH J};let e1:fnL (L.C<|OM y p last) i j=(y*u-x*v).fdiv last:=NH (l:=OM y p last<|x::l') (by rw[Yr,Ld];rfl) (by
  change(List.zipWith _ l' p)[j]?=_;rw[Ha,hu,hv]
  rfl)
 let e2:fnL ((y::p)::L) 0 0=y:=rfl;let e3:fnL ((y::p)::L) (i+1) (j+1)=u:=NH (l:=x::l') Ld hu
 let e4:fnL ((y::p)::L) (i+1) 0=x:=NH (l:=x::l') Ld rfl;let e5:fnL ((y::p)::L) 0 (j+1)=v:=NH (l:=y::p) Z hv
 rw[e1];unfold offN;rw[e2,e3,e4,e5]
end My
namespace My
open PySem L2
def RowV(K:Ad)(H:Hp)(v:V)(l:Ac):(Prop):=∃r k,v=.ref r/\SqK k K H r (IL l)
def RowV.same(s:Same H H')(h:RowV K H v l):RowV K H' v l:=by let(r,k,e,h):=h;exists r,k,e,h.Y s
def LiV(d:Addr)(H:Hp)(v:V)(l:Ac):(Prop):=∃r,v=.ref r/\H r=some (.lst<|IL l)/\r≠d
def LiV.same(s:Same H H')(h:LiV d H v l):LiV d H' v l:=by let(r,e,h,n):=h;exists r,e,s _ _ h,n
def LiV.mut(h:LiV d H v l):LiV d (upd H d o) v l:=by let(r,e,h,n):=h;exists r,e,by rw[XR n];show h,n
def LiV.list(h:LiV d H v l):Xd H v l:=by let(r,e,h,_):=h;exists r,e,h
def Bears.erase{α:Type}[DecidableEq α]{R:V->α->Prop}{xs:List V}{l:List α}(h:Bears R xs l)(t:Nat):Bears R (xs.eraseIdx t) (l.eraseIdx t):=by
 let hl:=h.1;show{by rw[uD,uD,hl],λi a e=>?_};rw[uL]at e;rw[uL];split at e
 .next c=>rw[if_pos c];show h.2 _ _ e
 .next c=>rw[if_neg c];show h.2 _ _ e
def bL(x:Int)(l:Ac):Ws (IL (x::l)) (some 1) none=IL l:=by rw[b9 tI];rfl
def nJ(t:Nat):sg t*sg t=1:=by unfold sg;split<;>rfl
end My
namespace My
def nI{f:Nat->Nat->Int}:sm n (λi=>sm m λj=>f i j)=sm m (λj=>sm n λi=>f i j):=n6
def CG:∀{n:Nat}{A:Mx},det (n+1) A=sm (n+1) λi=>sg i*A i 0*det n (λr c=>A (sk i r) (c+1))
 |0,A=>rfl
 |n+1,A=>by
  let e1:det (n+2) A=sg 0*A 0 0*det (n+1) (mn A 0)+sm (n+1) λj=>sg (j+1)*A 0 (j+1)*det (n+1) (mn A<|j+1):=CT;let e2:sm (n+2) (λi=>sg i*A i 0*det (n+1) λr c=>A (sk i r)<|c+1)=sg 0*A 0 0*det (n+1) (λr c=>A (sk 0 r)<|c+1)+sm (n+1) λi=>sg (i+1)*A (i+1) 0*det (n+1) (λr c=>A (sk (i+1) r)<|c+1):=CT
  rw[e1,e2];let e3:det (n+1) (mn A 0)=det (n+1) (λr c=>A (sk 0 r)<|c+1):=Zg λr c _ _=>rfl
  rw[e3];show XG (λz:Int=>sg 0*A 0 0*det (n+1) (λr c=>A (sk 0 r)<|c+1)+z) ?_;obtain⟨D,hD⟩:∃D:Nat->Nat->Int,D=λi j=>det n (λr c=>A (sk i r+1)<|sk (j+1)<|c+1):={_,Z};let e4:∀j,j<n+1->det (n+1) (mn A<|j+1)=sm (n+1) λi=>sg i*A (i+1) 0*D i j:=λj _=>by rw[CG,hD];rfl
  let e5:∀i,i<n+1->det (n+1) (λr c=>A (sk (i+1) r)<|c+1)=sm (n+1) λj=>sg j*A 0 (j+1)*D i j:=λi hi=>by
   change sm (n+1) (λj=>sg j*A (sk (i+1) 0) (j+1)*det n (mn (λr c=>A (sk (i+1) r)<|c+1) j))=_;show ZA λj _=>?_;rw[hD];change sg j*A (sk (i+1) 0) (j+1)*det n (mn (λr c=>A (sk (i+1) r)<|c+1) j)=sg j*A 0 (j+1)*det n (λr c=>A (sk i r+1)<|sk (j+1)<|c+1)
   rw[show sk (i+1) 0=0 from Z];show XG (sg j*A 0 (j+1) * ·) (Zg λr c _ _=>?_);change A (sk (i+1)<|r+1) (sk j c+1)=A (sk i r+1) (sk (j+1)<|c+1)
   let f1:sk (i+1) (r+1)=sk i r+1:=by
    unfold sk;cases h:r<i
    .rw[if_pos h,if_pos J]
    .rw[if_neg h,if_neg J]
   let f2:sk j c+1=sk (j+1) (c+1):=by
    unfold sk;cases h:c<j
    .rw[if_pos h,if_pos J]
    .rw[if_neg h,if_neg J]
   rw[f1,f2]
  let e6:sm (n+1) (λj=>sg (j+1)*A 0 (j+1)*det (n+1) (mn A<|j+1))=sm (n+1) λj=>sm (n+1) λi=>sg (j+1)*A 0 (j+1)*(sg i*A (i+1) 0*D i j):=ZA λj hj=>by rw[e4 j hj,Lf]
  let e7:sm (n+1) (λi=>sg (i+1)*A (i+1) 0*det (n+1) λr c=>A (sk (i+1) r)<|c+1)=sm (n+1) λi=>sm (n+1) λj=>sg (i+1)*A (i+1) 0*(sg j*A 0 (j+1)*D i j):=ZA λi hi=>by rw[e5 i hi,Lf]
  rw[e6,e7,nI];show ZA λi _=>ZA λj _=>?_;rw[wM,wM];generalize D i j=d;generalize A 0 (j+1)=x;generalize A (i+1) 0=y;generalize sg i=s;generalize sg j=u;simp only[xK,Int.neg_inj];simp only[TX,yd,SV]
def OL:∀{n:Nat}{A:Mx},det n (λi j=>A j i)=det n A
 |0,_=>rfl
 |n+1,A=>by
  rw[CG (A:=A)];show ZA λj _=>?_;change sg j*A j 0*det n (λi k=>A (sk j k)<|i+1)=sg j*A j 0*det n (λr c=>A (sk j r)<|c+1)
  rw[<-OL (A:=λr c=>A (sk j r)<|c+1)]
def pr:(Nat->(Nat->Int)->Int)
 |0,_=>1
 |n+1,f=>pr n f*f n
def nH{n a b:Nat}(ha:a<n)(hb:b<n)(XM:a≠b)(h:∀j,j<n->A a j=A b j):det n A=0:=by
 rcases Nat.lt_or_gt_of_ne XM with c|c
 .obtain⟨d,rfl⟩:∃d,b=a+d+1:={b-a-1,tL};show wL hb h
 .obtain⟨d,rfl⟩:∃d,a=b+d+1:={a-b-1,tL};show wL ha λj hj=>(h j hj).U
def putr(A:Mx)(i:Nat)(x:Nat->Int):(Mx):=λr=>if r=i then x else A r
def bK{c:Int}{x y:Nat->Int}(hi:i<n):det n (putr A i λj=>c*x j+y j)=c*det n (putr A i x)+det n (putr A i y):=
 IP hi (λr j _ _ XM=>by unfold putr;rw[if_neg XM,if_neg XM,if_neg XM];exists Z,Z) (λj _=>by unfold putr;rw[if_pos Z,if_pos Z,if_pos Z])
def bJ:putr A i (A i)=A:=by
 funext r
 unfold putr;cases h:r=i
 .rw[if_pos h,h]
 .rw[if_neg h]
def bI{n a b:Nat}{c:Int}(ha:a<n)(hb:b<n)(XM:a≠b):det n (putr A a λj=>A a j+c*A b j)=det n A:=by
 let e:(λj=>A a j+c*A b j)=λj=>c*A b j+A a j:=by funext j;lia
 rw[e,bK ha,bJ,nH ha hb XM (A:=putr A a<|A b) λj _=>?_,UP,RR];unfold putr;rw[if_pos Z,if_neg (YY XM)]
def nG(a i:Nat):rotN 0 a (i+1)=sk a i:=by
 let r:rotN 0 a (i+1)=if i+1<0 then i+1 else if i+1=0 then 0+a else if i+1<=0+a then i+1-1 else i+1:=rfl
 rw[if_neg J,if_neg J]at r;rw[r];unfold sk;cases h:i<a
 .rw[if_pos h,if_pos J];lia
 .rw[if_neg h,if_neg J]
def bH{f:Nat->Int}{a:Nat}:∀{n:Nat},a<n->(∀j,j<n->j≠a->f j=0)->sm n f=f a
 |0,h,_=>absurd h (TH _)
 |n+1,h,h0=>by
  change sm n f+f n=f a;cases c:a=n
  .rw[Le λi hi=>h0 i tL J,c,RR]
  .rw[bH (n:=n) J λj hj XM=>h0 j J XM,h0 n J J,TV]
def CF(ha:a<n+1):det (n+1) (putr A a λj=>if j=a then 1 else 0)=det n (λi j=>A (sk a i) (sk a j)):=by
 let e:=nY (n:=n+1) (k:=0) (t:=a) (A:=putr A a λj=>if j=a then 1 else 0) J;let r0:rotN 0 a 0=a:=by change(if 0<0 then 0 else if 0=0 then 0+a else _)=a;rw[if_neg J,if_pos Z,SU]
 let top:det (n+1) (λi=>putr A a (λj=>if j=a then 1 else 0)<|rotN 0 a i)=sg a*det n (λi j=>A (sk a i)<|sk a j):=by
  change sm (n+1) (λj=>sg j*putr A a (λj=>if j=a then 1 else 0) (rotN 0 a 0) j*det n (mn (λi=>putr A a (λj=>if j=a then 1 else 0)<|rotN 0 a i) j))=_;rw[bH ha λj _ XM=>?_]
  .rw[r0];let e1:putr A a (λj=>if j=a then 1 else 0) a a=1:=by unfold putr;rw[if_pos Z,if_pos Z]
   rw[e1,PJ];show XG (sg a * ·) (Zg λi j _ _=>?_);change putr A a (λj=>if j=a then 1 else 0) (rotN 0 a<|i+1) (sk a j)=A (sk a i) (sk a j)
   rw[nG];unfold putr;rw[if_neg (by unfold sk;split<;>lia)]
  .rw[r0];let e1:putr A a (λj=>if j=a then 1 else 0) a j=0:=by unfold putr;rw[if_pos Z,if_neg XM]
   rw[e1,UP,PK]
 rw[top]at e;let h:=XG (sg a * ·) e
 simp only[<-SV]at h;rw[show sg a*sg a=1 by unfold sg;split<;>rfl,UW,UW]at h
 show h.U
def CD{w:Int}(ha:a<n+1):det (n+1) (λi j=>A i j+w*((if i=a then 1 else 0)*(if j=a then 1 else 0)))=det (n+1) A+w*det n (λi j=>A (sk a i) (sk a j)):=by
 let e:det (n+1) (λi j=>A i j+w*((if i=a then 1 else 0)*(if j=a then 1 else 0)))=det (n+1) (putr A a λj=>w*(λj=>if j=a then 1 else 0) j+A a j):=Zg λi j _ _=>by
  unfold putr;cases h:i=a
  .subst h;rw[if_pos Z,if_pos Z,UW];change A i j+w*(if j=i then 1 else 0)=w*(if j=i then 1 else 0)+A i j
   show Int.add_comm ..
  .rw[if_neg h,if_neg h,PK,UP,TV]
 rw[e,bK ha,bJ,CF ha];lia
def ind(u v i:Nat):(Int):=(if i=u then 1 else 0)-(if i=v then 1 else 0)
def Qg(A:Mx)(a b:Nat):(Mx):=λi j=>(A i j+(if i=b then A a j else 0))+(if j=b then A i a+(if i=b then A a a else 0) else 0)
def bG(ha:a<n)(hb:b<n)(XM:a≠b):det n (Qg A a b)=det n A:=by
 let e1:det n A=det n (putr A b λj=>A b j+1*A a j):=(bI hb ha<|YY XM).U;obtain⟨R,hR⟩:∃R:Mx,R=putr A b (λj=>A b j+1*A a j):={_,Z};let e2:det n R=det n (putr (λi j=>R j i) b λj=>(λi j=>R j i) b j+1*(λi j=>R j i) a j):=by rw[bI (A:=λi j=>R j i) hb ha (YY XM)];show OL.U
 rw[e1,<-hR,e2,<-OL (A:=putr (λi j=>R j i) b λj=>(λi j=>R j i) b j+1*(λi j=>R j i) a j)];show Zg λi j _ _=>?_;let rv:∀r c,R r c=A r c+(if r=b then A a c else 0):=λr c=>by
  rw[hR];unfold putr;cases h:r=b
  .rw[if_pos h,if_pos h,h];lia
  .rw[if_neg h,if_neg h];lia
 unfold Qg;change _=(putr (λi j=>R j i) b λj=>R j b+1*R j a) j i
 unfold putr;cases h:j=b
 .rw[if_pos h,if_pos h,rv,rv,h];cases h2:i=b
  .rw[if_pos h2,if_pos h2];lia
  .rw[if_neg h2,if_neg h2];lia
 .rw[if_neg h,if_neg h];change _=R i j
  rw[rv];lia
def nF{w:Int}(ha:a<n+1)(hb:b<n+1)(XM:a≠b):det (n+1) (λi j=>A i j+w*(ind a b i*ind a b j))=det (n+1) A+w*det n (λi j=>Qg A a b (sk a i) (sk a j)):=by
 let e1:=bG (A:=λi j=>A i j+w*(ind a b i*ind a b j)) ha hb XM;let e2:det (n+1) (Qg (λi j=>A i j+w*(ind a b i*ind a b j)) a b)=det (n+1) (λi j=>Qg A a b i j+w*((if i=a then 1 else 0)*(if j=a then 1 else 0))):=Zg λi j _ _=>by
  let na:¬a=b:=XM;let nb:¬b=a:=YY XM
  unfold Qg ind;cases hi:i=b
  .subst hi;cases hj:j=i
   .subst hj;simp[na,nb];lia
   .cases Qf:j=a
    .subst Qf;simp[na,nb,hj];lia
    .simp[na,nb,hj,Qf]
  .cases Vs:i=a
   .subst Vs;cases hj:j=b
    .subst hj;simp[na,nb];lia
    .cases Qf:j=i
     .subst Qf;simp[na,nb]
     .simp[na,nb,hj,Qf]
   .cases hj:j=b
    .subst hj;simp[na,nb,hi,Vs]
    .cases Qf:j=a
     .subst Qf;simp[na,nb,hi,Vs]
     .simp[na,nb,hi,Vs,hj,Qf]
 rw[<-e1,e2,CD ha,bG ha hb XM]
end My
namespace My
open PySem L2
abbrev Ed:=Nat×Nat×Int
def lapE:(List Ed->Mx)
 |[]=>λ_ _=>0
 |e::E=>λi j=>e.2.2*(ind e.1 e.2.1 i*ind e.1 e.2.1 j)+lapE E i j
def ZX(E:List Ed)(e:Ed)(i j:Nat):lapE (E++[e]) i j=lapE E i j+e.2.2*(ind e.1 e.2.1 i*ind e.1 e.2.1 j):=by
 induction E with
 |nil=>show _+0=0+_;lia
 |cons f E ih=>
  change _+lapE (E++[e]) i j=_+lapE E i j+_;rw[ih];lia
def UU(E:List Ed)(z:Int):(Nat×Nat):=((E.t z.j (0,0,0)).1,(E.t z.j (0,0,0)).2.1)
def Vb(E:List Ed):(Ac->Int)
 |[]=>1
 |z::T=>(E.t z.j (0,0,0)).2.2*Vb E T
def bF(E:List Ed)(AP T:Ac):Vb E (AP++T)=Vb E AP*Vb E T:=by
 induction AP with
 |nil=>show _=1*_;rw[UW];rfl
 |cons z AP ih=>show _*Vb E (AP++T)=_*_*_;rw[ih,SV]
def IsT(k:Nat)(E:List Ed)(T:Ac):(Prop):=IsSet E.f T/\T.f=k/\∀i j,i<k+1->j<k+1->Conn (T.C<|UU E) i j
def TW(k:Nat)(E:List Ed)(s:Int):(Prop):=∃L:Ab,L.Nodup/\(∀T,T∈L↔IsT k E T)/\(L.C<|Vb E).sum=s
def CC{E:List Ed}{e:Ed}{z:Int}(h0:0<=z)(h1:z<E⁻¹):(E++[e]).t z.j (0,0,0)=E.t z.j (0,0,0):=by rw[Xl,Xl,Yn J]
def nE(E:List Ed)(e:Ed):(E++[e]).t (E.f:Int).j (0,0,0)=e:=by rw[Xl,Yf,Ym<|Ya _,Vw];rfl
def IK{e:Ed}(h:IsSet E.f T):T.C (UU (E++[e]))=T.C (UU E):=YQ λz hz=>by
 have:=h.all z hz
 unfold UU;rw[CC this.1 this.2]
def MA{e:Ed}(h:∀z∈T,0<=z/\z<E⁻¹):Vb (E++[e]) T=Vb E T:=by
 induction T with
 |nil=>rfl
 |cons z T ih=>
  let hz:=h z Yb;change _*Vb (E++[e]) T=_*Vb E T
  rw[CC hz.1 hz.2,ih λy hy=>h y (Ye _ hy)]
def CB{e:Ed}(h:IsSet E.f T):IsT k (E++[e]) T↔IsT k E T:=by
 let h2:IsSet (E++[e]).f T:=by rw[XB];show h.up
 constructor
 .rintro⟨_,a,b⟩;exists h,a,by rwa[IK h]at b
 .rintro⟨_,a,b⟩;exists h2,a,by rwa[IK h]
def wJ{e:Ed}(h:IsSet E.f T):(T++[E⁻¹]).C (UU (E++[e]))=T.C (UU E)++[(e.1,e.2.1)]:=by
 rw[Yp,IK h];change _++[UU (E++[e]) E⁻¹]=_
 unfold UU;rw[nE]
def sh(a x:Nat):(Nat):=if x<a then x else x-1
def dl(a b x:Nat):(Nat):=if x=a then sh a b else sh a x
def OK(a y:Nat):sh a (sk a y)=y:=by
 unfold sk;cases h:y<a
 .rw[if_pos h];unfold sh;rw[if_pos h]
 .rw[if_neg h];unfold sh;rw[if_neg J];lia
def Lb(a y:Nat):sk a y≠a:=by unfold sk;split<;>lia
def Mz(h:x≠a):sk a (sh a x)=x:=by
 unfold sh;cases c:x<a
 .rw[if_pos c];unfold sk;rw[if_pos c]
 .rw[if_neg c];unfold sk;rw[if_neg J];lia
def Mw(a b y:Nat):dl a b (sk a y)=y:=by unfold dl;rw[if_neg (Lb a y),OK]
def IJ(hx:x≠a)(hy:y≠a)(h:sh a x=sh a y):x=y:=by
 have:=XG (sk a) h
 rwa[Mz hx,Mz hy]at this
def nB(XM:b≠a)(h:dl a b x=dl a b y):x=y\/(x=a/\y=b)\/(x=b/\y=a):=by
 unfold dl at h;cases hx:x=a
 .rw[if_pos hx]at h;cases hy:y=a
  .show .inl (hx.l hy.U)
  .rw[if_neg hy]at h;show .inr (.inl {hx,(IJ XM hy h).U})
 .rw[if_neg hx]at h;cases hy:y=a
  .rw[if_pos hy]at h;show .inr (.inr {IJ hx XM h,hy})
  .rw[if_neg hy]at h;show .inl (IJ hx hy h)
def nz(a b:Nat)(XM:b≠a):dl a b a=dl a b b:=by unfold dl;rw[if_pos Z,if_neg XM]
def ny{es:List (Nat×Nat)}{i j:Nat}(XM:b≠a)(c:Conn (es++[(a,b)]) i j):Conn (es.C λe=>(dl a b e.1,dl a b e.2)) (dl a b i) (dl a b j):=by
 induction c with
 |refl i=>show .refl _
 |edge q=>
  rcases Xx.E q with q|q
  .show .edge (Yq.H {_,q,Z})
  .let e:=XF.E q;injection e with e1 e2
   rw[e1,e2,nz a b XM];show .refl _
 |symm _ ih=>show .symm ih
 |trans _ _ a b=>show .trans a b
def nu{es:List (Nat×Nat)}{u v:Nat}(XM:b≠a)(c:Conn (es.C λe=>(dl a b e.1,dl a b e.2)) u v):∀i j,dl a b i=u->dl a b j=v->Conn (es++[(a,b)]) i j:=by
 let he:Conn (es++[(a,b)]) a b:=.edge tG;let same:∀i j,dl a b i=dl a b j->Conn (es++[(a,b)]) i j:=λi j e=>by
  rcases nB XM e with e|⟨e1,e2⟩|⟨e1,e2⟩
  .rw[e];show .refl _
  .rw[e1,e2];show he
  .rw[e1,e2];show he.U
 induction c with
 |refl u=>show λi j e1 e2=>same i j (e1.l e2.U)
 |edge q=>
  intro i j e1 e2;let((x,y),Ua,e):=Yq.E q;injection e with x1 x2
  show(same i x<|e1.l x1.U).l (.trans (.edge<|Yj _ Ua)<|same y j<|x2.l e2.U)
 |symm _ ih=>show λi j e1 e2=>(ih j i e2 e1).U
 |@trans x y z _ _ OU SE=>show λi j e1 e2=>(OU i (sk a y) e1<|Mw a b y).l (SE (sk a y) j (Mw a b y) e2)
def Mv{a b x k:Nat}(ha:a<k+1)(hb:b<k+2)(XM:b≠a)(hx:x<k+2):dl a b x<k+1:=by
 unfold dl sh;cases h:x=a
 .rw[if_pos h];split<;>lia
 .rw[if_neg h];split<;>lia
def bE{a b k:Nat}{es:List (Nat×Nat)}(ha:a<k+1)(hb:b<k+2)(XM:b≠a):(∀i j,i<k+2->j<k+2->Conn (es++[(a,b)]) i j)↔∀i j,i<k+1->j<k+1->Conn (es.C λe=>(dl a b e.1,dl a b e.2)) i j:=by
 constructor
 .intro c i j h1 h2
  have:=ny XM (c (sk a i) (sk a j) (OQ h1)<|OQ h2)
  rwa[Mw,Mw]at this
 .show λc i j h1 h2=>nu XM (c _ _ (Mv ha hb XM h1)<|Mv ha hb XM h2) i j Z rfl
def SD(a b:Nat)(E:List Ed):(List Ed):=E.C λe=>(dl a b e.1,dl a b e.2.1,e.2.2)
def CA{z:Int}(h0:0<=z)(h1:z<E⁻¹):(SD a b E).t z.j (0,0,0)=(dl a b (E.t z.j (0,0,0)).1,dl a b (E.t z.j (0,0,0)).2.1,(E.t z.j (0,0,0)).2.2):=by unfold SD;rw[Xl,Xl,Yr,XH S];rfl
def Cz(h:IsSet E.f T):T.C (UU (SD a b E))=(T.C (UU E)).C λe=>(dl a b e.1,dl a b e.2):=by
 rw[Rq];show YQ λz hz=>?_
 have:=h.all z hz
 unfold UU;rw[CA this.1 this.2];rfl
def nt(h:∀z∈T,0<=z/\z<E⁻¹):Vb (SD a b E) T=Vb E T:=by
 induction T with
 |nil=>rfl
 |cons z T ih=>
  let hz:=h z Yb;change _*Vb (SD a b E) T=_*Vb E T
  rw[CA hz.1 hz.2,ih λy hy=>h y (Ye _ hy)]
def La{e:Ed}(ha:a<k+1)(hb:b<k+2)(XM:b≠a)(he:(e.1=a/\e.2.1=b)\/(e.1=b/\e.2.1=a))(h:IsSet E.f T):IsT (k+1) (E++[e]) (T++[E⁻¹])↔IsT k (SD a b E) T:=by
 let hl:(SD a b E).f=E.f:=Xz ..;let hc:(∀i j,i<k+2->j<k+2->Conn ((T++[E⁻¹]).C (UU<|E++[e])) i j)↔∀i j,i<k+2->j<k+2->Conn (T.C (UU E)++[(a,b)]) i j:=by
  rw[wJ h];rcases he with ⟨e1,e2⟩|⟨e1,e2⟩
  .rw[e1,e2]
  .rw[e1,e2];exists λc i j x y=>bU<|c i j x y,λc i j x y=>bU<|c i j x y
 let h2:IsSet (E++[e]).f (T++[E⁻¹]):=by rw[XB];show h.snoc
 constructor
 .rintro⟨_,x,y⟩;exists hl▸h,?_,?_
  .rw[XB,Yo]at x;lia
  .rw[Cz h];show(bE ha hb XM).E (hc.E y)
 .rintro⟨_,x,y⟩;rw[Cz h]at y;exists h2,by rw[XB,Yo,x],hc.H<|(bE ha hb XM).H y
def nr{E:List Ed}{e:Ed}(hE:∀f∈E,f.1<k+1/\f.2.1<k+1)(he:e.1=e.2.1)(h:IsSet E.f T):¬IsT k (E++[e]) (T++[E⁻¹]):=by
 rintro⟨_,x,y⟩;rw[wJ h]at y;let OT:∀i j,i<k+1->j<k+1->Conn (T.C<|UU E) i j:=λi j hi hj=>(y i j hi hj).lift λf hf=>by
  rcases Xx.E hf with q|q
  .show .edge q
  .rw[XF.E q,he];show .refl _
 let Wu:InN (k+1) (T.C<|UU E):=λf hf=>by
  let(z,hz,rfl):=Yq.E hf
  have:=h.all z hz
  unfold UU;rw[Xl,XH J];show hE _ (RX _)
 let h2:=(MG J Wu).H OT;let h3:=wV _ Wu
 rw[Xz]at h3;rw[XB,Yo]at x;lia
def nq{e:Ed}(hE:∀f∈E,f.1<k+1/\f.2.1<k+1)(he:e.1=e.2.1)(h:TW k E s):TW k (E++[e]) s:=by
 let(L,a1,a2,a3):=h;exists L,a1,λT=>?_,?_
 .rw[a2];constructor
  .show λh=>(CB h.1).H h
  .intro h;let hs:=h.1
   rw[XB]at hs;rcases oo hs with c|⟨T',c,c2⟩
   .show(CB c).E h
   .show absurd (c▸h) (nr hE he c2)
 .rw[<-a3];show XG List.sum (YQ λT hT=>MA ((a2 T).E hT).1.all)
def nj(a b:Ac):(a++b).sum=a.sum+b.sum:=by
 induction a with
 |nil=>rw[Uo,List.sum_nil,RR]
 |cons x a ih=>rw[Ko,YV,YV,ih];lia
def Zi8(w:Int)(l:Ab)(f:Ac->Int):(l.C λT=>f T*w).sum=w*(l.C f).sum:=by
 induction l with
 |nil=>rw[Fl,Fl,List.sum_nil,UP]
 |cons x l ih=>rw[YD,YD,YV,YV,ih,Tw,TX]
def ni{e:Ed}(ha:a<k+1)(hb:b<k+2)(XM:b≠a)(he:(e.1=a/\e.2.1=b)\/(e.1=b/\e.2.1=a))(h1:TW (k+1) E s1)(h2:TW k (SD a b E) s2):TW (k+1) (E++[e]) (s1+e.2.2*s2):=by
 let(L,a1,a2,a3):=h1;let(M,b1,b2,b3):=h2;let hl:(SD a b E).f=E.f:=Xz ..
 exists L++M.C (·++[E⁻¹]),YM.H {a1,?_,λx hx y hy c=>?_},λT=>?_,?_
 .show uw _ (λx y h c=>h<|eN c) b1
 .let⟨z,hz,c2⟩:=Yq.E hy
  have:=((a2 x).E hx).1.all E⁻¹ (by rw[c,<-c2];simp)
  lia
 .rw[Xx,a2,Yq];constructor
  .rintro(h|⟨T',hT,rfl⟩)
   .show(CB h.1).H h
   .have:=(b2 T').E hT
    show(La ha hb XM he<|hl▸this.1).H this
  .intro h;let hs:=h.1
   rw[XB]at hs;rcases oo hs with c|⟨T',c,c2⟩
   .show .inl ((CB c).E h)
   .show .inr {T',(b2 T').H ((La ha hb XM he c2).E (c▸h)),c.U}
 .rw[Yp,nj,Rq];let e1:L.C (Vb<|E++[e])=L.C (Vb E):=YQ λT hT=>MA ((a2 T).E hT).1.all
  let e2:M.C (Vb (E++[e])∘(·++[E⁻¹]))=M.C λT=>Vb (SD a b E) T*e.2.2:=YQ λT hT=>by
   let hs:IsSet E.f T:=hl▸((b2 T).E hT).1;change Vb (E++[e]) (T++[E⁻¹])=_
   rw[bF,MA hs.all,nt hs.all];change _*(((E++[e]).t (E.f:Int).j (0,0,0)).2.2*1)=_
   rw[nE,PJ]
  rw[e1,e2,a3,Zi8,b3]
def KZ(XM:b≠a):ind (dl a b u) (dl a b v) i=ind u v (sk a i)+(if sk a i=b then ind u v a else 0):=by
 let key:∀x:Nat,((if i=dl a b x then 1 else 0:Int))=(if sk a i=x then 1 else 0)+(if sk a i=b then (if a=x then 1 else 0) else 0):=λx=>by
  unfold dl;cases hx:x=a
  .rw[if_pos hx,if_neg<|show ¬sk a i=x from hx▸Lb a i,RR];cases h:sk a i=b
   .rw[if_pos h,if_pos hx.U,if_pos];rw[<-h,OK]
   .rw[if_neg h,if_neg];intro e;show h (by rw[e,Mz XM])
  .rw[if_neg hx];let e2:(if sk a i=b then (if a=x then 1 else 0:Int) else 0)=0:=by rw[if_neg (YY hx)];split<;>rfl
   rw[e2,TV];cases h:sk a i=x
   .rw[if_pos h,if_pos];rw[<-h,OK]
   .rw[if_neg h,if_neg];intro e;show h (by rw[e,Mz hx])
 unfold ind;rw[key u,key v];cases h:sk a i=b
 .rw[if_pos h,if_pos h,if_pos h];lia
 .rw[if_neg h,if_neg h,if_neg h];lia
def bD(XM:b≠a)(i j:Nat):∀E:List Ed,lapE (SD a b E) i j=Qg (lapE E) a b (sk a i) (sk a j)
 |[]=>by
  change(0:Int)=_;unfold Qg lapE;cases h:sk a i=b
  .cases h2:sk a j=b
   .rw[if_pos h,if_pos h2];rfl
   .rw[if_pos h,if_neg h2];rfl
  .cases h2:sk a j=b
   .rw[if_neg h,if_pos h2];rfl
   .rw[if_neg h,if_neg h2];rfl
 |e::E=>by
  let ih:=bD XM i j E;change e.2.2*(ind (dl a b e.1) (dl a b e.2.1) i*ind (dl a b e.1) (dl a b e.2.1) j)+lapE (SD a b E) i j=_
  rw[ih,KZ XM,KZ XM];unfold Qg;change _=(e.2.2*(ind e.1 e.2.1 (sk a i)*ind e.1 e.2.1 (sk a j))+lapE E (sk a i) (sk a j)+(if sk a i=b then e.2.2*(ind e.1 e.2.1 a*ind e.1 e.2.1 (sk a j))+lapE E a (sk a j) else 0))+(if sk a j=b then (e.2.2*(ind e.1 e.2.1 (sk a i)*ind e.1 e.2.1 a)+lapE E (sk a i) a)+(if sk a i=b then e.2.2*(ind e.1 e.2.1 a*ind e.1 e.2.1 a)+lapE E a a else 0) else 0)
  generalize ind e.1 e.2.1 (sk a i)=x;generalize ind e.1 e.2.1 (sk a j)=y;generalize ind e.1 e.2.1 a=z;generalize e.2.2=w;cases h:sk a i=b
  .cases h2:sk a j=b
   .simp only[if_pos h,if_pos h2,Tw,GO];lia
   .simp only[if_pos h,if_neg h2,Tw,GO,TV,UP];lia
  .cases h2:sk a j=b
   .simp only[if_neg h,if_pos h2,Tw,GO,TV,PK];lia
   .simp only[if_neg h,if_neg h2,TV]
def bC(u v i:Nat):ind v u i=- ind u v i:=by unfold ind;lia
def nh{e:Ed}(ha:a<k+1)(hb:b<k+2)(XM:b≠a)(he:(e.1=a/\e.2.1=b)\/(e.1=b/\e.2.1=a)):det (k+1) (lapE (E++[e]))=det (k+1) (lapE E)+e.2.2*det k (lapE (SD a b E)):=by
 let e1:det (k+1) (lapE<|E++[e])=det (k+1) (λi j=>lapE E i j+e.2.2*(ind a b i*ind a b j)):=Zg λi j _ _=>by
  rw[ZX];rcases he with ⟨x,y⟩|⟨x,y⟩
  .rw[x,y]
  .rw[x,y,bC a b i,bC a b j,t9]
 let e2:det k (lapE<|SD a b E)=det k (λi j=>Qg (lapE E) a b (sk a i)<|sk a j):=Zg λi j _ _=>bD XM i j E;rw[e1,e2];cases hk:b<k+1
 .show nF ha hk (YY XM)
 .let e3:det (k+1) (λi j=>lapE E i j+e.2.2*(ind a b i*ind a b j))=det (k+1) (λi j=>lapE E i j+e.2.2*((if i=a then 1 else 0)*(if j=a then 1 else 0))):=Zg λi j hi hj=>by unfold ind;rw[if_neg (show ¬i=b by lia),if_neg (show ¬j=b by lia),xO,xO]
  let e4:det k (λi j=>Qg (lapE E) a b (sk a i)<|sk a j)=det k (λi j=>lapE E (sk a i)<|sk a j):=Zg λi j hi hj=>by
   let h1:=OQ (j:=a) hi;let h2:=OQ (j:=a) hj
   unfold Qg;rw[if_neg (show ¬sk a i=b by lia),if_neg (show ¬sk a j=b by lia),TV,TV]
  rw[e3,e4];show CD ha
def bB{e:Ed}(he:e.1=e.2.1):lapE (E++[e])=lapE E:=by
 funext i j
 rw[ZX,he];unfold ind;rw[Int.sub_self,PK,UP,TV]
def ZF:∀m k E,E.f=m->(∀e∈E,e.1<k+1/\e.2.1<k+1)->TW k E (det k (lapE E))
 |0,k,E,hm,_=>by
  let rfl:=Vy.E hm;cases k with
  |zero=>
   exists [[]],tG,λT=>?_,Z;rw[XF];constructor
   .rintro rfl;show⟨IsSet.nil _,Z,λi j hi hj=>by
     have:i=j:=J
     rw[this];show .refl j⟩
   .intro h;show Vy.E h.2.1
  |succ k=>
   exists [],.nil,λT=>{λh=>(by cases h),λh=>?_},?_
   .let h1:=h.1.len;let h2:=h.2.1
    rw[GU]at h1;lia
   .show(bQ (i:=0) J λj _=>rfl).U
 |m+1,k,E,hm,hE=>by
  obtain⟨E',e,rfl⟩:∃E' e,E=E'++[e]:={E.dropLast,E.getLast (λh=>by rw[h]at hm;cases hm),(uW _).U};let Lq:E'.f=m:=by rw[XB]at hm;simpa using hm
  let ng:∀f∈E',f.1<k+1/\f.2.1<k+1:=λf hf=>hE f (Yj _ hf);let he:=hE e tG
  let ih:=ZF m k E' Lq ng;cases hl:e.1=e.2.1
  .rw[bB hl];show nq ng hl ih
  .obtain⟨k',rfl⟩:∃k',k=k'+1:={k-1,J};obtain⟨a,b,ha,hb,XM,VJ⟩:∃a b,a<k'+1/\b<k'+2/\b≠a/\((e.1=a/\e.2.1=b)\/(e.1=b/\e.2.1=a)):=by
    cases c:e.1<k'+1
    .exists e.1,e.2.1,c,he.2,λh=>hl h.U,.inl ⟨Z,Z⟩
    .exists e.2.1,e.1,J,he.1,hl,.inr ⟨Z,Z⟩
   let SE:=ZF m k' (SD a b E') (by unfold SD;rwa[Xz]) λf hf=>by
    let(g,hg,rfl):=Yq.E hf
    have:=ng g hg
    exists Mv ha hb XM this.1,Mv ha hb XM this.2
   rw[nh ha hb XM VJ];show ni ha hb XM VJ ih SE
def Xc(ps:Aa)(ws:Ac):(List Ed):=List.zipWith (λp w=>(p.1.j,p.2.j,w)) ps ws
def KY(h1:1<=n)(hw:ws.f=ps.f):IsT (n-1).j (Xc ps ws) T↔Zn n ps T:=by
 let hl:(Xc ps ws).f=ps.f:=by unfold Xc;rw[Fx];lia
 let hm:IsSet ps.f T->T.C (UU<|Xc ps ws)=XT ps T:=λhs=>YQ λz hz=>by
  have:=hs.all z hz
  unfold UU Xc;rw[Xl,Ha,XH J,XH (show z.j<ws.f by lia),Xl,XH S];rfl
 unfold IsT Zn;rw[hl];constructor
 .rintro⟨a,b,c⟩;rw[hm a]at c;exists a,J,λi j hi hj=>c i j J J
 .rintro⟨a,b,c⟩;rw[hm a];exists a,J,λi j hi hj=>c i j J J
def Cw(h:∀e∈E,e.2.2=1):∀{T:Ac},(∀z∈T,0<=z/\z<E⁻¹)->Vb E T=1
 |[],_=>rfl
 |z::T,hb=>by
  let hz:=hb z Yb;change(E.t z.j (0,0,0)).2.2*Vb E T=1
  rw[Cw h λy hy=>hb y<|Ye _ hy,PJ,Xl,XH J];show h _ (RX _)
def nc{l:Ab}{f:Ac->Int}(h:∀T∈l,f T=1):(l.C f).sum=l⁻¹:=by
 induction l with
 |nil=>rfl
 |cons x l ih=>
  rw[YD,YV,ih λT hT=>h T<|Ye _ hT,h x Yb,Yv];lia
def II(g:Zt n ps)(ws:Ac):∀e∈Xc ps ws,e.1<(n-1).j+1/\e.2.1<(n-1).j+1:=λe he=>by
 unfold Xc at he;let(i,hi):=Yz he;rw[Ha]at hi;let g1:=g.1
 cases h1:ps[i]? with
 |none=>rw[h1]at hi;cases hi
 |some p=>
  cases h2:ws[i]? with
  |none=>rw[h1,h2]at hi;cases hi
  |some w=>
   rw[h1,h2]at hi;let rfl:=Yc hi;let(a,b,c,d):=g.2.2.2 p (Xr h1);exists by change p.1.j<_;lia,by change p.2.j<_;lia
def bz(g:Zt n ps){L:Ab}(hL:L.Nodup)(hm:∀l,l∈L↔Zn n ps l):det (n-1).j (lapE (Xc ps (List.M ps.f 1)))=L⁻¹:=by
 let g1:=g.1;let hw:(List.M ps.f (1:Int)).f=ps.f:=Yw
 let(M,a1,a2,a3):=ZF _ (n-1).j (Xc ps<|List.M ps.f 1) Z (II g _);let hl:(Xc ps<|List.M ps.f 1).f=ps.f:=by unfold Xc;rw[Fx,hw];lia
 let w1:∀e∈Xc ps (List.M ps.f (1:Int)),e.2.2=1:=λe he=>by
  unfold Xc at he;let(i,hi):=Yz he;rw[Ha]at hi;cases h1:ps[i]? with
  |none=>rw[h1]at hi;cases hi
  |some p=>
   cases h2:(List.M ps.f (1:Int))[i]? with
   |none=>rw[h1,h2]at hi;cases hi
   |some w=>
    rw[h1,h2]at hi;let rfl:=Yc hi;show FH (Xr h2)
 rw[<-a3,nc λT hT=>Cw w1 ((a2 T).E hT).1.all];let hp:M.Perm L:=(Vm a1 hL).H λl=>by rw[a2,hm,KY g1 hw]
 rw[hp.length_eq]
end My
namespace L2
open PySem PySem.Spec PyProof.Rows
section
variable{X:Cx}
def m9(K:Ad):(V->V->Hp->VK->Prop):=λx y H Q=>∃p xs i v,x=.ref p/\y=.int i/\SqL K H p xs/\0<=i/\xs[i.j]?=some v/\Q v H
def wI(K:Ad)(hk:X.K=K:=by rfl):EM X (m9 K):=by
 subst hk;intro pins s σ H o i ov iv Q I ro ri h;let(p,xs,j,z,rfl,rfl,hq,h0,he,q):=h;cases ro;let(t,rfl):=ri;let(XU,r,pl,hz):=I.list hq;let(w,ew,Rb):=r.get he;let hl:=r.f
 let hn:=Ez;let Xp:=(Xy.E he).1
 show wpAny_getItem_list pl.isList h0 J (by simpa using ew) ⟨z,H,I,Rb,q⟩
end
end L2
namespace My
open PySem L2
def m8{g:TG}{tb:TS}{D:Ends}(Ua:xs.f=ys.f)(Pv:Nat->St->Hp->Prop)(h0:Pv 0 σ H)(hl:∀i σ H,i<=xs.f->Pv i σ H->SqL K H a xs/\SqL K H b ys)
  (hs:∀(i:Nat) x y σ H (p:Addr),H p=none->xs[i]?=some x->ys[i]?=some y->Pv i σ H->g ↑p σ (upd H p<|.tup [x,y]) λσ2 H2=>tb {D with nx:=Pv<|i+1,ct:=Pv<|i+1,bk:=D.nx} σ2 H2)(hd:∀σ H,Pv xs.f σ H->D.nx σ H):
  ∃W:Nat->Nat->St->Hp->Prop,(∃m,W 0 m σ H)/\∀i m σ H,W i m σ H->
   ((Gn K a b).stop i H/\D.nx σ H)\/((Gn K a b).go i H/\∃N:St->Hp->Prop,(∀σ' H',N σ' H'->∃m',m'<m/\W (i+1) m' σ' H')/\∀x H',(Gn K a b).yld i H x H'->g x σ H' λσ2 H2=>tb {D with nx:=N,ct:=N,bk:=D.nx} σ2 H2):=by
 exists λi m σ H=>m=xs.f-i/\i<=xs.f/\Pv i σ H,{xs.f,tG,Yk _,h0},?_;rintro i m σ H ⟨rfl,hi,p⟩;let(q,q2):=hl i σ H hi p;cases Xp:i<xs.f
 .show .inr {{xs,ys,xs[i],ys[i]'(by lia),q,q2,by simp[Xp],XH S},Pv<|i+1,λσ' H' p'=>{xs.f-(i+1),tL,Z,Xp,p'},λx H' ⟨T,u,v,hT,ex,eH,hu,hv⟩=>?_};subst ex eH;show hs i u v σ H T hT (hu xs q) (hv ys q2) p
 .let e:i=xs.f:=J;subst e;show .inl {{xs,ys,q,q2,.inl<|Ya _},hd σ H p}
structure TabAt(H0:Hp)(r:Addr)(n:Nat)(H:Hp)(ys:List V)(L:Ab):Prop where
 tab:H r=some (.lst ys)
 rows:Bears (LiV r H) ys L
 len:L.f=n
 all:∀l∈L,l.f=n
 nd:ys.Nodup
 new:∀A,V.ref A∈ys->H0 A=none
def TabAt.same(s:Same H H')(h:TabAt H0 r n H ys L):TabAt H0 r n H' ys L:={s _ _ h.tab,h.rows.imp λ_ _ q=>q.Y s,h.len,h.all,h.nd,h.new}
def TabAt.at(h:TabAt H0 r n H ys L){i:Nat}(hi:i<n):∃A l,ys[i]?=some ↑A/\L[i]?=some l/\H A=some (.lst (IL l))/\l.f=n/\H0 A=none/\A≠r:=by let hl:=h.len;obtain⟨l,e⟩:∃l,L[i]?=some l:={_,XH J};let(v,e1,A,rfl,e2,e3):=h.rows.2 i l e;exists A,l,e1,e,e2,h.all l<|Xr e,h.new A<|Xr e1,e3
def TabAt.put(h:TabAt H0 r n H ys L){l l':Ac}(e1:ys[i]?=some ↑A)(e2:L[i]?=some l)(e3:A≠r)(hl:l'.f=n):TabAt H0 r n (upd H A (.lst (IL l'))) ys (L.set i l'):=by
 let hi:=(Xy.E e2).1;let VW:=(Xy.E e1).1
 exists by rw[XR (YY e3)];show h.tab,{by rw[PL];show h.rows.1,λj m em=>?_},by rw[PL];show h.len,λm hm=>?_,h.nd,h.new
 .rw[Qr]at em;cases c:i=j
  .subst c;rw[if_pos Z,if_pos hi]at em;let rfl:=Yc em;exists _,e1,A,Z,XS,e3
  .rw[if_neg c]at em;let(v,f1,B,rfl,f2,f3):=h.rows.2 j m em;exists _,f1,B,Z,?_,f3;rw[XR]
   .show f2
   .intro e;rw[e]at f1;show c (Ub h.nd e1 f1)
 .rcases List.mem_or_eq_of_mem_set hm with e|e
  .show h.all m e
  .rw[e];show hl
def m7{L:Ab}{l:Ac}(hi:L[i]?=some l)(hj:j<l.f)(a b:Nat):fnL (L.set i (l.set j x)) a b=if a=i/\b=j then x else fnL L a b:=by
 let VW:=(Xy.E hi).1;unfold fnL;cases ha:a=i
 .subst ha;let e1:(L.set a<|l.set j x).t a []=l.set j x:=by rw[Xl,Qr,if_pos Z,if_pos VW];rfl
  let e2:L.t a []=l:=by rw[Xl,hi];rfl
  rw[e1,e2];cases hb:b=j
  .subst hb;rw[if_pos ⟨Z,Z⟩,Xl,Qr,if_pos Z,if_pos hj];rfl
  .rw[if_neg λh=>hb h.2,Xl,Qr,if_neg<|YY hb,<-Xl]
 .let e1:(L.set i<|l.set j x).t a []=L.t a []:=by rw[Xl,Xl,Qr,if_neg (YY ha)]
  rw[e1,if_neg λh=>ha h.1]
def four{A:Mx}{u v:Nat}{w:Int}(XM:u≠v)(a b:Nat){B C D E:Mx}(h1:∀a b,B a b=if a=u/\b=u then A u u+w else A a b)(h2:∀a b,C a b=if a=v/\b=v then B v v+w else B a b)(h3:∀a b,D a b=if a=u/\b=v then C u v-w else C a b)(h4:∀a b,E a b=if a=v/\b=u then D v u-w else D a b):E a b=A a b+w*(ind u v a*ind u v b):=by
 let nv:¬v=u:=YY XM;unfold ind;cases x1:a=u
 .subst x1;cases y1:b=a
  .subst y1;simp[h4,h3,h2,h1,XM,nv]
  .cases y2:b=v
   .subst y2;simp[h4,h3,h2,h1,XM,nv];lia
   .simp[h4,h3,h2,h1,XM,nv,y1,y2]
 .cases x2:a=v
  .subst x2;cases y1:b=u
   .subst y1;simp[h4,h3,h2,h1,XM,nv];omega
   .cases y2:b=a
    .subst y2;simp[h4,h3,h2,h1,XM,nv]
    .simp[h4,h3,h2,h1,XM,nv,y1,y2]
  .simp[h4,h3,h2,h1,XM,nv,x1,x2]
def m6{ps:Aa}{ws:Ac}{p:Int×Int}{w:Int}(hp:ps[i]?=some p)(hw:ws[i]?=some w):Xc (ps.X (i+1)) (ws.X (i+1))=Xc (ps.X i) (ws.X i)++[(p.1.j,p.2.j,w)]:=by
 let h1:=(Xy.E hp).1;let h2:=(Xy.E hw).1
 unfold Xc;rw[YS,YS,hp,hw];rw[List.zipWith_append (by rw[YB,YB];grind)];rfl
def Conn.image{f:Nat->Nat}(h:∀e∈es,Conn fs (f e.1) (f e.2))(c:Conn es i j):Conn fs (f i) (f j):=by
 induction c with
 |refl i=>show .refl _
 |edge e=>show h _ e
 |symm _ ih=>show ih.U
 |trans _ _ OU SE=>show OU.l SE
def Cv(g:Zt n ps)(h:IsSet ps.f T)(c:∀i j,i<n.j->j<n.j->Conn (XT ps T) i j):n-1<=T⁻¹:=by
 let g1:=g.1;let Wu:=ZE (ns:=T) g h.all
 let h2:=(MG J Wu).H c;let h3:=wV _ Wu
 rw[show(XT ps T).f=T.f from Xz ..]at h3;lia
end My
namespace L2
open PySem
def QN(t:SetTable):(Prop):=t.place.toList.Q (·<·)
def wH{xs:Array Nat}(h:xs.toList.Q (·<·)){i k a b:Nat}(m5:i<k)(ha:xs[i]?=some a)(hb:xs[k]?=some b):a<b:=by rw[<-VH]at ha hb;let(h1,e1):=Xy.E ha;let(h2,e2):=Xy.E hb;rw[<-e1,<-e2];show LP.E h i k h1 h2 m5
def mZ(h:xs.toList.Q (·<·)):∀f lo hi,hi-lo<=f->lo<=hi->hi<=xs.G->(∀i v,xs[i]?=some v->i<lo->v<j)->(∀i v,xs[i]?=some v->hi<=i->j<=v)->
  SetTable.below.go xs j f lo hi<=xs.G/\∀i v,xs[i]?=some v->(i<SetTable.below.go xs j f lo hi↔v<j)
 |0,lo,hi,hf,hl,hs,a,b=>by
  let e:lo=hi:=tL;unfold SetTable.below.go;exists J,λi v hv=>{a i v hv,λhvj=>Nat.lt_of_not_le λhc=>?_}
  have:=b i v hv J
  lia
 |f+1,lo,hi,hf,hl,hs,a,b=>by
  unfold SetTable.below.go;cases c:lo<hi
  .rw[if_pos c];dsimp only;obtain⟨m,hm⟩:∃m,xs[(lo+hi)/2]?=some m:={_,QP J};let em:xs.t ((lo+hi)/2) j=m:=by rw[YF,hm];rfl
   rw[em];cases d:m<j
   .rw[if_pos d];show mZ h f _ hi tL J hs (λi v hv Vs=>?_) b;cases e:i=(lo+hi)/2
    .rw[e,hm]at hv;show Yc hv▸d
    .have:=wH h (show i<(lo+hi)/2 by lia) hv hm
     lia
   .rw[if_neg d];show mZ h f lo _ tL J J a λi v hv Vs=>?_;cases e:i=(lo+hi)/2
    .rw[e,hm]at hv
     have:=Yc hv
     lia
    .have:=wH h (show(lo+hi)/2<i by lia) hm hv
     lia
  .rw[if_neg c];exists tL,λi v hv=>{a i v hv,λhvj=>Nat.lt_of_not_le λhc=>?_}
   have:=b i v hv J
   lia
def wG(h:xs.toList.Q (·<·))(j:Nat):SetTable.below xs j<=xs.G/\∀i v,xs[i]?=some v->(i<SetTable.below xs j↔v<j):=
 mZ h xs.G 0 xs.G J (Yk _) (Ya _) (λi v _ h=>absurd h<|TH _) λi v hv hi=>by rw[yk hi]at hv;cases hv
def mY(h:xs.toList.Q (·<·)){i v:Nat}(hv:xs[i]?=some v):SetTable.below xs v=i:=by
 let(h1,h2):=wG h v;let a:¬i<SetTable.below xs v:=λq=>by have:=(h2 i v hv).E q;lia
 show xX J (x8 λq=>?_);let Xp:=(e8.E hv).1
 obtain⟨u,hu⟩:∃u,xs[SetTable.below xs v]?=some u:={_,QP J};let b:=wH h q hu hv
 have:=(h2 _ u hu).H b
 lia
def mX(h:xs.toList.Q (·<·)){i v:Nat}(hv:xs[i]?=some v):SetTable.below xs (v+1)=i+1:=by
 let(h1,h2):=wG h (v+1);let a:=(h2 i v hv).H (NY v)
 show xX (x8 λq=>?_) a;obtain⟨u,hu⟩:∃u,xs[i+1]?=some u:={_,QP J};let b:=(h2 _ u hu).E q
 have:=wH h (NY i) hv hu
 lia
def mW(h:xs.toList.Q (·<·)):SetTable.below xs 0=0:=by let(h1,h2):=wG h 0;show Nat.le_zero.E (x8 λq=>?_);obtain⟨u,hu⟩:∃u,xs[0]?=some u:={_,QP J};show TH _ ((h2 _ u hu).E q)
def Gk(t:SetTable)(j:Nat):(Prop):=t.place[SetTable.below t.place j]?≠some j
def Cu(h:QN t)(hn:Gk t j):QN (t.put j).1:=by
 let(h1,h2):=wG h j;let up:∀i v,t.place[i]?=some v->SetTable.below t.place j<=i->j<v:=λi v hv hi=>by
  let a:¬v<j:=λq=>by have:=(h2 i v hv).H q;lia
  let b:v≠j:=λe=>hn (by rw[e]at hv;rwa[mY h hv]);lia
 change(SetTable.insertAt t.place (SetTable.below t.place j) j).toList.Q (·<·);rw[SetTable.toList_insertAt];let dn:∀x∈t.place.toList.X (SetTable.below t.place j),x<j:=λx hx=>by
  let(i,hi):=Yz hx;rw[Fw]at hi;split at hi
  .rename_i q;rw[VH]at hi;show(h2 i x hi).E q
  .cases hi
 let ub:∀x∈t.place.toList.drop (SetTable.below t.place j),j<x:=λx hx=>by let(i,hi):=Yz hx;rw[Fv,VH]at hi;show up _ x hi (Nat.le_add_right _ _)
 show Nu.H {eh (List.take_sublist _ _) h,Wd.H {ub,eh (List.drop_sublist _ _) h},λa ha b hb=>?_};rcases Yg.E hb with e|e
 .rw[e];show dn a ha
 .show Nat.lt_trans (dn a ha) (ub b e)
def bw(h:t.slot j=.empty\/t.slot j=.dummy):Gk t j:=λe=>by
 let e2:t.slot j=.live (SetTable.below t.place j):=by unfold SetTable.slot;dsimp only;rw[if_pos (by rw[e];simp)]
 rw[e2]at h;rcases h with h|h<;>cases h
def mV{f:Nat->Int}:∀n p j d,(∀e,p.dummy=some e->Gk t e)->SetTable.probe.go t f h n p=some (.empty j d)->Gk t j/\∀e,d=some e->Gk t e
 |0,p,j,d,_,h=>by cases h
 |n+1,p,j,d,hp,h=>by
  let bu:∀q:SetTable.Probe,(t.advance q).dummy=q.dummy:=λq=>by unfold SetTable.advance;split<;>rfl
  unfold SetTable.probe.go at h;split at h
  .rename_i hs;cases h;exists bw<|.inl hs,hp
  .rename_i hs;show mV n _ j d (λe he=>by rw[bu]at he;cases he;show bw<|.inr hs) h
  .split at h
   .cases h
   .show mV n _ j d (λe he=>hp e<|by rwa[bu]at he) h
def mU{b:Bool}(e:t.freeSlot h=some (s,b)):Gk t s:=by
 unfold SetTable.freeSlot at e;split at e
 .rename_i j d hp;let(a1,a2):=mV _ _ j d (λe he=>by cases he) hp;let e1:=XG Prod.fst (Yc e)
  dsimp only at e1;rw[<-e1];cases d with
  |none=>show a1
  |some x=>show a2 x rfl
 .cases e
def wF(t:SetTable)(n:Nat):QN (t.standIn n):=by change(Array.range n).toList.Q (·<·);rw[Array.toList_range];show Rp
def Cr(h:QN t)(es:Array (Int×Value))(k:Int)(x:Value):QN (layNew t es k x).2.1/\(layNew t es k x).2.1.led=t.led:=by
 unfold layNew;split
 .rename_i s b e;dsimp only;unfold SetTable.orStandIn;split
  .exists Cu h<|mU e,Z
  .exists wF _ _,Z
 .exists wF _ _,Z
def Zs8(h:QN t)(es:Array (Int×Value))(n:Nat):QN (relayAll t es n).2.1/\(relayAll t es n).2.1.led=t.led:=by
 unfold relayAll;split
 .rename_i t' order e;dsimp only;split
  .unfold SetTable.relaid SetTable.laid at e;cases ho:SetTable.layClean (SetTable.sizeAbove n-1) (es.C (·.1)) with
   |none=>rw[ho]at e;cases e
   |some owner=>
    rw[ho]at e;let e1:=XG Prod.fst (Yc e)
    dsimp only at e1;rw[<-e1];exists ?_,Z;change(List.C _<|List.filterMap _ _).m.toList.Q (·<·)
    rw[List.toList_toArray,Sv,List.pairwise_filterMap];show Rp.imp λ{a b} VJ x hx y hy=>?_;let ex:x.1=a:=by
     cases q:owner.t a none with
     |none=>rw[q]at hx;cases hx
     |some z=>rw[q]at hx;cases hx;rfl
    let ey:y.1=b:=by
     cases q:owner.t b none with
     |none=>rw[q]at hy;cases hy
     |some z=>rw[q]at hy;cases hy;rfl
    rwa[ex,ey]
  .exists wF _ _,Z
 .exists wF _ _,Z
end L2
namespace L2
open PySem PySem.Spec PyProof.Rows
def SetR(P:Program)(w:World)(h:Heap)(a:Addr)(led:Bool)(AP:Int->Bool)(n:Nat):(Prop):=
 ∃o es ep t,h.B a=some o/\o.ExactSet/\o.data=.set es ep t/\ElemsOf (intKind P w) es.toList/\(∀z,AP z=true↔∃y∈es.toList,(intKind P w).is z y.2=true)/\es.G<scanBound/\t.fits es.G=true/\es.G=n/\QN t/\t.led=led
def SetR.at{AP:Int->Bool}(q:SetR P w h a led AP n)(k:∀o,h.B a=some o->h'.B a=some o):SetR P w h' a led AP n:=
 let ⟨o,es,ep,t,ho,r⟩:=q
 {o,es,ep,t,k o ho,r}
section
variable{prog:Program}{w:World}{A:Around}{E:Ae}{s:Shared}
def br{h:Heap}{o:Obj}{es:Array (Int×Value)}{ep:Nat}{t:SetTable}(ho:h.B a=some o)(hx:o.ExactSet)(hd:o.data=.set es ep t)(fs:Array (Int×Value))(u:SetTable):
  (h.update a<|Obj.putSet fs u).B a=some {o with data:=.set fs (ep+1) u}/\({o with data:=.set fs (ep+1) u}:Obj).ExactSet:=by let q:=VS (Obj.putSet fs u) ho (by rw[putSet_of fs u hd];rfl);rw[putSet_of fs u hd]at q;exists q,hx
def mT{gv:Bool->Sem Unit}(hgv:∀b s1 R,R () s1->wpAny (model prog w) A (gv b) R E s1)
 {o:Obj}{es fs:Array (Int×Value)}{ep:Nat}{t u:SetTable}(ho:s.o.B a=some o)(hx:o.ExactSet)(hd:o.data=.set es ep t)
  {AP:Int->Bool}(he:ElemsOf (intKind prog w) fs.toList)(hm:∀z,AP z=true↔∃y∈fs.toList,(intKind prog w).is z y.2=true)(hb:fs.G<scanBound)(hf:u.fits fs.G=true)(hr:QN u){dm:Bool}{R:Option Bool->Shared->Prop}
  (k:∀h',Heap.SameBut a s.o h'->SetR prog w h' a u.led AP fs.G->R (some true) {s with heap:=h'}):
  wpAny (model prog w) A (do
   storeSet a fs u
   if (!dm&&u.tooFull)=true then do
    gv (relayAll u fs<|SetTable.grown fs.G).2.2
    storeSet a (relayAll u fs<|SetTable.grown fs.G).1 (relayAll u fs<|SetTable.grown fs.G).2.1
    pure (some true)
   else pure (some true)) R E s:=by
 let(h1,x1):=br ho hx hd fs u;let b1:=Rt s.o a (Obj.putSet fs u)
 show XY (wpAny_storeSet_of ho hd ?_<|fits_of_scanBound hb);cases c:(!dm&&u.tooFull)=true
 .rw[if_pos c];let p:=relayAll_perm u fs (SetTable.grown fs.G)
  let f:=relayAll_fits u fs (SetTable.grown fs.G);let(r,l):=Zs8 hr fs (SetTable.grown fs.G);generalize relayAll u fs (SetTable.grown fs.G)=sZ at p f r l ⊢;let(gs,v,gave):=sZ;dsimp only at p f r l ⊢;let ez:gs.G=fs.G:=by rw[<-YN,p.length_eq,YN]
  let(h2,x2):=br h1 x1 Z gs v;show XY (hgv _ _ _<|XY<|wpAny_storeSet_of h1 Z (Yh ?_)<|fits_of_scanBound<|by rwa[ez]);show k _ (b1.l<|Rt _ a _) ⟨_,gs,_,v,h2,x2,Z,he.perm p,λz=>(hm z).l {λzz=>by let(y,hy,q):=zz;show{y,p.mem_iff.H hy,q},λzz=>by let(y,hy,q):=zz;exists y,p.mem_iff.E hy,q},by rw[ez];show hb,f,ez,r,l⟩
 .rw[if_neg c];show Yh (k _ b1 {_,fs,_,u,h1,x1,Z,he,hm,hb,hf,Z,hr,Z})
def mS{AP:Int->Bool}{z:Int}{x:Value}{R:Bool->Shared->Prop}(hz:(intKind prog w).is z x=true)(Qj:x.scannable=true)(hS:SetR prog w s.o a led AP n)(room:n+1<scanBound)
  (k:∀h',Heap.SameBut a s.o h'->SetR prog w h' a led (λy=>AP y||decide (y=z)) (if AP z then n else n+1)->R (!AP z) {s with heap:=h'}):
  wpAny (model prog w) A (setAddHashed a x<|(intKind prog w).hash z) R E s:=by
 let(o,es,ep,t,ho,hx,hd,he,hm,hb,hf,hn,hr,hl):=hS;unfold setAddHashed setAddHashedIn;show RS (XY<|GW ho hd hf ?_);dsimp only;rw[if_pos (byScan_of Qj hb he)];unfold setAddByScan;show XY (XY<|Kb<|XY<|wpAny_setScan_of hz ho hd hf he ?_);cases hw:List.findIdx? (λy=>(intKind prog w).is z y.2) es.toList with
 |some j=>
  let(j1,j2,_):=List.findIdx?_eq_some_iff_getElem.E hw;let yes:AP z=true:=(hm z).H {es.toList[j],RX j1,j2}
  let fin:=k s.o (Heap.SameBut.refl a s.o) {o,es,ep,t,ho,hx,hd,he,λy=>by rw[tY,Kq,<-hm y];show{λq=>q.elim id λq=>q▸yes,.inl},hb,hf,by rw[yes];show hn,hr,hl}
  rw[yes]at fin;dsimp only;show Yh (Yh fin)
 |none=>
  let no:AP z=false:=Bool.eq_false_iff.H λq=>by
   let(y,hy,hp):=(hm z).E q
   have:=List.findIdx?_eq_none_iff.E hw y hy
   rw[hp]at this;cases this
  dsimp only;let p:=layNew_perm t es ((intKind prog w).hash z) x
  let f:=layNew_fits t es ((intKind prog w).hash z) x;let(r,l):=Cr hr es ((intKind prog w).hash z) x;generalize layNew t es ((intKind prog w).hash z) x=sZ at p f r l ⊢;let(fs,u,dm,gave):=sZ;dsimp only at p f r l ⊢;rw[uu]at p;let ez:fs.G=n+1:=by rw[<-YN,p.length_eq,XB,YN,hn];rfl
  let gw:∀(b:Bool){s1:Shared}{R':Unit->Shared->Prop},R' () s1->wpAny (model prog w) A (match b with|true=>rule "set.scan.the-table-gave-way" | false=>pure ()) R' E s1:=λb s1 R' q=>by
   cases b
   .show Yh q
   .show Kb q
  let fin:∀h',Heap.SameBut a s.o h'->SetR prog w h' a led (λy=>AP y||decide (y=z)) fs.G->R true {s with heap:=h'}:=λh' q1 q2=>by let q:=k h' q1;rw[no]at q;rw[ez]at q2;show q q2
  let IG:=(he.push hz Qj).perm p;let Tg:∀y,(AP y||decide (y=z))=true↔∃v∈fs.toList,(intKind prog w).is y v.2=true:=mem_push_iff hz hm p
  let wD:fs.G<scanBound:=J;show XY (gw _ ?_);let tail:∀v:SetTable,v.fits fs.G=true->QN v->v.led=led->wpAny (model prog w) A (do
    storeSet a fs v
    if (!dm&&v.tooFull)=true then do
     (match (relayAll v fs<|SetTable.grown fs.G).2.2 with|true=>rule "set.scan.the-table-gave-way" | false=>pure ())
     storeSet a (relayAll v fs<|SetTable.grown fs.G).1 (relayAll v fs<|SetTable.grown fs.G).2.1
     pure (some true)
    else pure (some true)) (λy s1=>wpAny (model prog w) A (match y with|some added=>pure added|none=>setAddHashedIn a x ((intKind prog w).hash z) 99999) R E s1) E s:=λv a1 a2 a3=>
   mT (gv:=λb=>match b with|true=>rule "set.scan.the-table-gave-way" | false=>pure ()) (λb s1 R' q=>gw b q) ho hx hd IG Tg wD a1 a2 λh' q1 q2=>Yh (fin h' q1<|a3▸q2)
  split
  .show XY ?_;rw[hashByValue_scannable 8 Qj];show Yh ?_;split
   .show tail u f r (l.l hl)
   .show tail _ (SetTable.fits_plain_off f) r (l.l hl)
  .show XY (Yh ?_);rw[if_pos Z];show tail u f r (l.l hl)
end
section
variable{prog:Program}{w:World}{A:Around}{R:Result->Shared->Prop}{I:Addr}{fp wr:List Addr}{G:Array GenState->Array GenState->Prop}{n:Nat}{P:Nat->Value->Prop}{St:Nat->Shared->Prop}
def Cq(W:WalksS prog w A.in1 I fp wr G n P St)(b:Addr)(KW:b∉fp)(val:Nat->Int)(hv:∀i v,P i v->∃t,v=.int (val i) t)(hn:n+1<scanBound):
  ∀k i s,n-i=k->i<=n->St i s->SetR prog w s.o b led (λz=>(firstMet val i).any (· == z)) (firstMet val i).f->
   (∀s',Moved (b::wr) G s s'->SetR prog w s'.o b led (λz=>(firstMet val n).any (· == z)) (firstMet val n).f->R (.ok<|.ret .none) s')->
   codeAny (model prog w) A (.builtin "set.update.loop" {[.ref b,.ref I],[]}) R s
 |0,i,s,hk,hi,st,hS,q=>by
  let e:i=n:=tL;subst e;show RU F.entry_set_update_loop ?_;rw[Ss ur _];change wpAny _ A.in1 (pyNext ↑I >>= _) _ _ s
  show XY (W.done s _ _ st λs1 m=>?_);change wpAny _ A.in1 (ret Value.none) _ _ s1
  show Yh (q s1 (m.mono λc hc=>.tail _ hc)<|hS.at λo ho=>m.o b o (λhc=>KW<|W.sub _ hc) ho)
 |k+1,i,s,hk,hi,st,hS,q=>by
  let Xp:i<n:=tL;show RU F.entry_set_update_loop ?_;rw[Ss ur _];change wpAny _ A.in1 (pyNext ↑I >>= _) _ _ s
  show XY (W.item i s _ _ Xp st λv s1 hP Jr m=>?_);let(t,rfl):=hv i v hP;let Cp:=hS.at (h':=s1.o) λo ho=>m.o b o (λhc=>KW<|W.sub _ hc) ho
  change wpAny _ A.in1 (holding [Value.int (val i) t] (setAdd b<|.int (val i) t) >>= _) _ _ s1;show XY (RS ?_);unfold setAdd;show RS (XY<|(intKind prog w).pyHash (k:=val i) (intKind_is _ _ _ _) ?_);let fm:=firstMet_length_le val i
  show mS (s:={s1 with toks:=s1.toks+1}) (intKind_is _ _ _ _) Z Cp J λh2 sb Lo=>?_;let hS3:SetR prog w h2 b led (λz=>(firstMet val<|i+1).any (· == z)) (firstMet val<|i+1).f:=by
   let e1:(λz=>(firstMet val<|i+1).any (· == z))=λy=>((firstMet val i).any (· == y)||decide (y=val i)):=funext λy=>by rw[firstMet_succ,step_any]
   rwa[e1,firstMet_succ,step_length]
  let kept:∀c o,c≠b->s1.o.B c=some o->h2.B c=some o:=λc o hc e=>(sb.2 c hc).l e;show Yh {Nn ur _,Cq W b KW val hv hn k (i+1) _ tL Xp (W.frame _ s1 _ _ Jr (Ur _) λc hc o e=>kept c o (λe'=>KW<|e'▸hc) e) hS3 λs2 m2 mR=>?_};show q s2 (Moved.l W.gtrans ((m.mono λc hc=>.tail _ hc).then_heap (Ur _) λc o hc e=>kept c o (λe'=>hc<|e'▸.head _) e) m2) mR
end
section
variable{prog:Program}{w:World}{A:Around}{E:Ae}{s:Shared}
def Tf(w:World):(Obj):={cls:=.type "set",dict:=none,data:=.set #[] 0 (.fresh 0 0<|!w.params.followText "set-order")}
def mQ(a:Value){Q:Ae}(k:Q (.ref (~~~s)) {s with heap:=s.o.push (Tf w)}):
  codeAny (model prog w) A (.call (.builtin "set.__new__") {[.type "set",a],[]}) (wants Q E) s:=by
 show codeAny_of_tree ?_;change wpAny _ A.in1 (checkBuiltinCall "set.__new__" {[.type "set",a],[]} >>= λ_=>again<|.builtin "set.__new__" {[.type "set",a],[]}) _ _ s
 show XY (TF (F.newCall_set_1 a)<|Yh ⟨Nn F.plain_set_new _,RU F.entry_set_new ?_⟩);rw[Ss F.plain_set_new _];let Dj:=sub_set_self
 unfold Builtin.«set.__new__» Builtin.Frozenset.newClass;let(hp,g,d,tk,os):=s;dsimp only
 wp_walk
 show GS (Yh ?_);simp only[newObj];show XY (wpAny_alloc<|Yh<|Yh k)
def Zt8(e:h.B a=some (Tf w)):SetR prog w h a (!w.params.followText "set-order") (λz=>(firstMet (λ_=>0) 0).any (· == z)) 0:=by exists _,#[],0,_,e,⟨Z,Z,Z⟩,Z,λy hy=>(by cases hy),λz=>{λq=>(by cases q),λzz=>by let(y,hy,_):=zz;show(by cases hy)},tI,by simp[SetTable.fits,SetTable.fresh,SetTable.fill],Z,.nil,Z
def Co{h0:Heap}{Q:Ae}(hh:A.handled=none)(Mu:h0.B b=some (Tf w))(hl:h0.IsList l items)(XM:l≠b)(hi:IntsAre items.toList ns)(hn:items.G+1<scanBound)
  (k:∀h' tk,SetR prog w h' b (!w.params.followText "set-order") (λz=>(firstMet (λi=>ns.t i 0) items.G).any (· == z)) (firstMet (λi=>ns.t i 0) items.G).f->(∀c o,c≠b->h0.B c=some o->h'.B c=some o)->Q .none {s with heap:=h',toks:=tk}):
  wpAny (model prog w) A.in1 (Builtin.«set.__init__» {[.ref b,.ref l],[]}) (λfin s'=>match fin with | .done f=>wants Q E (.ok f) s' | .again c'=>c'.quiet=true/\codeAny (model prog w) A c' (wants Q E) s') (λe s'=>wants Q E (.error e) s') {s with heap:=h0}:=by
 let hT:Shared.TypeIs {s with heap:=h0} ↑b "set":={_,Mu,Z};let NG:=hl
 let((ocls,bq,bo,mP),TN,QM,nl,bj):=hl;simp only at QM bj;subst QM bj;let q1:=F.sub_list_set
 let q2:=F.sub_list_frozenset;let q3:(Value.type "list" == Value.type "dict")=false:=tI
 unfold Tf at Mu;unfold Builtin.«set.__init__» noKeywords Builtin.Frozenset.updateFrom;generalize hPI:pyIter=PI
 wp_walk
 subst hPI;show tW NG ?_;show XY (xS ?_);let mO:l<h0.objs.G:=Ys TN
 let wC:b<h0.objs.G:=Ys Mu;let bf:b∉[h0.objs.G,l]:=λq=>by
  rcases Yg.E q with e|e
  .show YA wC e
  .show XM (XF.E e).U
 show Cq ((Walks.list (A:=A.in1.in1) (by simp[hh]) _ l (YA mO) items).toS) b bf (led:=!w.params.followText "set-order") (λi=>ns.t i 0) (λi v hv=>IntsAre.int_at hi i v<|by rw[VH];show hv) hn (items.G-0) 0 _ J (Yk _)
  {{_,Yl _ Z,Z,Z},NG.push _} ?_ ?_
 .show Zt8 (Xf _ Mu)
 .rintro⟨h',g',d',tk',rK⟩ m hS;let e1:g'=s.gens:=m.gens
  let e2:d'=s.drawn:=m.drawn;let e3:rK=s.os:=m.os
  subst e1 e2 e3;change wpAny _ _ _ _ _ _
  show Yh ?_;change wpAny _ _ (ret Value.none) _ _ _
  show Yh (k h' tk' hS λc o hc e=>m.o c o (λq=>?_)<|Xf _ e);rcases Yg.E q with e'|e'
  .show hc e'
  .show YA (Ys e) (XF.E e')
set_option maxRecDepth 100000 in
set_option maxHeartbeats 3000000 in
def mN{Q:Ae}(hh:A.handled=none)(hl:s.o.IsList l items)(hi:IntsAre items.toList ns)(hn:items.G+1<scanBound)
  (k:∀h' tk,SetR prog w h' (~~~s) (!w.params.followText "set-order") (λz=>(firstMet (λi=>ns.t i 0) items.G).any (· == z)) (firstMet (λi=>ns.t i 0) items.G).f->(∀c o,s.o.B c=some o->h'.B c=some o)->Q (.ref (~~~s)) {s with heap:=h',toks:=tk}):
  wpAny (model prog w) A (call (.type "set") [.ref l]) Q E s:=by
 let(c,tl,hmro):=Tx.mro;let a1:=Tx.made
 let a2:=Tx.sub;let a3:=Tx.notType
 let a4:=Tx.canCreate;let a5:=F.typeCall_set_1 ↑l
 show PB (codeAny_of_tree ?_);change wpAny _ _ (callAny (.type "set") _) _ _ _
 show Yh {xZ _ tH,RU F.entry_type_call ?_};rw[Around.under_plain (weight_type_call_type "set" [.ref l] []) Z]
 repeat any_goals first|assumption|wp_step
 show LM (mQ ↑l (E:=E) (Q:=λob s1=>ob=.ref (~~~s)/\s1={s with heap:=s.o.push (Tf w)}) ⟨Z,Z⟩) λr s1 hr=>?_
 match r,hr with
 | .error e,hr=>show hr
 | .ok (.ret ob),hr=>
  let(rfl,rfl):=hr;let Mu:(s.o.push<|Tf w).B (~~~s)=some (Tf w):=Yl _ rfl
  let hT:Shared.TypeIs {s with heap:=s.o.push (Tf w)} (.ref (~~~s)) "set":={_,Mu,Z};let a6:=Tx.init.L
  let a7:=Tx.init.bind (.ref (~~~s))
  repeat any_goals first|assumption|wp_step
  let mO:l<(~~~s):=by let(_,e,_):=hl;show Ys e
  show LM (codeAny_call_builtin (R:=wants (λr s2=>r=.none/\Q (.ref (~~~s)) s2) E) Tx.init.plain F.entry_set_init<|check_set_init_1 hT<|Co (A:=_) (s:=s) ?_ Mu (hl.push _) (YA mO) hi hn λh' tk hS kp=>{Z,k h' tk hS λc o e=>kp c o (YA<|Ys e)<|Xf _ e}) λr2 s2 UT=>?_
  .simp[hh]
  .match r2,UT with
   | .error e,UT=>show UT
   | .ok (.ret v),UT=>
    let(rfl,q):=UT
    repeat any_goals first|assumption|wp_step
end
def bh:Manifest.owners.L (String.ofList ['r','o','t','a','r','e','t','i','_','t','e','s'].reverse)=some Manifest.sig_set_iterator:=by kernel_rfl
def Xb:PySem.Slot "set_iterator" "__next__" "set_iterator.__next__":=
 .of (owner:="set_iterator") (n:="__next__") (by rw[UO,Oa];kernel_rfl) tH tH tH
  (by first|show .inl tH|show .inr tH) (by rw[Nq];kernel_rfl)
def wB:entryFor table "set_iterator.__next__"=some Builtin.«set_iterator.__next__»:=entryFor_of_tree tN
def wA(a:Value):argsOk "set_iterator.__next__" {[a],[]}:=by unfold argsOk;rw[Fi (id:="set_iterator.__next__") (n:=['_','_','t','x','e','n','_','_']) (o:=['r','o','t','a','r','e','t','i','_','t','e','s']) tN bh];kernel_rfl
def bg:PySem.Slot "set_iterator" "__iter__" "set_iterator.__iter__":=
 .of (owner:="set_iterator") (n:="__iter__") (by rw[UO,Oa];kernel_rfl) tH tH tH
  (by first|show .inl tH|show .inr tH) (by rw[Nq];kernel_rfl)
def mM(a:Value):argsOk "set_iterator.__iter__" {[a],[]}:=by unfold argsOk;rw[Fi (id:="set_iterator.__iter__") (n:=['_','_','r','e','t','i','_','_']) (o:=['r','o','t','a','r','e','t','i','_','t','e','s']) tN bh];kernel_rfl
def mL:entryFor table "set_iterator.__iter__"=some Builtin.«dict_keyiterator.__iter__»:=
 entryFor_alias (id':="dict_keyiterator.__iter__") tN (by first|rfl|decide +kernel|(unfold String.splitOn;simp +decide [String.splitOnAux])) tH tN
def mK:Manifest.owners.L (String.ofList ['t','e','s'].reverse)=some Manifest.sig_set:=by kernel_rfl
def bc:PySem.Slot "set" "__iter__" "set.__iter__":=
 .of (owner:="set") (n:="__iter__") (by rw[UO,Oa];kernel_rfl) tH tH tH
  (by first|show .inl tH|show .inr tH) (by rw[Nq];kernel_rfl)
def mJ(a:Value):argsOk "set.__iter__" {[a],[]}:=by unfold argsOk;rw[Fi (id:="set.__iter__") (n:=['_','_','r','e','t','i','_','_']) (o:=['t','e','s']) tN mK];kernel_rfl
def mI:entryFor table "set.__iter__"=some Builtin.«frozenset.__iter__»:=
 entryFor_alias (id':="frozenset.__iter__") tN (by first|rfl|decide +kernel|(unfold String.splitOn;simp +decide [String.splitOnAux])) tH tN
def IsSi(h:Heap)(I a:Addr)(f:Value)(i n ep:Nat):(Prop):=∃o,h.B I=some o/\o.cls=.type "set_iterator"/\o.data=.fields #[f,rawInt (i:Int),.ref a,rawInt (n:Int),rawInt (ep:Int)]
def IsSi.ty{s:Shared}(x:IsSi s.o I a f i n ep):s.TypeIs ↑I "set_iterator":=by let(o,p,q,_):=x;exists o,p,q
def IsSi.keep(x:IsSi h I a f i n ep)(e:∀o,h.B I=some o->h'.B I=some o):IsSi h' I a f i n ep:=by let(o,p,q):=x;exists o,e _ p,q
def SetIs(h:Heap)(a:Addr)(es:Array (Int×Value))(ep:Nat)(t:SetTable):(Prop):=∃o,h.B a=some o/\o.ExactSet/\o.data=.set es ep t
def SetIs.keep(x:SetIs h a es ep t)(e:∀o,h.B a=some o->h'.B a=some o):SetIs h' a es ep t:=by let(o,p,q):=x;exists o,e _ p,q
section
variable{prog:Program}{w:World}{A:Around}{E:Ae}{s:Shared}
def ZY7{Q:Nat->Shared->Prop}(hn:n≠0)(k:∀i,i<n->∀d,Q i {s with drawn:=d}):wpAny M A (choose src n) Q E s:=
 λΓ p _=>{hn,k _ (Um _<|Nat.pos_of_ne_zero hn) _}
def Cn{α:Type}:∀{l:List α}{i:Nat}{y:α},l[i]?=some y->(y::l.eraseIdx i).Perm l
 |[],_,_,h=>by simp at h
 |x::l,0,y,h=>by let rfl:x=y:=Yc h;show .rfl
 |x::l,i+1,y,h=>(List.Perm.swap x y<|l.eraseIdx i).l ((Cn (l:=l) (i:=i) h).cons x)
def ba{α:Type}:∀(n:Nat)(xs:List α)(s:Shared)(Q:List α->Shared->Prop),n=xs.f->(∀ys d,ys.Perm xs->Q ys {s with drawn:=d})->wpAny M A (drawOrder n xs) Q E s
 |0,xs,s,Q,h,k=>by let e:xs=[]:=Vy.E h.U;subst e;show Yh (k [] s.drawn .rfl)
 |n+1,[],s,Q,h,k=>by cases h
 |n+1,x::xs,s,Q,h,k=>by change wpAny M A (choose .order (x::xs).f >>= _) Q E s;show XY (ZY7 tG λi hi d=>?_);obtain⟨y,hy⟩:∃y,(x::xs)[i]?=some y:={_,XH hi};rw[hy];dsimp only;show XY (ba n ((x::xs).eraseIdx i) _ _ (by rw[e9 hi];lia) λys d' hp=>Yh<|k (y::ys) d' ?_);show(hp.cons y).l (Cn hy)
def Cm{α:Type}{f:Nat->Nat}:∀(n k:Nat)(l:List α)(out:Array α),n=l.f->(pickOrder.go f n k l out).toList.Perm (out.toList++l)
 |0,k,l,out,h=>by rw[Vy.E h.U,Yy];show .rfl
 |n+1,k,l,out,h=>by let hi:f k%l.f<l.f:=Um _ J;obtain⟨y,hy⟩:∃y,l[f k%l.f]?=some y:={_,XH hi};unfold pickOrder.go;rw[hy];dsimp only;show(Cm n (k+1) _ _<|by rw[e9 hi];lia).l ?_;rw[uu,YG];show uJ _ ?_;show Cn hy
def a9{Q:Ae}(hr:IsSi s.o I a f i n ep)(h:Q ↑I s):wpAny (model prog w) A (pyIter ↑I) Q E s:=by
 show tX hr.ty bg (RW bg hr.ty mL ?_<|mM _);change wpAny _ _ (ret<|.ref I) _ _ s
 show Yh {_,Z,"set_iterator",_,hr.ty,Xb.L,h}
def Gj(prog:Program)(w:World)(a:Addr)(es:Array (Int×Value))(ep:Nat)(t:SetTable)(ord:Ag)(sl:Nat->Nat):(Prop):=
 ∀A E s i Q,SetIs s.o a es ep t->i<=ord.f->Q ((ord[i]?).C λx=>(x,sl<|i+1)) s->wpAny (model prog w) A (setNext a (sl i) i ep) Q E s
def mH{sl:Nat->Nat}{i:Nat}{x:Value}{Q:Option Value->Shared->Prop}(hN:Gj prog w a es ep t ord sl)(hS:SetIs s.o a es ep t)(hf:t.fits es.G=true)(hi:IsSi s.o I a (rawInt (sl i:Nat)) i es.G ep)(hx:ord[i]?=some x)
  (k:∀h',IsSi h' I a (rawInt (sl (i+1):Nat)) (i+1) es.G ep->Heap.SameBut I s.o h'->Q (some x) {s with heap:=h'}):wpAny (model prog w) A (pyNext<|.ref I) Q E s:=by
 let(o,ho,hc,hd):=id hi;let(oa,KU,mG,Sg):=id hS;unfold pyNext;show XY (Np<|Nv (name:=Str.ofString "__next__") hi.ty Xb<|RW Xb hi.ty wB ?_<|wA _);unfold Builtin.«set_iterator.__next__»;show XY (TF (a:=(Value.ref I,[])) Z ?_);dsimp only;show XY (xR ho hd ?_);dsimp only[rawInt];show XY (Fu KU Sg hf ?_);rw[if_neg tG];rw[Yf,Yf,Yf];show XY (hN _ _ s i _ hS (Nl (Xy.E hx).1) ?_);rw[hx];dsimp only[Option.map_some];show XY (Vl ho hd tG ?_);let Ug:=VS (Obj.mapFields λvs=>vs.setIfInBounds 0<|rawInt (sl (i+1):Nat)) ho (Ks<|Wh hd _)
 show XY (Vl Ug (Wh hd _) tG ?_);show Yh {x,Z,Yh<|k _ ⟨_,VS _ Ug<|Ks<|Wh (Wh hd _) _,?_,?_⟩<|(Rt ..).l (Rt ..)}
 .rw[Fp,Fp];show hc
 .rw[Wh (Wh hd _)];simp;rfl
def Ck{sl:Nat->Nat}{Q:Option Value->Shared->Prop}(hh:A.handled=none)(hN:Gj prog w a es ep t ord sl)(hS:SetIs s.o a es ep t)(hf:t.fits es.G=true)(hi:IsSi s.o I a (rawInt (sl ord.f:Nat)) ord.f es.G ep)
  (k:∀h',Heap.ExtBut I s.o h'->Q none {s with heap:=h'}):wpAny (model prog w) A (pyNext<|.ref I) Q E s:=by
 let(o,ho,hc,hd):=id hi;let(oa,KU,mG,Sg):=id hS;unfold pyNext;show XY (Np<|Nv (name:=Str.ofString "__next__") hi.ty Xb<|RW Xb hi.ty wB ?_<|wA _);unfold Builtin.«set_iterator.__next__»;show XY (TF (a:=(Value.ref I,[])) Z ?_);dsimp only;show XY (xR ho hd ?_);dsimp only[rawInt];show XY (Fu KU Sg hf ?_);rw[if_neg tG];rw[Yf,Yf,Yf];show XY (hN _ _ s ord.f _ hS (Ya _) ?_);rw[YJ (Ya _)];dsimp only[Option.map_none];show XY (Vl ho hd tG ?_);change wpAny _ _ (newExc (.type "StopIteration") [] >>= _) _ _ _
 show XY ?_;simp only[newExc,newTuple];show XY (RY ?_<|by size_fits);show XY (m:=firstArgMember _ _) (TF (a:=Value.none) (by first|rfl|(simp only[firstArgMember];rfl)) ?_)
 show RY ?_ (by size_fits);simp only[raiseNew];show XY (xM ?_);rw[show A.in1.handled=none from hh];show XY (Yh<|wpAny_throw ?_);show XY (Kl (T:="StopIteration") (b:=true) {_,Yl _ Z,Z} xQ ?_);show Yh (k _<|(((Rt ..).extBut).push _).push _)
def mF{sl:Nat->Nat}(hh:A.handled=none)(hN:Gj prog w a es ep t ord sl)(hf:t.fits es.G=true)(XM:a≠I):
  Walks prog w A I [I,a] [I] ord.f (λi v=>ord[i]?=some v) (λi h=>i<=ord.f/\IsSi h I a (rawInt (sl i:Nat)) i es.G ep/\SetIs h a es ep t) where
 sub:=λb hb=>Yg.H (.inl<|XF.E hb)
 frame:=λ_ _ _ x hk=>{x.1,x.2.1.keep λo e=>hk I tG o e,x.2.2.keep λo e=>hk a tG o e}
 item:=λi s Q E hi ⟨_,x1,x2⟩ hQ=>by let hx:ord[i]?=some (ord[i]'hi):=XH hi;show mH hN x2 hf x1 hx λh' y hs=>hQ _ h' s.toks hx {hi,y,x2.keep λo e=>(hs.2 a XM).l e} λb o hb eo=>hs.extBut b o (λe=>hb<|by simp[e]) eo
 done:=λs Q E zz hQ=>by let(_,x1,x2):=zz;show Ck hh hN x2 hf x1 λh' he=>hQ h' s.toks λb o hb eo=>he b o (λe=>hb<|by simp[e]) eo
 self:=λ_ _ _ _ x hQ=>a9 x.2.1 hQ
def mE(hf:t.fits es.G=true)(hr:QN t)(hb:w.params.followText "set-order"=false)(hl:t.led=true)(hd:(!t.plain&&decide (es.G>1))=false):
  Gj prog w a es ep t (es.toList.C (·.2)) (λi=>if i=0 then 0 else (t.place.t (i-1) 0)+1):=by
 intro A E s i Q ⟨o,ho,hx,Sg⟩ hi q;let hps:t.place.G=es.G:=by unfold SetTable.fits at hf;simp only[Km,Rn]at hf;show hf.1
 rw[Xz,YN]at hi;unfold setNext;show XY (GW ho Sg hf ?_);dsimp only;show XY ?_;unfold setsByText;show XY (GS<|Yh ?_);change wpAny _ _ (if (w.params.followText "set-order")=true then _ else _) _ _ _
 rw[if_neg (by rw[hb];decide)];change wpAny _ _ (if (!t.plain&&decide (es.G>1))=true then _ else _) _ _ _
 rw[if_neg (by rw[hd];decide)];show XY ?_;change wpAny _ _ (if (!t.led && !es.isEmpty)=true then _ else _) _ _ _
 rw[if_neg (by rw[hl];simp)];show Yh ?_;let eb:SetTable.below t.place (if i=0 then 0 else (t.place.t (i-1) 0)+1)=i:=by
  cases c:i=0
  .rw[if_pos c,c];show mW hr
  .rw[if_neg c];obtain⟨v,hv⟩:∃v,t.place[i-1]?=some v:={_,QP J};let e:t.place.t (i-1) 0=v:=by rw[YF,hv];rfl
   rw[e,mX hr hv];lia
 rw[eb];show Yh ?_;cases c:i<es.G
 .obtain⟨v,hv⟩:∃v,t.place[i]?=some v:={_,QP J};obtain⟨y,hy⟩:∃y,es[i]?=some y:={_,QP c};let e:t.place.t i 0=v:=by rw[YF,hv];rfl
  rw[Yr,VH,hy]at q;rw[hv,hy];simp only[Kk,yh,e,if_neg (Nat.succ_ne_zero i)]at q;show q
 .let e1:es[i]?=none:=yk J;rw[Yr,VH,e1]at q;rwa[e1]
def ZG8(hf:t.fits es.G=true)(hb:w.params.followText "set-order"=true):
  Gj prog w a es ep t ((pickOrder (w.params.setOrder a ep) es).toList.C (·.2)) (λ_=>0):=by
 intro A E s i Q ⟨o,ho,hx,Sg⟩ hi q;unfold setNext;show XY (GW ho Sg hf ?_);dsimp only;show XY ?_;unfold setsByText;show XY (GS<|Yh ?_);change wpAny _ _ (if (w.params.followText "set-order")=true then _ else _) _ _ _
 rw[if_pos hb,if_neg tG];show XY ?_;unfold setWalk;show XY (GW ho Sg hf ?_);dsimp only;show XY ?_;unfold setsByText;show XY (GS<|Yh ?_);change wpAny _ _ (if (w.params.followText "set-order")=true then _ else _) _ _ _
 rw[if_pos hb];show XY (GS<|Yh ?_);rw[Yr,VH,Option.map_map]at q;show Yh q
def IsPl(h:Heap)(b:Addr)(pl:List Nat):(Prop):=∃o n,h.B b=some o/\o.data=.seq (pl.C λ(i:Nat)=>rawInt (i:Int)).m n
def IsPl.keep(x:IsPl h b pl)(e:∀o,h.B b=some o->h'.B b=some o):IsPl h' b pl:=by let(o,n,p,q):=x;exists o,n,e _ p,q
def mD{i j:Nat}{x:Int×Value}{Q:Option Value->Shared->Prop}(hS:SetIs s.o a es ep t)(hf:t.fits es.G=true)(hi:IsSi s.o I a ↑b i es.G ep)(hb:IsPl s.o b pl)(hj:pl[i]?=some j)(hx:es[j]?=some x)
  (k:∀h',IsSi h' I a ↑b (i+1) es.G ep->Heap.SameBut I s.o h'->Q (some x.2) {s with heap:=h'}):wpAny (model prog w) A (pyNext<|.ref I) Q E s:=by
 let(o,ho,hc,hd):=id hi;let(oa,KU,mG,Sg):=id hS;let(ob,nb,Pj,Tv):=hb;unfold pyNext;show XY (Np<|Nv (name:=Str.ofString "__next__") hi.ty Xb<|RW Xb hi.ty wB ?_<|wA _);unfold Builtin.«set_iterator.__next__»;show XY (TF (a:=(Value.ref I,[])) Z ?_);dsimp only;show XY (xR ho hd ?_);dsimp only[rawInt];show XY (Fu KU Sg hf ?_);rw[if_neg tG];show XY (Nr Pj Tv ?_);dsimp only;let e:(pl.C λ(i:Nat)=>rawInt (i:Int)).m[(i:Int).j]?=some (.int (j:Int) 0):=by rw[Yf,eA,Yr,hj];rfl
 rw[e];dsimp only;rw[Yf,Yf];show XY ?_;unfold setNextDrawn;show XY (GW KU Sg hf ?_);dsimp only;rw[if_neg tG,hx];show Yh ?_;show XY (Vl ho hd tG ?_);show Yh {x.2,Z,Yh<|k _ ⟨_,VS _ ho<|Ks<|Wh hd _,?_,?_⟩<|Rt ..}
 .rw[Fp];show hc
 .rw[Wh hd];simp;rfl
def Cj{Q:Option Value->Shared->Prop}(hh:A.handled=none)(hS:SetIs s.o a es ep t)(hf:t.fits es.G=true)(hi:IsSi s.o I a ↑b pl.f es.G ep)(hb:IsPl s.o b pl)
  (k:∀h',Heap.ExtBut I s.o h'->Q none {s with heap:=h'}):wpAny (model prog w) A (pyNext<|.ref I) Q E s:=by
 let(o,ho,hc,hd):=id hi;let(oa,KU,mG,Sg):=id hS;let(ob,nb,Pj,Tv):=hb;unfold pyNext;show XY (Np<|Nv (name:=Str.ofString "__next__") hi.ty Xb<|RW Xb hi.ty wB ?_<|wA _);unfold Builtin.«set_iterator.__next__»;show XY (TF (a:=(Value.ref I,[])) Z ?_);dsimp only;show XY (xR ho hd ?_);dsimp only[rawInt];show XY (Fu KU Sg hf ?_);rw[if_neg tG];show XY (Nr Pj Tv ?_);dsimp only;let e:(pl.C λ(i:Nat)=>rawInt (i:Int)).m[(pl.f:Int).j]?=none:=by rw[Yf,eA];show YJ tG
 rw[e];dsimp only;show XY (Vl ho hd tG ?_);let Ug:=VS (Obj.mapFields λvs=>vs.setIfInBounds 0<|rawInt 0) ho (Ks<|Wh hd _)
 show XY (Vl Ug (Wh hd _) tG ?_);change wpAny _ _ (newExc (.type "StopIteration") [] >>= _) _ _ _
 show XY ?_;simp only[newExc,newTuple];show XY (RY ?_<|by size_fits);show XY (m:=firstArgMember _ _) (TF (a:=Value.none) (by first|rfl|(simp only[firstArgMember];rfl)) ?_)
 show RY ?_ (by size_fits);simp only[raiseNew];show XY (xM ?_);rw[show A.in1.handled=none from hh];show XY (Yh<|wpAny_throw ?_);show XY (Kl (T:="StopIteration") (b:=true) {_,Yl _ Z,Z} xQ ?_);show Yh (k _<|((((Rt ..).l (Rt ..)).extBut).push _).push _)
def mC(hh:A.handled=none)(hp:pl.Perm (List.range es.G))(hf:t.fits es.G=true)(XM:a≠I)(hnb:b≠I):
  Walks prog w A I [I,a,b] [I] pl.f (λi v=>(pl.filterMap λj=>(es[j]?).C (·.2))[i]?=some v) (λi h=>i<=pl.f/\IsSi h I a ↑b i es.G ep/\SetIs h a es ep t/\IsPl h b pl) where
 sub:=λc hc=>Yg.H (.inl<|XF.E hc)
 frame:=λ_ _ _ x hk=>{x.1,x.2.1.keep λo e=>hk I tG o e,x.2.2.1.keep λo e=>hk a tG o e,x.2.2.2.keep λo e=>hk b tG o e}
 item:=λi s Q E hi ⟨_,x1,x2,x3⟩ hQ=>by
  let hj:pl[i]?=some (pl[i]'hi):=XH hi;let Xp:=YL.E (hp.mem_iff.E<|Xr hj)
  let hx:es[pl[i]'hi]?=some (es[pl[i]'hi]'Xp):=QP Xp;let fm:∀(l:List Nat),(∀j∈l,j<es.G)->l.filterMap (λj=>(es[j]?).C (·.2))=l.C λj=>(es.t j (0,.none)).2:=λl hl=>by
   induction l with
   |nil=>rfl
   |cons y l ih=>
    let hy:=hl y Yb;rw[yi,YD,ih λj h=>hl j<|Ye _ h,QP hy,YF,QP hy];rfl
  let hv:(pl.filterMap λj=>(es[j]?).C (·.2))[i]?=some (es[pl[i]'hi]'Xp).2:=by rw[fm pl λj hj=>YL.E<|hp.mem_iff.E hj,Yr,hj,Kk,YF,hx];rfl
  show mD x2 hf x1 x3 hj hx λh' y hs=>hQ _ h' s.toks hv {hi,y,x2.keep λo e=>(hs.2 a XM).l e,x3.keep λo e=>(hs.2 b hnb).l e} λc o hc eo=>hs.extBut c o (λe=>hc<|by simp[e]) eo
 done:=λs Q E zz hQ=>by let(_,x1,x2,x3):=zz;show Cj hh x2 hf x1 x3 λh' he=>hQ h' s.toks λc o hc eo=>he c o (λe=>hc<|by simp[e]) eo
 self:=λ_ _ _ _ x hQ=>a9 x.2.1 hQ
end
section
variable{prog:Program}{w:World}{A B:Around}{E:Ae}{s:Shared}
def SetIs.ty(x:SetIs s.o a es ep t):s.TypeIs ↑a "set":=by let(o,p,q,_):=x;exists o,p,q.1
def mB{Q:Ae}(hh:A.handled=none)(hS:SetIs s.o a es ep t)(hf:t.fits es.G=true)(hr:QN t)(hl:t.led=!w.params.followText "set-order")(hz:es.G<=sizeLine)
  (k:∀(I:Addr)(h':Heap) d (ord:Ag) (fp:List Addr) (St:Nat->Heap->Prop),ord.Perm (es.toList.C (·.2))->Walks prog w A I fp [I] ord.f (λi v=>ord[i]?=some v) St->St 0 h'->(∀b∈fp,b<h'.objs.G/\(b=a\/(~~~s)<=b))->I∈fp->(~~~s)<=I->(∀c o,s.o.B c=some o->h'.B c=some o)->Q ↑I {s with heap:=h',drawn:=d}):
  wpAny (model prog w) B (pyIter<|.ref a) Q E s:=by
 let(o,ho,hx,hd):=id hS;let KS:a<(~~~s):=Ys ho
 show tX hS.ty bc (RW bc hS.ty mI ?_<|mJ _);unfold Builtin.«frozenset.__iter__»;show XY (TF (a:=a) rfl ?_);show XY ?_;unfold Builtin.Frozenset.sizeOf;show XY (Fu ho hd hf<|Yh ?_);show XY ?_;unfold setDrawn;show XY (GW ho hd hf ?_);dsimp only;show XY ?_;unfold setsByText;show XY (GS<|Yh<|Yh ?_);let num:∀ord sl,sl 0=0->Gj prog w a es ep t ord sl->ord.Perm (es.toList.C (·.2))->wpAny (model prog w) B.in1 (pure (rawInt 0) >>= λfirst=>setEpoch a >>= λe=>newFields "set_iterator" [first,rawInt 0,.ref a,rawInt (es.G:Int),rawInt (e:Int)] >>= λit=>ret it)
   (λfin s'=>∃v,fin=Fin.done (Flow.ret v)/\∃T' r,s'.TypeIs v T'/\typeLookup (Value.type T') (Str.ofString "__next__")=pure (some r)/\Q v s') E s:=λord sl h0 hN hp=>by
  show XY (Yh<|XY<|wpAny_setEpoch_of ho hd hf<|XY ?_);unfold newFields;show RY ?_ (by size_fits);let hI:IsSi (s.o.push {cls:=.type "set_iterator",data:=.fields [rawInt 0,rawInt 0,.ref a,rawInt (es.G:Int),rawInt (ep:Int)].m}) (~~~s) a (rawInt (sl 0:Nat)) 0 es.G ep:={_,Yl _ Z,Z,by rw[h0];rfl}
  show Yh {_,Z,"set_iterator",_,IsSi.ty (s:={s with heap:=_}) hI,Xb.L,?_};let ne:a≠(~~~s):=YA KS
  show k _ _ s.drawn ord _ _ hp (mF hh hN hf ne) {Yk _,hI,hS.keep λo e=>Xf _ e} (λb hb=>?_) tG (Ya _) λc o e=>Xf _ e;rw[Qo];rcases Yg.E hb with e|e
  .rw[e];exists NY _,.inr<|Ya _
  .rw[XF.E e];exists Kp KS,.inl Z
 cases hb:w.params.followText "set-order"=true
 .rw [if_neg (by change ¬(!w.params.followText "set-order" && _)=true;rw[hb];simp)];show num _ (λ_=>0) Z (ZG8 hf hb) ?_
  have:=Cm (f:=w.params.setOrder a ep) es.G 0 es.toList #[] (by rw[YN])
  show this.C _
 .let Pk:w.params.followText "set-order"=false:=by simpa using hb
  rw[Pk]at hl;cases c:(!t.plain&&decide (es.G>1))=true
  .rw [if_pos (by change(!w.params.followText "set-order" && (!t.plain&&decide (es.G>1)))=true;rw[Pk,c];rfl)];show XY (ba es.G (List.range es.G) s _ (by rw[YO]) λpl d hp=>?_);let Wc:pl.f=es.G:=by rw[hp.length_eq,YO]
   show XY (wpAny_newTuple ?_<|by rwa[Xz,Wc]);let hoS:∀(h:Heap) o,h.B a=some o->(h.push {cls:=.type "tuple",data:=.seq (List.C (λi=>rawInt ((i:Nat):Int)) pl).m}).B a=some o:=λh o e=>Xf _ e
   show XY (wpAny_setEpoch_of (hoS s.o o ho) hd hf<|XY ?_);unfold newFields;show RY ?_ (by size_fits);let ne:a≠(~~~s):=YA KS
   generalize Dr:s.o.push {cls:=.type "tuple",data:=.seq (List.C (λi=>rawInt ((i:Nat):Int)) pl).m}=h1;let s1:h1.objs.G=(~~~s)+1:=by rw[<-Dr];show Qo ..
   let Ci:∀c o,s.o.B c=some o->h1.B c=some o:=λc o e=>by rw[<-Dr];show Xf _ e
   let IF:IsPl h1 (~~~s) pl:=by rw[<-Dr];exists _,0,Yl _ Z,Z
   let hI:IsSi (h1.push {cls:=.type "set_iterator",data:=.fields [Value.ref (~~~s),rawInt 0,.ref a,rawInt (es.G:Int),rawInt (ep:Int)].m}) h1.objs.G a (.ref (~~~s)) 0 es.G ep:={_,Yl _ Z,Z,Z};show Yh {_,Z,"set_iterator",_,IsSi.ty (s:={s with heap:=_,drawn:=d}) hI,Xb.L,?_};let OJ:(pl.filterMap λj=>(es[j]?).C (·.2)).Perm (es.toList.C (·.2)):=by show(hp.filterMap _).l ?_;rw[<-filterMap_getElem?_range es,List.map_filterMap]
   let TN:(pl.filterMap λj=>(es[j]?).C (·.2)).f=pl.f:=by rw[OJ.length_eq,Xz,YN,Wc]
   let W:=mC (prog:=prog) (w:=w) (A:=A) (I:=h1.objs.G) (a:=a) (b:=(~~~s)) (es:=es) (ep:=ep) (t:=t) hh hp hf (by rw[s1];show YA<|Kp KS) (by rw[s1];show YA<|NY _);rw[<-TN]at W;show k _ _ d _ _ _ OJ W {Yk _,hI,hS.keep λo e=>Xf _<|Ci _ o e,IF.keep λo e=>Xf _ e} (λb hb=>?_) tG (by rw[s1];show Ur _) λc o e=>Xf _ (Ci c o e);rw[Qo,s1];rcases Yg.E hb with e|e
   .rw[e,s1];exists NY _,.inr<|Ur _
   .rcases Yg.E e with e|e
    .rw[e];exists Kp<|Kp KS,.inl Z
    .rw[XF.E e];exists Kp<|NY _,.inr<|Ya _
  .let c':(!t.plain&&decide (es.G>1))=false:=by simpa using c
   rw[if_neg (by change ¬(!w.params.followText "set-order" && (!t.plain&&decide (es.G>1)))=true;rw[c'];simp)];show num _ _ Z (mE hf hr Pk hl c') .rfl
end
def Cg:typeLookup (.type "set") "__len__"=pure (some (.builtin "set.__len__")):=by rw[UO,Oa];kernel_rfl
section
variable{prog:Program}{w:World}{A:Around}{E:Ae}{s:Shared}
def mz{r:Addr}{Q:Bool->Shared->Prop}(hT:s.TypeIs ↑r "set")(h:Q false s):wpAny (model prog w) A (Builtin.List.listLengthHint ↑r) Q E s:=by
 unfold Builtin.List.listLengthHint;show XY (Ki hT Cg ?_);generalize DA:("set.__len__":String)=pG
 wp_delta
 rw[show splitId pG=some ("set","__len__") from by subst DA;decide +kernel];subst DA;show XY (Kl (T:="set") (b:=true) hT sub_set_self ?_);change wpAny _ A (typeOf (Value.ref r) >>= _) _ _ _
 show XY (PF (T:="set") hT<|Yh h)
def my{Q:List Value->Shared->Prop}(hh:A.handled=none)(hS:SetIs s.o a es ep t)(hf:t.fits es.G=true)(hr:QN t)(hl:t.led=!w.params.followText "set-order")(hz:es.G<=sizeLine)
  (k:∀(out:Ag) h' tk d,out.Perm (es.toList.C (·.2))->(~~~s)<=h'.objs.G->(∀c o,s.o.B c=some o->h'.B c=some o)->Q out {s with heap:=h',toks:=tk,drawn:=d}):wpAny (model prog w) A (collect<|.ref a) Q E s:=by
 let Je:(s.o.push<|seqObj "list" #[] 0).B (~~~s)=some (seqObj "list" #[] 0):=Yl _ rfl;let Cp:SetIs (s.o.push<|seqObj "list" #[] 0) a es ep t:=hS.keep λo e=>Xf _ e
 let KS:a<(~~~s):=by let(_,e,_):=hS;show Ys e
 unfold collect;show XY (xS<|RU tT ?_);change wpAny _ _ (newList [] >>= λv=>again<|.builtin "list.__iadd__" {[v,.ref a],[]}) _ _ s
 show XY (Sr<|Yh ⟨xZ _ tH,RU entry_list_iadd' ?_⟩);change wpAny _ _ (Builtin.List.listExtendWith (.ref (~~~s)) ↑a<|.ref (~~~s)) _ _ {s with heap:=s.o.push (seqObj "list" #[] 0)}
 unfold Builtin.List.listExtendWith;show XY (PF (T:="set") (SetIs.ty (s:={s with heap:=s.o.push (seqObj "list" #[] 0)}) Cp) ?_);let e1:Builtin.List.listSameRef (.ref (~~~s)) ↑a=false:=by change((~~~s) == a)=false;show xY (Rr KS)
 rw[if_neg (by rw[e1];decide)];show XY (mB (A:=A.in1) (by simp[hh]) Cp hf hr hl hz λI h' d ord fp St OJ W Gw wz hI OI kp=>?_);let hT':Shared.TypeIs {s with heap:=h',drawn:=d} ↑a "set":=SetIs.ty (s:={s with heap:=h',drawn:=d}) (Cp.keep λo e=>kp a o e)
 show XY (RS<|mz hT' ?_);rw[if_pos tH];let a8:=kp _ _ Je
 show XY (Kb<|XY ?_);unfold Builtin.List.listTouch;show XY (Kc (xs:=#[]) (n:=0) a8 Z ?_ (Yk _)<|by change 1<=sizeLine+1;lia);let aZ:=VS (Obj.mapSeq (·.push Value.none)) a8 rfl
 show Kc (xs:=#[].push Value.none) (n:=1) aZ Z ?_ (by change 1<=sizeLine;decide) (by change 0<=sizeLine+1;lia);let hL4:=VS (Obj.mapSeq Array.pop) aZ rfl
 let old:∀c o,c≠(~~~s)->h'.B c=some o->((h'.update (~~~s) (Obj.mapSeq (·.push Value.none))).update (~~~s) (Obj.mapSeq Array.pop)).B c=some o:=λc o hc e=>by rwa[YW _ _ (YY hc),YW _ _ (YY hc)]
 generalize (h'.update (~~~s) (Obj.mapSeq (·.push Value.none))).update (~~~s) (Obj.mapSeq Array.pop)=h4 at *;let Sj:(~~~s)∉fp:=λq=>by
  rcases(wz _ q).2 with e|e
  .show Rr KS e
  .rw [show({s with heap:=s.o.push (seqObj "list" #[] 0)}:Shared).o.objs.G=(~~~s)+1 from Qo ..] at e;show Nat.not_succ_le_self _ e
 let mx:ord.f=es.G:=by rw[OJ.length_eq,Xz,YN]
 show Yh {Nn eZ _,codeAny_extend_loopS W.toS (by rwa[mx]) (~~~s) Sj _ ord.f 0 _ #[] _ Z (Yk _) (W.frame 0 _ _ Gw λb hb o e=>old b o (λq=>Sj<|q▸hb) e) hL4 (ItemsOf.nil _) λs2 acc c m aY VQ=>?_};let eo:acc.toList=ord:=by
  show PR λi=>?_;rw[VH];cases hi:i<ord.f
  .let q:acc[i]?=some (acc[i]'(by rwa[VQ.1])):=QP _;rw[q,VQ.2 i _ q]
  .rw[YJ tL,yk (by rw[VQ.1];omega)]
 change wpAny _ A (load (~~~s) >>= _) Q E s2;show XY (PD aY ?_);show Yh ?_;rw[eo,Moved.eq_with m];show k ord s2.o s2.toks d OJ (Nl<|Ys aY) λc o e=>?_;let lt:=Ys e
 show m.o c o (λq=>?_) (old c o (YA lt)<|kp c o<|Xf _ e);rcases Yg.E q with e'|e'
 .show YA lt e'
 .rw[XF.E e']at lt
  have:=Yu lt (YE (Ur _)<|Qo .. ▸ OI)
  show RT _ this
end
def aX:∀{l:Ac},m.Nodup->l.f=m.f->(∀x∈m,x∈l)->l.Perm m:=by
 induction m with
 |nil=>intro l _ h _;rw[Vy.E h]
 |cons x m ih=>
  intro l hn hl hs;let hx:=hs x Yb
  let RQ:=Qp.E hn;show(List.perm_cons_erase hx).l ((ih RQ.2 (by rw[yn hx,hl];rfl) λy hy=>?_).cons x);let ne:y≠x:=λe=>RQ.1 (by rwa[<-e])
  show(uE ne).H (hs y<|Ye _ hy)
def ZX8(p:us.Perm vs):∀{ns:Ac},IntsAre vs ns->∃ms,IntsAre us ms/\ms.Perm ns:=by
 induction p with
 |nil=>intro ns h;exists ns,h,.rfl
 |cons x _ ih=>
  intro ns h;cases h with
  |cons n t h=>
   let(ms,h1,h2):=ih h;exists n::ms,.cons n t h1,h2.cons n
 |swap x y l=>
  intro ns h;cases h with
  |cons n t h=>
   cases h with
   |cons m u h=>exists m::n::_,.cons m u<|.cons n t h,.swap n m _
 |trans _ _ OU SE=>
  intro ns h;let(ms,h1,h2):=SE h;let(ls,h3,h4):=OU h1;exists ls,h3,h4.l h2
def mw(h:IntsAre vs ns):vs.f=ns.f:=by
 induction h with
 |nil=>rfl
 |cons n t _ ih=>rw[Yv,Yv,ih]
def wy(val:Nat->Int):∀i,(firstMet val i).Nodup
 |0=>.nil
 |i+1=>by
  rw[firstMet_succ];unfold step_dedup;split
  .show wy val i
  .rename_i h;show YM.H {wy val i,tG,λa ha b hb e=>?_};rw[XF.E hb]at e;show h (ui.H {a,ha,by rw[e];simp})
section
variable{prog:Program}{w:World}{A:Around}{E:Ae}{s:Shared}
def aW:∀{l:List (Int×Value)},ElemsOf (intKind prog w) l->∃ms,IntsAre (l.C (·.2)) ms/\∀z,z∈ms↔∃y∈l,(intKind prog w).is z y.2=true
 |[],_=>{[],.nil,λz=>{λh=>(by cases h),λzz=>by let(y,h,_):=zz;show(by cases h)}}
 |y::l,h=>by
  let(ms,h1,h2):=aW h.tail;let((z,hz,_),_):=h.head;let(hy,v):=y;let(u,rfl):=Value.isInt_shape (show Value.isInt z v=true from hz);exists z::ms,.cons z u h1,λx=>?_;rw[Yg,h2];constructor
  .rintro(e|⟨y,hy,q⟩)
   .exists _,Yb,e▸hz
   .exists y,Ye _ hy,q
  .rintro⟨y,hy,q⟩;rcases Yg.E hy with e|e
   .rw[e]at q;show .inl ((intKind prog w).inj _ _ _ q hz)
   .show .inr ⟨y,e,q⟩
def Zr6{led:Bool}{AP:Int->Bool}{Q:Ae}(hh:A.handled=none)(hS:SetR prog w s.o a (!w.params.followText "set-order") AP n)(Sh:n<64)
  (k:∀(ms:Ac)(out:Ag) r h' tk d c,IntsAre out ms->ms.Q (·<=·)->ms.f=n->(∀z,z∈ms↔AP z=true)->(~~~s)<=r->h'.B r=some (seqObj "list" out.m c)->(∀c o,s.o.B c=some o->h'.B c=some o)->Q ↑r {s with heap:=h',toks:=tk,drawn:=d}):
  wpAny (model prog w) A (call (.builtin "sorted") [.ref a]) Q E s:=by
 let(o,es,ep,t,ho,hx,hd,he,hm,hb,hf,hn,hr,hl):=hS;let(ns,hI,hmem):=aW he;let NM:sizeLine=16777216:=TB
 show Calls.call_function_entry kind_sorted plain_sorted entry_sorted (args_sorted1 _) ?_;unfold Builtin.«sorted»;show XY (m:=checkCount "sorted" 1 1 _) (Yh ?_);show XY (my (A:=A.in1) (by simp[hh]) ⟨o,ho,hx,hd⟩ hf hr hl J λout h1 tk d hp OI kp=>?_);let(ls,aV,Vu):=ZX8 hp hI;let lo:=mw aV
 let ll:ls.f=n:=by rw[<-lo,hp.length_eq,Xz,YN,hn]
 show XY (Sr ?_);let hL:(h1.push<|seqObj "list" out.m 0).B h1.objs.G=some (seqObj "list" out.m 0):=Yl _ rfl
 show XY (RS<|RW slot_list_sort ⟨_,hL,Z⟩ entry_list_sort (list_sort_tree hL aV J λres ms b1 b2 b3=>{_,Z,?_})<|args_list_sort _);let(c,hc):=sortedHeap_at (out:=res) hL;show Yh {_,Z,k ms res.toList h1.objs.G _ tk d c b1 b3 (by rw[b2.length_eq,ll]) (λz=>by rw[b2.mem_iff,Vu.mem_iff,hmem,hm]) OI (by rwa[Array.toArray_toList]) λb ob e=>?_};let lt:=Ys (kp b ob e)
 rw[sortedHeap_old (YA lt) (by rw[size_push'];show Kp lt)];show Xf _ (kp b ob e)
end
section
variable{X:Cx}{p p2 pos Vg:Pos}{e:Expr}{t:TA}
def Inv.drew(I:Inv X pins σ H s)(d:Drawn):Inv X pins σ H {s with drawn:=d}:=
 I.step (g':=s.gens) (d':=d) (t':=s.toks) (h':=s.o) (ch:=[]) (λb hb=>(by cases hb)) (λb o _ _ _ q _=>q) (λb o _ _ _ q _=>⟨o.slots,q⟩) (λb o _ _ n=>n) (λb o _ q=>⟨o,q⟩) (λb xs q=>q) (λb o u q=>q) (λb ps q=>{#[],by rw[q];simp}) (λm hm=>hm) I.hok I.bare
def Zp6(K:Ad)(t:TA):(TE):=λσ H Q=>t σ H λvs H1=>∃(a:Addr)(ns:Ac),vs=[.ref a]/\SqL K H1 a (ns.C V.int)/\ns.f<64/\∀ms:Ac,ms.Q (·<·)->(∀z,z∈ms↔z∈ns)->∀l,H1 l=none->Q ↑l (upd H1 l<|.lst<|ms.C V.int)
def Zq4(K:Ad)(hc:X.calm=true)(g1:Gl X "sorted")(m1:X.mg "sorted"=none)(g2:Gl X "set")(m2:X.mg "set"=none)(ha:PA X [e] t)(hk:X.K=K:=by rfl)
  (he:starEach [e] X.R=[(false,eval e X.R)]:=by rfl)
  (Sl:starEach [.Call (.Name "set" p2) [e] [] Vg] X.R=[(false,eval (.Call (.Name "set" p2) [e] [] Vg) X.R)]:=by rfl):
  PE X (.Call (.Name "sorted" p) [.Call (.Name "set" p2) [e] [] Vg] [] pos) (Zp6 K t):=by
 subst hk;intro pins s σ H Q I h;show NZ (VG I g1 m1 Boot.«sorted» ?_);show Fh ?_ (by rw[Sl];rfl) rfl;rw[Sl];change wpAny _ _ (spliced<|(false,eval (.Call (.Name "set" p2) [e] [] Vg) X.R)::backTo pos []) _ _ s
 show tZ ?_;show NZ (VG I g2 m2 Boot.«set» ?_);show Ny (thn (ha Vg pins s σ H _ I h) λus s1 zz=>?_) (by rw[he];rfl) rfl;let(vs,H1,I1,r1,q1):=zz;let(a,ns,rfl,hq,hn,q):=q1;let(u,rfl,ru):=TR r1;let rfl:u=Value.ref a:=ru;let(XU,rv,pl,hz):=I1.list hq;let hi:=ZL rv
 let el:XU.m.G=ns.f:=by rw[Yd,<-rv.f,Xz]
 let sb:scanBound=4096:=rfl;show mN (I.ok.hd hc) pl.isList (ns:=ns) (by simpa using hi) J λh2 tk hS kp=>?_;show tU ?_;let fl:=firstMet_length_le (λi=>ns.t i 0) XU.m.G
 show Zr6 (led:=true) (s:={s1 with heap:=h2,toks:=tk}) (I.ok.hd hc) hS J λms out r h3 tk3 d c hI hs hl hmem OI hr kp3=>?_;let em:∀z,z∈ms↔z∈ns:=λz=>by
  rw[hmem,firstMet_any,el];let e1:(List.range ns.f).C (λi=>ns.t i 0)=ns:=by
   show PR λi=>?_;rw[Yr];cases c:i<ns.f
   .rw[PX c,XH c,Kk,Xl,XH c];rfl
   .rw[YJ (by rw[YO];lia),YJ S];rfl
  rw[e1];simp
 let Vq:ms.Nodup:=(aX (wy _ _) hl λx hx=>(hmem x).H (ui.H ⟨x,hx,tG⟩)).nodup_iff.H (wy _ _);let Xp:(~~~s1)<=h2.objs.G:=by let(_,_,_,_,e,_):=hS;show Nl (Ys e)
 let Cf:(~~~s1)<=r:=YE Xp OI;let OZ:ms.f<=ns.f:=by rwa[hl,<-el]
 let I2:=(I1.laid (o:=.lst<|ms.C V.int) (h':=h3) (t':=tk3) (λb o e=>kp3 b o<|kp b o e) Cf ⟨by rw[Xz];have:sizeLine=16777216:=TB;lia,out,c,Pa hI,hr⟩).drew d;exists .ref r,_,I2,Z,q ms (My.VZ hs Vq) em r<|I1.hok.fresh Cf
end
end L2
namespace My
open PySem L2
def ZQ7{f g:Nat->Nat}{N k:Nat}(hf:∀i j,i<N->j<N->(f i=f j↔Conn A i j))(hk:∀i,i<N->f i<k)(hg:∀a,a<k->g a<N/\f (g a)=a)(hA:InN N A)(hB:InN N B):
  (∀i j,i<N->j<N->Conn (A++B) i j)↔∀a b,a<k->b<k->Conn (B.C λe=>(f e.1,f e.2)) a b:=by
 let gi:∀i,i<N->Conn A (g<|f i) i:=λi hi=>by let(h1,h2):=hg (f i) (hk i hi);show(hf _ _ h1 hi).E h2
 constructor
 .intro c a b ha hb;let(a1,a2):=hg a ha;let(b1,b2):=hg b hb;let q:=(c (g a) (g b) a1 b1).image (f:=f) (fs:=B.C λe=>(f e.1,f e.2)) λe he=>by
   rcases Xx.E he with q|q
   .let⟨e1,e2⟩:=hA e q;rw[(hf _ _ e1 e2).H (.edge q)];show .refl _
   .show .edge (Yq.H ⟨e,q,Z⟩)
  rwa[a2,b2]at q
 .intro c i j hi hj;let up:∀{i j:Nat},Conn A i j->Conn (A++B) i j:=λq=>q.mono λe he=>Yj _ he
  let q:=(c (f i) (f j) (hk i hi)<|hk j hj).image (f:=g) (fs:=A++B) λe he=>by let(d,hd,rfl):=Yq.E he;let(d1,d2):=hB d hd;show(up<|gi _ d1).l ((Conn.edge<|Yi _ hd).l (up<|gi _ d2).U)
  show(up<|gi i hi).U.l (q.l<|up<|gi j hj)
def PC(n:Int)(ps:Aa)(I O:Ac)(c:Nat):(Prop):=∃L:Ab,L.Nodup/\(∀l,l∈L↔Zn n ps l/\(∀z∈I,z∈l)/\∀z∈O,z∉l)/\L.f=c
def PC.uniq(h1:PC n ps I O c)(h2:PC n ps I O d):c=d:=by
 let(L,a1,a2,a3):=h1;let(M,b1,b2,b3):=h2
 have:L.Perm M:=(Vm a1 b1).H λl=>by rw[a2,b2]
 rw[<-a3,<-b3,this.length_eq]
def XE(m:Nat)(gone:Ac):(Ac):=(Xh m).filter λz=>decide (z∉gone)
def WU{z:Int}:z∈XE m gone↔(0<=z/\z<(m:Int))/\z∉gone:=by unfold XE;rw[Yt,Qs,XO]
def aT(m:Nat)(gone:Ac):(XE m gone).Q (·<·):=(XW.E<|NJ m).2.filter _
def Te(f:Nat->Nat)(ps:Aa)(R:Ac):(Aa):=R.C λz=>((f (Zo ps z).1:Int),(f (Zo ps z).2:Int))
def QL(R:Ac)(AP:Ac):(Ac):=AP.C λt=>R.t t.j 0
def mv(hR:R.Q (·<·))(hS:IsSet R.f AP):(QL R AP).Q (·<·):=by
 let(a1,a2):=XW.E hS;show Sv.H (a2.imp_of_mem λ{a b} ha hb VJ=>?_);let h1:=a1 a ha
 let h2:=a1 b hb;rw[Xl,Xl,XH J,XH J];show LP.E hR a.j b.j S S J
def Ce(hS:IsSet R.f AP){z:Int}(h:z∈QL R AP):z∈R:=by
 let(t,ht,rfl):=Yq.E h;let h1:=hS.all t ht
 rw[Xl,XH J];show RX _
def mr{f:Nat->Nat}(hS:IsSet R.f AP):XT (Te f ps R) AP=(XT ps (QL R AP)).C λe=>(f e.1,f e.2):=by
 unfold XT QL;rw[Rq,Rq];show YQ λt ht=>?_;let h1:=hS.all t ht
 let e:(Te f ps R).t t.j (0,0)=((f (Zo ps<|R.t t.j 0).1:Int),(f (Zo ps<|R.t t.j 0).2:Int)):=by unfold Te;rw[Xl,Yr,Xl,XH S];rfl
 rw[e];rfl
def RF(m:Nat)(I R AP:Ac):(Ac):=(Xh m).filter λz=>decide (z∈I\/z∈QL R AP)
def mq(m:Nat)(I R AP:Ac):(RF m I R AP).Q (·<·):=(XW.E<|NJ m).2.filter _
def WW{z:Int}:z∈RF m I R AP↔(0<=z/\z<(m:Int))/\(z∈I\/z∈QL R AP):=by unfold RF;rw[Yt,Qs,XO]
section
variable{n:Int}{ps:Aa}{I O AP:Ac}{f g:Nat->Nat}{k:Nat}
def ml(hI:IsSet ps.f I)(hS:IsSet (XE ps.f (I++O)).f AP):(RF ps.f I (XE ps.f (I++O)) AP).Perm (I++QL (XE ps.f (I++O)) AP):=by
 let ua:=mv (aT ps.f<|I++O) hS;show(Vm (Jf<|mq _ _ _ _)<|YM.H {hI.nodup,Jf ua,λa ha b hb e=>?_}).H λz=>?_
 .have:=(WU.E<|Ce hS hb).2
  show this (Yj _<|e▸ha)
 .rw[WW,Xx];exists λh=>h.2,λh=>{?_,h};rcases h with q|q
  .show hI.all z q
  .show(WU.E<|Ce hS q).1
theorem aS(g0:Zt n ps)(hI:IsSet ps.f I)(hf:∀i j,i<n.j->j<n.j->(f i=f j↔Conn (XT ps I) i j))(hk:∀i,i<n.j->f i<k)(hg:∀a,a<k->g a<n.j/\f (g a)=a)(hS:IsSet (XE ps.f (I++O)).f AP):
  ((∀i j,i<n.j->j<n.j->Conn (XT ps<|RF ps.f I (XE ps.f<|I++O) AP) i j)↔∀a b,a<k->b<k->Conn (XT (Te f ps<|XE ps.f<|I++O) AP) a b):=by
 let hp:=ml (O:=O) hI hS;let hA:=ZE (ns:=I) g0 hI.all
 let hB:=ZE (ns:=QL (XE ps.f<|I++O) AP) g0 λz hz=>(WU.E<|Ce hS hz).1;let e:XT ps (I++QL (XE ps.f<|I++O) AP)=XT ps I++XT ps (QL (XE ps.f<|I++O) AP):=by unfold XT;show Yp
 rw[mr hS,<-ZQ7 hf hk hg hA hB,<-e];exists λc i j hi hj=>(Lm λz=>hp.mem_iff).E (c i j hi hj),λc i j hi hj=>(Lm λz=>hp.mem_iff).H (c i j hi hj)
def Cd(hI:IsSet ps.f I)(hT:IsSet ps.f T)(h1:∀z∈I,z∈T)(h2:∀z∈O,z∉T):∃AP,IsSet (XE ps.f (I++O)).f AP/\T=RF ps.f I (XE ps.f (I++O)) AP:=by
 exists (Xh (XE ps.f<|I++O).f).filter λt=>decide<|(XE ps.f<|I++O).t t.j 0∈T,XW.H {λt ht=>XO.E (Yt.E ht).1,(XW.E<|NJ _).2.filter _},Di (XW.E hT).2 (mq _ _ _ _) λz=>?_;rw[WW];constructor
 .intro hz;exists hT.all z hz,?_;cases c:z∈I
  .show .inl c
  .right;let hR:z∈XE ps.f (I++O):=WU.H ⟨hT.all z hz,λq=>by
    rcases Xx.E q with q|q
    .show c q
    .show h2 z q hz⟩
   let(t,ht):=Yz hR;let e:(XE ps.f<|I++O).t ((t:Int)).j 0=z:=by rw[Yf];show ZO ht
   show Yq.H {(t:Int),Yt.H {XO.H {J,by have:=(Xy.E ht).1;omega},YK<|by rwa[e]},e}
 .rintro⟨_,q|q⟩
  .show h1 z q
  .let⟨t,ht,rfl⟩:=Yq.E q;show YH (Yt.E ht).2
def Zo9{S':Ac}(hS:IsSet (XE ps.f (I++O)).f AP)(SH:IsSet (XE ps.f (I++O)).f S')(e:RF ps.f I (XE ps.f (I++O)) AP=RF ps.f I (XE ps.f (I++O)) S'):AP=S':=by
 let key:∀{A B:Ac},IsSet (XE ps.f<|I++O).f A->IsSet (XE ps.f<|I++O).f B->RF ps.f I (XE ps.f<|I++O) A=RF ps.f I (XE ps.f<|I++O) B->∀t,t∈A->t∈B:=λ{A B} hA hB e t ht=>by
  let h1:=hA.all t ht;let hm:(XE ps.f<|I++O).t t.j 0∈QL (XE ps.f<|I++O) A:=Yq.H ⟨t,ht,Z⟩
  let hR:=WU.E (Ce hA hm);let h2:(XE ps.f<|I++O).t t.j 0∈RF ps.f I (XE ps.f<|I++O) B:=e▸WW.H {hR.1,.inr hm}
  rcases(WW.E h2).2 with q|q
  .show absurd (Yj _ q) hR.2
  .let⟨u,hu,e2⟩:=Yq.E q;let h3:=hB.all u hu
   rw[Xl,Xl,XH J,XH J]at e2
   have:=Ub (Jf<|aT ps.f<|I++O) (i:=u.j) (j:=t.j) (XH S) (by rw[XH S];show XG some e2.U)
   let e3:u=t:=J;show e3▸hu
 show Di (XW.E hS).2 (XW.E SH).2 λt=>{key hS SH e t,key SH hS e.U t}
def wx(f:Nat->Nat)(ps:Aa)(R:Ac):(Te f ps R).f=R.f:=Xz ..
def mh(g0:Zt n ps)(hI:IsSet ps.f I)(TY:∀z∈I,z∉O)(hf:∀i j,i<n.j->j<n.j->(f i=f j↔Conn (XT ps I) i j))(hk:∀i,i<n.j->f i<k)(hg:∀a,a<k->g a<n.j/\f (g a)=a)(hn:(k:Int)+I⁻¹=n)(h:TC k (Te f ps (XE ps.f (I++O))) c):PC n ps I O c:=by
 let(L,h1,h2,h3):=h;let hs:∀l∈L,IsSet (XE ps.f<|I++O).f l:=λl hl=>wx f ps _▸((h2 l).E hl).1
 let len:∀{AP:Ac},IsSet (XE ps.f<|I++O).f AP->(RF ps.f I (XE ps.f<|I++O) AP).f=I.f+AP.f:=λ{AP} hS=>by rw[(ml hI hS).length_eq,XB];unfold QL;rw[Xz]
 let iff:∀{AP:Ac},IsSet (XE ps.f<|I++O).f AP->(Zn n ps (RF ps.f I (XE ps.f<|I++O) AP)↔Zn k (Te f ps<|XE ps.f<|I++O) AP):=λ{AP} hS=>by
  let l:=len hS;let q:=aS (O:=O) g0 hI hf hk hg hS
  constructor
  .rintro⟨a1,a2,a3⟩;exists by rw[wx];show hS,J,λa b ha hb=>q.E a3 a b J J
  .rintro⟨a1,a2,a3⟩;exists XW.H {λz hz=>(WW.E hz).1,mq _ _ _ _},J,q.H λa b ha hb=>a3 a b J J
 show{L.C<|RF ps.f I<|XE ps.f<|I++O,Sv.H<|h1.imp_of_mem λ{a b} ha hb VJ e=>VJ<|Zo9 (hs a ha) (hs b hb) e,λT=>?_,by rw[Xz,h3]};rw[Yq];constructor
 .rintro⟨AP,hS,rfl⟩;exists (iff<|hs AP hS).H ((h2 AP).E hS),λz hz=>WW.H {hI.all z hz,.inl hz},λz hz q=>?_;rcases(WW.E q).2 with q|q
  .show TY z q hz
  .show(WU.E<|Ce (hs AP hS) q).2 (Yi _ hz)
 .rintro⟨hT,q1,q2⟩;let(AP,hS,rfl):=Cd hI hT.1 q1 q2;exists AP,(h2 AP).H ((iff hS).E hT),Z
def aR(g0:Zt n ps)(gone:Ac)(hk:∀i,i<n.j->f i<k)(k1:1<=k)(kn:k<=n.j):Zt k (Te f ps (XE ps.f gone)):=by
 let(g1,g2,g3,g4):=g0;exists J,J,?_,λp hp=>?_
 .rw[wx]
  have:(XE ps.f gone).f<=(Xh ps.f).f:=YT ..
  have:=(NJ ps.f).len
  lia
 .let⟨z,hz,rfl⟩:=Yq.E hp;let bV:=(WU.E hz).1
  obtain⟨q,hq⟩:∃q,ps[z.j]?=some q:={_,XH J};let(e1,e2,e3,e4):=g4 q (Xr hq);let ee:Zo ps z=(q.1.j,q.2.j):=by unfold Zo;rw[ZO hq]
  rw[ee];let a:=hk q.1.j J
  let b:=hk q.2.j J;exists by change(0:Int)<=(f q.1.j:Int);lia,by change(f q.1.j:Int)<(k:Int);lia,by change(0:Int)<=(f q.2.j:Int);lia,by change(f q.2.j:Int)<(k:Int);lia
def mf(g0:Zt n ps)(hI:IsSet ps.f I)(hf:∀i j,i<n.j->j<n.j->(f i=f j↔Conn (XT ps I) i j))(hk:∀i,i<n.j->f i<k)(hg:∀a,a<k->g a<n.j/\f (g a)=a)(k1:1<=k)(kn:k<=n.j)(hn:n<(k:Int)+I⁻¹):PC n ps I O 0:=by
 exists [],.nil,λT=>{λh=>(by cases h),λzz=>?_},Z;let(hT,q1,q2):=zz;let(AP,hS,rfl):=Cd hI hT.1 q1 q2;let q:=(aS (O:=O) g0 hI hf hk hg hS).E hT.2.2
 let gg:=aR (f:=f) g0 (I++O) hk k1 kn;let l:=Cv gg (by rwa[wx]) λa b ha hb=>q a b J J
 let l2:=hT.2.1;rw[(ml hI hS).length_eq,XB]at l2;unfold QL at l2;rw[Xz]at l2;omega
end
def Va:(Ac->Int->Nat)
 |[],_=>0
 |x::l,z=>if x=z then 0 else Va l z+1
def IE:∀{l:Ac}{z:Int},z∈l->l[Va l z]?=some z
 |x::l,z,h=>by
  unfold Va;cases c:x=z
  .rw[if_pos c,c];rfl
  .rw[if_neg c];show IE ((Yg.E h).resolve_left λe=>c e.U)
def me(h:z∈l):Va l z<l.f:=(Xy.E<|IE h).1
def md(hz:z∈l)(hy:y∈l):Va l z=Va l y↔z=y:=by
 show{λe=>?_,λe=>by rw[e]};let h1:=IE hz
 rw[e,IE hy]at h1;show(Yc h1).U
def ma(hn:l.Nodup){i:Nat}{z:Int}(h:l[i]?=some z):Va l z=i:=Ub hn (IE<|Xr h) h
def Cc(h:i<M.f):mk M i∈M:=by unfold mk;rw[Xl,XH h];show RX h
section
variable{N:Nat}{es:List (Nat×Nat)}{F:Ac}
def l9(h:InN N es)(hF:F.Q (·<·))(hm:∀z,z∈F↔z∈Xu N es):
  ∃g:Nat->Nat,(∀i j,i<N->j<N->(Va F (mk (Xu N es) i)=Va F (mk (Xu N es) j)↔Conn es i j))/\(∀i,i<N->Va F (mk (Xu N es) i)<F.f)/\∀a,a<F.f->g a<N/\Va F (mk (Xu N es)<|g a)=a:=by
 let hl:=ZC N es;let l8:∀i,i<N->mk (Xu N es) i∈F:=λi hi=>(hm _).H (Cc J)
 let ex:∀a,∃i,a<F.f->i<N/\Va F (mk (Xu N es) i)=a:=λa=>by
  cases c:a<F.f
  .let q:=(hm _).E (RX c);let(i,hi):=Yz q;let Vs:=(Xy.E hi).1
   exists i,λ_=>{J,?_};let e:mk (Xu N es) i=F[a]:=by unfold mk;show ZO hi
   rw[e];show ma (Jf hF) (XH c)
  .exists 0,λh=>absurd h c
 exists λa=>Classical.choose<|ex a,λi j hi hj=>?_,λi hi=>me<|l8 i hi,λa ha=>Classical.choose_spec (ex a) ha;rw[md (l8 i hi) (l8 j hj)];show QV h hi hj
def l6:∀i,∃p,p<=i/\Wn M p=true/\mk M p=mk M i:=by
 intro i
 induction i using Nat.strongRecOn with
 |_ i ih=>
  cases c:Wn M i=true
  .exists i,Ya _,c,Z
  .obtain⟨j,hj,e⟩:∃j,j<i/\mk M j=mk M i:=YC λno=>c (XC.H λj hj e=>no ⟨j,hj,e⟩);let(p,h1,h2,h3):=ih j hj;exists p,J,h2,h3.l e
def l5(hF:F.Q (·<·))(hm:∀z,z∈F↔z∈M):F.f=cnt M:=by
 let e:F.Perm ((Vt M M.f).C (mk M)):=by
  show(Vm (Jf hF) ?_).H λz=>?_
  .show Sv.H ?_;unfold Vt;show(Rp.filter<|Wn M).imp_of_mem λ{a b} ha hb VJ=>?_;show XC.E (Yt.E hb).2 a VJ
  .rw[hm,Yq];constructor
   .intro hz;let(i,hi):=Yz hz;let Vs:=(Xy.E hi).1
    let(p,h1,h2,h3):=l6 (M:=M) i;exists p,Yt.H {YL.H J,h2},h3.l ?_;unfold mk;show ZO hi
   .rintro⟨p,hp,rfl⟩;show Cc (YL.E (Yt.E hp).1)
 rw[e.length_eq,Xz];rfl
def ZA4(h:InN N es)(hN:1<=N)(hF:F.Q (·<·))(hm:∀z,z∈F↔z∈Xu N es):1<=F.f/\F.f<=N/\N<=F.f+es.f:=by
 let e:=l5 hF hm;let hl:=ZC N es
 let e2:=oM (xc (n:=N) (es:=es) h);let e3:=wV es h
 let e4:=pf (M:=Xu N es) J;let e5:cnt (Xu N es)<=N:=by unfold cnt Vt;show YE (YT ..) ?_;rw[YO];lia
 lia
end
def lZ{t:Int}(h1:PC n ps (t::I) O a)(h2:PC n ps I (t::O) b):PC n ps I O (a+b):=by
 let(L,l1,l2,l3):=h1;let(M,m1,m2,m3):=h2;exists L++M,YM.H {l1,m1,λx hx y hy e=>?_},λT=>?_,by rw[XB,l3,m3]
 .rw[e]at hx;show((m2 y).E hy).2.2 t Yb (((l2 y).E hx).2.1 t Yb)
 .rw[Xx,l2,m2];constructor
  .rintro(⟨a1,a2,a3⟩|⟨a1,a2,a3⟩)
   .exists a1,λz hz=>a2 z<|Ye _ hz,a3
   .exists a1,a2,λz hz=>a3 z<|Ye _ hz
  .rintro⟨a1,a2,a3⟩;cases c:t∈T
   .show .inl ⟨a1,λz hz=>by
     rcases Yg.E hz with e|e
     .rw[e];show c
     .show a2 z e,a3⟩
   .show .inr ⟨a1,a2,λz hz=>by
     rcases Yg.E hz with e|e
     .rw[e];show c
     .show a3 z e⟩
def lY(F G:Ac->Ac)(hF:∀T,Zn n ps T->Zn n' aQ (F T)/\G (F T)=T)(hG:∀T,Zn n' aQ T->Zn n ps (G T)/\F (G T)=T)(h:TC n ps c):TC n' aQ c:=by
 let(L,h1,h2,h3):=h;let nd:(L.C F).Nodup:=Sv.H (h1.imp_of_mem λ{a b} ha hb VJ e=>VJ<|by rw[<-(hF a<|(h2 a).E ha).2,<-(hF b<|(h2 b).E hb).2,e])
 exists L.C F,nd,λT=>?_,by rw[Xz,h3]
 .rw[Yq];exists λzz=>by let(AP,hS,e):=zz;show e▸(hF AP<|(h2 AP).E hS).1,λhT=>{G T,(h2 _).H (hG T hT).1,(hG T hT).2}
section
variable{K:Ad}{a:Addr}{xs:List V}{g:TG}{tt:TT}{te:TE}{o:Nat}{fr:List Nat}{σ:St}{H:Hp}{Q:VK}
def lX(Pv:Nat->List V->Hp->Prop)(h0:Pv 0 [] H)(hz:xs.f<sizeLine)(hl:∀i zs H,i<=xs.f->Pv i zs H->SqL K H a xs/\zs.f<=i)
  (hs:∀(i:Nat) x zs H,i<xs.f->xs[xs.f-1-i]?=some x->Pv i zs H->Jm Pv g tt te o fr σ i x zs H)(hd:∀zs H,Pv xs.f zs H->∀p,H p=none->Q ↑p (upd H p<|.lst zs)):MP (IT K a xs.f) g tt te o fr σ H Q:=by
 exists λi m zs H=>m=xs.f-i/\i<=xs.f/\Pv i zs H,{xs.f,tG,Yk _,h0},?_;rintro i m zs H ⟨rfl,hi,p⟩;let(q,hy):=hl i zs H hi p;cases Xp:i<xs.f
 .show .inr {{Xp,xs,xs[xs.f-1-i]'(by grind),q,XH S},J,λx H' ⟨eH,hx⟩=>?_};subst eH;show hs i x zs _ Xp (hx xs q) p (λj zs H=>∃m',m'<xs.f-i/\m'=xs.f-j/\j<=xs.f/\Pv j zs H) λzs H p'=>{xs.f-(i+1),tL,Z,Xp,p'}
 .let e:i=xs.f:=J;subst e;show .inl {Z,J,hd zs H p}
end
def FD(A B:Ac)(t:Int):(Prop):=t∈A/\t∉B/\∀s,s<t->(s∈A↔s∈B)
def aP:∀{A B:Ac},A.Q (·<·)->B.Q (·<·)->A.f=B.f->(HT.lexLt A B=true↔∃t,FD A B t)
 |[],[],_,_,_=>{λh=>(by cases h),λzz=>by let(t,h,_):=zz;show(by cases h)}
 |x::A,y::B,hA,hB,hl=>by
  let(a1,a2):=Wd.E hA;let(b1,b2):=Wd.E hB;let Uk:A.f=B.f:=Nm hl
  change(if x=y then HT.lexLt A B else decide (x<y))=true↔_;cases c:x=y
  .subst c;rw[if_pos Z,aP a2 b2 Uk];constructor
   .rintro⟨t,h1,h2,h3⟩;let tx:=a1 t h1
    exists t,Ye _ h1,λq=>?_,λs hs=>?_
    .rcases Yg.E q with e|e
     .lia
     .show h2 e
    .rw[Yg,Yg,h3 s hs]
   .rintro⟨t,h1,h2,h3⟩;let tx:t≠x:=λe=>h2 (e▸Yb)
    let Gi:=(Yg.E h1).resolve_left tx;exists t,Gi,λq=>h2<|Ye _ q,λs hs=>?_
    have:=h3 s hs
    rw[Yg,Yg]at this;cases e:s=x
    .rw[e];exists λq=>absurd (a1 x q)<|Int.lt_irrefl x,λq=>absurd (b1 x q)<|Int.lt_irrefl x
    .exists λq=>(this.E<|.inr q).resolve_left e,λq=>(this.H<|.inr q).resolve_left e
  .rw[if_neg c,Qs];constructor
   .intro h;exists x,Yb,λq=>?_,λs hs=>{λq=>?_,λq=>?_}
    .rcases Yg.E q with e|e
     .show c e
     .have:=b1 x e;lia
    .rcases Yg.E q with e|e
     .lia
     .have:=a1 s e;lia
    .rcases Yg.E q with e|e
     .lia
     .have:=b1 s e;lia
   .rintro⟨t,h1,h2,h3⟩;let tx:x<=t:=by
     rcases Yg.E h1 with e|e
     .lia
     .have:=a1 t e;lia
    show YC λhc=>?_;let hyx:y<x:=J
    have:=(h3 y J).H Yb
    rcases Yg.E this with e|e
    .lia
    .have:=a1 y e;lia
def lW{α:Type}[DecidableEq α]:∀{l m:List α},l.Nodup->(∀x∈l,x∈m)->l.f<=m.f
 |[],_,_,_=>Yk _
 |x::l,m,hn,hs=>by
  let hx:=hs x Yb;let(h1,h2):=Qp.E hn
  have:=lW (m:=m.erase x) h2 λy hy=>(uE λe=>h1<|by rwa[<-e]).H (hs y<|Ye _ hy)
  rw[yn hx]at this
  have:=Ro hx
  rw[Yv];lia
end My
namespace L2
open PySem PySem.Spec PyProof.Rows
section
variable{X:Cx}
def aO:WB X (.builtin "abs") (λxs H Q=>∃z:Int,xs=[.int z]/\Q (.int (if z<0 then -z else z)) H):=by intro pins s σ H xs us Q I r h;let(z,rfl,q):=h;let(u,rfl,ru):=TR r;let(t,rfl):=ru;show call_abs_int λu tk=>{.int<|if z<0 then -z else z,H,I.tok tk,⟨u,Z⟩,q}
end
end L2
namespace My
open PySem L2
def lV{s rest:TS}{D:Ends}{σ:L2.St}{H:Hp}(P:L2.St->Hp->Prop)(h1:∀σ' H',P σ' H'->rest D σ' H')(h2:∀K:L2.St->Hp->Prop,(∀σ' H',P σ' H'->K σ' H')->s {D with nx:=K} σ H):Wo s rest D σ H:=h2 _ h1
def Cb{c:V}{rest:TS}{D:Ends}{σ:L2.St}{H:Hp}(h:rest D (σ.set i (some c)) H):Wo (Ri (tC c) (NT i)) rest D σ H:=h
def aN{m:Nat}(hm:m<=30):∀k,(OX (m:Int) k).f<=30^k
 |0=>Ya 1
 |k+1=>by
  let h1:=flat_len (m:=m) (OX (m:Int) k) λs hs=>(VO.E hs).2;let h2:=aN hm k
  let h3:m*(OX (m:Int) k).f<=30*30^k:=Kg hm h2;rw[Nat.pow_succ,xP];show YE h1 h3
def lU(g:Zt n ps)(h:TC n ps c):c<10^20:=by
 let(L,hn,hm,rfl):=h;let(g1,g2,g3,_):=g;show GZ (m:=30^13) (YE (lW (m:=OX ps⁻¹ (n-1).j) hn λx hx=>VO.H {?_,((hm x).E hx).1})<|YE (aN J _)<|Nk tI S) tI
 have:=((hm x).E hx).2.1
 lia
def Ca(g:Zt n ps):∃L:Ab,(∀l,l∈L↔Zn n ps l)/\L.Q ME:={TU n.j ps (n-1).j,λ_=>oI g,(Dn _ _).filter _}
def ID(hc:PC n ps I O c)(hd:TC n ps d):c<=d:=by let(L,hn,hm,rfl):=hc;let(M,_,We,rfl):=hd;show lW hn λx hx=>(We x).H ((hm x).E hx).1
def BZ:PC n ps [] [] c↔TC n ps c:=by
 constructor
 .rintro⟨L,h1,h2,h3⟩;exists L,h1,λl=>by rw[h2 l];show{λh=>h.1,λh=>{h,λz hz=>(by cases hz),λz hz=>(by cases hz)}},h3
 .rintro⟨L,h1,h2,h3⟩;exists L,h1,λl=>by rw[h2 l];show{λh=>{h,λz hz=>(by cases hz),λz hz=>(by cases hz)},λh=>h.1},h3
def aM{f:Ac->Int}{a b:Ab}(h:a.Perm b):(a.C f).sum=(b.C f).sum:=by
 induction h with
 |nil=>rfl
 |cons x _ ih=>rw[YD,YD,YV,YV,ih]
 |swap x y l=>rw[YD,YD,YD,YD,YV,YV,YV,YV];lia
 |trans _ _ i1 i2=>show i1.l i2
end My
namespace L2
open PySem PySem.Spec PyProof.Rows
section
variable{prog:Program}{w:World}{A:Around}{E:Ae}{s:Shared}
def lT{u:Value}{Q:Ae}(hj:s.o.IsTupleIter j t i)(ht:s.o.IsTuple t us)(hu:us[i]?=some u)
  (q:∀h',h'.IsTupleIter j t (i+1)->Heap.SameBut j s.o h'->Q u {s with heap:=h'}):wpAny (model prog w) A (Builtin.SmallTypes.nextOf<|.ref j) Q E s:=by
 let(o1,e1,c1,d1):=id hj;let(o2,e2,_,n2,d2):=ht;unfold Builtin.SmallTypes.nextOf;show XY (Nv (name:=Str.ofString "__next__") hj.typeIs ym<|RW ym hj.typeIs d6 ?_<|Fc _);change wpAny _ _ (field ↑j 0 >>= _) _ _ s
 show XY (NW e1 d1 (x:=.ref t) Z ?_);rw[if_neg (show ¬(Value.ref t == Value.none)=true from Yx)];change wpAny _ _ (field ↑j 1 >>= _) _ _ s
 show XY (NW e1 d1 (x:=.int i 0) Z ?_);change wpAny _ _ (seqItems? ↑t >>= _) _ _ s
 show XY (Nr e2 d2 ?_);simp only[hu,Yf];show XY (Vl e1 d1 tG<|Yh ⟨u,Z,Yh<|q _ ?_<|Rt ..⟩);exists _,VS _ e1<|Ks<|Wh d1 _,(Fp ..).l c1,?_;rw[Wh d1];simp[rawInt]
def aL{Q:Ae}(hh:A.handled=none)(hj:s.o.IsTupleIter j t i)(ht:s.o.IsTuple t us)(hu:us[i]?=none)
  (q:∀h' e,Heap.ExtBut j s.o h'->(∃o,h'.B e=some o/\o.cls=.type "StopIteration")->E ↑e {s with heap:=h'}):wpAny (model prog w) A (Builtin.SmallTypes.nextOf<|.ref j) Q E s:=by
 let(o1,e1,c1,d1):=id hj;let(o2,e2,_,n2,d2):=ht;unfold Builtin.SmallTypes.nextOf;show XY (Nv (name:=Str.ofString "__next__") hj.typeIs ym<|RW ym hj.typeIs d6 ?_<|Fc _);change wpAny _ _ (field ↑j 0 >>= _) _ _ s
 show XY (NW e1 d1 (x:=.ref t) Z ?_);rw[if_neg (show ¬(Value.ref t == Value.none)=true from Yx)];change wpAny _ _ (field ↑j 1 >>= _) _ _ s
 show XY (NW e1 d1 (x:=.int i 0) Z ?_);change wpAny _ _ (seqItems? ↑t >>= _) _ _ s
 show XY (Nr e2 d2 ?_);simp only[hu,Yf];show XY (Kb<|XY<|Vl e1 d1 tG<|XY (m:=newExc (.type "StopIteration") []) ?_);simp only[newTuple,newExc];show XY (RY (XY (m:=firstArgMember _ _)<|TF (a:=Value.none) (by first|rfl|(simp only[firstArgMember];rfl))<|RY ?_<|by size_fits)<|by size_fits)
 unfold raiseNew;show XY (xM ?_)
 first
  |rw[hh]
  |rw[show A.in1.handled=none from hh]
 show XY (Yh<|wpAny_throw<|q _ _ (((Rt ..).extBut.push _).push _) {_,Yl _ Z,Z})
end
end L2
namespace My
open PySem L2
def ev(b:Int):(Ac->Int)
 |[]=>0
 |d::l=>d+b*ev b l
def TW.uniq(h1:TW k E s)(h2:TW k E u):s=u:=by let(L,a1,a2,rfl):=h1;let(M,b1,b2,rfl):=h2;show aM ((Vm a1 b1).H λl=>by rw[a2,b2])
def aK{φ:Nat->Prop}(h:∀e∈es,(φ e.1↔φ e.2))(c:Conn es i j):φ i↔φ j:=by
 induction c with
 |refl i=>show Iff.rfl
 |edge q=>show h _ q
 |symm _ ih=>show ih.U
 |trans _ _ i1 i2=>show i1.l i2
abbrev IC(ls:Ac)(z:Int):Int:=ls.t z.j 0
def lwS(ls:Ac)(x:Int):(Ac):=(Xh ls.f).filter λz=>decide (IC ls z<x)
def mA(N:Nat)(ps:Aa)(ls:Ac)(x:Int):(Ac):=Xu N (XT ps<|lwS ls x)
def lvl(ls:Ac)(x:Int)(i:Nat):(Ac):=(Xh i).filter λz=>decide (IC ls z=x)
def BY(ls T:Ac):(Int):=(T.C<|IC ls).sum
section
variable{n:Int}{ps:Aa}{T:Ac}(g:Zt n ps)
include g
def lS(hT:Zn n ps T)(hW:Zn n ps W)(h:∀z∈T,z∈W):T.Perm W:=by
 have:=aX (l:=W) hT.1.nodup (by have:=hT.2.1;have:=hW.2.1;lia) h
 show this.U
end
def QK(x y p q:Int):(Prop):=0<q/\Int.gcd p q=1/\p*y=x*q
def lR{a b c:Int}(h:a∣b*c)(g:Int.gcd b a=1):a∣c:=by
 let h1:a.natAbs∣b.natAbs*c.natAbs:=by rw[<-Rm];show d9.H h
 let h2:Nat.Coprime a.natAbs b.natAbs:=by unfold Nat.Coprime;rwa[Nat.gcd_comm]
 show d9.E (h2.dvd_of_dvd_mul_left h1)
def lQ{x y d:Int}(hy:y≠0)(hd:d=if y<0 then -(Int.gcd x y:Int) else (Int.gcd x y:Int)):d≠0/\QK x y (x.fdiv d) (y.fdiv d):=by
 let gp:0<Int.gcd x y:=Int.gcd_pos_of_ne_zero_right _ hy;let d0:d≠0:=by rw[hd];split<;>lia
 let(u,hu):=Int.gcd_dvd_left (a:=x) (b:=y);let(v,hv):=Int.gcd_dvd_right (a:=x) (b:=y);let aJ:Int.gcd u v=1:=by
  let h:=Int.gcd_mul_left (Int.gcd x y:Int) u v;rw[<-hu,<-hv,Ka]at h
  have:Int.gcd x y*1=Int.gcd x y*Int.gcd u v:=J
  show(Nat.eq_of_mul_eq_mul_left gp this).U
 cases c:y<0
 .rw[if_pos c]at hd;let ex:x=d*(-u):=by rwa[hd,t9]
  let ey:y=d*(-v):=by rwa[hd,t9]
  let fx:x.fdiv d=-u:=by rw[ex];show FG _ d0
  let fy:y.fdiv d=-v:=by rw[ey];show FG _ d0
  rw[fx,fy];exists d0,?_,by rw[Int.gcd_neg,Int.neg_gcd];show aJ,?_
  .have:(Int.gcd x y:Int)*v<0:=J
   let g0:(0:Int)<(Int.gcd x y:Int):=J
   have:v<0:=eW (a:=(Int.gcd x y:Int)) (by rwa[UP]) J
   lia
  .let e1:(-u)*y=(-u)*(d*(-v)):=by rw[<-ey]
   let e2:x*(-v)=d*(-u)*(-v):=by rw[<-ex]
   rw[e1,e2,<-SV,TX (-u) d]
 .rw[if_neg c]at hd;let ex:x=d*u:=by rwa[hd]
  let ey:y=d*v:=by rwa[hd]
  let fx:x.fdiv d=u:=by rw[ex];show FG _ d0
  let fy:y.fdiv d=v:=by rw[ey];show FG _ d0
  rw[fx,fy];exists d0,?_,aJ,?_
  .have:0<(Int.gcd x y:Int)*v:=J
   show eW (a:=(Int.gcd x y:Int)) (by rwa[UP]) S
  .let e1:u*y=u*(d*v):=by rw[<-ey]
   let e2:x*v=d*u*v:=by rw[<-ex]
   rw[e1,e2,<-SV,TX u d]
def aI(hn:1<=n)(h:∀e∈E,e.1<n/\e.2.1<n):det n (lapE E)=0:=by
 let(L,a1,a2,a3):=ZF _ n E Z λe he=>by have:=h e he;lia
 cases L with
 |nil=>show a3.U
 |cons T L=>
  let(b1,b2,b3):=(a2 T).E Yb;let st:=aK (φ:=λw=>w<n) (λe he=>by
   let(z,hz,rfl):=Yq.E he;let zb:=b1.all z hz
   let e1:E.t z.j (0,0,0)=E[z.j]'(by lia):=by rw[Xl,XH S];rfl
   have:=h _ (RX (l:=E) (n:=z.j) S)
   unfold UU;rw[e1];exists λ_=>this.2,λ_=>this.1) (b3 0 n J J)
  show absurd (st.E J) (RT _)
abbrev lP(E:List Ed)(o:Nat):Mx:=λi j=>lapE E (sk o i) (sk o j)
def aH(hW:0<W)(h:QK x W a b):b<=W/\a.natAbs<=x.natAbs:=by
 let(h1,h2,h3):=h;let d:b∣W:=lR (b:=a) (by rw[h3];show Int.dvd_mul_left x b) h2
 let hb:b<=W:=Int.le_of_dvd hW d;exists hb,?_;let e:a.natAbs*W.natAbs=x.natAbs*b.natAbs:=by rw[<-Rm,h3,Rm]
 let l:x.natAbs*b.natAbs<=x.natAbs*W.natAbs:=Nat.mul_le_mul_left _ tL;show Nat.le_of_mul_le_mul_right (by rwa[e]) tL
def aG(i j:Nat):∀E:List Ed,lapE E i j=lapE E j i
 |[]=>rfl
 |e::E=>by change e.2.2*(ind e.1 e.2.1 i*ind e.1 e.2.1 j)+lapE E i j=e.2.2*(ind e.1 e.2.1 j*ind e.1 e.2.1 i)+lapE E j i;rw[aG i j E,TX (ind e.1 e.2.1 i)]
def Zh9{n o:Nat}(Wu:∀e∈es,e.1<n/\e.2<n)(ho:o<n){i j:Nat}(c:Conn (es++[(o,n)]) i j):Conn es (if i=n then o else i) (if j=n then o else j):=by
 induction c with
 |refl i=>show .refl _
 |@edge a b q=>
  rcases Xx.E q with q|q
  .let h1:=Wu _ q;rw[if_neg (show ¬a=n from λz=>by have:=h1.1;have:a<n:=this;lia),if_neg (show ¬b=n from λz=>by have:=h1.2;have:b<n:=this;lia)];show .edge q
  .let⟨e1,e2⟩:=Prod.mk.inj (XF.E q);rw[e1,e2,if_neg J,if_pos Z];show .refl _
 |symm _ ih=>show ih.U
 |trans _ _ a b=>show a.l b
def BX{n:Nat}(h:∀e∈E,e.1<n/\e.2.1<n)(hT:IsSet E.f T):∀e∈T.C (UU E),e.1<n/\e.2<n:=λe he=>by
 let(z,hz,rfl):=Yq.E he;let zb:=hT.all z hz
 let e1:E.t z.j (0,0,0)=E[z.j]'(by lia):=by rw[Xl,XH S];rfl
 have:=h _ (RX (l:=E) (n:=z.j) S)
 unfold UU;rwa[e1]
def lO{n o:Nat}(ho:o<n+1)(h:∀e∈E,e.1<n+1/\e.2.1<n+1){T:Ac}:IsT (n+1) (E++[(o,n+1,1)]) T↔∃U,IsT n E U/\T=U++[E⁻¹]:=by
 constructor
 .intro hT;let hs:=hT.1
  rw[XB]at hs;rcases oo hs with c|⟨U,c,c2⟩
  .let h1:=(CB c).E hT;let Xp:=BX h c
   let st:=aK (φ:=λw=>w<n+1) (λe he=>{λ_=>(Xp e he).2,λ_=>(Xp e he).1}) (h1.2.2 0 (n+1) J J);show absurd (st.E J) (RT _)
  .exists U,{c2,?_,λi j hi hj=>?_},c
   .have:=hT.2.1
    rw[c,XB,Yo]at this;lia
   .let h1:=hT.2.2 i j J J;rw[c,wJ c2]at h1;let h2:=Zh9 (BX h c2) ho h1
    rwa[if_neg J,if_neg J]at h2
 .rintro⟨U,⟨b1,b2,b3⟩,rfl⟩;show{by rw[XB];show b1.snoc,by rw[XB,b2];rfl,?_};rw[wJ b1];let key:∀i,i<n+2->Conn (U.C (UU E)++[(o,n+1)]) i o:=λi hi=>by
   cases c:i=n+1
   .rw[c];show(Conn.edge<|Yi _<|XF.H Z).U
   .show(b3 i o J ho).mono λe he=>Yj _ he
  show λi j hi hj=>(key i hi).l (key j hj).U
def BW(ho:o<n+1)(h:∀e∈E,e.1<n+1/\e.2.1<n+1):TW n E (det n (lP E o)):=by
 let hE:∀e∈E++[(o,n+1,(1:Int))],e.1<n+2/\e.2.1<n+2:=λe he=>by
  rcases Xx.E he with c|c
  .have:=h e c;lia
  .rw[XF.E c];exists by change o<n+2;lia,by change n+1<n+2;lia
 let(L,a1,a2,a3):=ZF _ (n+1) (E++[(o,n+1,1)]) Z hE;let e1:det (n+1) (lapE<|E++[(o,n+1,1)])=det (n+1) (λi j=>lapE E i j+1*((if i=o then 1 else 0)*(if j=o then 1 else 0))):=Zg λi j hi hj=>by
  rw[ZX];let UZ:∀a,a<n+1->ind o (n+1) a=if a=o then 1 else 0:=λa ha=>by unfold ind;rw[if_neg (show ¬a=n+1 by lia)];split<;>rfl
  change _+1*(ind o (n+1) i*ind o (n+1) j)=_;rw[UZ i hi,UZ j hj]
 rw[e1,CD ho,aI J h,RR,UW]at a3;let(M,b1,b2,_):=ZF _ n E Z h;exists M,b1,b2,?_;rw[<-a3];let n2:(M.C (·++[E⁻¹])).Nodup:=uw _ (λx y h c=>h<|eN c) b1
 let pm:=aM (f:=Vb<|E++[(o,n+1,1)]) ((Vm a1 n2).H λT=>by
  rw[a2,lO ho h,Yq];constructor
  .rintro⟨U,hU,rfl⟩;exists U,(b2 U).H hU,Z
  .rintro⟨U,hU,rfl⟩;exists U,(b2 U).E hU,Z)
 rw[pm,Rq];show XG List.sum (YQ λT hT=>?_);let hs:=((b2 T).E hT).1
 change _=Vb (E++[(o,n+1,1)]) (T++[E⁻¹]);rw[bF,MA hs.all];change _=_*(((E++[(o,n+1,(1:Int))]).t (E.f:Int).j (0,0,0)).2.2*1)
 rw[nE];change _=_*(1*1)
 rw[PJ,PJ]
abbrev Xk(ps:Aa):List Ed:=Xc ps (List.M ps.f 1)
def aE{f:Nat->Int}:∀{b:Nat},sm (a+b) f=sm a f+sm b (λi=>f (a+i))
 |0=>by change sm a f=sm a f+0;lia
 |b+1=>by change sm (a+b) f+f (a+b)=sm a f+(sm b (λi=>f<|a+i)+f (a+b));rw[aE (b:=b)];lia
def aB:∀{a:Nat}{M:Mx},(∀i j,i<a->a<=j->j<a+b->M i j=0)->det (a+b) M=det a M*det b (λi j=>M (a+i) (a+j))
 |0,M,_=>by change det (0+b) M=1*_;rw[UW,SU];show Zg λi j _ _=>by rw[SU,SU]
 |a+1,M,h=>by
  rw[show a+1+b=(a+b)+1 by lia];change sm (a+b+1) (λj=>sg j*M 0 j*det (a+b) (mn M j))=sm (a+1) (λj=>sg j*M 0 j*det a (mn M j))*_
  rw[show a+b+1=(a+1)+b by lia,aE];let z:sm b (λi=>sg (a+1+i)*M 0 (a+1+i)*det (a+b) (mn M<|a+1+i))=0:=Le λi hi=>by rw[h 0 (a+1+i) J J J,UP,PK]
  rw[z,TV,TX,<-Lf];show ZA λj hj=>?_;let ih:=aB (b:=b) (a:=a) (M:=mn M j) λi k hi hk hk2=>by
   change M (i+1) (sk j k)=0;let e:sk j k=k+1:=by unfold sk;rw[if_neg J]
   rw[e];show h (i+1) (k+1) J J J
  let e2:det b (λi k=>mn M j (a+i)<|a+k)=det b (λi k=>M (a+1+i)<|a+1+k):=Zg λi k _ _=>by
   change M (a+i+1) (sk j<|a+k)=_;let e:sk j (a+k)=a+k+1:=by unfold sk;rw[if_neg J]
   rw[e,show a+i+1=a+1+i by lia,show a+k+1=a+1+k by lia]
  rw[ih,e2];grind
def wu(E F:List Ed)(i j:Nat):lapE (E++F) i j=lapE E i j+lapE F i j:=by
 induction E with
 |nil=>show _=0+_;rw[RR];rfl
 |cons e E ih=>
  change _+lapE (E++F) i j=_+lapE E i j+_;rw[ih];lia
def aA{n:Nat}(h:∀e∈E,e.1<n/\e.2.1<n)(j:Nat)(hi:n<=i):lapE E i j=0:=by
 induction E with
 |nil=>rfl
 |cons e E ih=>
  let he:=h e Yb;change e.2.2*(ind e.1 e.2.1 i*ind e.1 e.2.1 j)+lapE E i j=0
  rw[ih λf hf=>h f (Ye _ hf)]
  have:ind e.1 e.2.1 i=0:=by unfold ind;rw[if_neg J,if_neg J];rfl
  rw[this,PK,UP];rfl
def az{n:Nat}(h:∀e∈E,n<=e.1/\n<=e.2.1)(j:Nat)(hi:i<n):lapE E i j=0:=by
 induction E with
 |nil=>rfl
 |cons e E ih=>
  let he:=h e Yb;change e.2.2*(ind e.1 e.2.1 i*ind e.1 e.2.1 j)+lapE E i j=0
  rw[ih λf hf=>h f (Ye _ hf)]
  have:ind e.1 e.2.1 i=0:=by unfold ind;rw[if_neg J,if_neg J];rfl
  rw[this,PK,UP];rfl
def Ze9(hE:∀e∈E,e.1<c+1/\e.2.1<c+1)(hF:∀e∈F,(c<=e.1/\e.1<c+m+1)/\(c<=e.2.1/\e.2.1<c+m+1)):det (c+m) (lapE (E++F))=det c (lapE E)*det m (λi j=>lapE F (c+1+i) (c+1+j)):=by
 let ay:∀e∈E++F,e.1<c+m+1/\e.2.1<c+m+1:=λe he=>by
  rcases Xx.E he with q|q
  .have:=hE e q;lia
  .have:=hF e q;grind
 let u:=(ZF _ (c+m) (E++F) Z ay).uniq (BW (o:=c) J ay);let s1:∀i,i<c->sk c i=i:=λi hi=>by unfold sk;rw[if_pos hi]
 let s2:∀i,sk c (c+i)=c+1+i:=λi=>by unfold sk;rw[if_neg J];lia
 rw[u,aB]
 .congr 1
  .show Zg λi j hi hj=>?_;change lapE (E++F) (sk c i) (sk c j)=_
   rw[s1 i hi,s1 j hj,wu,az (λe he=>{(hF e he).1.1,(hF e he).2.1}) j hi,TV]
  .show Zg λi j _ _=>?_;change lapE (E++F) (sk c<|c+i) (sk c<|c+j)=_
   rw[s2,s2,wu,aA hE _ J,RR]
 .intro i j hi hj _;obtain⟨k,rfl⟩:∃k,j=c+k:={j-c,tL};change lapE (E++F) (sk c i) (sk c<|c+k)=0
  rw[s1 i hi,s2,wu,az (λe he=>{(hF e he).1.1,(hF e he).2.1}) _ hi,aG,aA hE _ J];rfl
def pthE(a:Nat->Int):(Nat->List Ed)
 |0=>[]
 |m+1=>pthE a m++[(m,m+1,a m)]
def BV(a:Nat->Int):∀m,∀e∈pthE a m,e.1<m+1/\e.2.1<m+1
 |0,e,h=>by cases h
 |m+1,e,h=>by
  rcases Xx.E h with q|q
  .have:=BV a m e q;lia
  .rw[XF.E q];exists by change m<m+1+1;lia,by change m+1<m+1+1;lia
def ax(a:Nat->Int):∀m,det m (lapE (pthE a m))=pr m a
 |0=>rfl
 |m+1=>by
  let e:det (m+1) (lapE<|pthE a<|m+1)=det (m+1) (λi j=>lapE (pthE a m) i j+a m*((if i=m then 1 else 0)*(if j=m then 1 else 0))):=Zg λi j hi hj=>by
   change lapE (pthE a m++[(m,m+1,a m)]) i j=_;rw[ZX];let UZ:∀k,k<m+1->ind m (m+1) k=if k=m then 1 else 0:=λk hk=>by unfold ind;rw[if_neg (show ¬k=m+1 by lia)];split<;>rfl
   change _+a m*(ind m (m+1) i*ind m (m+1) j)=_;rw[UZ i hi,UZ j hj]
  let s:det m (λi j=>lapE (pthE a m) (sk m i)<|sk m j)=det m (lapE<|pthE a m):=Zg λi j hi hj=>by
   have:∀k,k<m->sk m k=k:=λk hk=>by unfold sk;rw[if_pos hk]
   rw[this i hi,this j hj]
  rw[e,CD J,aI J<|BV a m,s,ax a m,RR,TX];rfl
def Zy8(a:Nat->Int)(m:Nat):det m (λi j=>lapE (pthE a m) (i+1) (j+1))=pr m a:=by
 rw[<-ax,(ZF _ m (pthE a m) Z<|BV a m).uniq (BW (o:=0) J<|BV a m)];show Zg λi j _ _=>by
  have:∀k,sk 0 k=k+1:=λk=>by unfold sk;rw[if_neg J]
  change _=lapE _ (sk 0 i) (sk 0 j);rw[this,this]
def NF(a:Nat->Int):(Nat->Int)
 |0=>1
 |m+1=>pr (m+1) a+a (m+1)*NF a m
def BU(a:Nat->Int):∀m y,det m (λi j=>lapE (pthE a m) (i+1) (j+1)+y*((if i+1=m then 1 else 0)*(if j+1=m then 1 else 0)))=if m=0 then 1 else pr m a+y*NF a (m-1)
 |0,y=>rfl
 |m+1,y=>by
  let e:det (m+1) (λi j=>lapE (pthE a<|m+1) (i+1) (j+1)+y*((if i+1=m+1 then 1 else 0)*(if j+1=m+1 then 1 else 0)))=det (m+1) (λi j=>(λi j=>lapE (pthE a<|m+1) (i+1)<|j+1) i j+y*((if i=m then 1 else 0)*(if j=m then 1 else 0))):=Zg λi j _ _=>by
   have:∀k:Nat,(if k+1=m+1 then (1:Int) else 0)=if k=m then 1 else 0:=λk=>by
    cases c:k=m
    .rw[if_pos J,if_pos c]
    .rw[if_neg J,if_neg c]
   rw[this,this]
  let s:det m (λi j=>lapE (pthE a<|m+1) (sk m i+1)<|sk m j+1)=det m (λi j=>lapE (pthE a m) (i+1) (j+1)+a m*((if i+1=m then 1 else 0)*(if j+1=m then 1 else 0))):=Zg λi j hi hj=>by
   have:∀k,k<m->sk m k=k:=λk hk=>by unfold sk;rw[if_pos hk]
   rw[this i hi,this j hj];change lapE (pthE a m++[(m,m+1,a m)]) _ _=_
   rw[ZX];let UZ:∀k,k<m->ind m (m+1) (k+1)=if k+1=m then 1 else 0:=λk hk=>by unfold ind;rw[if_neg (show ¬k+1=m+1 by lia)];split<;>rfl
   change _+a m*(ind m (m+1) (i+1)*ind m (m+1) (j+1))=_;rw[UZ i hi,UZ j hj]
  rw[e,CD J,Zy8,s,BU a m<|a m,if_neg (show ¬m+1=0 by lia)];change pr (m+1) a+y*(if m=0 then 1 else pr m a+a m*NF a (m-1))=pr (m+1) a+y*NF a m
  congr 2;cases m with
  |zero=>rfl
  |succ k=>rw[if_neg J];rfl
def BS(a:Nat->Int)(m:Nat):det m (λi j=>lapE (pthE a m++[(m,0,a m)]) (i+1) (j+1))=NF a m:=by
 let e:det m (λi j=>lapE (pthE a m++[(m,0,a m)]) (i+1)<|j+1)=det m (λi j=>lapE (pthE a m) (i+1) (j+1)+a m*((if i+1=m then 1 else 0)*(if j+1=m then 1 else 0))):=Zg λi j _ _=>by
  rw[ZX];let UZ:∀k,ind m 0 (k+1)=if k+1=m then 1 else 0:=λk=>by unfold ind;rw[if_neg (show ¬k+1=0 by lia)];split<;>rfl
  change _+a m*(ind m 0 (i+1)*ind m 0 (j+1))=_;rw[UZ,UZ]
 rw[e,BU];cases m with
 |zero=>rfl
 |succ k=>rw[if_neg J];rfl
def US(a:Nat->Int)(k:Nat):(Nat->Int)
 |0=>1
 |i+1=>if i=k then US a k i else US a k i*a i
def aw{a:Nat->Int}:∀{i:Nat},i<=k->US a k i=pr i a
 |0,_=>rfl
 |i+1,h=>by change(if i=k then US a k i else US a k i*a i)=pr i a*a i;rw[if_neg J,aw J]
def BR(a:Nat->Int):∀s,sm (s+1) (λk=>US a k (s+1))=NF a s
 |0=>rfl
 |s+1=>by
  change sm (s+1) (λk=>US a k<|s+2)+US a (s+1) (s+2)=pr (s+1) a+a (s+1)*NF a s;let e1:sm (s+1) (λk=>US a k<|s+2)=a (s+1)*sm (s+1) (λk=>US a k<|s+1):=by
   rw[<-Lf];show ZA λk hk=>?_;change(if s+1=k then US a k (s+1) else US a k (s+1)*a (s+1))=_
   rw[if_neg J,TX]
  let e2:US a (s+1) (s+2)=pr (s+1) a:=by change(if s+1=s+1 then US a (s+1) (s+1) else _)=_;rw[if_pos Z,aw (Ya _)]
  rw[e1,e2,BR a s];lia
def av(ps:Aa)(p:Int×Int)(i j:Nat):lapE (Xk (ps++[p])) i j=lapE (Xk ps) i j+ind p.1.j p.2.j i*ind p.1.j p.2.j j:=by
 let e:Xk (ps++[p])=Xk ps++[(p.1.j,p.2.j,1)]:=by unfold Xk Xc;rw[XB,Yo,Nj,List.zipWith_append (by rw[Yw])];rfl
 rw[e,ZX];change _+1*_=_
 rw[UW]
def QJ(ps:Aa)(p:Int×Int)(i j:Nat):lapE (Xk (p::ps)) i j=ind p.1.j p.2.j i*ind p.1.j p.2.j j+lapE (Xk ps) i j:=by
 let e:Xk (p::ps)=(p.1.j,p.2.j,1)::Xk ps:=by unfold Xk Xc;rw[Yv,Nt];rfl
 rw[e];change 1*_+_=_
 rw[UW]
def IB(ps:Aa)(p:Int×Int)(i j:Nat):∀m:Nat,lapE (Xk (ps++List.M m p)) i j=lapE (Xk ps) i j+(m:Int)*(ind p.1.j p.2.j i*ind p.1.j p.2.j j)
 |0=>by rw[List.replicate_zero,Yy,Int.natCast_zero,PK,TV]
 |m+1=>by rw[Nj,<-YG,av,IB ps p i j m,show((m+1:Nat):Int)=(m:Int)+1 by lia,GO,UW,JU]
def Zd9(g:Zt n ps)(h:TC n ps c):(c:Int)=det (n-1).j (lapE (Xk ps)):=by let(L,l1,l2,rfl):=h;show(bz g l1 l2).U
def OH(d:Nat)(E:List Ed):(List Ed):=E.C λe=>(d+e.1,d+e.2.1,e.2.2)
def au(d u v i:Nat):ind (d+u) (d+v) (d+i)=ind u v i:=by
 unfold ind;let h:∀x:Nat,(if d+i=d+x then (1:Int) else 0)=if i=x then 1 else 0:=λx=>by
  cases c:i=x
  .rw[if_pos c,if_pos J]
  .rw[if_neg c,if_neg J]
 rw[h,h]
def ZP8(d:Nat)(E:List Ed)(i j:Nat):lapE (OH d E) (d+i) (d+j)=lapE E i j:=by
 induction E with
 |nil=>rfl
 |cons e E ih=>
  change e.2.2*(ind (d+e.1) (d+e.2.1) (d+i)*ind (d+e.1) (d+e.2.1) (d+j))+lapE (OH d E) (d+i) (d+j)=_;rw[ih,au,au];rfl
def ND(d m:Nat)(a:Nat->Int):(Nat->Aa)
 |0=>[]
 |k+1=>ND d m a k++List.M (a k).j (((d+k:Nat):Int),((d+(k+1)%(m+1):Nat):Int))
def BQ{a:Nat->Int}(ha:∀i,i<=m->1<=a i)(ps:Aa)(i j:Nat):∀{k:Nat},k<=m->lapE (Xk (ps++ND d m a k)) i j=lapE (Xk ps) i j+lapE (OH d (pthE a k)) i j
 |0,_=>by change lapE (Xk<|ps++[]) i j=_+0;rw[Yy,TV]
 |k+1,hk=>by
  let ih:=BQ (d:=d) ha ps i j (k:=k) J;let ak:=ha k J
  let e:OH d (pthE a<|k+1)=OH d (pthE a k)++[(d+k,d+(k+1),a k)]:=by
   unfold OH;change List.C _ (pthE a k++[(k,k+1,a k)])=_
   rw[Yp];rfl
  change lapE (Xk<|ps++(ND d m a k++List.M (a k).j _)) i j=_;rw[<-YG,IB,ih,e,ZX,Int.toNat_of_nonneg J,SW (show k+1<m+1 by lia)];change _+_+a k*(ind ((d+k:Nat):Int).j ((d+(k+1):Nat):Int).j i*ind ((d+k:Nat):Int).j ((d+(k+1):Nat):Int).j j)=_+(_+a k*(ind (d+k) (d+(k+1)) i*ind (d+k) (d+(k+1)) j))
  rw[Yf,Yf,JU]
def lN{a:Nat->Int}(ha:∀i,i<=m->1<=a i)(ps:Aa)(i j:Nat):lapE (Xk (ps++ND d m a (m+1))) i j=lapE (Xk ps++OH d (pthE a m++[(m,0,a m)])) i j:=by
 let ih:=BQ (d:=d) ha ps i j (k:=m) (Ya _);let am:=ha m (Ya _)
 let e:OH d (pthE a m++[(m,0,a m)])=OH d (pthE a m)++[(d+m,d+0,a m)]:=by unfold OH;rw[Yp];rfl
 change lapE (Xk<|ps++(ND d m a m++List.M (a m).j _)) i j=_;rw[<-YG,IB,ih,e,wu,ZX,Int.toNat_of_nonneg J,Sq];change _+_+a m*(ind ((d+m:Nat):Int).j ((d+0:Nat):Int).j i*ind ((d+m:Nat):Int).j ((d+0:Nat):Int).j j)=_+(_+a m*(ind (d+m) (d+0) i*ind (d+m) (d+0) j))
 rw[Yf,Yf,JU]
def Zv8(g:Zt n ps){a:Nat->Int}(ha:∀i,i<=m->1<=a i):det ((n+m)-1).j (lapE (Xk (ps++ND (n-1).j m a (m+1))))=det (n-1).j (lapE (Xk ps))*NF a m:=by
 let g1:=g.1;obtain⟨d,hd⟩:∃d,(n-1).j=d:={_,Z};rw[hd,show((n+m)-1).j=d+m by lia,Zg λi j _ _=>lN ha ps i j,Ze9 (m:=m)]
 .congr 1;rw[<-BS];show Zg λi j _ _=>?_;rw[show d+1+i=d+(i+1) by lia,show d+1+j=d+(j+1) by lia,ZP8]
 .intro e he
  have:=II g _ e he
  grind
 .intro e he;unfold OH at he;let(f,hf,rfl):=Yq.E he
  have:f.1<m+1/\f.2.1<m+1:=by
   rcases Xx.E hf with q|q
   .show BV a m f q
   .rw[XF.E q];exists by change m<m+1;lia,by change 0<m+1;lia
  exists {by change d<=d+f.1;lia,by change d+f.1<d+m+1;lia},{by change d<=d+f.2.1;lia,by change d+f.2.1<d+m+1;lia}
end My
namespace L2
open PySem PySem.Spec PyProof.Rows
section
def IA(p:IsTup h a us):h.IsTuple a us:=by let(o,e,c,n,d):=p;exists o,e,c,n,d
def lM(hh:A.handled=none)(it l:Addr)(ne:l≠it)(us:Array Value):
  Draws prog w A it [it,l] us.G (λi v=>us[i]?=some v) (λi h=>h.IsTupleIter it l i/\h.IsTuple l us) where
 live:=λ_ _ st=>by let((o,ho,_),_):=st;exists o,ho
 frame:=λ_ _ _ st hk=>by let((o,ho,r),o2,Ug,r2):=st;exists {o,hk it tG o ho,r},o2,hk l tG o2 Ug,r2
 item:=λi s Q E hi st q=>lT st.1 st.2 (u:=us[i]) (by simp[hi]) λg t1 sb=>q _ g s.toks (by simp[hi]) {t1,st.2.extBut sb.extBut ne} sb
 done:=λs Q E st q=>aL hh st.1 st.2 tG q
variable{prog:Program}{w:World}{A:Around}{E:Ae}{s:Shared}
set_option maxRecDepth 100000 in
def lL(l:Addr)(us:Array Value):
  Meets (Builtin.«enumerate.__new__» {[.type "enumerate",.ref l],[]}) (λ_ R s=>s.o.IsTuple l us/\
   R (.ok<|.ret<|.ref (s.o.push {cls:=.type "tuple_iterator",data:=.fields #[.ref l,.int 0 0]}).objs.G)
    {s with heap:=(s.o.push {cls:=.type "tuple_iterator",data:=.fields #[.ref l,.int 0 0]}).push {cls:=.type "enumerate",data:=.fields #[.none,.bool false,.ref (~~~s),rawInt 0,.none,.none]} }):=
 .of_wp λprog w A R s h=>by
  let(hp,g,d,tk,os):=s;let(hl,h):=h;let q0:=sub_enumerate
  let hL:Heap.IsTuple (Shared.o ⟨hp,g,d,tk,os⟩) l us:=hl;let((c,dct,dt,sl),e1,e2,n,e3):=hl;simp only at e2 e3;subst e2 e3
  wp_walk using uH e1
  show wpAny_stack_any λst=>Yh ?_;split
  .rename_i c _ _ _ _ _;cases (c == Value.type "enumerate")
   all_goals
    wp_walk using uH e1,x9 hL
    exists _,Z,h
  .wp_walk using uH e1,x9 hL
   exists _,Z,h
def lK{Q:Ae}(ht:s.o.IsTuple l us)
  (q:∀g,IsEnum g ((~~~s)+1) (~~~s) 0 .none->g.IsTupleIter (~~~s) l 0->g.objs.G=(~~~s)+2->(∀b o,s.o.B b=some o->g.B b=some o)->Q (.ref<|(~~~s)+1) {s with heap:=g}):
  wpAny (model prog w) A (call (.type "enumerate") [.ref l]) Q E s:=by
 show callType_new F.called_enumerate tI (F.typeCall_enumerate_1 _) (F.newCall_enumerate_1 _) (λob=>F.args_object_init_2 ob _) F.entry_enumerate_new (lL l us) {ht,?_};obtain⟨G,hG⟩:∃G,G=s.o.push {cls:=.type "tuple_iterator",data:=.fields #[.ref l,.int 0 0]}:={_,Z};let z:G.objs.G=(~~~s)+1:=by rw[hG];show Qo ..
 change _/\_;rw[<-hG,z];let e1:=Yl G (o:={cls:=.type "enumerate",data:=.fields #[.none,.bool false,.ref (~~~s),rawInt 0,.none,.none]}) rfl
 rw[z]at e1;let i1:G.IsTupleIter (~~~s) l 0:=by rw[hG];exists _,Yl _ Z,Z,Z
 let(o1,i2,i3):=i1;exists {_,e1,Z},q _ e1 {o1,Xf _ i2,i3} (by rw[Qo,z]) λb o x=>Xf _<|by rw[hG];show Xf _ x
end
def BP(K:Ad)(a:Addr):(It):=
 {λi H=>∃xs x,SqT K H a xs/\xs[i]?=some x,λi H v H'=>∃T x,H T=none/\v=.ref T/\H'=upd H T (.tup [.int i,x])/\∀xs,SqT K H a xs->xs[i]?=some x,λi H=>∃xs,SqT K H a xs/\xs.f<=i}
def Zl6{P:Program}{w:World}{K:Ad}{elts:List Expr}{x1:Nat}{pos:Pos}(a e it:Addr)(XM:e≠it)(hae:a≠e)(hai:a≠it):Turn P w K (.Tuple elts x1 pos) (BP K a) [e,it] e (λi h=>(∃old,IsEnum h e it i old)/\h.IsTupleIter it a i) where
 mem:=tG
 obj:=λi h st b hb=>by
  let((old,he),o,eo,c,d):=st;rcases Yg.E hb with z|hb
  .subst z;exists _,he,λv z=>by let z':Data.fields _=Data.cell v:=z;cases z'
  .let z:b=it:=by simpa using hb
   subst z;exists o,eo,λv z=>by rw[d]at z;cases z
 keep:=λi h h' st k=>by let((old,he),o,ho,r):=st;exists {old,k e tG _ he},o,k it tG o ho,r
 item:=by
  intro X hP hw hK hc i pins s σ H E I hf st hg;subst hP hw hK;let(xs,x,hq,hx):=hg;let((old,he),hit):=st;let(XU,rv,p,hz):=I.tuple hq;let(u,hu,ru):=rv.get hx;let(f0,f1,f2,f3,f4,f5):=hf e tG;let(g0,g1,g2,g3,g4,g5):=hf it tG;let DN:H (~~~s)=none:=I.hok.fresh (Ya _)
  let Xp:i<XU.m.G:=by simpa using (Xy.mp hu).1
  let pT:s.o.IsTuple a XU.m:=IA p;show wpAny_pyNext_enum_itemD (lM (A:=X.A.in1) (by simpa using I.ok.hd hc) it a hai XU.m) he ⟨hit,pT⟩ Xp XM (by simp[XM,YY hae]) λx' h' tk Vz ho VB hT hsz hk=>?_;let ex':x'=u:=by
   let e1:XU.m[i]?=some u:=by simpa using hu
   let e2:XU.m[i]?=some x':=Vz;rw[e1]at e2;show(Yc e2).U
  subst ex';let RL:∀b ob,s.o.B b=some ob->b≠(~~~s):=λb ob z=>YA (Ys z)
  let Tq:∀b ob,H b=some ob->b≠(~~~s):=λb ob z=>YA (I.hok.lt z);let Sm:∀b ob,H b=some ob->b≠e/\b≠it:=λb ob z=>{λq=>(by rw[q,f0]at z;cases z),λq=>(by rw[q,g0]at z;cases z)}
  let I1:Inv X pins σ (upd H (~~~s)<|.tup [.int i,x]) {s with heap:=h',toks:=tk+1}:=by
   show I.step (g':=s.gens) (d':=s.drawn) (ch:=[e,it]) (λb hb=>?_) (λb o _ _ WE z _=>hk b o (λq=>WE<|by simp[q]) (λq=>WE<|by simp[q]) z) (λb o _ _ WE z _=>{o.slots,hk b o (λq=>WE<|by simp[q]) (λq=>WE<|by simp[q]) z})
    (λb o _ z n=>by rwa[XR (RL b o z)]) (λb o WE z=>{o,hk b o (λq=>WE<|by simp[q]) (λq=>WE<|by simp[q]) z}) (λb ys z=>by rwa[XR (Tq b _ z)]) (λb o v z=>by rwa[XR (Tq b _ z)])
    (λb ps z=>{#[],by rw[XR (Tq b _ z),z];simp}) (λm hm=>?_) (λb v z=>?_) I.bare
   .rcases Yg.E hb with q|hb
    .rw[q];exists f3,f1,f4,f5
    .let q:b=it:=by simpa using hb
     rw[q];exists g3,g1,g4,g5
   .let⟨o,es,ep,Ul,r⟩:=hm;exists o,es,ep,hk _ o (YY f1) (YY g1) Ul,r
   .cases hb:b=(~~~s)
    .subst hb;rw[XS]at z;cases z;exists by change 2<=sizeLine;decide,[.int i tk,x'],.cons {_,Z}<|.cons ru .nil,{_,hT,Z,_,Z}
    .rw[XR hb]at z;show(I.hok b v z).stay (λc w' WO q=>?_) (λc q=>by rwa[XR (Tq c _ q)]) λc ys q=>by rwa[XR (Tq c _ q)]
     rcases WO with rfl|WO
     .show hk c w' (Sm c _ z).1 (Sm c _ z).2 q
     .show hk c w' (Sm c _ WO).1 (Sm c _ WO).2 q
  exists _,Z,wpAny_letOwnedTupleGo_enum ho λh2 Sl SO=>?_;let fT:e≠(~~~s):=RL e _ he
  let I2:Inv X pins σ (upd H (~~~s)<|.tup [.int i,x]) {s with heap:=h2,toks:=tk+1}:=Inv.turned (s:={s with heap:=h',toks:=tk+1}) (h':=h2) (t':=tk+1) (it:=e) I1 (λb o hb z=>SO.extBut b o hb z) (by rwa[XR fT]) f1 f3 f4 f5;exists .ref (~~~s),_,I2,Z,{_,x,DN,Z,Z,λys hy=>by rwa[I.tuple_inj hy hq]},{{x',by simpa using Sl},VB.1.extBut SO.extBut<|YY XM},λb hb=>?_;rcases Yg.E hb with q|hb
  .rw[q,XR fT];show f0
  .let q:b=it:=by simpa using hb
   let(o,eo,_):=hit;rwa[q,XR (RL it o eo)]
 done:=by
  intro X hP hw hK hc i pins s σ H E I hf st hg;subst hP hw hK;let(xs,hq,hx):=hg;let((old,he),hit):=st;let(XU,rv,p,hz):=I.tuple hq;let(g0,g1,g2,g3,g4,g5):=hf it tG;let hl:=rv.f
  let hT:s.TypeIs ↑e "enumerate":={_,he,Z};unfold pyNext;show XY (Np<|Nv (name:=Str.ofString "__next__") hT F.slot_enumerate_next<|RW F.slot_enumerate_next hT F.entry_enumerate_next ?_<|F.args_enumerate_next_1 _);change wpAny _ _ (field ↑e 2 >>= _) _ _ _
  show XY (NW he Z (x:=.ref it) Z<|XY<|aL (by simpa using I.ok.hd hc) hit (IA p) (by simp;lia) λh' x he' ⟨o,ho,QM⟩=>XY<|Kl (T:="StopIteration") (b:=true) ⟨o,ho,QM⟩ xQ<|Yh ?_);exists Z,I.turned (t':=s.toks) (it:=it) (λb o hb z=>he' b o hb z) g0 g1 g3 g4 g5
 self:=λ_ _ _ _ _ st h=>by let((_,he),_):=st;show Fq he h
def Mt(kd:Bool)(K:Ad)(a:Addr):(It):=match kd with
 |false=>Jq K a
 |true=>BP K a
def lJ(K:Ad)(ta:TA):(TI):=λσ H R=>ta σ H λvs H1=>∃a kd,vs=[.ref a]/\(∃xs,My.SqK kd K H1 a xs)/\R (Mt kd K a) H1
section
variable{X:Cx}
def lI(K:Ad){elts:List Expr}{x1:Nat}{Uj:Pos}{a:Expr}{ta:TA}{p pos:Pos}(hg:Gl X "enumerate")(hm:X.mg "enumerate"=none)(ha:PA X [a] ta)(hs:starEach [a] X.R=[(false,eval a X.R)]:=by rfl)(hk:X.K=K:=by rfl):
  PI X (.Tuple elts x1 Uj) (.Call (.Name "enumerate" p) [a] [] pos) (lJ K ta):=by
 subst hk;intro pins s σ H R I h;show Call_ (VG I hg hm Boot.«enumerate»<|Ny (thn (ha pos pins s σ H _ I h) λus s1 XA=>?_) hs Z);let(vs,H1,I1,r1,q1):=XA;let(b,kd,e,(xs,hq),q):=q1;subst e;let(u,rfl,ru):=TR r1;let rfl:u=Value.ref b:=ru;let nn:∀k,(~~~s1)<=k->H1 k=none:=λk hk=>I1.hok.fresh hk
 let fin:∀c∈[(~~~s1)+1,(~~~s1)],(~~~s1)<=c:=λc hc=>by
  rcases Yg.E hc with q|hc
  .rw[q];show Ur _
  .let q:c=(~~~s1):=by simpa using hc
   rw[q];show Ya _
 cases kd with
 |false=>
  let(XU,rv,pl,hz):=I1.list hq;show call_enumerate_list pl.isList λh' he hit hsz hk=>?_;let I2:Inv X pins σ H1 {s1 with heap:=h'}:=I1.kept (t':=s1.toks) hk
  show Fq he {(~~~s1)+1,[(~~~s1)+1,(~~~s1)],_,_,H1,Z,I2,cZ b _ _<|uq _,⟨⟨_,he⟩,hit⟩,λc hc=>?_,q};show I1.fpOk (fin c hc) (nn c<|fin c hc)
 |true=>
  let(XU,rv,pl,hz):=I1.tuple hq;let pT:s1.o.IsTuple b XU.m:=IA pl
  let wC:b<(~~~s1):=by let(_,e,_):=pT;show Ys e
  show lK pT λh' he hit hsz hk=>?_;let I2:Inv X pins σ H1 {s1 with heap:=h'}:=I1.kept (t':=s1.toks) hk
  show Fq he {(~~~s1)+1,[(~~~s1)+1,(~~~s1)],_,_,H1,Z,I2,Zl6 b _ _ (uq _) (YA<|Kp wC)<|YA wC,⟨⟨_,he⟩,hit⟩,λc hc=>?_,q};show I1.fpOk (fin c hc) (nn c<|fin c hc)
end
end L2
namespace My
open PySem L2
def lH{g:TG}{tb:TS}{D:Ends}(Pv:Nat->St->Hp->Prop)(h0:Pv 0 σ H)(hl:∀i σ H,i<=xs.f->Pv i σ H->SqK kd K H a xs)
  (hs:∀(i:Nat) x σ H (p:Addr),H p=none->xs[i]?=some x->Pv i σ H->g ↑p σ (upd H p<|.tup [.int i,x]) λσ2 H2=>tb {D with nx:=Pv<|i+1,ct:=Pv<|i+1,bk:=D.nx} σ2 H2)(hd:∀σ H,Pv xs.f σ H->D.nx σ H):
  ∃W:Nat->Nat->St->Hp->Prop,(∃m,W 0 m σ H)/\∀i m σ H,W i m σ H->
   ((Mt kd K a).stop i H/\D.nx σ H)\/((Mt kd K a).go i H/\∃N:St->Hp->Prop,(∀σ' H',N σ' H'->∃m',m'<m/\W (i+1) m' σ' H')/\∀x H',(Mt kd K a).yld i H x H'->g x σ H' λσ2 H2=>tb {D with nx:=N,ct:=N,bk:=D.nx} σ2 H2):=by
 cases kd with
 |false=>show DH Pv h0 hl hs hd
 |true=>
  exists λi m σ H=>m=xs.f-i/\i<=xs.f/\Pv i σ H,{xs.f,tG,Yk _,h0},?_;rintro i m σ H ⟨rfl,hi,p⟩;let q:SqT K H a xs:=hl i σ H hi p
  cases Xp:i<xs.f
  .show .inr {{xs,xs[i],q,by simp[Xp]},Pv<|i+1,λσ' H' p'=>{xs.f-(i+1),S,Z,Xp,p'},λx H' zz=>?_};let(T,y,hT,ex,eH,hy):=zz;subst ex eH;show hs i y σ H T hT (hy xs q) p
  .let e:i=xs.f:=J;subst e;show .inl {{xs,q,Ya _},hd σ H p}
end My
namespace HT
open PySem PyProof.Rows
section
def ltP(x y:Int×Ac):(Bool):=decide (x.1<y.1)||(decide (x.1=y.1)&&lexLt x.2 y.2)
end
end HT
namespace My
open PySem L2
def WD(d:Int):(Int):=if d%2=0 then d+1 else d-1
def OG(d:Int):WD (WD d)=d:=by unfold WD;split<;>split<;>lia
def Iz(h:WD a=WD b):a=b:=by rw[<-OG a,h,OG]
def BO{d m:Int}(h:0<=d/\d<2*m):0<=WD d/\WD d<2*m:=by unfold WD;split<;>lia
def WV(ps:Aa)(x:Int):(Int):=if x%2=0 then (ps.t (x/2).j (0,0)).1 else (ps.t (x/2).j (0,0)).2
def UR(ps:Aa)(p:Int):(Nat->Ac)
 |0=>[]
 |i+1=>UR ps p i++(if (ps.t i (0,0)).1=p then [2*(i:Int)] else [])++(if (ps.t i (0,0)).2=p then [2*(i:Int)+1] else [])
def wq(ps:Aa)(p:Int):(Ac):=UR ps p ps.f
def Vp:∀{i:Nat},x∈UR ps p i↔(0<=x/\x<2*(i:Int))/\WV ps x=p
 |0=>by
  constructor
  .intro h;cases h
  .rintro⟨h,_⟩;omega
 |i+1=>by
  let e0:WV ps (2*(i:Int))=(ps.t i (0,0)).1:=by unfold WV;rw[if_pos J,show(2*(i:Int)/2).j=i by lia]
  let e1:WV ps (2*(i:Int)+1)=(ps.t i (0,0)).2:=by unfold WV;rw[if_neg S,show((2*(i:Int)+1)/2).j=i by lia]
  change x∈UR ps p i++(if (ps.t i (0,0)).1=p then [2*(i:Int)] else [])++(if (ps.t i (0,0)).2=p then [2*(i:Int)+1] else [])↔_;rw[Xx,Xx,Vp];constructor
  .rintro((⟨h1,h2⟩|h)|h)
   .exists ⟨h1.1,J⟩,h2
   .split at h
    .rename_i hp;rw[XF.E h];exists ⟨J,J⟩,e0.l hp
    .cases h
   .split at h
    .rename_i hp;rw[XF.E h];exists ⟨J,J⟩,e1.l hp
    .cases h
  .rintro⟨⟨h1,h2⟩,h3⟩;cases c:x<2*(i:Int)
   .show .inl (.inl {⟨h1,c⟩,h3})
   .cases c2:x=2*(i:Int)
    .subst c2;rw[e0]at h3;rw[if_pos h3];show .inl (.inr<|XF.H Z)
    .let c3:x=2*(i:Int)+1:=J;subst c3;rw[e1]at h3;rw[if_pos h3];show .inr (XF.H Z)
def BN:∀i,(UR ps p i).Q (·<·)
 |0=>.nil
 |i+1=>by
  change(UR ps p i++(if (ps.t i (0,0)).1=p then [2*(i:Int)] else [])++(if (ps.t i (0,0)).2=p then [2*(i:Int)+1] else [])).Q _;show Nu.H {Nu.H {BN i,by split<;>simp,λa ha b hb=>?_},by split<;>simp,λa ha b hb=>?_}
  .have:=(Vp.E ha).1
   split at hb
   .rw[XF.E hb];show this.2
   .cases hb
  .split at hb
   .rw[XF.E hb];rcases Xx.E ha with h|h
    .have:=(Vp.E h).1
     lia
    .split at h
     .rw[XF.E h];lia
     .cases h
   .cases hb
def lG:∀i,(UR ps p i).f<=2*i
 |0=>Ya _
 |i+1=>by
  change(UR ps p i++(if (ps.t i (0,0)).1=p then [2*(i:Int)] else [])++(if (ps.t i (0,0)).2=p then [2*(i:Int)+1] else [])).f<=_
  have:=lG (ps:=ps) (p:=p) i
  rw[XB,XB];split<;>split<;>simp<;>lia
def BM:x∈wq ps p↔(0<=x/\x<2*ps⁻¹)/\WV ps x=p:=Vp
def wm:(wq ps p).Q (·<·):=BN _
def VT(n:Nat)(ps:Aa)(ts:Ab):(Prop):=ts.f=n/\∀(p:Nat)(row:Ac),ts[p]?=some row->row.Perm (wq ps (p:Int))
def QI{l:Ac}(h:l.Q (·<·)):l.Nodup:=h.imp λh=>J
section
variable{n:Nat}{ps:Aa}{ts:Ab}
def VT.mem(h:VT n ps ts){p:Nat}{row:Ac}(hp:ts[p]?=some row):x∈row↔(0<=x/\x<2*ps⁻¹)/\WV ps x=p:=by rw[(h.2 p row hp).mem_iff,BM]
def VT.nodup(h:VT n ps ts){p:Nat}{row:Ac}(hp:ts[p]?=some row):row.Nodup:=(h.2 p row hp).nodup_iff.H (QI wm)
def lF(hg:∀p∈ps,0<=p.1/\p.1<(n:Int)/\0<=p.2/\p.2<(n:Int))(hx:0<=x/\x<2*ps⁻¹):0<=WV ps x/\WV ps x<(n:Int):=by
 obtain⟨q,hq⟩:∃q,ps[(x/2).j]?=some q:={_,XH J}
 have:=hg q (Xr hq)
 unfold WV;rw[ZO hq];split<;>omega
def VT.has(h:VT n ps ts)(hg:∀p∈ps,0<=p.1/\p.1<(n:Int)/\0<=p.2/\p.2<(n:Int)){x:Int}(hx:0<=x/\x<2*ps⁻¹):∃(p:Nat)(row:Ac),ts[p]?=some row/\x∈row:=by
 let o:=lF hg hx;let hl:=h.1
 obtain⟨row,hr⟩:∃row,ts[(WV ps x).j]?=some row:={_,XH J};exists _,row,hr,(h.mem hr).H ⟨hx,J⟩
def VT.in(h:VT n ps ts){row:Ac}(hr:row∈ts){x:Int}(hx:x∈row):0<=x/\x<2*ps⁻¹:=by let(p,hp):=Yz hr;show((h.mem hp).E hx).1
end
def RE(row:Ac)(k:Nat):(Aa):=(List.range k).C λi=>(WD<|row.t i 0,row.t ((i+1)%row.f) 0)
def WC(ts:Ab):(Aa):=ts.flatMap λrow=>RE row row.f
def WJ{x y:Int}:(x,y)∈WC ts↔∃row∈ts,∃i,i<row.f/\x=WD (row.t i 0)/\y=row.t ((i+1)%row.f) 0:=by
 unfold WC RE;rw[x6];constructor
 .rintro⟨row,hr,h⟩;let(i,hi,e):=Yq.E h;cases e;exists row,hr,i,YL.E hi,Z,Z
 .rintro⟨row,hr,i,hi,rfl,rfl⟩;exists row,hr,Yq.H {i,YL.H hi,Z}
def Gh{l:Ac}(h:i<l.f):l.t i 0∈l:=by rw[Xl,XH h];show RX h
def ar{l:Ac}(hn:l.Nodup)(hi:i<l.f)(hj:j<l.f)(e:l.t i 0=l.t j 0):i=j:=by rw[Xl,Xl,XH hi,XH hj]at e;show(uj hn).E e
section
variable{n:Nat}{ps:Aa}{ts:Ab}
def KR(h:VT n ps ts){r1 r2:Ac}(h1:r1∈ts)(h2:r2∈ts){x:Int}(Iy:x∈r1)(QH:x∈r2):r1=r2:=by
 let(p,hp):=Yz h1;let(q,hq):=Yz h2;let a:=((h.mem hp).E Iy).2
 let b:=((h.mem hq).E QH).2
 have:p=q:=J
 subst this;rw[hp]at hq;show Yc hq
def Iw(h:VT n ps ts){r:Ac}(hr:r∈ts):r.Nodup:=by let(p,hp):=Yz hr;show h.nodup hp
def OF(h:VT n ps ts){x y z:Int}(h1:(x,y)∈WC ts)(h2:(x,z)∈WC ts):y=z:=by
 let(r1,Wj,i,hi,e1,rfl):=WJ.E h1;let(r2,UT,j,hj,e2,rfl):=WJ.E h2;let e:=Iz (e1.U.l e2)
 let rfl:=KR h Wj UT (Gh hi) (by rw[e];show Gh hj);rw[ar (Iw h Wj) hi hj e]
def wk(h:VT n ps ts){x y z:Int}(h1:(x,z)∈WC ts)(h2:(y,z)∈WC ts):x=y:=by
 let(r1,Wj,i,hi,rfl,e1):=WJ.E h1;let(r2,UT,j,hj,rfl,e2):=WJ.E h2;let e:=e1.U.l e2
 let p1:(i+1)%r1.f<r1.f:=Um _ J;let p2:(j+1)%r2.f<r2.f:=Um _ J
 let rfl:=KR h Wj UT (Gh p1) (by rw[e];show Gh p2);let k:=ar (Iw h Wj) p1 p2 e
 have:i=j:=by
  cases c1:i+1=r1.f
  .cases c2:j+1=r1.f
   .lia
   .rw[c1,Sq,SW J]at k;lia
  .cases c2:j+1=r1.f
   .rw[c2,Sq,SW J]at k;lia
   .rw[SW J,SW J]at k;lia
 rw[this]
def Gg(h:VT n ps ts){x y:Int}(h1:(x,y)∈WC ts):(0<=x/\x<2*ps⁻¹)/\0<=y/\y<2*ps⁻¹:=by let(r,hr,i,hi,rfl,rfl):=WJ.E h1;exists BO<|h.in hr<|Gh hi,h.in hr<|Gh<|Um _ J
def lE(h:VT n ps ts)(hg:∀p∈ps,0<=p.1/\p.1<(n:Int)/\0<=p.2/\p.2<(n:Int)){x:Int}(hx:0<=x/\x<2*ps⁻¹):∃y,(x,y)∈WC ts:=by
 let(p,row,hp,hm):=h.has hg (BO hx);let(i,hi,e):=uC hm;exists _,WJ.H {row,Xr hp,i,hi,?_,Z};rw[Xl,XH hi];change x=WD row[i]
 rw[e,OG]
end
def Orb(B:Aa)(d:Int)(row:Ac):(Prop):=row[0]?=some d/\row.Nodup/\(∀i x y,row[i]?=some x->row[i+1]?=some y->(x,y)∈B)/\∀x,row[row.f-1]?=some x->(x,d)∈B
def Orb.pos(h:Orb B d row):0<row.f:=(Xy.E h.1).1
def Iv(hf:∀x y z,(x,y)∈B->(x,z)∈B->y=z)(h1:Orb B d r1)(h2:Orb B d r2):∀i,i<r1.f->i<r2.f->r1[i]?=r2[i]?
 |0,_,_=>by rw[h1.1,h2.1]
 |i+1,a,b=>by let ih:=Iv hf h1 h2 i J J;obtain⟨x,hx⟩:∃x,r1[i]?=some x:={_,XH S};obtain⟨y,hy⟩:∃y,r1[i+1]?=some y:={_,XH a};obtain⟨z,hz⟩:∃z,r2[i+1]?=some z:={_,XH b};rw[hy,hz,hf _ _ _ (h1.2.2.1 i x y hx hy) (h2.2.2.1 i x z (by rwa[<-ih]) hz)]
def BL(hf:∀x y z,(x,y)∈B->(x,z)∈B->y=z)(h1:Orb B d r1)(h2:Orb B d r2):r2.f<=r1.f:=by
 rcases Nat.lt_or_ge r1.f r2.f with c|c
 .exfalso;let p1:=h1.pos
  obtain⟨x,hx⟩:∃x,r1[r1.f-1]?=some x:={_,XH S};let QH:r2[r1.f-1]?=some x:=by rwa[<-Iv hf h1 h2 _ S J]
  obtain⟨y,hy⟩:∃y,r2[r1.f]?=some y:={_,XH c};let e:=hf _ _ _ (h1.2.2.2 x hx) (h2.2.2.1 (r1.f-1) x y QH<|by rwa[show r1.f-1+1=r1.f by lia])
  rw[<-e]at hy
  have:=Ub h2.2.1 hy h2.1
  lia
 .show c
def Orb.uniq(hf:∀x y z,(x,y)∈B->(x,z)∈B->y=z)(h1:Orb B d r1)(h2:Orb B d r2):r1=r2:=by
 let a:=BL hf h1 h2;let b:=BL hf h2 h1
 show PR λi=>?_;cases c:i<r1.f
 .show Iv hf h1 h2 i c J
 .rw[YJ J,YJ J]
def Orb.ahead(hi:∀x y z,(x,z)∈B->(y,z)∈B->x=y)(h:Orb B d row){x y:Int}(hy:y∈row)(hb:(x,y)∈B):x∈row:=by
 let(i,Vf):=Yz hy;let p:=h.pos
 cases i with
 |zero=>
  rw[h.1]at Vf;let e:d=y:=Yc Vf
  obtain⟨z,hz⟩:∃z,row[row.f-1]?=some z:={_,XH S};rw[hi _ _ _ hb (e▸h.2.2.2 z hz)];show Xr hz
 |succ i=>
  let lt:=(Xy.E Vf).1;obtain⟨z,hz⟩:∃z,row[i]?=some z:={_,XH J};rw[hi _ _ _ hb (h.2.2.1 i z y hz Vf)];show Xr hz
def Way(B:Aa)(d c:Int)(row:Ac):(Prop):=row.Nodup/\(∀i x y,row[i]?=some x->row[i+1]?=some y->(x,y)∈B)/\((row=[]/\c=d)\/(row[0]?=some d/\∀x,row[row.f-1]?=some x->(x,c)∈B))
def Way.snoc(h:Way B d c row)(hn:c∉row)(hb:(c,e)∈B):Way B d e (row++[c]):=by
 let(h1,h2,h3):=h;exists MK h1 hn,λi x y ex ey=>?_,.inr {?_,λx ex=>?_}
 .let lt:=(Xy.E ey).1;rw[XB,Yo]at lt;cases c1:i+1<row.f
  .rw[Yn S]at ex;rw[Yn c1]at ey;show h2 i x y ex ey
  .rw[Yn J]at ex;rw[Ym J,show i+1-row.f=0 by omega]at ey;let ey:c=y:=Yc ey
   rcases h3 with ⟨rfl,_⟩|⟨_,h3⟩
   .simp at ex
   .rw[<-ey];show h3 x (by rw[show row.f-1=i by lia];show ex)
 .rcases h3 with ⟨rfl,rfl⟩|⟨h3,_⟩
  .rfl
  .rw[Yn (Xy.E h3).1];show h3
 .rw[XB,Yo,yh,Ym<|Ya _,Vw]at ex;let ex:c=x:=Yc ex
  rwa[<-ex]
def Way.meets(hi:∀x y z,(x,z)∈B->(y,z)∈B->x=y)(h:Way B d c row)(hc:c∈row):c=d:=by
 let(h1,h2,h3):=h;rcases h3 with ⟨rfl,e⟩|⟨h3,h4⟩
 .show e
 let(i,Vf):=Yz hc;cases i with
 |zero=>rw[h3]at Vf;show(Yc Vf).U
 |succ i=>
  let lt:=(Xy.E Vf).1;obtain⟨z,hz⟩:∃z,row[i]?=some z:={_,XH S};obtain⟨w,hw⟩:∃w,row[row.f-1]?=some w:={_,XH J};let e:=hi _ _ _ (h4 w hw) (h2 i z c hz Vf)
  rw[e]at hw
  have:=Ub h1 hw hz
  lia
def Way.orb(h:Way B d d row)(hr:row≠[]):Orb B d row:=by
 let(h1,h2,h3):=h;rcases h3 with ⟨e,_⟩|⟨h3,h4⟩
 .show absurd e hr
 .exists h3,h1,h2,h4
def Rds(B:Aa):(Nat->Ab->Prop)
 |0,R=>R=[]
 |k+1,R=>∃R',Rds B k R'/\(((k:Int)∈R'.D/\R=R')\/((k:Int)∉R'.D/\∃row,Orb B k row/\R=R'++[row]))
def Rds.uniq(hf:∀x y z,(x,y)∈B->(x,z)∈B->y=z):∀{k:Nat}{R1 R2:Ab},Rds B k R1->Rds B k R2->R1=R2
 |0,_,_,h1,h2=>h1.l h2.U
 |k+1,_,_,⟨Q1,a1,b1⟩,⟨Q2,a2,b2⟩=>by
  let e:=Rds.uniq hf a1 a2;subst e;rcases b1 with ⟨c1,rfl⟩|⟨c1,r1,o1,rfl⟩
  .rcases b2 with ⟨c2,rfl⟩|⟨c2,_⟩
   .rfl
   .show absurd c1 c2
  .rcases b2 with ⟨c2,rfl⟩|⟨c2,r2,o2,rfl⟩
   .show absurd c2 c1
   .rw[o1.uniq hf o2]
def Rds.orbs:∀{k:Nat}{R:Ab},Rds B k R->∀row∈R,∃d,Orb B d row
 |0,_,h,row,hr=>by rw[show _=[] from h]at hr;cases hr
 |k+1,_,⟨Q,a,b⟩,row,hr=>by
  rcases b with ⟨_,rfl⟩|⟨_,r,o,rfl⟩
  .show Rds.orbs a row hr
  .rcases Xx.E hr with e|e
   .show Rds.orbs a row e
   .rw[XF.E e];exists _,o
def Rds.below:∀{k:Nat}{R:Ab},Rds B k R->∀x:Int,0<=x->x<(k:Int)->x∈R.D
 |0,_,_,x,h0,h1=>J
 |k+1,_,⟨Q,a,b⟩,x,h0,h1=>by
  rcases b with ⟨c,rfl⟩|⟨_,r,o,rfl⟩
  .cases e:x=(k:Int)
   .rw[e];show c
   .show Rds.below a x h0 J
  .rw[PV,Xx];cases e:x=(k:Int)
   .rw[e];show .inr ?_;simp only[YZ,List.flatten_nil,Yy];show Xr o.1
   .show .inl (Rds.below a x h0 S)
def Rds.ahead(hi:∀x y z,(x,z)∈B->(y,z)∈B->x=y)(h:Rds B k R){x y:Int}(hy:y∈R.D)(hb:(x,y)∈B):x∈R.D:=by let(row,hr,hm):=Wq.E hy;let(d,o):=h.orbs row hr;show Wq.H {row,hr,o.ahead hi hm hb}
def BK{M:Int}(hr:∀x y,(x,y)∈B->(0<=x/\x<M)/\0<=y/\y<M)(h:Orb B d row):∀x∈row,0<=x/\x<M:=λx hx=>by
 let(i,hi):=Yz hx;let lt:=(Xy.E hi).1
 cases c:i+1<row.f
 .obtain⟨y,hy⟩:∃y,row[i+1]?=some y:={_,XH c};show(hr _ _<|h.2.2.1 i x y hi hy).1
 .show(hr _ _<|h.2.2.2 x<|by rwa[show row.f-1=i by lia]).1
def KQ:∀{M:Nat}{l:Ac},l.Nodup->(∀x∈l,0<=x/\x<(M:Int))->l.f<=M
 |0,[],_,_=>Ya _
 |0,x::l,_,h=>by have:=h x Yb;lia
 |M+1,l,hn,h=>by
  let key:(l.erase (M:Int)).f<=M:=KQ (hn.erase _) λx hx=>by
   let Vz:=(List.Nodup.mem_erase_iff hn).E hx
   have:=h x Vz.2
   have:=Vz.1
   lia
  cases c:(M:Int)∈l
  .rw[yn c]at key;lia
  .rw[List.erase_of_not_mem c]at key;lia
def Rds.nodup(hi:∀x y z,(x,z)∈B->(y,z)∈B->x=y):∀{k:Nat}{R:Ab},Rds B k R->R.D.Nodup
 |0,_,h=>by rw[show _=[] from h];show .nil
 |k+1,_,⟨Q,a,b⟩=>by
  rcases b with ⟨_,rfl⟩|⟨c,r,o,rfl⟩
  .show Rds.nodup hi a
  .rw[PV];simp only[YZ,List.flatten_nil,Yy];show YM.H {Rds.nodup hi a,o.2.1,λx hx y hy e=>?_};subst e;let(i,Vf):=Yz hy;let back:∀(i:Nat)(x:Int),r[i]?=some x->x∈Q.D->(k:Int)∈Q.D:=by
    intro i
    induction i with
    |zero=>intro x e hx;rw[o.1]at e;cases e;show hx
    |succ i ih=>
     intro x e hx;let lt:=(Xy.E e).1
     obtain⟨z,hz⟩:∃z,r[i]?=some z:={_,XH S};show ih z hz (a.ahead hi hx<|o.2.2.1 i z x hz e)
   show c (back i x Vf hx)
end My
namespace L2
open PySem PySem.Spec PyProof.Rows
section
variable{X:Cx}
def ZJ4(K:Ad)(hk:X.K=K:=by rfl):WB X (.builtin "sorted") (λxs H Q=>∃kd p ns,xs=[.ref p]/\My.SqK kd K H p (ns.C V.int)/\ns.f<64/\
  ∀ms:Ac,ms.Perm ns->ms.Q (·<=·)->∀l,H l=none->Q ↑l (upd H l<|.lst<|ms.C V.int)):=by
 intro pins s σ H xs us Q I r h;let(kd,p,ns,e,hq,Sh,q):=h;cases kd with
 |false=>show w6 K hk pins s σ H xs us Q I r ⟨p,ns,e,hq,Sh,q⟩
 |true=>show cH K hk pins s σ H xs us Q I r ⟨p,ns,e,hq,Sh,q⟩
end
end L2
namespace My
open PySem L2
def VI(L:Aa):(List (Key×V)):=L.C λp=>(Sum.inl p.1,V.int p.2)
def lD:(∀p∈L,p.1≠x)->Xt (VI L) (Sum.inl x)=none:=by
 induction L with
 |nil=>intro _;rfl
 |cons p L ih=>
  intro h;change Xt ((Sum.inl p.1,V.int p.2)::VI L) _=none
  rw[ZK (by intro e;show h p Yb<|GP e)];show ih λq hq=>h q (Ye _ hq)
def lC{x y:Int}:(L.C (·.1)).Nodup->(x,y)∈L->Xt (VI L) (Sum.inl x)=some (.int y):=by
 induction L with
 |nil=>intro _ h;cases h
 |cons p L ih=>
  intro hn h;let RQ:=Qp.E hn
  change Xt ((Sum.inl p.1,V.int p.2)::VI L) _=_;rcases Yg.E h with e|e
  .subst e;rw[ZP Z]
  .rw[ZK (by
    intro z;let z:p.1=x:=GP z
    show RQ.1<|Yq.H {(x,y),e,z.U})]
   show ih RQ.2 e
def aq{x y:Int}(h:∀p∈L,p.1≠x):putK (VI L) (Sum.inl x) (.int y)=VI (L++[(x,y)]):=by rw[df _ (lD h)];unfold VI;rw[Yp];rfl
def Kys(kvs:List (Key×V))(AP:Ac):(Prop):=∀x:Int,(Xt kvs<|Sum.inl x).isSome=true↔x∈AP
def Kys.nil:Kys [] []:=λx=>by
 constructor
 .intro h;rw[qW]at h;cases h
 .intro h;cases h
def Kys.put(h:Kys kvs AP)(x:Int)(v:V):Kys (putK kvs (Sum.inl x) v) (AP++[x]):=λy=>by
 rw[qV,Xx,XF];cases c:(Sum.inl y:Key)=Sum.inl x
 .rw[if_pos c];exists λ_=>.inr<|GP c,λ_=>rfl
 .rw[if_neg c,h y];exists .inl,λz=>z.elim id λe=>absurd (XG Sum.inl e) c
def BJ(hk:k<=row.f):(RE row k).C (·.1)=(row.X k).C WD:=by
 unfold RE;rw[Rq];show PR λi=>?_;rw[Yr,Yr];cases c:i<k
 .rw[PX c,eO c,XH J];change some (WD<|row.t i 0)=some (WD row[i])
  rw[Xl,XH S];rfl
 .rw[YJ (by rw[YO];lia),YJ (by rw[YB];lia)];rfl
def lB(ts:Ab):(WC ts).C (·.1)=ts.D.C WD:=by
 unfold WC
 induction ts with
 |nil=>rfl
 |cons r ts ih=>rw[ye,Yp,ih,BJ<|Ya _,YI,YZ,Yp]
def lz(row:Ac)(k:Nat):RE row (k+1)=RE row k++[(WD (row.t k 0),row.t ((k+1)%row.f) 0)]:=by unfold RE;rw[PM,Yp];rfl
def ly{ts:Ab}{row:Ac}(h:ts[i]?=some row):WC (ts.X (i+1))=WC (ts.X i)++RE row row.f:=by unfold WC;rw[YS,h,List.flatMap_append];simp
def wj{ts:Ab}{row:Ac}(h:ts[i]?=some row):(ts.X (i+1)).D=(ts.X i).D++row:=by rw[YS,h,PV];simp
def BI{ts:Ab}(hn:ts.D.Nodup){row:Ac}(h:ts[i]?=some row):((ts.X i).D++row).Nodup:=by
 rw[<-wj h];let e:ts.D=(ts.X<|i+1).D++(ts.drop<|i+1).D:=by rw[<-PV,FE]
 rw[e]at hn;show(YM.E hn).1
def lx{ts:Ab}(hn:ts.D.Nodup){row:Ac}(h:ts[i]?=some row)(hk:k<row.f):∀p∈WC (ts.X i)++RE row k,p.1≠WD (row.t k 0):=λp hp e=>by
 let nd:=BI hn h;let e1:p.1∈(WC (ts.X i)++RE row k).C (·.1):=List.mem_map_of_mem hp
 rw[Yp,lB,BJ J,<-Yp]at e1;let(z,hz,e2):=Yq.E e1;let e3:=Iz (e2.l e)
 subst e3;let e4:(ts.X i).D++row=((ts.X i).D++row.X k)++row.drop k:=by rw[YG,FE]
 rw[e4]at nd;show(YM.E nd).2.2 _ hz _ ?_ rfl;rw[Xl,XH hk];show Xr (i:=0) (by rw[Fv];show XH hk)
def lu(row:Ac)(k:Nat):(RE row k).f=k:=by unfold RE;rw[Xz,YO]
def lr(ts:Ab):(WC ts).f=ts.D.f:=by
 have:=XG List.f (lB ts)
 rwa[Xz,Xz]at this
def VT.flat(h:VT n ps ts):ts.D.Nodup:=by
 show eB.H {λl hl=>Iw h hl,LP.H λi j hi hj Uw x hx y hy e=>?_};subst e;let a:=((h.mem<|XH hi).E hx).2
 let b:=((h.mem<|XH hj).E hy).2;lia
def VT.flat_mem(h:VT n ps ts)(hg:∀p∈ps,0<=p.1/\p.1<(n:Int)/\0<=p.2/\p.2<(n:Int)){x:Int}:x∈ts.D↔0<=x/\x<2*ps⁻¹:=by
 rw[Wq];constructor
 .rintro⟨r,hr,hx⟩;show h.in hr hx
 .intro hx;let(p,r,hp,hm):=h.has hg hx;exists r,Xr hp,hm
def VT.flat_len(h:VT n ps ts):ts.D.f<=2*ps.f:=by
 show KQ h.flat λx hx=>?_;let(r,hr,hm):=Wq.E hx
 have:=h.in hr hm
 lia
def lq(hn:ts.D.Nodup):((WC ts).C (·.1)).Nodup:=by rw[lB];show uw _ (λa b h e=>h<|Iz e) hn
structure JagAt(H0:Hp)(r:Addr)(H:Hp)(ys:List V)(L:Ab):Prop where
 tab:H r=some (.lst ys)
 rows:Bears (LiV r H) ys L
 nd:ys.Nodup
 new:∀A,V.ref A∈ys->H0 A=none
def JagAt.same(s:Same H H')(h:JagAt H0 r H ys L):JagAt H0 r H' ys L:={s _ _ h.tab,h.rows.imp λ_ _ q=>q.Y s,h.nd,h.new}
def JagAt.lists(h:JagAt H0 r H ys L):Bears (Xd H) ys L:=h.rows.imp λ_ _ q=>q.list
def JagAt.at(h:JagAt H0 r H ys L){i:Nat}(hi:i<L.f):∃A l,ys[i]?=some ↑A/\L[i]?=some l/\H A=some (.lst (IL l))/\H0 A=none/\A≠r:=by obtain⟨l,e⟩:∃l,L[i]?=some l:={_,XH hi};let(v,e1,A,rfl,e2,e3):=h.rows.2 i l e;exists A,l,e1,e,e2,h.new A<|Xr e1,e3
def JagAt.put(h:JagAt H0 r H ys L){l l':Ac}(e1:ys[i]?=some ↑A)(e2:L[i]?=some l)(e3:A≠r):JagAt H0 r (upd H A (.lst (IL l'))) ys (L.set i l'):=by
 let hi:=(Xy.E e2).1;show{by rw[XR (YY e3)];show h.tab,{by rw[PL];show h.rows.1,λj m em=>?_},h.nd,h.new};rw[Qr]at em;cases c:i=j
 .subst c;rw[if_pos Z,if_pos hi]at em;let rfl:=Yc em;exists _,e1,A,Z,XS,e3
 .rw[if_neg c]at em;let(v,f1,B,rfl,f2,f3):=h.rows.2 j m em;exists _,f1,B,Z,?_,f3;rw[XR]
  .show f2
  .intro e;rw[e]at f1;show c (Ub h.nd e1 f1)
def BH{n k:Nat}{g:Nat->Ac}{v:Ac}:((List.range n).C g).set k v=(List.range n).C λp=>if p=k then v else g p:=by
 show PR λi=>?_;rw[Qr,Xz,YO,Yr];cases hi:i<n
 .rw[Yr,PX hi];cases c:k=i
  .subst c;rw[if_pos Z,if_pos hi];simp
  .rw[if_neg c];change _=some (if i=k then v else g i)
   rw[if_neg (YY c)];rfl
 .rw[YJ (by rw[YO];lia),Yr,YJ (by rw[YO];omega)];split
  .rw[if_neg J];rfl
  .rfl
def wg{n k:Nat}{g:Nat->Ac}(h:k<n):((List.range n).C g)[k]?=some (g k):=by rw[Yr,PX h];rfl
def SA(n:Nat)(ps:Aa)(i:Nat):(Ab):=(List.range n).C λ(p:Nat)=>UR ps (p:Int) i
def lj{a b:Nat}(e:ps.t i (0,0)=((a:Int),(b:Int))):((SA n ps i).set a (UR ps a i++[2*(i:Int)])).set b ((if b=a then UR ps a i++[2*(i:Int)] else UR ps b i)++[2*(i:Int)+1])=SA n ps (i+1):=by
 unfold SA;rw[BH,BH];show YQ λp _=>?_;change _=UR ps p i++(if (ps.t i (0,0)).1=(p:Int) then [2*(i:Int)] else [])++(if (ps.t i (0,0)).2=(p:Int) then [2*(i:Int)+1] else [])
 rw[e];change _=UR ps p i++(if (a:Int)=(p:Int) then [2*(i:Int)] else [])++(if (b:Int)=(p:Int) then [2*(i:Int)+1] else [])
 cases c1:p=b
 .subst c1;rw[if_pos Z,if_pos Z];cases c2:p=a
  .subst c2;rw[if_pos Z,if_pos Z]
  .rw[if_neg c2,if_neg λz=>c2 J,Yy]
 .rw[if_neg c1,if_neg (c:=(b:Int)=(p:Int)) λz=>c1 S,Yy];cases c2:p=a
  .subst c2;rw[if_pos Z,if_pos Z]
  .rw[if_neg c2,if_neg λz=>c2 S,Yy]
def lh{ts ss:Ab}(hl:ss.f=ts.f)(h:∀(i:Nat)(a b:Ac),ts[i]?=some a->ss[i]?=some b->b.Perm a/\b.Q (·<=·)):ss=SA n ps ps.f↔VT n ps ts:=by
 let dl:(SA n ps ps.f).f=n:=by unfold SA;rw[Xz,YO]
 constructor
 .rintro rfl;exists J,λp row hp=>?_;let lg:p<n:=by have:=(Xy.E hp).1;lia
  show(h p row _ hp<|wg lg).1.U
 .intro hv;let Gf:=hv.1
  show PR λp=>?_;cases hp:p<n
  .obtain⟨a,ea⟩:∃a,ts[p]?=some a:={_,XH J};obtain⟨b,eb⟩:∃b,ss[p]?=some b:={_,XH J};let e0:(SA n ps ps.f)[p]?=some (wq ps (p:Int)):=wg hp
   rw[e0,eb];let(h1,h2):=h p a b ea eb;let h3:=h1.l (hv.2 p a ea)
   let nd:b.Nodup:=h3.nodup_iff.H (QI wm);show XG some (Di (VZ h2 nd) wm λz=>h3.mem_iff)
  .rw[YJ J,YJ J]
def JagAt.nil{r:Addr}(h:H r=some (.lst [])):JagAt H0 r H [] []:={h,{Z,λi l e=>by simp at e},.nil,λA h=>by cases h}
def JagAt.snoc{r A:Addr}(h:JagAt H0 r H ys L)(hA:H A=some (.lst (IL l)))(h0:H0 A=none)(XM:A≠r)(BG:V.ref A∉ys):JagAt H0 r (upd H r (.lst (ys++[.ref A]))) (ys++[.ref A]) (L++[l]):=by
 exists XS,?_,MK h.nd BG,λB hB=>?_
 .show(h.rows.imp λ_ _ q=>q.mut).snoc {A,Z,by rw[XR XM];show hA,XM}
 .rcases Xx.E hB with e|e
  .show h.new B e
  .have:B=A:=by simpa using e
   rwa[this]
def JagAt.oth{r g:Addr}(h:JagAt H0 r H ys L)(hr:g≠r)(hg:∀xs,H g≠some (.lst xs)):JagAt H0 r (upd H g o) ys L:=by
 show{by rw[XR (YY hr)];show h.tab,h.rows.imp λ_ _ ⟨A,e,h1,h2⟩=>{A,e,?_,h2},h.nd,h.new};rw[XR]
 .show h1
 .intro z;rw[z]at h1;show hg _ h1
def JagAt.fresh{r A:Addr}(h:JagAt H0 r H ys L)(hA:H A=none):V.ref A∉ys:=λhm=>by let(i,hi):=Yz hm;let(l,_,B,e,h1,_):=h.rows.at hi;cases e;rw[hA]at h1;cases h1
def RdW(ps:Aa)(ts:Ab)(R:Ab):(Prop):=(ps.f=0/\R=[[]])\/(0<ps.f/\Rds (WC ts) (2*ps.f) R)
def RdW.uniq{n:Nat}{ps:Aa}{ts R1 R2:Ab}(h:VT n ps ts)(h1:RdW ps ts R1)(h2:RdW ps ts R2):R1=R2:=by
 rcases h1 with ⟨a,rfl⟩|⟨a,b⟩
 .rcases h2 with ⟨_,rfl⟩|⟨c,_⟩
  .rfl
  .lia
 .rcases h2 with ⟨c,_⟩|⟨_,d⟩
  .lia
  .show b.uniq (λx y z=>OF h) d
def Rds.range{M:Int}(hr:∀x y,(x,y)∈B->(0<=x/\x<M)/\0<=y/\y<M)(h:Rds B k R):∀x∈R.D,0<=x/\x<M:=λx hx=>by let(row,h1,h2):=Wq.E hx;let(d,o):=h.orbs row h1;show BK hr o x h2
def TL(row:Ac)(k:Int):(Aa):=row.C λd=>(d,k)
def UG(ts:Ab):(Nat->Aa)
 |0=>[]
 |i+1=>UG ts i++TL (ts.t i []) i
def we(ts:Ab):∀i,i<=ts.f->(UG ts i).C (·.1)=(ts.X i).D
 |0,_=>by simp[UG]
 |i+1,h=>by
  obtain⟨row,hr⟩:∃row,ts[i]?=some row:={_,XH J};change(UG ts i++TL (ts.t i []) i).C (·.1)=_
  rw[Yp,we ts i J,wj hr,show ts.t i []=row by rw[Xl,hr];rfl];unfold TL;rw[Rq];congr 1;show List.map_id'' (λ_=>rfl) row
def aj{p:Nat}{row:Ac}{x:Int}(hp:ts[p]?=some row)(hx:x∈row):∀{i:Nat},p<i->(x,(p:Int))∈UG ts i
 |i+1,h=>by
  change _∈UG ts i++TL (ts.t i []) i;rw[Xx];cases c:p=i
  .subst c;show .inr (Yq.H {x,?_,Z});rwa[Xl,hp]
  .show .inl (aj hp hx J)
def Flat(n:Int)(ps:Aa)(R:Ab):(Prop):=Th n ps/\n-ps⁻¹+R⁻¹=2
def Vr(R:Ab)(d:Int):(Int):=((UG R R.f).find? λp=>decide<|p.1=d).elim 0 (·.2)
def UY(R:Ab)(m:Nat):(Aa):=(List.range m).C λ(k:Nat)=>(Vr R<|2*(k:Int),Vr R<|2*(k:Int)+1)
def Iu(h:d∈R.D):Xt (VI (UG R R.f)) (Sum.inl d)=some (.int (Vr R d))/\0<=Vr R d/\Vr R d<R⁻¹:=by
 let hk:d∈(UG R R.f).C (·.1):=by rwa[we R _ (Ya _),YI]
 let rng:∀i,∀p∈UG R i,0<=p.2/\p.2<(i:Int):=λi=>by
  induction i with
  |zero=>intro p hp;cases hp
  |succ i ih=>
   intro p hp;let hp:p∈UG R i++TL (R.t i []) i:=hp
   rcases Xx.E hp with e|e
   .have:=ih p e;omega
   .let⟨z,_,rfl⟩:=Yq.E e;change 0<=(i:Int)/\(i:Int)<_
    lia
 let key:∀L:Aa,(∀p∈L,0<=p.2/\p.2<R⁻¹)->d∈L.C (·.1)->Xt (VI L) (Sum.inl d)=some (.int ((L.find? λp=>decide<|p.1=d).elim 0 (·.2)))/\0<=(L.find? λp=>decide<|p.1=d).elim 0 (·.2)/\(L.find? λp=>decide<|p.1=d).elim 0 (·.2)<R⁻¹:=λL=>by
  induction L with
  |nil=>intro _ h;cases h
  |cons p L ih=>
   intro hb hm;change Xt ((Sum.inl p.1,V.int p.2)::VI L) _=_/\_
   cases c:p.1=d
   .rw[ZP (by rw[c]),LN,YK c];exists Z,hb p Yb
   .rw[ZK λe=>c<|GP e,LN,RV c];show ih (λq hq=>hb q<|Ye _ hq) ?_;rcases Yg.E hm with e|e
    .show absurd e.U c
    .show e
 show key _ (rng _) hk
def RdW.nodup(hV:VT n ps ts)(h:RdW ps ts R):R.D.Nodup:=by
 rcases h with ⟨_,rfl⟩|⟨_,h⟩
 .show .nil
 .show h.nodup λx y z=>wk hV
def RdW.few(hV:VT n ps ts)(h:RdW ps ts R):R.D.f<=2*ps.f/\R.f<=2*ps.f+1:=by
 rcases h with ⟨_,rfl⟩|⟨_,h⟩
 .exists Yk _,Nat.le_add_left _ _
 .let f:=KQ (h.nodup λx y z=>wk hV) (h.range (M:=((2*ps.f:Nat):Int)) λx y Ua=>by have:=Gg hV Ua;omega);let g:∀L:Ab,(∀l∈L,0<l.f)->L.f<=L.D.f:=λL=>by
   induction L with
   |nil=>intro _;show Ya _
   |cons l L ih=>
    intro h
    have:=h l Yb
    have:=ih λx hx=>h x (Ye _ hx)
    rw[YZ,XB,Yv];grind
  have:=g R λl hl=>by let(_,o):=h.orbs l hl;show o.pos
  exists f,J
def RdW.all(hV:VT n ps ts)(h:RdW ps ts R){x:Int}(hx:0<=x/\x<2*ps⁻¹):x∈R.D:=by
 rcases h with ⟨h0,_⟩|⟨_,h⟩
 .lia
 .show h.below x hx.1 J
def Ch(B:Aa)(l:Ac):(Prop):=∀i x y,l[i]?=some x->l[i+1]?=some y->(x,y)∈B
def Uv:Ch B (a++b)↔Ch B a/\Ch B b/\∀x∈a.getLast?,∀y∈b.head?,(x,y)∈B:=by
 constructor
 .intro h;exists λi x y h1 h2=>h i x y ?_ ?_,λi x y h1 h2=>h (a.f+i) x y ?_ ?_,λx hx y hy=>?_
  .rw[Yn (Xy.E h1).1];show h1
  .rw[Yn (Xy.E h2).1];show h2
  .rw[Ym J,uQ];show h1
  .rw[Ym J,Nat.add_assoc,uQ];show h2
  .let hx:a.getLast?=some x:=hx;let hy:b.head?=some y:=hy
   rw[FI]at hx;rw[FF]at hy;let hl:=(Xy.E hx).1
   show h (a.f-1) x y ?_ ?_
   .rw[Yn hl];show hx
   .rw[Ym S,show a.f-1+1-a.f=0 by omega];show hy
 .rintro⟨h1,h2,h3⟩ i x y e1 e2;cases c:i+1<a.f
  .rw[Yn J]at e1 e2;show h1 i x y e1 e2
  cases c2:i<a.f
  .rw[Yn c2]at e1;rw[Ym J,show i+1-a.f=0 by omega]at e2;show h3 x ?_ y ?_
   .change a.getLast?=some x;rwa[FI,show a.f-1=i by lia]
   .change b.head?=some y;rwa[FF]
  .rw[Ym S]at e1 e2;show h2 (i-a.f) x y e1 (by rwa[show i-a.f+1=i+1-a.f by lia])
def BF{a b:Ac}(h:b≠[]):(a++b).getLast?=b.getLast?:=by
 rw[List.getLast?_append];cases e:b.getLast? with
 |none=>show absurd (List.getLast?_eq_none_iff.E e) h
 |some x=>rfl
def KP{a b:Ac}(h:a≠[]):(a++b).head?=a.head?:=by
 cases a with
 |nil=>show absurd Z h
 |cons x t=>rfl
def BE{x z:Int}{t:Ac}(h:Ch B (x::z::t)):(x,z)∈B/\Ch B (z::t):=
 {h 0 x z Z Z,λi a b h1 h2=>h (i+1) a b h1 h2}
def Cy(B:Aa)(row:Ac):(Prop):=row≠[]/\row.Nodup/\Ch B row/\∀x∈row.getLast?,∀y∈row.head?,(x,y)∈B
def Orb.cy(h:Orb B d row):Cy B row:=by
 let p:=h.pos;show{λe=>by rw[e]at p;show absurd p tI,h.2.1,h.2.2.1,λx hx y hy=>?_};let e1:row.head?=some d:=by rw[FF];show h.1
 rw[e1]at hy;cases hy;show h.2.2.2 x (by rwa[<-FI])
def Cy.rot{a b:Ac}(h:Cy B (a++b)):Cy B (b++a):=by
 let(h1,h2,h3,h4):=h;cases ca:a=[]
 .subst ca;rw[Yy];exists h1,h2,h3,h4
 cases cb:b=[]
 .subst cb;rw[Yy]at h1 h2 h3 h4;exists h1,h2,h3,h4
 let(c1,c2,c3):=Uv.E h3;exists by simp[ca],(eC (l₁:=a) (l₂:=b)).nodup_iff.E h2,Uv.H {c2,c1,λx hx y hy=>h4 x ?_ y ?_},λx hx y hy=>c3 x ?_ y ?_
 .rw[BF cb];show hx
 .rw[KP ca];show hy
 .rw[BF ca]at hx;show hx
 .rw[KP cb]at hy;show hy
def Cy.from(h:Cy B row){x:Int}(hx:x∈row):∃t,Cy B (x::t)/\(x::t).Perm row:=by let(s,t,rfl):=yg hx;exists t++s,h.rot,eC (l₁:=x::t) (l₂:=s)
def Cy.next(hf:∀x y z,(x,y)∈B->(x,z)∈B->y=z)(h:Cy B row){x y:Int}(hx:x∈row)(hb:(x,y)∈B):y∈row:=by
 let(t,ht,hp):=h.from hx;show hp.mem_iff.E ?_;cases t with
 |nil=>
  have:=ht.2.2.2 x Z x rfl
  rw[hf _ _ _ hb this];show Yb
 |cons z t=>
  have:=(BE ht.2.2.1).1
  rw[hf _ _ _ hb this];show Ye _ Yb
def ai(hf:∀x y z,(x,y)∈B->(x,z)∈B->y=z)(h:Cy B r):∀{l:Ac}{x:Int},Ch B (x::l)->x∈r->∀y∈x::l,y∈r
 |[],x,_,hx,y,hy=>by rwa[XF.E hy]
 |z::l,x,hc,hx,y,hy=>by
  let(h1,h2):=BE hc;rcases Yg.E hy with e|e
  .rw[e];show hx
  .show ai hf h h2 (h.next hf hx h1) y e
def Cy.sub(hf:∀x y z,(x,y)∈B->(x,z)∈B->y=z)(h1:Cy B r1)(h2:Cy B r2){x:Int}(Iy:x∈r1)(QH:x∈r2):∀y∈r1,y∈r2:=λy hy=>by let(t,ht,hp):=h1.from Iy;show ai hf h2 ht.2.2.1 QH y (hp.mem_iff.H hy)
def OP(B:Aa)(M:Nat)(L:Ab):(Prop):=(∀row∈L,Cy B row)/\L.D.Nodup/\∀x:Int,x∈L.D↔0<=x/\x<(M:Int)
def KO(hf:∀x y z,(x,y)∈B->(x,z)∈B->y=z)(h1:OP B M L1)(h2:OP B M L2):L1.f<=L2.f:=by
 let(a1,a2,a3):=h1;let(b1,b2,b3):=h2;let dis:=(eB.E a2).2
 let ex:∀row:Ac,∃q:Int,row∈L1->(0<=q/\q<L2⁻¹)/\∃Sf,L2[q.j]?=some Sf/\∃x∈row,x∈Sf:=λrow=>by
  cases c:row∈L1
  .obtain⟨x,hx⟩:∃x,x∈row:=by
    cases row with
    |nil=>show absurd Z (a1 _ c).1
    |cons x t=>exists x,Yb
   let(Sf,m2,QH):=Wq.E ((b3 x).H ((a3 x).E (Wq.H ⟨row,c,hx⟩)));let(i,hi):=Yz m2
   have:=(Xy.E hi).1
   exists (i:Int),λ_=>{J,Sf,by rw[Yf];show hi,x,hx,QH}
  .exists 0,λh=>absurd h c
 obtain⟨g,hg⟩:∃g:Ac->Int,∀row,row∈L1->(0<=g row/\g row<L2⁻¹)/\∃Sf,L2[(g row).j]?=some Sf/\∃x∈row,x∈Sf:={λr=>(ex r).choose,λr=>(ex r).choose_spec};let nd:(L1.C g).Nodup:=by
  show Sv.H (LP.H λi j hi hj Uw e=>?_);let mi:L1[i]∈L1:=RX hi
  let mj:L1[j]∈L1:=RX hj;let(_,r2,e2,x,hx,QH):=hg _ mi;let(_,r3,e3,y,hy,hy2):=hg _ mj;rw[e,e3]at e2;let rfl:=Yc e2;let hc:=b1 r3 (Xr e3)
  have:=hc.sub hf (a1 _ mi) QH hx y hy2
  show LP.E dis i j hi hj Uw y this y hy rfl
 have:=KQ nd (M:=L2.f) λx hx=>by let(r,hr,rfl):=Yq.E hx;show(hg r hr).1
 rwa[Xz]at this
section
variable{n:Nat}{ps:Aa}{ts R L:Ab}
def RdW.op(hV:VT n ps ts)(h0:0<ps.f)(h:RdW ps ts R):OP (WC ts) (2*ps.f) R:=by
 rcases h with ⟨e,_⟩|⟨_,h⟩
 .lia
 let rg:∀x y,(x,y)∈WC ts->(0<=x/\x<((2*ps.f:Nat):Int))/\0<=y/\y<((2*ps.f:Nat):Int):=λx y Ua=>by have:=Gg hV Ua;omega
 exists λrow hr=>by let(d,o):=h.orbs row hr;show o.cy,h.nodup λx y z=>wk hV,λx=>{h.range rg x,λhx=>h.below x hx.1 hx.2}
def lb(hV:VT n ps ts)(h0:0<ps.f)(h:RdW ps ts R)(hL:OP (WC ts) (2*ps.f) L):R.f=L.f:=
 xX (KO (λx y z=>OF hV) (h.op hV h0) hL) (KO (λx y z=>OF hV) hL<|h.op hV h0)
end
def Nb(row:Ac)(a b:Int):(Prop):=(∃s t,row=s++a::b::t)\/(∃s,row=s++[a])/\∃t,row=b::t
def OE(hr:row∈ts)(h:Nb row a b):(WD a,b)∈WC ts:=by
 show WJ.H {row,hr,?_};rcases h with ⟨s,t,rfl⟩|⟨⟨s,e1⟩,t,e2⟩
 .exists s.f,tG,?_,?_
  .rw[Xl,Ym<|Ya _,Vw];rfl
  .rw[SW tG,Xl,Ym J,uQ];rfl
 .let hl:row.f=s.f+1:=by rw[e1];simp
  exists s.f,J,?_,?_
  .rw[e1,Xl,Ym<|Ya _,Vw];rfl
  .rw[hl,Sq,e2];rfl
section
variable{one d0 d1:Int}{other:Option Int}
def dF(one:Int)(other:Option Int)(d0 d1 y:Int):(Int):=if y=one then d0 else if some y=other then d1 else y
end
def FlatM(n:Nat)(ps:Aa)(ts:Ab):(Prop):=Th n ps/\(ps=[]\/∃L,OP (WC ts) (2*ps.f) L/\n+L.f=ps.f+2)
def FlatM.flat(h:FlatM n ps ts)(hV:VT n ps ts)(h1:ps=[]->n=1)(hR:RdW ps ts R):Flat n ps R:=by
 exists h.1,?_;rcases h.2 with e|⟨L,hL,hn⟩
 .have:=h1 e
  rcases hR with ⟨_,rfl⟩|⟨c,_⟩
  .subst e;change(n:Int)-0+1=2
   lia
  .rw[e]at c;show absurd c tI
 .cases c:ps.f=0
  .have:=h1 (Vy.E c)
   rcases hR with ⟨_,rfl⟩|⟨c',_⟩
   .change(n:Int)-ps⁻¹+1=2;lia
   .lia
  .have:=lb hV J hR hL
   lia
def Td(nd:R.D.Nodup){k:Nat}{row:Ac}(hk:R[k]?=some row)(hx:x∈row):Vr R x=(k:Int):=by
 let hf:x∈R.D:=Wq.H {row,Xr hk,hx};let pnd:((UG R R.f).C (·.1)).Nodup:=by rwa[we R _ (Ya _),YI]
 let h1:=(Iu hf).1;rw[lC pnd (aj hk hx (Xy.E hk).1)]at h1;show(V.int.inj<|Yc h1).U
def k9(R:Ab)(m:Nat):(UY R m).f=m:=by unfold UY;rw[Xz,YO]
def BD(R:Ab){m k:Nat}(h:k<m):(UY R m)[k]?=some (Vr R (2*(k:Int)),Vr R (2*(k:Int)+1)):=by unfold UY;rw[Yr,PX h];rfl
section
variable{n:Nat}{ps:Aa}{ts R:Ab}
def RdW.in(hV:VT n ps ts)(h0:0<ps.f)(h:RdW ps ts R){row:Ac}(hr:row∈R){x:Int}(hx:x∈row):0<=x/\x<2*ps⁻¹:=by
 have:=((h.op hV h0).2.2 x).E (Wq.H ⟨row,hr,hx⟩)
 lia
def k0(hV:VT n ps ts)(hg:∀p∈ps,0<=p.1/\p.1<(n:Int)/\0<=p.2/\p.2<(n:Int))(h0:0<ps.f)(h:RdW ps ts R)(hj:Th n ps):Th R.f (UY R ps.f):=by
 let nd:=h.nodup hV;let Ms:=h.op hV h0
 letI C:Int->Int->Prop:=λx y=>Conn (XT (UY R ps.f)<|Xh (UY R ps.f).f) (Vr R x).j (Vr R y).j
 let Cs:∀{x y},C x y->C y x:=λh=>Conn.U h;let Ct:∀{x y z},C x y->C y z->C x z:=λh1 h2=>Conn.l h1 h2
 let tie:∀k:Nat,k<ps.f->C (2*(k:Int)) (2*(k:Int)+1):=λk hk=>by show .edge (Yq.H {(k:Int),XO.H (by rw[k9];lia),?_});rw[Yf,Xl,BD R hk];rfl
 let bk:∀x,0<=x/\x<2*ps⁻¹->C (WD x) x:=λx hx=>by
  have:=tie (x/2).j J
  unfold WD;cases c:x%2=0
  .rw[if_pos c];rw[show 2*((x/2).j:Int)=x by omega]at this;show Cs this
  .rw[if_neg c];rwa[show 2*((x/2).j:Int)+1=x by lia,show 2*((x/2).j:Int)=x-1 by lia]at this
 let same:∀x y,(x,y)∈WC ts->Vr R x=Vr R y:=λx y Ua=>by
  let rg:=(Gg hV Ua).1;let(r,hr,hx):=Wq.E (h.all hV rg);let hy:=(Ms.1 r hr).next (λx y z=>OF hV) hx Ua
  let(k,hk):=Yz hr;rw[Td nd hk hx,Td nd hk hy]
 let nb:∀row∈ts,∀c b,Nb row c b->C c b:=λrow hr c b hn=>by
  let hb:=OE hr hn;let rg:=(Gg hV hb).1
  let h1:=bk (WD c) rg;rw[OG]at h1;change Conn _ _ (Vr R b).j
  rwa[<-same _ _ hb]
 let ring:∀row∈ts,∀x∈row,∀y∈row,C x y:=λrow hr=>by
  let up:∀t s x,row=s++x::t->∀y∈t,C x y:=λt=>by
   induction t with
   |nil=>intro s x _ y hy;cases hy
   |cons z t ih=>
    intro s x e y hy;let h1:=nb row hr x z (.inl ⟨s,t,e⟩)
    rcases Yg.E hy with c|c
    .rw[c];show h1
    .show Ct h1 (ih (s++[x]) z (by rw[e,YG];rfl) y c)
  let hd:∀x t,row=x::t->∀y∈row,C x y:=λx t e y hy=>by
   rw[e]at hy;rcases Yg.E hy with c|c
   .rw[c];show Conn.refl _
   .show up t [] x e y c
  intro x hx y hy;cases e:row with
  |nil=>rw[e]at hx;cases hx
  |cons z t=>show Ct (Cs<|hd z t e x hx) (hd z t e y hy)
 let place:∀{x:Int},0<=x/\x<2*ps⁻¹->∀{y:Int},0<=y/\y<2*ps⁻¹->WV ps x=WV ps y->C x y:=λ{x} hx {y} hy e=>by
  let(p,row,hp,hm):=hV.has hg hx;let o1:=((hV.mem hp).E hm).2
  show ring row (Xr hp) x hm y ((hV.mem hp).H ⟨hy,J⟩)
 letI At:Nat->Int->Prop:=λi x=>(0<=x/\x<2*ps⁻¹)/\WV ps x=(i:Int)
 let key:∀{i j:Nat},Conn (XT ps<|Xh ps.f) i j->i=j\/((∃x,At i x)/\(∃y,At j y)/\∀x y,At i x->At j y->C x y):=λ{i j} c=>by
  induction c with
  |refl i=>show .inl rfl
  |edge he=>
   rename_i a b;let(z,hz,e):=Yq.E he;let zr:=XO.E hz
   let hm:ps.t z.j (0,0)∈ps:=by rw[Xl,XH J];show RX _
   let ah:=hg _ hm;let ea:(ps.t z.j (0,0)).1.j=a:=XG Prod.fst e
   let eb:(ps.t z.j (0,0)).2.j=b:=XG Prod.snd e;let A1:At a (2*z):=by exists J,?_;unfold WV;rw[if_pos J,show 2*z/2=z by lia];lia
   let A2:At b (2*z+1):=by exists J,?_;unfold WV;rw[if_neg J,show(2*z+1)/2=z by lia];lia
   show .inr {{_,A1},{_,A2},λx y hx hy=>?_};let t:=tie z.j J
   rw[show((z.j:Nat):Int)=z by lia]at t;show Ct (place hx.1 A1.1<|by rw[hx.2,A1.2]) (Ct t<|place A2.1 hy.1<|by rw[hy.2,A2.2])
  |symm _ ih=>
   rcases ih with e|⟨a,b,f⟩
   .show .inl e.U
   .show .inr {b,a,λx y hx hy=>Cs<|f y x hy hx}
  |trans _ _ OU SE=>
   rcases OU with rfl|⟨a1,b1,f1⟩
   .show SE
   .rcases SE with rfl|⟨a2,b2,f2⟩
    .show .inr ⟨a1,b1,f1⟩
    .let⟨w,hw⟩:=b1;show .inr {a1,b2,λx y hx hy=>Ct (f1 x w hx hw)<|f2 w y hw hy}
 let all:∀x y,(0<=x/\x<2*ps⁻¹)->(0<=y/\y<2*ps⁻¹)->C x y:=λx y hx hy=>by
  let ox:=lF hg hx;let oy:=lF hg hy
  let hc:=hj (WV ps x).j (WV ps y).j J J;rcases key hc with e|⟨_,_,f⟩
  .show place hx hy J
  .show f x y ⟨hx,J⟩ ⟨hy,S⟩
 let dart:∀i,i<R.f->∃x,(0<=x/\x<2*ps⁻¹)/\(Vr R x).j=i:=λi hi=>by
  let hk:R[i]?=some R[i]:=XH hi;let hm:R[i]∈R:=RX hi
  let XM:=(Ms.1 _ hm).1;let(x,hx):=List.exists_mem_of_ne_nil _ XM;exists x,h.in hV h0 hm hx,by rw[Td nd hk hx,Yf]
 intro i j hi To;let(x,hx,rfl):=dart i S;let(y,hy,rfl):=dart j S;show all x y hx hy
end
def kZ{D:Ab}{m:Nat}(h:∀x:Int,0<=x->x<2*(m:Int)->x∈D.D):∀p∈UY D m,0<=p.1/\p.1<D⁻¹/\0<=p.2/\p.2<D⁻¹:=λp hp=>by
 let(k,hk,rfl):=Yq.E hp;let hk:=YL.E hk
 let a:=(Iu<|h (2*(k:Int)) J J).2;let b:=(Iu<|h (2*(k:Int)+1) J J).2
 exists a.1,a.2,b.1,b.2
end My
namespace L2
open PySem PySem.Spec PyProof.Rows
section
variable{X:Cx}{a b:Expr}
def kY:Wx X (compareOp .IsNot) (λx y H Q=>∃a b:Bool,x=.bl a/\y=.bl b/\Q (.bl (!decide (a=b))) H):=by intro pins s σ H x y v u Q I rx ry h;let(a,b,rfl,rfl,q):=h;cases rx;cases ry;show PySem.wpAny_isNot_plain rfl (ZI I q ?_);cases a<;>cases b<;>rfl
end
end L2
namespace My
open PySem L2
def ag(g:Int->Int):∀{L:Ab},(∀r∈L,(r.C g).sum=0)->(L.D.C g).sum=0
 |[],_=>rfl
 |r::L,h=>by rw[YZ,Yp,GV,h r Yb,ag g λr hr=>h r (Ye _ hr)];rfl
def af(g:Int->Int):∀m:Nat,((Xh (2*m)).C g).sum=((List.range m).C λ(k:Nat)=>g (2*(k:Int))+g (2*(k:Int)+1)).sum
 |0=>rfl
 |m+1=>by
  let e:Xh (2*(m+1))=Xh (2*m)++[2*(m:Int),2*(m:Int)+1]:=by unfold Xh;rw[show 2*(m+1)=2*m+1+1 by lia,PM,PM,YG,Yp];congr 1
  rw[e,Yp,GV,af g m,PM,Yp,GV];simp
def Orth(ps qs:Aa):(Prop):=∀A f:Int->Int,((List.range ps.f).C λ(k:Nat)=>(A (ps.t k (0,0)).1-A (ps.t k (0,0)).2)*(f (qs.t k (0,0)).1-f (qs.t k (0,0)).2)).sum=0
def Orth.symm(hl:qs.f=ps.f)(h:Orth ps qs):Orth qs ps:=λA f=>by let e:((List.range ps.f).C λ(k:Nat)=>(A (qs.t k (0,0)).1-A (qs.t k (0,0)).2)*(f (ps.t k (0,0)).1-f (ps.t k (0,0)).2))=(List.range ps.f).C λ(k:Nat)=>(f (ps.t k (0,0)).1-f (ps.t k (0,0)).2)*(A (qs.t k (0,0)).1-A (qs.t k (0,0)).2):=YQ λk _=>TX ..;rw[hl,e];show h f A
section
variable{n:Nat}{ps:Aa}{ts R:Ab}
def kX(ps:Aa)(k:Nat):WV ps (2*(k:Int))=(ps.t k (0,0)).1:=by unfold WV;rw[if_pos J,show(2*(k:Int)/2).j=k by lia]
def kW(ps:Aa)(k:Nat):WV ps (2*(k:Int)+1)=(ps.t k (0,0)).2:=by unfold WV;rw[if_neg S,show((2*(k:Int)+1)/2).j=k by lia]
def kT(k:Nat):WD (2*(k:Int))=2*(k:Int)+1:=by unfold WD;rw[if_pos S]
def kR(k:Nat):WD (2*(k:Int)+1)=2*(k:Int):=by unfold WD;rw[if_neg S];lia
def kQ(F:Int->Int){row:Ac}(h:∀i,i<row.f->F (WD (row.t i 0))=F (row.t ((i+1)%row.f) 0)):(row.C λd=>F d-F (WD d)).sum=0:=by
 let e1:(row.C λd=>F<|WD d).sum=(row.C F).sum:=by
  cases row with
  |nil=>rfl
  |cons a t=>
   let e:((a::t).C λd=>F<|WD d)=(t++[a]).C F:=by
    show List.ext_getElem tG λi h1 h2=>?_;let hi:i<(a::t).f:=by simpa using h1
    let q:=h i hi;rw[List.getElem_map,List.getElem_map];rw[Xl,XH hi]at q;show q.l ?_;congr 1;rw[Yv]at hi ⊢;cases c:i<t.f
    .rw[SW J,List.getElem_append_left c,Xl,Ff,XH c];rfl
    .have:i=t.f:=J
     subst this;rw[Sq,List.getElem_append_right (Ya _)];simp
   rw[e,Yp,GV,YD,YD,YV,YV];simp;lia
 let e2:∀l:Ac,(l.C λd=>F d-F (WD d)).sum=(l.C F).sum-(l.C λd=>F<|WD d).sum:=λl=>by
  induction l with
  |nil=>rfl
  |cons a l ih=>rw[YD,YD,YD,YV,YV,YV,ih];lia
 rw[e2,e1];lia
def ae(c:Int)(g:Int->Int):∀l:Ac,(l.C λd=>c*g d).sum=c*(l.C g).sum
 |[]=>tG
 |a::l=>by rw[YD,YD,YV,YV,ae c g l,Tw]
def kP(hV:VT n ps ts)(hg:∀p∈ps,0<=p.1/\p.1<(n:Int)/\0<=p.2/\p.2<(n:Int))(h:RdW ps ts R):Orth ps (UY R ps.f):=λA f=>by
 cases h0:0<ps.f
 case neg=>rw[show ps.f=0 by lia];rfl
 let nd:=h.nodup hV;let Ms:=h.op hV h0
 let same:∀x y,(x,y)∈WC ts->Vr R x=Vr R y:=λx y Ua=>by
  let rg:=(Gg hV Ua).1;let(r,hr,hx):=Wq.E (h.all hV rg);let hy:=(Ms.1 r hr).next (λx y z=>OF hV) hx Ua
  let(k,hk):=Yz hr;rw[Td nd hk hx,Td nd hk hy]
 letI F:Int->Int:=λd=>f (Vr R d)
 let rows:∀row∈ts,(row.C λd=>A (WV ps d)*(F d-F (WD d))).sum=0:=λrow hr=>by
  let(p,hp):=Yz hr;let e:(row.C λd=>A (WV ps d)*(F d-F (WD d)))=row.C λd=>A (p:Int)*(F d-F (WD d)):=YQ λd hd=>by rw[((hV.mem hp).E hd).2]
  rw[e,ae (A (p:Int)) (λd=>F d-F (WD d)) row,kQ F λi hi=>?_,UP];change f _=f _
  rw[same _ _ (WJ.H ⟨row,hr,i,hi,Z,Z⟩)]
 let ab:=ag _ rows;let pm:ts.D.Perm (Xh<|2*ps.f):=(Vm hV.flat<|by show QI ?_;unfold Xh;rw[Sv];show Rp.imp λh=>J).H λx=>by rw[hV.flat_mem hg,XO];lia
 rw[oH pm,af]at ab;show Eq.l (XG List.sum<|YQ λk hk=>?_) ab;let hk:=YL.E hk
 let q:=BD R (m:=ps.f) hk;rw[kX,kW,kT,kR,Xl (l:=UY R ps.f),q];change(_-_)*(f (Vr R<|2*(k:Int))-f (Vr R<|2*(k:Int)+1))=_*(f (Vr R<|2*(k:Int))-f (Vr R<|2*(k:Int)+1))+_*(f (Vr R<|2*(k:Int)+1)-f (Vr R<|2*(k:Int)))
 grind
end
def Wr(m:Nat)(T:Ac):(Ac):=(Xh m).filter λz=>decide (z∉T)
def Xi{z:Int}:z∈Wr m T↔(0<=z/\z<(m:Int))/\z∉T:=by unfold Wr;rw[Yt,XO];simp
def wd(m:Nat)(T:Ac):(Wr m T).Q (·<·):=(NK m).filter _
def aa(m:Nat)(T:Ac):IsSet m (Wr m T):=XW.H {λz hz=>(Xi.E hz).1,wd m T}
def KN(h:IsSet m T):Wr m (Wr m T)=T:=by
 let(h1,h2):=XW.E h;show Di (wd m _) h2 λz=>?_;rw[Xi,Xi];constructor
 .rintro⟨a,b⟩;show YC λc=>b ⟨a,c⟩
 .intro hz;exists h1 z hz,λc=>c.2 hz
def kO(h:IsSet m T):(Wr m T).f+T.f=m:=by
 let(h1,h2):=XW.E h;let pm:(Wr m T++T).Perm (Xh m):=(Vm (YM.H {QI<|wd m T,QI h2,λa ha b hb e=>(Xi.E ha).2 (e▸hb)})<|QI<|NK m).H λz=>by
  rw[Xx,Xi,XO];constructor
  .rintro(a|a)
   .show a.1
   .show h1 z a
  .intro a;cases c:z∈T
   .show .inr c
   .show .inl ⟨a,c⟩
 have:=pm.length_eq
 rw[XB]at this;unfold Xh at this;rwa[Xz,YO]at this
def Conn.const{α:Type}{g:Nat->α}(h:∀e∈es,g e.1=g e.2)(c:Conn es i j):g i=g j:=by
 induction c with
 |refl i=>rfl
 |edge q=>show h _ q
 |symm _ ih=>show ih.U
 |trans _ _ a b=>show a.l b
def ZV2:∀o:Nat,((List.range o).C λ_=>(0:Int)).sum=0
 |0=>rfl
 |o+1=>by rw[PM,Yp,GV,ZV2 o];rfl
def kN{g:Nat->Int}{o:Nat}(ho:o<m)(h:∀k,k<m->k≠o->g k=0):((List.range m).C g).sum=g o:=by
 induction m with
 |zero=>lia
 |succ m ih=>
  rw[PM,Yp,GV];cases c:o=m
  .subst c;let z:((List.range o).C g).sum=0:=by
    have:(List.range o).C g=(List.range o).C λ_=>(0:Int):=YQ λk hk=>h k (by have:=YL.E hk;lia) (by have:=YL.E hk;lia)
    rw[this,ZV2]
   rw[z];simp
  .rw[ih J λk hk=>h k J]
   have:=h m J (λe=>c e.U)
   simp[this]
def Zj9(g:Zt n ps)(g':Zt n' qs)(hl:qs.f=ps.f)(ho:Orth ps qs)(hj:Th n' qs)(hT:Zn n ps T):∀i j,i<n'.j->j<n'.j->Conn (XT qs (Wr ps.f T)) i j:=λi j hi To=>by
 let iC:InN n'.j (XT qs<|Wr ps.f T):=ZE g' λz hz=>by rw[hl];show(Xi.E hz).1
 show(ZU iC hi To).E ?_
 letI M:=WH n'.j (XT qs<|Wr ps.f T)
 letI fN:Nat->Int:=λx=>if mk M x=mk M i then 1 else 0
 letI f:Int->Int:=λx=>fN x.j
 let out:∀z:Int,0<=z->z<ps⁻¹->z∉T->fN (Zo qs z).1=fN (Zo qs z).2:=λz z0 z1 hz=>by
  have:=pC _ iC (Zo qs z) (Yq.H {z,Xi.H {⟨z0,z1⟩,hz},Z})
  change(if mk M _=_ then (1:Int) else 0)=if mk M _=_ then 1 else 0
  rw[show mk M (Zo qs z).1=mk M (Zo qs z).2 from this]
 let inn:∀o∈T,fN (Zo qs o).1=fN (Zo qs o).2:=λo Li=>by
  let ob:=hT.1.all o Li;let iW:InN n.j (XT ps<|wo T o):=ZE g (Jb hT)
  letI N:=WH n.j (XT ps<|wo T o)
  letI AN:Nat->Int:=λx=>if mk N x=mk N (Zo ps o).1 then 1 else 0
  let q:=ho (λx=>AN x.j) f;let oe:=TM g ob.1 ob.2
  let ne:mk N (Zo ps o).1≠mk N (Zo ps o).2:=λe=>(Ve g hT ob.1 ob.2).E ((QT g hT Li Li).H Z) ((ZU iW oe.1 oe.2).E e);rw[kN (o:=o.j) J λk hk XM=>?_]at q
  .let e1:AN (Zo ps o).1=1:=if_pos rfl;let e2:AN (Zo ps o).2=0:=if_neg λe=>ne e.U
   change (AN (Zo ps o).1-AN (Zo ps o).2)*(fN (Zo qs o).1-fN (Zo qs o).2)=0 at q;rw[e1,e2]at q;lia
  .cases c:(k:Int)∈T
   .have:=pC _ iW (Zo ps (k:Int)) (Yq.H {(k:Int),Xm.H ⟨c,J⟩,Z})
    let e:AN (Zo ps (k:Int)).1=AN (Zo ps (k:Int)).2:=by
     change(if mk N _=_ then (1:Int) else 0)=if mk N _=_ then 1 else 0
     rw[show mk N (Zo ps (k:Int)).1=mk N (Zo ps (k:Int)).2 from this]
    change(AN (Zo ps (k:Int)).1-AN (Zo ps (k:Int)).2)*_=0;rw[e,Int.sub_self,PK]
   .let e:=out (k:Int) J J c;change _*(fN (Zo qs (k:Int)).1-fN (Zo qs (k:Int)).2)=0
    rw[e,Int.sub_self,UP]
 let all:fN i=fN j:=(hj i j hi To).const λe he=>by
  let(z,hz,rfl):=Yq.E he;let hz:=XO.E hz
  cases c:z∈T
  .show inn z c
  .show out z hz.1 J c
 let e1:fN i=1:=if_pos rfl;rw[e1]at all;cases c:mk M j=mk M i
 .show c.U
 .let e2:fN j=0:=if_neg c;lia
def OD(g:Zt n ps)(g':Zt n' qs)(hl:qs.f=ps.f)(ho:Orth ps qs)(hj:Th n' qs)(he:n-ps⁻¹+n'=2)(hT:Zn n ps T):Zn n' qs (Wr ps.f T):=by
 exists by rw[hl];show aa _ _,?_,Zj9 g g' hl ho hj hT
 have:=kO hT.1
 have:=hT.2.1
 lia
def ZW7(g:Zt n ps)(g':Zt n' qs)(hl:qs.f=ps.f)(ho:Orth ps qs)(hj:Th n ps)(To:Th n' qs)(he:n-ps⁻¹+n'=2)(hs:IsSet ps.f T):Zn n ps T↔Zn n' qs (Wr ps.f T):=by
 exists OD g g' hl ho To he,λh=>?_
 have:=OD g' g hl.U (ho.U hl) hj J h
 rwa[hl,KN hs]at this
def kM(g:Zt n ps)(g':Zt n' qs)(hl:qs.f=ps.f)(ho:Orth ps qs)(hj:Th n ps)(To:Th n' qs)(he:n-ps⁻¹+n'=2)(h:TC n ps c):TC n' qs c:=
 lY (Wr ps.f) (Wr ps.f) (λT hT=>{OD g g' hl ho To he hT,KN hT.1}) (λT hT=>⟨by
  have:=OD g' g hl.U (ho.U hl) hj S hT
  rw[hl]at this;show this,KN<|by rw[<-hl];show hT.1⟩) h
def kJ(hV:VT n ps ts)(hg:∀p∈ps,0<=p.1/\p.1<(n:Int)/\0<=p.2/\p.2<(n:Int))(kI:ps.f<=30)(wc:R.f<=14)(h:RdW ps ts R)(hF:Flat n ps R):Zt R.f (UY R ps.f)/\Th R.f (UY R ps.f):=by
 let ex:∀x:Int,0<=x->x<2*ps⁻¹->x∈R.D:=λx h0 h1=>h.all hV ⟨h0,h1⟩;let pos:1<=R.f:=by
  rcases h with ⟨_,rfl⟩|⟨h0,_⟩
  .show Ya _
  .let⟨r,hr,_⟩:=Wq.E (ex 0 (PH _) J);show Ro hr
 exists {J,J,by rw[k9];show kI,kZ ex},?_;cases h0:0<ps.f
 .show k0 hV hg h0 h hF.1
 .rcases h with ⟨_,rfl⟩|⟨h1,_⟩
  .intro i j hi hj;let hi:i<1:=hi
   let hj:j<1:=hj;let rfl:i=j:=J;show .refl _
  .show absurd h1 h0
def Mr(cs:List Nat):(List Nat):=if cs.head?=some 45 then cs.tail else cs
def kH(cs:List Nat):(Bool):=decide (1<=(Mr cs).f/\(Mr cs).f<=60/\(∀c∈Mr cs,48<=c/\c<=57)/\(cs=[48]\/(Mr cs).head?≠some 48))
abbrev Tr:=Int×Aa×Ac
end My
namespace My
open PySem PySem.W PyProof.Rows
def Uu{α:Type}(c:Nat->Nat->Bool):(KasT α->α)
 | .ret a=>a
 | .ask i j k=>Uu c (k<|c i j)
def QG{α β:Type}{c:Nat->Nat->Bool}{f:α->KasT β}:∀t:KasT α,Uu c (t.bind f)=Uu c (f (Uu c t))
 | .ret _=>rfl
 | .ask i j k=>QG (k<|c i j)
section
variable{n:Nat}{key:Nat->Int}
def Ahd(key:Nat->Int)(i j:Nat):(Prop):=key i<key j\/(key i=key j/\i<j)
def Ahd.trans{i j k:Nat}(h1:Ahd key i j)(h2:Ahd key j k):Ahd key i k:=by unfold Ahd at *;lia
structure Ord(n m:Nat)(p:Array Nat):Prop where
 perm:p.Perm (List.range n).m
 suf:∀i,m<=i->i<n->p.t i 0=i
def Ord.size(h:Ord n m p):p.G=n:=by rw[h.perm.size_eq];simp
def Mq{p:Array Nat}(h:i<p.G):p[i]?=some (p.t i 0):=by rw[YF,QP h];rfl
def Ord.inj(h:Ord n m p)(hi:i<n)(hj:j<n)(e:p.t i 0=p.t j 0):i=j:=by
 let hn:p.toList.Nodup:=(yr.E h.perm).nodup_iff.H List.nodup_range;let hs:=h.G
 let e1:=Mq (p:=p) (i:=i) J;let e2:=Mq (p:=p) (i:=j) J
 rw[<-VH]at e1 e2;show(List.getElem?_inj (i:=i) (j:=j) (by rw[YN];omega) hn).E (by rw[e1,e2,e])
def Ord.lt(h:Ord n m p)(hm:m<=n)(hi:i<m):p.t i 0<m:=by
 cases hc:p.t i 0<m
 .show hc
 .let hs:=h.G;let hb:p.t i 0<n:=by let e1:=Mq (p:=p) (i:=i) J;rw[<-VH]at e1;show YL.E ((yr.E h.perm).mem_iff.E (Xr e1))
  let e:=h.inj J hb (h.suf _ S hb).U;lia
def Ord.mono(h:Ord n m p)(hk:m<=k):Ord n k p:={h.perm,λi hi=>h.suf i J}
def NC{i j k:Nat}(hj:j<=p.G):(kas_rev p i j).t k 0=if i<=k/\k<j then p.t (i+j-1-k) 0 else p.t k 0:=by unfold kas_rev;rw[YF,getElem?_mirror_all hj,apply_ite λo:Option Nat=>o.t 0,<-YF,<-YF]
def Ord.rev(h:Ord n m p)(hj:j<=m)(hm:m<=n):Ord n m (kas_rev p i j):=by let hs:=h.G;exists (mirror_perm _ _ _ _).l h.perm,λk hk hn=>?_;rw[NC J,if_neg J];show h.suf k hk hn
def Asc(key:Nat->Int)(m:Nat)(p:Array Nat):(Prop):=∀i j,i<j->j<m->Ahd key (p.t i 0) (p.t j 0)
def Asc.more(hm:1<=m)(h:Asc key m p)(h2:Ahd key (p.t (m-1) 0) (p.t m 0)):Asc key (m+1) p:=λi j Uw hj=>by
 cases e:j=m
 .subst e;cases e2:i=j-1
  .rw[e2];show h2
  .show(h i (j-1) J S).l h2
 .show h i j Uw J
def Ir:∀f m p,m+f=n->1<=m->Ord n m p->Asc key m p->∃k,Uu (λi j=>decide (key i<key j)) (kas_asc p f m)=k/\m<=k/\k<=n/\Asc key k p/\(k<n->key (p.t k 0)<key (p.t (k-1) 0))
 |0,m,p,hf,h1,ho,ha=>{m,Z,Ya _,J,ha,λh=>J}
 |f+1,m,p,hf,h1,ho,ha=>by
  change ∃k,Uu _ (if decide (key (p.t m 0)<key (p.t (m-1) 0))=true then KasT.ret m else kas_asc p f (m+1))=k/\_;cases hc:key (p.t m 0)<key (p.t (m-1) 0)
  .rw[if_pos (YK hc)];exists m,Z,Ya _,J,ha,λ_=>hc
  .rw[if_neg λz=>hc (YH z)];let e:=ho.suf m (Ya _) J
   let l:=ho.lt J (i:=m-1) J;let(k,e1,e2,e3,e4,e5):=Ir f (m+1) p J J (ho.mono J) (ha.more h1<|by unfold Ahd;rw[e]at hc ⊢;lia);exists k,e1,J,e3,e4,e5
structure Dsc(key:Nat->Int)(m g:Nat)(p:Array Nat):Prop where
 le:g+1<=m
 old:∀i j,i<j->j<m-(g+1)->Ahd key (p.t j 0) (p.t i 0)
 mid:∀i j,i<m-(g+1)->m-(g+1)<=j->j<m->key (p.t j 0)<key (p.t i 0)
 own:∀i j,m-(g+1)<=i->i<j->j<m->key (p.t i 0)=key (p.t j 0)/\p.t i 0<p.t j 0
def Fall(key:Nat->Int)(m:Nat)(p:Array Nat):(Prop):=∀i j,i<j->j<m->Ahd key (p.t j 0) (p.t i 0)
def Dsc.turn(h:Dsc key m g p)(hs:m<=p.G):Fall key m (kas_rev p (m-(g+1)) m):=λi j Uw hj=>by
 let hl:=h.le;rw[NC hs,NC hs];cases c1:m-(g+1)<=j
 .rw[if_pos ⟨c1,hj⟩];cases c2:m-(g+1)<=i
  .rw[if_pos ⟨c2,J⟩];show .inr (h.own (m-(g+1)+m-1-j) (m-(g+1)+m-1-i) S S J)
  .rw[if_neg J];show .inl (h.mid i _ J J J)
 .rw[if_neg J,if_neg J];show h.old i j Uw J
def Dsc.last(h:Dsc key m g p)(hs:m<=p.G):key ((kas_rev p (m-(g+1)) m).t (m-1) 0)=key (p.t (m-1) 0):=by
 let hl:=h.le;rw[NC hs,if_pos J];cases e:g=0
 .congr 2;lia
 .show(h.own (m-(g+1)+m-1-(m-1)) (m-1) S S J).1
def Dsc.fall(h:Dsc key m 0 p):Fall key m p:=λi j Uw hj=>by
 let hl:=h.le;cases e:j<m-(0+1)
 .show h.old i j Uw e
 .show .inl (h.mid i j J J hj)
def Fall.new(hm:1<=m)(h:Fall key m p)(hk:key (p.t m 0)<key (p.t (m-1) 0)):Dsc key (m+1) 0 p:=by
 exists J,λi j Uw hj=>h i j Uw J,λi j hi h1 h2=>?_,λi j h1 h2 h3=>J;let e:j=m:=J
 subst e;cases c:i=j-1
 .rw[c];show hk
 .have:=h i (j-1) J S
  unfold Ahd at this;omega
def Fall.rev(h:Fall key m p)(hs:m<=p.G):Asc key m (kas_rev p 0 m):=λi j Uw hj=>by rw[NC hs,NC hs,if_pos {Yk _,J},if_pos {Yk _,hj}];show h _ _ S S
def Asc.rev(h:Asc key m p)(hs:m<=p.G):Fall key m (kas_rev p 0 m):=λi j Uw hj=>by rw[NC hs,NC hs,if_pos {Yk _,hj},if_pos {Yk _,S}];show h _ _ S S
def wb:∀f m g p,m+f=n->Ord n m p->Dsc key m g p->∃p' m' g',Uu (λi j=>decide (key i<key j)) (kas_desc f p m g)=(p',m',g')/\m<=m'/\m'<=n/\Ord n m' p'/\Dsc key m' g' p'
 |0,m,g,p,hf,ho,hd=>{p,m,g,Z,Ya _,S,ho,hd}
 |f+1,m,g,p,hf,ho,hd=>by
  let hl:=hd.le;let hs:=ho.G
  let em:=ho.suf m (Ya _) J;let ll:=ho.lt J (i:=m-1) J
  change ∃p' m' g',Uu _ (if decide (key (p.t m 0)<key (p.t (m-1) 0))=true then (if g>0 then kas_desc f (kas_rev p (m-(g+1)) m) (m+1) 0 else kas_desc f p (m+1) 0) else KasT.ask (p.t (m-1) 0) (p.t m 0) λd=>if d=true then .ret (p,m,g) else kas_desc f p (m+1) (g+1))=_/\_;cases hc:key (p.t m 0)<key (p.t (m-1) 0)
  .rw[if_pos (YK hc)];cases hg:g>0
   .rw[if_pos hg];let hr:=ho.rev (i:=m-(g+1)) (Ya m) J
    let em2:=hr.suf m (Ya _) J;let(p',m',g',e1,e2,e3,e4,e5):=wb f (m+1) 0 (kas_rev p (m-(g+1)) m) J (hr.mono J) ((hd.turn J).new J (by rw[hd.last S,em2];rwa[em]at hc));exists p',m',g',e1,J,e3,e4,e5
   .rw[if_neg hg];let rfl:g=0:=J;let(p',m',g',e1,e2,e3,e4,e5):=wb f (m+1) 0 p S (ho.mono S) (hd.fall.new J hc);exists p',m',g',e1,J,e3,e4,e5
  .rw[if_neg λz=>hc (YH z)];change ∃p' m' g',Uu _ (if decide (key (p.t (m-1) 0)<key (p.t m 0))=true then KasT.ret (p,m,g) else kas_desc f p (m+1) (g+1))=_/\_
   cases Vk:key (p.t (m-1) 0)<key (p.t m 0)
   .rw[if_pos (YK Vk)];exists p,m,g,Z,Ya _,S,ho,hd
   .rw[if_neg λz=>Vk (YH z)];let ek:key (p.t (m-1) 0)=key (p.t m 0):=J
    let(p',m',g',e1,e2,e3,e4,e5):=wb f (m+1) (g+1) p S (ho.mono S) ⟨J,λi j h1 h2=>hd.old i j h1 J,λi j h1 h2 h3=>by
     cases c:j=m
     .rw[c,<-ek];show hd.mid i (m-1) J J J
     .show hd.mid i j J J J,λi j h1 h2 h3=>by
     cases c:j=m
     .rw[c];cases c2:i=m-1
      .rw[c2,em];rw[em]at ek;exists ek,ll
      .have:=hd.own i (m-1) J J S
       rw[em];rw[em]at ek;exists this.1.l ek,J
     .show hd.own i j J h2 S⟩
    exists p',m',g',e1,J,e3,e4,e5
def Zv9(hm:1<=m)(hn:m<=n)(ho:Ord n m p)(hf:Fall key m p):∃k p',Uu (λi j=>decide (key i<key j)) (kas_tail3 m n p)=(k,p')/\1<=k/\k<=n/\Ord n k p'/\Asc key k p':=by
 let hs:=ho.G;unfold kas_tail3;rw[QG];let hr:=ho.rev (i:=0) (Ya m) hn
 let(k,e1,e2,e3,e4,_):=Ir (n-m) m (kas_rev p 0 m) J hm hr (hf.rev J);rw[e1];exists k,_,Z,J,e3,hr.mono e2,e4
def ZL9(hm:1<=m)(hn:m<n)(ho:Ord n m p)(hf:Fall key m p)(hk:key (p.t m 0)<key (p.t (m-1) 0)):∃k p',Uu (λi j=>decide (key i<key j)) (kas_descPart m n p)=(k,p')/\1<=k/\k<=n/\Ord n k p'/\Asc key k p':=by
 unfold kas_descPart;rw[QG];let(p',m',g',e1,e2,e3,e4,e5):=wb (n-(m+1)) (m+1) 0 p J (ho.mono J) (hf.new hm hk);rw[e1];let hs:=e4.G
 change ∃k q,Uu _ (if g'>0 then kas_tail3 m' n (kas_rev p' (m'-(g'+1)) m') else kas_tail3 m' n p')=_/\_;cases hg:g'>0
 .rw[if_pos hg];show Zv9 J e3 (e4.rev (Ya _) e3) (e5.turn J)
 .rw[if_neg hg];let rfl:g'=0:=J;show Zv9 J e3 e4 e5.fall
def BC(hn:1<=n)(ho:Ord n 1 p):∃k p',Uu (λi j=>decide (key i<key j)) (kas_count n p)=(k,p')/\1<=k/\k<=n/\Ord n k p'/\Asc key k p':=by
 unfold kas_count;rw[QG];let(k,e1,e2,e3,e4,e5):=Ir (key:=key) (n-1) 1 p J (Ya _) ho λi j h1 h2=>J;rw[e1];let hs:=ho.G
 let hk:=ho.mono e2;cases c:k=n
 .rw[if_pos (by rw[c];show GX n)];exists k,p,Z,e2,e3,hk,e4
 .rw[if_neg λz=>c (Rn.E z)];let Xp:k<n:=J
  let h5:=e5 Xp;cases c1:k>1
  .rw[if_pos c1];change ∃k' p',Uu _ (if decide (key (p.t 0 0)<key (p.t (k-1) 0))=true then KasT.ret (k,p) else kas_descPart k n (kas_rev p 0 k))=_/\_
   cases c2:key (p.t 0 0)<key (p.t (k-1) 0)
   .rw[if_pos (YK c2)];exists k,p,Z,e2,e3,hk,e4
   .rw[if_neg λz=>c2 (YH z)];let a0:=e4 0 (k-1) J J
    let eq:key (p.t 0 0)=key (p.t (k-1) 0):=by unfold Ahd at a0;lia
    let hr:=hk.rev (i:=0) (Ya k) J;show ZL9 e2 Xp hr (e4.rev J) ?_;rwa[NC S,NC S,if_neg J,if_pos J,show 0+k-1-(k-1)=0 by lia,eq]
  .rw[if_neg c1];let rfl:k=1:=J;show ZL9 (Ya _) Xp hk (λi j h1 h2=>J) h5
def kG(hk:Asc key k p):∀f l r,r-l<=f->l<=r->r<=k->(∀i,i<l->¬key (p.t k 0)<key (p.t i 0))->(∀i,r<=i->i<k->key (p.t k 0)<key (p.t i 0))->∃l',Uu (λi j=>decide (key i<key j)) (kas_place p k f l r)=l'/\l'<=k/\(∀i,i<l'->¬key (p.t k 0)<key (p.t i 0))/\(∀i,l'<=i->i<k->key (p.t k 0)<key (p.t i 0))
 |0,l,r,hf,h1,h2,ha,hb=>{l,Z,J,ha,λi hi=>hb i J}
 |f+1,l,r,hf,h1,h2,ha,hb=>by
  let mono:∀i j,i<=j->j<k->key (p.t i 0)<=key (p.t j 0):=λi j Uw hj=>by
   cases e:i=j
   .rw[e];show PH _
   .have:=hk i j J hj
    unfold Ahd at this;lia
  unfold kas_place;cases c:l >= r
  .rw[if_pos c];exists l,Z,J,ha,λi hi=>hb i J
  .rw[if_neg c];change ∃l',Uu _ (if decide (key (p.t k 0)<key (p.t ((l+r)/2) 0))=true then kas_place p k f l ((l+r)/2) else kas_place p k f ((l+r)/2+1) r)=l'/\_
   cases c2:key (p.t k 0)<key (p.t ((l+r)/2) 0)
   .rw[if_pos (YK c2)];show kG hk f l ((l+r)/2) J J J ha λi hi m5=>by
     have:=mono ((l+r)/2) i hi m5
     omega
   .rw[if_neg λz=>c2 (YH z)];show kG hk f ((l+r)/2+1) r J J J (λi hi=>by
     have:=mono i ((l+r)/2) J J
     omega) hb
def Iq{k d x:Nat}(hk:k<p.G)(hd:d<=k):(bubble p k d).t x 0=if x=k-d then p.t k 0 else if k-d<x/\x<=k then p.t (x-1) 0 else p.t x 0:=by rw[YF,getElem?_bubble hk d hd,apply_ite λo:Option Nat=>o.t 0,apply_ite λo:Option Nat=>o.t 0,<-YF,<-YF,<-YF]
def BB:∀f k p,k+f=n->Ord n k p->Asc key k p->∃p',Uu (λi j=>decide (key i<key j)) (kas_bin f p k)=p'/\Ord n n p'/\Asc key n p'
 |0,k,p,hf,ho,ha=>by let rfl:k=n:=J;exists p,Z,ho,ha
 |f+1,k,p,hf,ho,ha=>by
  let hs:=ho.G;let ek:=ho.suf k (Ya _) J
  unfold kas_bin;rw[QG];let(l,e1,e2,e3,e4):=kG ha k 0 k J J (Ya _) (λi hi=>J) λi hi Vs=>J;rw[e1];show BB f (k+1) (bubble p k<|k-l) J {(bubble_perm _ _ _).l ho.perm,λi hi hn=>?_} λi j Uw hj=>?_
  .rw[Iq J J,if_neg J,if_neg J];show ho.suf i J hn
  .let low:∀x,x<k->p.t x 0<k:=λx hx=>ho.lt J hx;rw[Iq J J,Iq S S];let ekl:k-(k-l)=l:=J
   rw[ekl];cases c1:i=l
   .rw[if_pos c1,if_neg J,if_pos J];show .inl (e4 (j-1) J J)
   .rw[if_neg c1];cases c2:j=l
    .rw[if_pos c2,if_neg J];let a:=e3 i J
     let b:=low i J;rw[ek]at a ⊢;unfold Ahd;lia
    .rw[if_neg c2];cases c3:l<i
     .rw[if_pos ⟨c3,J⟩,if_pos ⟨J,J⟩];show ha _ _ J J
     .rw[if_neg J];cases c4:l<j
      .rw[if_pos ⟨c4,S⟩];show ha _ _ J J
      .rw[if_neg J];show ha _ _ Uw J
def Mp(hn:1<=n):∃p,Uu (λi j=>decide (key i<key j)) (kas_sort n)=p/\p.toList.Perm (List.range n)/\p.toList.Q (Ahd key):=by
 let fin:∀p,Ord n n p->Asc key n p->p.toList.Perm (List.range n)/\p.toList.Q (Ahd key):=λp ho ha=>by
  let hs:=ho.G;exists yr.E ho.perm,LP.H λi j hi hj Uw=>?_;rw[YN]at hi hj
  have:=ha i j Uw J
  rwa[YF,YF,QP hi,QP hj]at this
 unfold kas_sort;rw[QG];let(k,p,e1,e2,e3,e4,e5):=BC (key:=key) hn (p:=(List.range n).m) {Array.Perm.refl _,λi _ hi=>by simp[Array.getD,hi]};rw[e1];change ∃q,Uu _ (if k<n then kas_bin (n-max k 1) p (max k 1) else .ret p)=q/\_
 cases c:k<n
 .rw[if_pos c,Nat.max_eq_left e2];let(q,h1,h2,h3):=BB (n-k) k p J e4 e5;exists q,h1,fin q h2 h3
 .rw[if_neg c];let rfl:k=n:=J;exists p,Z,fin p e4 e5
end
end My
namespace L2
open PySem PySem.Spec PyProof.Rows
def OC(P:Program)(w:World)(K:Ad)(mg:Af)(base:Heap)(N:List Str)(qual:Str)(scope:Scope)(f:Addr)(cd:Value)(cl:List (Str×Addr))(A:Around)(outer:List Env)(s:Shared)(H:Hp):(Cx) where
 prog:=P
 w:=w
 K:=K
 mg:=mg
 base:=base
 A:=A.deeper (PySem.W.envX qual scope (~~~s) f cd cl)
 N:=N
 s₀:=s
 H₀:=H
 env:=PySem.W.envX qual scope (~~~s) f cd cl
 outer:=outer
 stack:=PySem.W.envX qual scope (~~~s) f cd cl::outer
 ex:=[]
 calm:=true
 fn:=λ_=>false
 pn:=[]
 xe:=λ_ _=>False
structure LamScope(v x:Str)(sc:Scope):Prop where
 kind:sc.kind=.function
 co:sc.isCoroutine=false
 gen:sc.isGenerator=false
 nocell:∀y∈sc.names,y.2≠.cell
 par:sc.names.L v=some .local
 free:sc.names.L x=some .free
 only:∀y,sc.names.L y=some .free->y=x
 ne:v≠x
section
variable{P:Program}{w:World}{K:Ad}{mg:Af}{base:Heap}{qual name v x:Str}{scope:Scope}{f c c':Addr}{cd pm RD u ux:Value}{A:Around}{outer:List Env}{s:Shared}{H:Hp}{vv vx:V}{params:Arguments}{body:Expr}{k:Nat}{t:TE}{Q:VK}
def wa{c2:Addr}(h:List.L y [(x,c)]=some c2):y=x/\c2=c:=by
 unfold List.lookup at h;split at h
 .rename_i e;exists Rn.E e,(Yc h).U
 .cases h
def BA(AP:LamScope v x scope)(hd:A.handled=none)(e0:Env0 P w K mg base A outer s H)(hc:s.o.IsCell c (some ux))(rx:RelV vx ux)(kF:H c=none)(rv:RelV vv u){h1:Heap}{tk:Nat}
  (RC:h1.Ns (~~~s) λy=>[(v,u)].reverse.L y)(hk:∀b o,s.o.B b=some o->h1.B b=some o):
  Inv (OC P w K mg base [v,x] qual scope f cd [(x,c)] A outer s H) [] [some vv,some vx] H {s with heap:=h1,toks:=tk}:=by
 let JB:∀b:Addr,b∉(OC P w K mg base [v,x] qual scope f cd [(x,c)] A outer s H).ex:=λb z=>absurd (show b∈([]:List Addr) from z) tG;let hck:h1.IsCell c (some ux):=by let(o,e,d):=hc;exists o,hk _ _ e,d
 let lk:List.L x [(x,c)]=some c:=by unfold List.lookup;rw[GX]
 show⟨{e0.mod,AP.kind,Z,Z,Ya _,λy z c2 h1 h2=>?_,λy hy=>?_,λy c2 z _=>(nomatch z),λ_=>hd,Around.frames_deeper e0.frames,.inr ⟨Z,Z⟩,λb z=>absurd z<|JB b,e0.bs,e0.bsz,λb _ _=>JB b,λb z=>absurd z<|JB b,e0.funs,e0.frf},
  rfl,e0.bare,Un.kept hk,{_,RC,λi y v' h1 h2 h3=>?_},λy c2 h=>?_,e0.hok.fresh<|Ya _,λy c2 h=>?_,λp hp=>absurd (show p∈([]:List (Addr×Obj)) from hp) tG,e0.hok.kept hk,Z⟩
 .rw[(wa h1).1,(wa h2).1]
 .let hy:scope.names.L y=some .cell\/scope.names.L y=some .free:=hy;rcases hy with hy|hy
  .show absurd Z (AP.nocell _<|Su hy)
  .rw[AP.only y hy];exists c,lk
 .match i,h1,h2 with
  |0,h1,h2=>
   let rfl:v=y:=Yc h1;let rfl:vv=v':=Yc (Yc h2);exists u,rv,.inl {AP.par,?_};change List.L v [(v,u)]=some u
   unfold List.lookup;rw[GX]
  |1,h1,h2=>
   let rfl:x=y:=Yc h1;let rfl:vx=v':=Yc (Yc h2);exists ux,rx,.inr {.inr AP.free,c,lk,hck}
  |i+2,h1,h2=>cases h1
 .rw[(wa h).2];exists _,hck
 .rw[(wa h).2];show kF
def kE(AP:LamScope v x scope)(hr:Room (k+1) A)(e0:Env0 P w K mg base A outer s H)(ho:s.o.B f=some (PySem.W.kla_obj name qual params body scope [(x,c)] pm c' RD))(SS:s.o.CodeRec ↑c' qual)
  (Tc:bindArgs (PySem.W.kla_fn name qual params body scope [(x,c)] pm ↑c' RD) {[u],[]}=pure [(v,u)])(hc:s.o.IsCell c (some ux))(rx:RelV vx ux)(kF:H c=none)(rv:RelV vv u)
  (hb:PE (OC P w K mg base [v,x] qual scope f ↑c' [(x,c)] A outer s H) body t)(hq:t [some vv,some vx] H Q):
  codeAny (model P w) A (.call ↑f {[u],[]}) (λr s'=>∃u',r=.ok (.ret u')/\CE outer P w H s Q u' s') s:=by
 let lim:s.o.NoLimit:=e0.mod.nolimit.keeps λb o e=>(e0.bs b o e).1;show PySem.W.kla_callFunE hr.depth ho Z AP.co AP.gen Z SS ?_;rw[Tc];show Yh (wpAny_newFunctionEnv AP.nocell (λy hy=>?_) (λh1 RC hsb=>{lim.fresh _ hsb,?_}) AP.kind)
 .rw[XF.E hy];show AP.par
 let hk:∀b o,s.o.B b=some o->h1.B b=some o:=λb o e=>hsb.extBut b o (YA<|Ys e) (Xf _ e);let I:Inv (OC P w K mg base [v,x] qual scope f ↑c' [(x,c)] A outer s H) [] [some vv,some vx] H {s with heap:=h1,toks:=s.toks+[(v,u)].f}:=BA AP hr.hd e0 hc rx kF rv RC hk
 show PySem.W.kla_codeExpr (Uq (hb [] _ _ H _ I hq) (λu' s' h=>?_) λe s' h=>False.elim h);let(y,H',tj,r,q):=h;exists u',Z,y,H',tj.os,tj.bare,tj.base,tj.hok,r,q
end
end L2
namespace My
open PySem PySem.W PyProof.Rows
def Asks{α:Type}(n:Nat)(R:α->Prop):(KasT α->Prop)
 | .ret a=>R a
 | .ask i j k=>i<n/\j<n/\∀b,Asks n R (k b)
def Asks.bind{α β:Type}{R:α->Prop}{AP:β->Prop}{f:α->KasT β}:∀{t:KasT α},Asks n R t->(∀a,R a->Asks n AP (f a))->Asks n AP (t.bind f)
 | .ret a,h,hf=>hf a h
 | .ask _ _ _,h,hf=>{h.1,h.2.1,λb=>Asks.bind (h.2.2 b) hf}
def goT_wp'{α:Type}{R:α->Prop}{c:Nat->Nat->Bool}{cmp:Nat->Nat->(Bool->Shared->Prop)->Shared->Prop}{tj:Shared->Prop}(h:∀i j C s,i<n->j<n->tj s->(∀s',tj s'->C (c i j) s')->cmp i j C s){Q:α->Shared->Prop}:∀t s,Asks n R t->tj s->(∀s',tj s'->Q (Uu c t) s')->t.kasWp cmp Q s
 | .ret _,s,_,hs,q=>q s hs
 | .ask i j k,s,ha,hs,q=>h i j _ s ha.1 ha.2.1 hs λs' Lw=>goT_wp' h (k<|c i j) s' (ha.2.2 _) Lw q
section
variable{n:Nat}
def Bd(n:Nat)(p:Array Nat):(Prop):=p.Perm (List.range n).m
def Bd.lt(h:Bd n p)(hn:1<=n)(i:Nat):p.t i 0<n:=by
 cases hi:i<p.G
 .let e1:=Mq (p:=p) hi;rw[<-VH]at e1;show YL.E ((yr.E h).mem_iff.E (Xr e1))
 .rw[YF,yk J];show hn
def Bd.rev(h:Bd n p)(i j:Nat):Bd n (kas_rev p i j):=(mirror_perm _ _ _ _).l h
def kD(hn:1<=n)(hp:Bd n p):∀f m:Nat,Asks n (λ_=>True) (kas_asc p f m)
 |0,m=>trivial
 |f+1,m=>⟨hp.lt hn _,hp.lt hn _,λb=>by
  cases b with
  |true=>show trivial
  |false=>show kD hn hp f<|m+1⟩
def vZ(hn:1<=n):∀f p m q,Bd n p->Asks n (λr=>Bd n r.1) (kas_desc f p m q)
 |0,p,m,q,hp=>hp
 |f+1,p,m,q,hp=>⟨hp.lt hn _,hp.lt hn _,λb=>by
  cases b with
  |true=>
   change Asks n _ (if q>0 then kas_desc f (kas_rev p (m-(q+1)) m) (m+1) 0 else kas_desc f p (m+1) 0);split
   .show vZ hn f _ _ _ (hp.rev _ _)
   .show vZ hn f _ _ _ hp
  |false=>
   exists hp.lt hn _,hp.lt hn _,λd=>?_;cases d with
   |true=>show hp
   |false=>show vZ hn f _ _ _ hp⟩
def ZV4(hn:1<=n)(hp:Bd n p)(m r:Nat):Asks n (λz=>Bd n z.2) (kas_tail3 m r p):=
 (kD hn (hp.rev _ _) _ _).bind λ_ _=>hp.rev _ _
def Bz(hn:1<=n)(hp:Bd n p)(m r:Nat):Asks n (λz=>Bd n z.2) (kas_descPart m r p):=
 (vZ hn _ p _ _ hp).bind λz hz=>by
  split
  .show ZV4 hn (hz.rev _ _) _ _
  .show ZV4 hn hz _ _
def ZP7(hn:1<=n)(hp:Bd n p)(r:Nat):Asks n (λz=>Bd n z.2) (kas_count r p):=
 (kD hn hp _ _).bind λz _=>by
  split
  .show hp
  .split
   .exists hp.lt hn _,hp.lt hn _,λb=>?_;cases b with
    |true=>show hp
    |false=>show Bz hn (hp.rev _ _) _ _
   .show Bz hn hp _ _
def kC(hn:1<=n)(hp:Bd n p)(k:Nat):∀f l r:Nat,Asks n (λ_=>True) (kas_place p k f l r)
 |0,l,r=>trivial
 |f+1,l,r=>by
  unfold kas_place;split
  .show trivial
  .exists hp.lt hn _,hp.lt hn _,λb=>?_;cases b with
   |true=>show kC hn hp k f _ _
   |false=>show kC hn hp k f _ _
def By(hn:1<=n):∀f p k,Bd n p->Asks n (λz=>Bd n z) (kas_bin f p k)
 |0,p,k,hp=>hp
 |f+1,p,k,hp=>(kC hn hp k _ _ _).bind λl _=>By hn f _ _ ((bubble_perm _ _ _).l hp)
def QF(hn:1<=n):Asks n (λz=>Bd n z) (kas_sort n):=
 (ZP7 hn (p:=(List.range n).m) (Array.Perm.refl _) n).bind λz hz=>by
  split
  .show By hn _ _ _ hz
  .show hz
end
end My
namespace L2
open PySem PySem.Spec PyProof.Rows PySem.W
def Qe(key:Int->Int)(ns ms:Ac):(Prop):=∃p:List Nat,p.Perm (List.range ns.f)/\p.Q (My.Ahd λi=>key<|ns.t i 0)/\ms=p.C λi=>ns.t i 0
section
variable{X:Cx}{pins:List (Addr×Obj)}{σ:St}{H:Hp}{s:Shared}{b:Addr}{o:Obj}
def Inv.pin1(I:Inv X pins σ H s)(F:FpOk X pins H b)(e:s.o.B b=some o)(hd:∀v,o.data≠.cell v):Inv X (pins++[(b,o)]) σ H s:=I.pins_of λp hp=>by
 rcases Xx.E hp with hp|hp
 .show I.pin p (Yi _ hp)
 .rw[XF.E hp];exists e,F.1,F.2.1,F.2.2.1,hd
def FpOk.more{pl:List (Addr×Obj)}(F:FpOk X pins H b)(hn:∀p∈pl,p.1≠b):FpOk X (pins++pl) H b:=⟨F.1,F.2.1,F.2.2.1,F.2.2.2.1,F.2.2.2.2.1,λp hp=>by
 rcases Xx.E hp with hp|hp
 .show F.2.2.2.2.2 p (Yj _ hp)
 .rcases Xx.E hp with hp|hp
  .show F.2.2.2.2.2 p (Yi _ hp)
  .show hn p hp⟩
def Inv.changed{h':Heap}{t':Nat}(I:Inv X pins σ H s)(F:FpOk X pins H b)(k:∀c o,c≠b->s.o.B c=some o->h'.B c=some o):Inv X pins σ H {s with heap:=h',toks:=t'}:=
 I.turned k F.1 F.2.1 F.2.2.2.1 F.2.2.2.2.1 F.2.2.2.2.2
def Inv.adopt(I:Inv X pins σ H s)(hex:X.ex=[])(F:FpOk X pins H b)(new:ObjOk X.prog X.w (upd H b u) s.o b u):Inv X pins σ (upd H b u) s:=by
 let f4:(~~~X.s₀)<=b:=F.2.2.2.1.resolve_left (by rw[hex];simp);let hn:=F.1
 exists I.ok,I.os,I.bare,{I.base.keep,I.base.slot,λc o e n hc=>?_,I.base.there,λc xs q=>?_,λc o w q=>?_,λc ps q=>?_},I.loc,I.cell,?_,λx c e=>?_,λp hp=>?_,λc w e=>?_,I.len
 .rw[XR (YA<|Yu (Ys e) f4)];show I.base.free c o e n hc
 .have:=I.base.tups c xs q
  rwa[XR (Za this hn)]
 .have:=I.base.frzs c o w q
  rwa[XR (Za this hn)]
 .let⟨m,this⟩:=I.base.tbls c ps q;exists m,by rwa[XR (Za this hn)]
 .rw[XR (YY F.2.1)];show I.free
 .rw[XR (F.2.2.2.2.1 x c e)];show I.freeC x c e
 .have:=I.pin p hp
  exists this.1,by rw[XR (F.2.2.2.2.2 p hp)];show this.2.1,this.2.2
 .cases hb:c=b
  .subst hb;rw[XS]at e;cases e;show new
  .rw[XR hb]at e;show(I.hok c w e).stay (λ_ _ _ q=>q) (λd q=>by rwa[XR (Za q hn)]) λd xs q=>by rwa[XR (Za q hn)]
end
section
variable{X:Cx}{pins:List (Addr×Obj)}{σ:St}{H:Hp}{s:Shared}{a kS:Addr}{A:Around}{E:Ae}{P:PySem.Fin->Shared->Prop}{kA:Array Value}{e e1:Nat}{ns:Ac}{vs:Ag}
def Zj7{st:SortSt}{out:Ag}(I:Inv X (pins++[(a,seqObj "list" #[] e1),(kS,seqObj "list" kA e)]) σ H s)(Fa:FpOk X pins H a)(Fk:FpOk X pins H kS)(NB:a≠kS)(hz:kA.G<64)(QZ:failedOf st=none)
  (Ip:(arrOf st).C (·.2)=out.m)(hlen:out.f<64)(h:∀s' m,Inv X pins σ H s'->s'.o.B a=some (seqObj "list" out.m m)->P (.done<|.ret .none) s'):
  wpAny (model X.prog X.w) A (ksk_tail a false e1 ↑kS st) P E s:=by
 let NM:sizeLine=16777216:=TB;let pa:=(I.pin (a,seqObj "list" #[] e1) tG).1
 let pk:=(I.pin (kS,seqObj "list" kA e) tG).1;let I0:Inv X pins σ H s:=I.unpinned
 let kB:(s.o.update kS<|Obj.mapSeq λ_=>(#[]:Array Value)).B a=some (seqObj "list" #[] e1):=(YW _ _<|YY NB).l pa;obtain⟨m,hm⟩:∃m,((s.o.update kS<|Obj.mapSeq λ_=>(#[]:Array Value)).update a (Obj.mapSeq λ_=>out.m)).B a=some (seqObj "list" out.m m):={_,xJ kB λ_=>out.m};unfold ksk_tail;dsimp only;rw[Ip];show XY (Kc pk Z ?_ J<|Yk _);show XY (Rk ?_);show XY (seqEpoch_at kB Z ?_);show XY (Kc kB Z ?_ (Yk _)<|by simp;lia);rw[QZ];simp only[bne_self_eq_false,JZ,if_false];show Yh (h _ m ?_ hm);let I1:Inv X pins σ H {s with heap:=s.o.update kS<|Obj.mapSeq λ_=>(#[]:Array Value),toks:=s.toks}:=I0.changed Fk λc o hc q=>(YW _ _<|YY hc).l q
 show I1.changed (t':=s.toks) Fa λc o hc q=>(YW _ _<|YY hc).l q
def KL{vs:Ag}{ns:Ac}(h0:IntsAre vs ns):∀i,i<ns.f->∃t,vs[i]?=some (.int (ns.t i 0) t):=by
 induction h0 with
 |nil=>show λi h=>absurd h (TH _)
 |cons n t r ih=>
  intro i h;cases i with
  |zero=>exists t,Z
  |succ i=>show ih i (by rw[Yv]at h;lia)
end
def Ge(c:Addr)(qual:Str):(HO):=.ext λh=>h.CodeRec ↑c qual
def TabH(H:Hp)(Pt:Addr)(pos:Pos)(qual:Str):(Prop):=∃ps:Array Value,H Pt=some (.tbl ps)/\TriplesOk ps.toList/\(codeAmong pos ps.toList=none\/∃c,codeAmong pos ps.toList=some ↑c/\H c=some (Ge c qual))
def SameX(Pt:Addr)(H H':Hp):(Prop):=∀b o,b≠Pt->H b=some o->H' b=some o
def ZN2{c:Addr}(h1 h2:Heap)(r:h1.CodeRec ↑c qual)(k:∀o,h1.B c=some o->h2.B c=some o):h2.CodeRec ↑c qual:=by let(c2,o,vs,t,e,g,r):=r;cases e;exists c,o,vs,t,Z,k _ g,r
section
variable{X:Cx}{pins:List (Addr×Obj)}{σ:St}{H:Hp}{s:Shared}{c Pt cc:Addr}{x:Str}{params:Arguments}{body:Expr}{scope:Scope}{pos:Pos}{E:Ae}{Q:Ae}
def Inv.builtinsAt(I:Inv X pins σ H s)(hB:X.base.BuiltinsAt X.mg Pt):s.o.BuiltinsAt X.mg Pt:=by let(bm,o,h1,h2,h3,h4,h5,h6):=hB;exists bm,o,h1,h2,h3,h4,I.bk _ _ h5,h6
def ky(I:Inv X pins σ H s)(Ut:X.R.code=.ref c)(hC:codeHdIn X.K c Pt=true)(hB:X.base.BuiltinsAt X.mg Pt)(hT:TabH H Pt pos (X.R.qual++Str.ofString "<lambda>"))(QM:closureFor scope X.R=pure [(x,cc)])(Io:defaultsOf params X.R=([],[]))(Bx:mainGlobals≠Pt)
  (h:∀f c' pm RD s' H',SameX Pt H H'->TabH H' Pt pos (X.R.qual++Str.ofString "<lambda>")->FpOk X pins H' f->Inv X pins σ H' s'->s'.o.B f=some (kla_obj (Str.ofString "<lambda>") (X.R.qual++Str.ofString "<lambda>") params body scope [(x,cc)] pm c' RD)->H' c'=some (Ge c'<|X.R.qual++Str.ofString "<lambda>")->Q ↑f s'):
  wpAny (model X.prog X.w) X.A (eval (.Lambda params body scope pos) X.R) Q E s:=by
 let(ps,hP,Bw,Bv):=hT;let Qd:s.o.B Pt=some (tabObj ps):=I.hok Pt _ hP
 let RC:s.o.Ns mainGlobals X.mg:=I.mod.glob.keeps I.bk;let hHd:=codeHd_of_K I.kIn hC
 show kla_eval Io ?_;rcases Bv with hnf|⟨c',hf,WO⟩
 .show kla_makeFunction QM I.ok.glob RC Ut hHd Qd Bw hnf Bx (I.builtinsAt hB) λc' RD h' tk hx OI Xp Mo htb=>?_;let hPl:Pt<(~~~s):=Ys Qd
  let Gd:H c'=none:=I.hok.fresh OI;let hcP:c'≠Pt:=Rr (Yu hPl OI)
  let keep:∀b o,b≠Pt->s.o.B b=some o->(h'.push<|kla_obj (Str.ofString "<lambda>") (X.R.qual++Str.ofString "<lambda>") params body scope [(x,cc)] ((X.mg "__name__").t .none) c' RD).B b=some o:=λb o hb e=>Xf _ (hx b o hb e);let sx:SameX Pt H (upd (upd H Pt<|.tbl<|ps++#[rawInt pos.line,rawInt pos.col,.ref c']) c'<|Ge c'<|X.R.qual++Str.ofString "<lambda>"):=λb o hb e=>by rwa[XR (Za e Gd),XR hb]
  let tb:TabH (upd (upd H Pt<|.tbl<|ps++#[rawInt pos.line,rawInt pos.col,.ref c']) c'<|Ge c'<|X.R.qual++Str.ofString "<lambda>") Pt pos (X.R.qual++Str.ofString "<lambda>"):=by let et:(ps++#[rawInt pos.line,rawInt pos.col,Value.ref c']).toList=ps.toList++[rawInt pos.line,rawInt pos.col,.ref c']:=tG;exists ps++#[rawInt pos.line,rawInt pos.col,.ref c'],by rw[XR (YY hcP),XS],by rw[et];show TriplesOk_snoc _ _ _ _ Bw,.inr {c',by rw[et];show codeAmong_snoc _ Bw hnf,XS}
  let Im:∀b,H b=none->b≠Pt:=λb n z=>by rw[z,hP]at n;cases n
  show h h'.objs.G c' _ RD _ _ sx tb ?_ (I.un {λb o e n _ _=>keep b o (Im b n) e,λb o e n _ _=>{o.slots,keep b o (Im b n) e},λb o e n _=>?_,λb o e _=>?_,λb xs e=>?_,λb o u e=>?_,λb qs e=>?_} λb u e=>?_) (Yl _ Z) XS
  .let kx:(~~~s)<=h'.objs.G:=J;show I.fpOk kx ?_;rw[XR (Rr Xp),XR (Rr<|Yu hPl kx)];show I.hok.fresh kx
  .rw[XR (YA<|Yu (Ys e) OI),XR (Im b n)];show n
  .cases hb:b=Pt
   .rw[hb];exists _,Xf _ htb
   .exists o,keep b o hb e
  .show sx b _ (λz=>by rw[z,hP]at e;cases e) e
  .show sx b _ (λz=>by rw[z,hP]at e;cases e) e
  .cases hb:b=Pt
   .subst hb;rw[hP]at e;let rfl:ps=qs:=by cases e;rfl
    exists #[rawInt pos.line,rawInt pos.col,.ref c'],by rw[XR (YY hcP),XS]
   .exists #[],by rw[sx b _ hb e];simp
  .cases hb:b=c'
   .subst hb;rw[XS]at e;cases e;exists ZN2 _ _ Mo λo g=>Xf _ g,?_,ZN2;let(c2,o,_,_,e2,g,_):=Mo;cases e2;exists o,Xf _ g
   .rw[XR hb]at e;cases Il:b=Pt
    .subst Il;rw[XS]at e;cases e;show Xf _ htb
    .rw[XR Il]at e;show(I.hok b u e).stay (λd o hd g=>keep d o (λz=>?_) g) (λd g=>sx d _ (λz=>by rw[z,hP]at g;cases g) g) λd xs g=>sx d _ (λz=>by rw[z,hP]at g;cases g) g;rcases hd with hd|hd
     .show Il (hd.U.l z)
     .rw[z,hP]at hd;cases hd
 .show kla_makeFunctionHit QM I.ok.glob RC Ut hHd Qd Bw hf (I.builtinsAt hB) λRD h' tk hk hsz=>?_;show h h'.objs.G c' _ RD _ H (λ_ _ _ e=>e) {ps,hP,Bw,.inr ⟨c',hf,WO⟩} (I.fpOk hsz<|I.hok.fresh hsz) (I.kept λb o e=>Xf _<|hk b o e) (Yl _ Z) WO
end
section
variable{UE:Pos}{Pt:Addr}
def SqT.samex{K:Ad}{H H2:Hp}{a:Addr}{xs:List V}{qual:Str}(h:SqT K H a xs)(t:TabH H Pt UE qual)(sx:SameX Pt H H2):SqT K H2 a xs:=by
 let(ps,hP,_):=t;rcases h with (h|⟨o,h⟩)|h
 .show .inl (.inl<|sx _ _ (λz=>by rw[z,hP]at h;cases h) h)
 .show .inl (.inr {o,sx _ _ (λz=>by rw[z,hP]at h;cases h) h})
 .show .inr h
end
def Ik(Pt:Addr)(H:Hp):(Prop):=H Pt=some (.tbl #[])/\∀b,b=Pt\/H b=none\/∃o xs,H b=some (.frz o<|.lst xs)
def ZO8{P:Program}{w:World}{K:Ad}{mg mb:Af}{CX:Qm}{k:Nat}{fa a Pt c:Addr}{fd:FuncData}{x:Str}{sp:Sp}{s₁:Shared}{vs:Ag}{ns:Ac}
  (KX:K.In s₁.o)(RC:s₁.o.Ns mainGlobals mg)(hb:s₁.o.Ns builtinsNs mb)(CY:∀x:Str,x≠"__name__"->mb x=bootBuiltins x)(kq:s₁.o.NoLimit)(hg:s₁.gens=#[])
  (hT:s₁.o.B Pt=some (tabObj #[]))(hC:codeHdIn K c Pt=true)(km:K.L Pt=none)(hbm:∃bm ob,mg (Str.ofString "__builtins__")=some ↑bm/\bm≠builtinsNs/\s₁.o.B bm=some ob/\ob.cls=.type "module"/\ob.dict=some builtinsNs/\ob.data=.plain)
  (ha:s₁.o.B a=some {cls:=.type "list",data:=.seq vs.m})(hi:IntsAre vs ns)(hl:ns.f<=sizeLine)(hr:Room k callerA)
  (F:∀base:Heap,K.In base->base.Ns mainGlobals mg->base.BuiltinsAt mg Pt->FnOk P w K mg base CX k fa fd [x] sp)(Tc:∀s u,BindsTo s fd {[u],[]} [(x,u)])
  (Ql:∀H:Hp,Ik Pt H->SqL K H a (ns.C V.int)->sp [.ref a] H (λv _=>v=.bl true) λ_ _ _=>False)
  (kj:∀H e s',CX [] H s₁ (λ_ _ _=>False) e s'->False):
  codeAny (model P w) callerA (.call ↑fa {[.ref a],[]}) (λr s'=>r=.ok (.ret<|.bool true)/\OldK s₁.o s'.o/\s'.os=s₁.os/\AllBare s'.gens) s₁:=by
 let rv:=Zd8 hi;let ki:=hi.f
 let haP:a≠Pt:=λz=>by rw[z,hT]at ha;cases ha
 let core:∀H:Hp,Ik Pt H->SqL K H a (ns.C V.int)->HOk P w H s₁.o->(∀b,H b≠none->b=a\/b=Pt)->(H a≠none->K.L a=none)->
   codeAny (model P w) callerA (.call ↑fa {[.ref a],[]}) (λr s'=>r=.ok (.ret<|.bool true)/\OldK s₁.o s'.o/\s'.os=s₁.os/\AllBare s'.gens) s₁:=by
  intro H hO hS hok hA hK;let base_of:∀{b:Addr}{o:Obj},s₁.o.B b=some o->H b=none->(UN s₁.o H).B b=some o:=λe n=>Zag e n
  let free:∀{b:Addr}{o:Obj},s₁.o.B b=some o->(∀XU n,o.data≠.seq XU n)->(∀vs,o.data≠.fields vs)->H b=none:=λ{b o} e d1 d2=>by
   cases q:H b with
   |none=>rfl
   |some u=>
    rcases hA b (by rw[q];simp) with e'|e'
    .subst e';rw[ha]at e;cases e;show absurd Z (d1 _ _)
    .subst e';rw[hT]at e;cases e;show absurd Z (d2 _)
  let vY:∀{b:Addr}{m:Af},s₁.o.Ns b m->(UN s₁.o H).Ns b m:=λ{b m} ⟨o,es,ep,e,d,r⟩=>{o,es,ep,base_of e (free e (λ_ _ z=>by rw[d]at z;cases z) λ_ z=>by rw[d]at z;cases z),d,r};let hKb:K.In (UN s₁.o H):=λb o e=>base_of (KX b o e) (by
   cases q:H b with
   |none=>rfl
   |some u=>
    rcases hA b (by rw[q];simp) with e'|e'
    .subst e';rw[hK (by rw[q];simp)]at e;cases e
    .subst e';rw[km]at e;cases e)
  let hM:Mod K mg (UN s₁.o H):={hKb,vY RC,{mb,vY hb,CY},by let(mc,h1,h2):=kq;exists mc,vY h1,h2};let hB:(UN s₁.o H).BuiltinsAt mg Pt:=by
   let(bm,ob,b1,b2,b3,b4,b5,b6):=hbm;exists bm,ob,b1,b2,λz=>?_,λz=>?_,base_of b3 (free b3 (λ_ _ z=>by rw[b6]at z;cases z) λ_ z=>by rw[b6]at z;cases z),b4,b5,b6
   .let⟨o,es,ep,e,d,_⟩:=RC;rw[z,e]at b3;cases b3;rw[d]at b6;cases b6
   .rw[z,hT]at b3;cases b3;cases b4
  let e0:Env0 P w K mg (UN s₁.o H) callerA [] s₁ H:={Z,hM,λb o e=>Zah e,Nat.le_of_eq<|ZY8 _ _,trivial,λb hb=>absurd (show b∈([]:List Addr) from hb) tG,hok,.of_eq hg};show LM ((F _ hKb (vY RC) hB).run callerA [] s₁ H {[.ref a],[]} [.ref a] [.ref a] _ _ hr e0 (Tc s₁<|.ref a) (.cons Z .nil) (Ql H hO hS)) λr s' h=>?_;cases r with
  |error e=>show(kj H e s' h).elim
  |ok fl=>
   cases fl with
   |next=>show False.elim h
   |brk=>show False.elim h
   |cont=>show False.elim h
   |ret u=>
    let(v,H',os,bare,un,Bu,r',q):=h;let q':v=.bl true:=q
    subst q';let rfl:u=Value.bool true:=r';let(more,eP):=un.tbls Pt #[] hO.1;let hP':s'.o.B Pt=some {cls:=.none,data:=.fields (#[]++more)}:=Bu Pt _ eP
    let kept:∀b o,b≠Pt->s₁.o.B b=some o->s'.o.B b=some o:=λb o VN e=>by
     cases q:H b with
     |none=>show un.keep b o e q (by intro z;show absurd (show b∈([]:List Addr) from z) tG) tG
     |some u=>
      rcases hO.2 b with z|z|⟨ob,xs,z⟩
      .show absurd z VN
      .rw[q]at z;cases z
      .let z2:=un.frzs b ob _ z;let(e1,_):=hok b _ z;let(e2,_):=Bu b _ z2;rw[e]at e1;cases e1;show e2
    exists Z,{λb o e=>?_,λb o e=>?_},os,bare
    .cases VN:b=Pt
     .subst VN;rw[hT]at e;let rfl:=Yc e;let(oc,vsc,_,_,_,_,_,_,_,c1,c2,c3,c4,_):=codeHd_of_K KX hC;show .inr (.inl {⟨c,oc,vsc,c1,c2,c3,c4⟩,Z,#[],more,Z,hP'})
     .show .inl (kept b o VN e)
    .cases VN:b=Pt
     .rw[VN];exists _,hP'
     .exists o,kept b o VN e
 cases hk:K.L a with
 |some o=>
  let e:=KX a o hk;rw[ha]at e;cases e;show core (λb=>if b=Pt then some (.tbl #[]) else none) {if_pos Z,λb=>?_} (.inr {_,vs.m,_,hk,Z,Z,Z,by rw[Yd,ki];show hl,by simpa using rv}) (λb u z=>?_) (λb z=>?_) λz=>absurd (if_neg haP) z
  .cases VN:b=Pt
   .show .inl VN
   .show .inr (.inl<|if_neg VN)
  .cases VN:b=Pt
   .let z':=(if_pos VN).U.l z;cases z';subst VN;show hT
   .let z':=(if_neg VN).U.l z;cases z'
  .cases VN:b=Pt
   .show .inr VN
   .show absurd (if_neg VN) z
 |none=>
  show core (λb=>if b=Pt then some (.tbl #[]) else if b=a then some (.frz {cls:=.type "list",data:=.seq vs.m} (.lst<|ns.C V.int)) else none) {if_pos Z,λb=>?_} (.inl<|.inr {{cls:=.type "list",data:=.seq vs.m},(if_neg haP).l (if_pos Z)}) (λb u z=>?_) (λb z=>?_) λ_=>hk
  .cases VN:b=Pt
   .show .inl VN
   .cases hb:b=a
    .show .inr (.inr {_,_,(if_neg VN).l (if_pos hb)})
    .show .inr (.inl<|(if_neg VN).l (if_neg hb))
  .cases VN:b=Pt
   .let z':=(if_pos VN).U.l z;cases z';subst VN;show hT
   .cases hb:b=a
    .let z':=((if_neg VN).l (if_pos hb)).U.l z;cases z';subst hb;exists ha,by rw[Xz];show hl,vs,_,rv,ha
    .let z':=((if_neg VN).l (if_neg hb)).U.l z;cases z'
  .cases VN:b=Pt
   .show .inr VN
   .cases hb:b=a
    .show .inl hb
    .show absurd ((if_neg VN).l (if_neg hb)) z
def OB{l:PySem.W.OpenLaw}{n k:Nat}{q:Program}{loose:List Str}{XP:Af->Heap->Prop}{YP:World->Heap->Prop}{d:DefRec}{K:Params->Ad}{CX:Qm}{sp:Ad->Sp}{x:Str}{c Pt:Addr}
  (hn:l.most=some n)(LF:n<=sizeLine)(qL:d.params.defaults=[])(hr:Room k callerA)
  (hY:∀(w:World)(h:Heap),YP w h->(K w.params).In h/\h.B Pt=some (tabObj #[]))(hC:∀w:World,codeHdIn (K w.params) c Pt=true)(km:∀w:World,(K w.params).L Pt=none)
  (F:∀(w:World)(mg:Af)(fa:Addr)(h:Heap),(K w.params).In h->h.Ns mainGlobals mg->mg d.name=some ↑fa->
   ∃fd:FuncData,(∀(s:Shared)(u:Value),BindsTo s fd {[u],[]} [(x,u)])/\
    ∀base:Heap,(K w.params).In base->base.Ns mainGlobals mg->base.BuiltinsAt mg Pt->FnOk l.prog w (K w.params) mg base CX k fa fd [x] (sp<|K w.params))
  (Ql:∀(w:World)(H:Hp)(a:Addr)(ns:Ac),ns.f<=n->Ik Pt H->SqL (K w.params) H a (ns.C V.int)->sp (K w.params) [.ref a] H (λv _=>v=.bl true) λ_ _ _=>False)
  (kj:∀(H:Hp)(s:Shared)(e:Value)(s':Shared),CX [] H s (λ_ _ _=>False) e s'->False):
  PySem.W.WalkO q loose XP YP l.row.toRowW d [] (λf vs=>PySem.call f vs):=by show Att.Tt hn qL λw s₀ s₁ mg mb fa o pm cd doc a vs ns G Y ho hd SS DX Jv hints hlen hg=>?_;let(KX,hT):=hY w _ Y;let(fd,hb,hF):=F w mg fa _ KX G.T.g DX;show ZO8 KX G.T.g G.T.b G.T.builtins G.T.nolimit hg hT (hC w) (km w) G.T.bmain Jv hints (YE hlen LF) hr hF hb (λH hO hS=>Ql w H a ns hlen hO hS) λH e s'=>kj H s₁ e s'
def Mn(K:Ad)(mg:Af)(base:Heap)(fd:FuncData)(Pt:Addr):(Prop):=∃c,fd.code=.ref c/\codeHdIn K c Pt=true/\base.BuiltinsAt mg Pt/\mainGlobals≠Pt
def LamScope.of(h1:sc.kind=.function)(h2:sc.isCoroutine=false)(h3:sc.isGenerator=false)(h4:sc.names=[(v,.local),(x,.free)]\/sc.names=[(x,.free),(v,.local)])(hn:v≠x):LamScope v x sc:=by
 let b1:(v == x)=false:=xY hn;let b2:(x == v)=false:=xY (YY hn)
 exists h1,h2,h3,λy hy=>?_,?_,?_,λy hy=>?_,hn
 .let l1:NameKind.local≠NameKind.cell:=tI;let l2:NameKind.free≠NameKind.cell:=tI
  rcases h4 with e|e<;>rw[e]at hy<;>rcases Yg.E hy with rfl|hy
  .show l1
  .rw[XF.E hy];show l2
  .show l2
  .rw[XF.E hy];show l1
 .rcases h4 with e|e<;>rw[e]<;>simp[List.lookup,b1,b2]
 .rcases h4 with e|e<;>rw[e]<;>simp[List.lookup,b1,b2]
 .rcases h4 with e|e<;>rw[e]at hy<;>simp only[List.lookup]at hy
  .split at hy
   .cases hy
   .split at hy
    .rename_i q;show Rn.E q
    .cases hy
  .split at hy
   .rename_i q;show Rn.E q
   .split at hy
    .cases hy
    .cases hy
section
variable{P:Program}{w:World}{K:Ad}{mg:Af}{base:Heap}
def Fun.okL{x qual:Str}{st:Stmt}{f c:Addr}{fd:FuncData}{N ps:List Str}{k:Nat}{sp:Sp}(F:Fun K x qual st f fd)(hc:fd.code=.ref c)(AP:FnScope N ps (Zc st))(len:∀vs H Q E,sp vs H Q E->vs.f=ps.f)
  (VR:∀A outer s H vs Q E,Room k (A.deeper<|envOfC qual (Zc st) (~~~s) f<|.ref c)->sp vs H Q E->
   ∃t,PSs (Uh Xo P w K mg base N qual (Zc st) f ↑c A outer s H E).nox (Ra st) t/\t {nx:=λ_ H'=>Q .non H',rt:=Q} (start N vs) H):FnOk P w K mg base Xo (k+1) f fd ps sp:=by let(oc,od,kV,doc,pm,an,XD,ct,TQ,rfl,lk,SS):=F.ex;let rfl:XD=.ref c:=hc;show Ep lk SS AP len λA outer s H vs Q E hr Ql=>?_;let(t,h,q):=VR A outer s H vs Q E hr Ql;exists t,h.nox,q
end
end L2
namespace My
open PySem L2
def pl(ls T U:Ac):(Prop):=HT.ltP (BY ls T,T) (BY ls U,U)=true
def OrdL(ls:Ac)(m:Nat)(os:Ac):(Prop):=os.Perm (Xh m)/\os.Q λx y=>IC ls x<IC ls y\/(IC ls x=IC ls y/\x<y)
def Zn6(g:Zt n ps)(hT:Zn n ps T)(hW:Zn n ps W)(h:∀z∈T,z∈W):T=W:=
 Di (MD hT) (MD hW) λz=>(lS g hT hW h).mem_iff
structure Ent where
 T:Ac
 I:Ac
 O:Ac
deriving DecidableEq
end My
namespace L2
open PySem PySem.Spec PyProof.Rows PySem.W My
def SameX.same(s:Same H H'):SameX Pt H H':=λb o _ e=>s b o e
def SameX.trans{Pt:Addr}{H H1 H2:Hp}(a:SameX Pt H H1)(b:SameX Pt H1 H2):SameX Pt H H2:=λc o hc e=>b c o hc (a c o hc e)
def TabH.same(t:TabH H Pt pos qual)(s:Same H H'):TabH H' Pt pos qual:=by
 let(ps,h1,h2,h3):=t;exists ps,s _ _ h1,h2,?_;rcases h3 with h|⟨c,h,h'⟩
 .show .inl h
 .show .inr {c,h,s _ _ h'}
def TabH.ne{Pt a:Addr}{o:HO}(t:TabH H Pt pos qual)(h:H a=some o)(hn:∀ps,o≠.tbl ps):a≠Pt:=λe=>by let(ps,h1,_):=t;rw[e,h1]at h;show hn ps (Yc h).U
def TabH.put{Pt r:Addr}{zs:List V}{u:List V}(t:TabH H Pt pos qual)(hr:H r=some (.lst zs)):TabH (upd H r (.lst u)) Pt pos qual:=by
 let(ps,h1,h2,h3):=t;show{ps,by rw[XR (NV h1 hr tG)];show h1,h2,?_};rcases h3 with h|⟨c,h,h'⟩
 .show .inl h
 .show .inr {c,h,by rwa[XR (NV h' hr<|by unfold Ge;simp)]}
end L2
namespace My
open PySem L2
def SqK.samex(h:SqK kd K H a xs)(t:TabH H Pt pos qual)(sx:SameX Pt H H2):SqK kd K H2 a xs:=by
 cases kd with
 |true=>show SqT.samex (show SqT K H a xs from h) t sx
 |false=>
  rcases(show SqL K H a xs from h) with (h|⟨o,h⟩)|h
  .show .inl (.inl<|sx _ _ (t.ne h tG) h)
  .show .inl (.inr {o,sx _ _ (t.ne h tG) h})
  .show .inr h
def WebAt.samex(h:WebAt C H w n ps)(t:TabH H Pt pos qual)(sx:SameX Pt H H2):WebAt C H2 w n ps:=by let(dx,tl,xs,h1,h2,h3):=h;exists dx,tl,xs,sx _ _ (t.ne h1 tG) h1,sx _ _ (t.ne h2 tG) h2,h3.1,λi p hp=>?_;let(x,hx,q,e,hq):=h3.2 i p hp;exists x,hx,q,e,sx _ _ (t.ne hq tG) hq
end My
namespace My
def un1{α:Type}{P:List α->Prop}(h:∀a,P [a])(l:List α)(e:l.f=1):P l:=by let(a,rfl):=Dg e;show h a
def qF{α:Type}{P:List α->Prop}(h:∀a b,P [a,b])(l:List α)(e:l.f=2):P l:=by let(a,b,rfl):=Df e;show h a b
def un3{α:Type}{P:List α->Prop}(h:∀a b c,P [a,b,c])(l:List α)(e:l.f=3):P l:=by let(a,b,c,rfl):=De e;show h a b c
def un4{α:Type}{P:List α->Prop}(h:∀a b c d,P [a,b,c,d])(l:List α)(e:l.f=4):P l:=by let(a,b,c,d,rfl):=Dc e;show h a b c d
def un5{α:Type}{P:List α->Prop}(h:∀a b c d e,P [a,b,c,d,e])(l:List α)(e:l.f=5):P l:=by
 cases l with
 |nil=>cases e
 |cons x r=>
  let(a,b,c,d,rfl):=Dc (Nm e);show h x a b c d
end My
namespace My
open PySem L2
def ZU4(h:TC n ps c):c=0↔∀T,¬Zn n ps T:=by
 let(L,a1,a2,a3):=h;constructor
 .intro e T hT;rw[e]at a3
  have:=(a2 T).H hT
  rw[Vy.E a3]at this;cases this
 .intro e;rw[<-a3,Vy];show fe.H λT hT=>e T ((a2 T).E hT)
end My
namespace L2
open PySem PySem.Spec PyProof.Rows PySem.W
def Bt:∀bs:List Bool,(bs.C Value.bool).mapM firstOfTuple'=(pure ((bs.C Value.bool).C λ_=>none):Sem _)
 |[]=>tG
 |b::bs=>by rw[YD,List.mapM_cons,Bt bs];change(pure none >>= λb=>pure _ >>= λbs=>pure<|b::bs)=_;simp
def Zu2:∀bs:List Bool,(bs.C Value.bool).mapM typeOf=(pure ((bs.C Value.bool).C λ_=>Value.type "bool"):Sem _)
 |[]=>tG
 |b::bs=>by rw[YD,List.mapM_cons,Zu2 bs];change(pure (Value.type "bool") >>= λb=>pure _ >>= λbs=>pure<|b::bs)=_;simp
def Zi7{ns:Ac}{key:Int->Bool}(hk:kA.toList=ns.C λz=>Value.bool (key z))(h2:2<=ns.f):keyKind' kA=pure oneType':=by
 let e:kA=((ns.C key).C Value.bool).m:=by rw[<-Array.toArray_toList (xs:=kA),hk,Rq];rfl
 rw[e];obtain⟨b1,b2,bs,eb⟩:∃b1 b2 bs,ns.C key=b1::b2::bs:=by
  match ns,h2 with
  |x::y::l,_=>exists _,_,_,Z
 rw[eb,keyKind'_eq,List.mapM_toArray,Bt];simp only[map_pure,pure_bind];rw[if_neg tG,if_neg tG];rw[oneTypeOnly'_eq,List.mapM_toArray,Zu2];simp only[map_pure,pure_bind];let hall:((List.C (λ_=>Value.type "bool")<|List.C Value.bool<|b1::b2::bs).m.all λx=>x == Value.type "bool")=true:=by simp only[List.all_toArray,List.all_map,PN];intro _ _;rfl
 let h0:(List.C (λ_=>Value.type "bool")<|List.C Value.bool<|b1::b2::bs).m[0]?=some (Value.type "bool"):=tG;rw[h0];simp only[hall,if_true,pure_bind,Option.isSome_some]
def kh{E:Ae}{s:Shared}{Q:Bool->Shared->Prop}(h:Q (decide (b2i p<b2i q)) s):wpAny (model prog w) A (keyLt' oneType' (.bool p) (.bool q)) Q E s:=by rw[keyLt'_oneType,oneLt'_eq];simp only[if_true];show XY (wpAny_cRoomFor_byValue Z ?_);show XY (wpAny_callSpecialIfBound?_slot (typeIs_bool' s p) F.slot_bool_lt<|call_gives F.slot_bool_lt (typeIs_bool' s p) F.entry_int_lt (F.args_int_lt_2 _ _) (gives_int_lt_bools p q) ?_);show PQ h
section
variable{X:Cx}{pins:List (Addr×Obj)}{σ:St}{H:Hp}{s:Shared}{a kS:Addr}{A:Around}{E:Ae}{P:PySem.Fin->Shared->Prop}{kA:Array Value}{e e1:Nat}{f:Value}{key:Int->Bool}{ns:Ac}{vs:Ag}
def kg(hv:IntsAre vs ns)(hk:kA.toList=ns.C λz=>Value.bool (key z))(hi:i<ns.f):∃u,kas_item (kA.zip vs.m) i=(.bool (key (ns.t i 0)),.int (ns.t i 0) u):=by
 let(u,hu):=KL hv i hi;let ht:kA.toList[i]?=some (Value.bool<|key<|ns.t i 0):=by rw[hk,Yr,Xl,XH hi];rfl
 exists u,?_;unfold kas_item;rw[YF,<-VH,ksk_zip,(List.getElem?_zip_eq_some (z:=(Value.bool<|key<|ns.t i 0,Value.int (ns.t i 0) u))).H ⟨ht,hu⟩];rfl
def Zj5(hv:IntsAre vs ns)(hk:kA.toList=ns.C λz=>Value.bool (key z)):∀l:List Nat,(∀i∈l,i<ns.f)->IntsAre (l.C λi=>(kas_item (kA.zip vs.m) i).2) (l.C λi=>ns.t i 0)
 |[],_=>.nil
 |i::l,h=>by
  let(u,e):=kg hv hk (h i Yb);let r:=Zj5 hv hk l λj hj=>h j (Ye _ hj)
  rw[YD,YD,e];show .cons _ u r
def ke(I:Inv X (pins++[(a,seqObj "list" #[] e1),(kS,seqObj "list" kA e)]) σ H s)(Fa:FpOk X pins H a)(Fk:FpOk X pins H kS)(NB:a≠kS)(hv:IntsAre vs ns)(Sh:ns.f<64)(hk:kA.toList=ns.C λz=>Value.bool (key z))
  (h:∀s' m out ms,Inv X pins σ H s'->s'.o.B a=some (seqObj "list" out m)->IntsAre out.toList ms->Qe (λz=>b2i<|key z) ns ms->P (.done<|.ret .none) s'):
  wpAny (model X.prog X.w) A (ksk_end a false vs.m e1 ↑kS kA) P E s:=by
 let Gf:=hv.f;let OA:=XG List.f hk
 rw[YN,Xz]at OA;let hzs:(kA.zip vs.m).G=ns.f:=by rw[Array.size_zip,show vs.m.G=vs.f from Yd];lia
 unfold ksk_end;dsimp only;rw[if_neg tI];cases h2:vs.m.G<2
 .rw[if_pos h2,if_pos h2];rw[Yd]at h2;show XY (Yh ?_);rw[StateT.run_pure];show XY (Yh ?_);dsimp only;show Zj7 (out:=vs) I Fa Fk NB J Z ?_ J λs' m tj e=>h s' m vs.m ns tj e (by simpa using hv) ?_
  .change(if false=true then (kA.zip vs.m).reverse else kA.zip vs.m).C (·.2)=vs.m;rw[if_neg tI,Array.map_snd_zip (by rw[Yd];lia)]
  .exists List.range ns.f,List.Perm.refl _,?_,?_
   .match ns.f,(show ns.f<2 by lia) with
    |0,_=>show List.Q.nil
    |1,_=>show Hf _ _
   .match ns,(show ns.f<2 by omega) with
    |[],_=>rfl
    |[x],_=>rfl
 .rw[if_neg h2,if_neg h2];rw[Yd]at h2;rw[Zi7 hk J];show XY (Yh ?_);rw[if_neg tI];let(p,TK,Vu,Br):=My.Mp (n:=ns.f) (key:=λi=>b2i<|key<|ns.t i 0) J;let runs:=kas_runs (prog:=X.prog) (w:=X.w) (A:=A) (E:=E) (κ:=oneType') (it:=kA.zip vs.m) (n:=ns.f) (s:=s) (Q:=λ_ st s'=>s'=s/\failedOf st=none/\arrOf st=p.C (kas_item<|kA.zip vs.m))
   (G:=λq s'=>s'=s/\q=p) S Sh (λq st s' _ e2 e3 e4=>{e4.1,e3,by rw[e2,e4.2]})
   (My.goT_wp' (c:=λi j=>decide<|b2i (key<|ns.t i 0)<b2i (key<|ns.t j 0)) (tj:=λs'=>s'=s) (λi j C s' hi hj hs hC=>by let(u,e):=kg hv hk hi;let(u',e'):=kg hv hk hj;unfold kas_cmp;rw[e,e'];show kh<|hC s' hs) _ s (My.QF S) Z λs' hs=>⟨hs,TK⟩)
  unfold kasC kas_st at runs;rw[<-hzs,kas_range]at runs;show XY (Uq runs ?_ λ_ _ z=>z);rintro⟨⟨⟩,st⟩ s' ⟨rfl,hf,ha⟩;dsimp only;let hb:∀i∈p.toList,i<ns.f:=λi hi=>YL.E (Vu.mem_iff.E hi)
  let Wc:p.toList.f=ns.f:=by rw[Vu.length_eq,YO]
  show Zj7 (out:=p.toList.C λi=>(kas_item (kA.zip vs.m) i).2) I Fa Fk NB J hf ?_ (by rw[Xz];lia) λSN m tj e=>h SN m _ _ tj e (by simpa using Zj5 hv hk p.toList hb) ⟨p.toList,Vu,Br,Z⟩;let ha:arrOf st=p.C (kas_item<|kA.zip vs.m):=ha
  rw[ha,Array.map_map];show Array.toList_inj.E tG
def ZR8(I:Inv X (pins++[(a,seqObj "list" #[] e1),(kS,seqObj "list" #[] 0)]) σ H s)(Fa:FpOk X pins H a)(Fk:FpOk X pins H kS)(NB:a≠kS)(hv:IntsAre vs ns)(Sh:ns.f<64)
  (turn:∀pl z t s',z∈ns->Inv X (pins++pl) σ H s'->wpAny (model X.prog X.w) A (call f [.int z t]) (λv SN=>v=.bool (key z)/\Inv X (pins++pl) σ H SN) (λ_ _=>False) s')
  (h:∀s' m out ms,Inv X pins σ H s'->s'.o.B a=some (seqObj "list" out m)->IntsAre out.toList ms->Qe (λz=>b2i<|key z) ns ms->P (.done<|.ret .none) s'):
  wpAny (model X.prog X.w) A (ksk_rest a f false vs.m e1<|.ref kS) P E s:=by
 let NM:sizeLine=16777216:=TB;let Gf:=hv.f
 unfold ksk_rest;show XY (Kb ?_);rw[<-Array.forIn_toList];simp only[List.toList_toArray];show XY (ksk_fold (λi s'=>∃kA e,Inv X (pins++[(a,seqObj "list" #[] e1),(kS,seqObj "list" kA e)]) σ H s'/\kA.toList=(ns.X i).C λz=>Value.bool<|key z) vs 0 s ⟨#[],0,I,Z⟩ ?step ?done)
 case step=>
  rintro j x s' hx ⟨kA,e,tj,hk⟩;rw[SU]at hk ⊢;let hj:j<ns.f:=by rw[<-Gf];show(Xy.E hx).1
  let(t,ht):=KL hv j hj;rw[hx]at ht;let rfl:=Yc ht;let hz:kA.G<=j:=by let h1:=XG List.f hk;rw[YN,Xz,YB]at h1;lia
  let eg:ns.t j 0=ns[j]:=by rw[Xl,XH hj];rfl
  let hmem:ns.t j 0∈ns:=by rw[eg];show RX hj
  show XY (Np<|Uq (turn _ _ t s' hmem tj) (λv SN he=>?_) λ_ _ hF=>hF.elim);let(rfl,J2):=he;dsimp only;let pk:=(J2.pin (kS,seqObj "list" kA e) tG).1
  obtain⟨c2,Vk⟩:∃c2,(SN.o.update kS (Obj.mapSeq (·.push (.bool<|key<|ns.t j 0)))).B kS=some (seqObj "list" (kA.push<|.bool<|key<|ns.t j 0) c2):={_,xJ pk (·.push (.bool<|key<|ns.t j 0))};show XY (Kc pk Z ?_ J<|by rw[Array.size_push];lia);show Yh {Z,kA.push<|.bool<|key<|ns.t j 0,c2,?_,?_}
  .let J3:Inv X (pins++[(a,seqObj "list" #[] e1)]) σ H SN:=J2.pins_of λp hp=>J2.pin p (Yi _ (by
    rcases Xx.E hp with hp|hp
    .show Yj _ hp
    .show Yi _<|by rw[XF.E hp];show Yb))
   let Fk2:FpOk X (pins++[(a,seqObj "list" #[] e1)]) H kS:=Fk.more λp hp=>by rw[XF.E hp];show NB
   let J4:=(J3.changed (t':=SN.toks) Fk2 λc o hc q=>(YW SN.o (Obj.mapSeq (·.push (.bool<|key<|ns.t j 0)))<|YY hc).l q).pin1 Fk2 Vk λv z=>by cases z
   rwa[YG]at J4
  .let ek:((ns.X<|j+1).C λz=>Value.bool<|key z)=((ns.X j).C λz=>Value.bool<|key z)++[Value.bool (key<|ns.t j 0)]:=by rw[List.take_add_one,XH hj,Yp,eg];rfl
   rw[uu,ek,hk]
 case done=>
  rintro s' ⟨kA,e,tj,hk⟩;rw[SU,Gf,YI]at hk;let pk:=(tj.pin (kS,seqObj "list" kA e) tG).1
  show XY (listItems_at pk Z ?_);show ke tj Fa Fk NB hv Sh hk h
def ZQ8(I:Inv X pins σ H s)(Fa:FpOk X pins H a)(ho:s.o.B a=some (seqObj "list" vs.m n))(hv:IntsAre vs ns)(Sh:ns.f<64)
  (turn:∀pl z t s',z∈ns->Inv X (pins++pl) σ H s'->wpAny (model X.prog X.w) A (call f [.int z t]) (λv SN=>v=.bool (key z)/\Inv X (pins++pl) σ H SN) (λ_ _=>False) s')
  (h:∀s' m out ms,Inv X pins σ H s'->s'.o.B a=some (seqObj "list" out m)->IntsAre out.toList ms->Qe (λz=>b2i<|key z) ns ms->P (.done<|.ret .none) s'):
  wpAny (model X.prog X.w) A (ksk_tree a f false) P E s:=by
 let NM:sizeLine=16777216:=TB;let Gf:=hv.f
 obtain⟨e1,ho1⟩:∃e1,(s.o.update a<|Obj.mapSeq λ_=>(#[]:Array Value)).B a=some (seqObj "list" #[] e1):={_,xJ ho λ_=>#[]};let I1:Inv X pins σ H {s with heap:=s.o.update a<|Obj.mapSeq λ_=>(#[]:Array Value),toks:=s.toks}:=I.changed Fa λc o hc q=>(YW _ _<|YY hc).l q
 let I2:Inv X pins σ H {s with heap:=(s.o.update a<|Obj.mapSeq λ_=>(#[]:Array Value)).push (seqObj "tuple" vs.m 0),toks:=s.toks}:=I1.kept λc o q=>Xf _ q;let Ug:((s.o.update a<|Obj.mapSeq λ_=>(#[]:Array Value)).push (seqObj "tuple" vs.m 0)).B a=some (seqObj "list" #[] e1):=Xf _ ho1
 unfold ksk_tree;show XY (listItems_at ho Z ?_);show XY (Kc ho Z ?_ (by rw[Yd];lia)<|Yk _);show XY (seqEpoch_at ho1 Z ?_);show XY (wpAny_newTuple ?_<|by change vs.f<=_;omega);show XY (Sr ?_<|Yk _);show RS ?_;let Fk:FpOk X pins H ((s.o.update a<|Obj.mapSeq λ_=>(#[]:Array Value)).push (seqObj "tuple" vs.m 0)).objs.G:=I2.fpOk (Ya _) (I2.hok.fresh<|Ya _)
 let NB:a≠((s.o.update a<|Obj.mapSeq λ_=>(#[]:Array Value)).push (seqObj "tuple" vs.m 0)).objs.G:=YA (Ys Ug);let I3:Inv X pins σ H {s with heap:=((s.o.update a<|Obj.mapSeq λ_=>(#[]:Array Value)).push (seqObj "tuple" vs.m 0)).push (seqObj "list" #[] 0),toks:=s.toks}:=I2.kept λc o q=>Xf _ q
 let I4:=(I3.pin1 Fa (Xf _ Ug) λv z=>by cases z).pin1 (Fk.more (pl:=[(a,seqObj "list" #[] e1)]) λp hp=>by rw[XF.E hp];show NB) (Yl _ Z) λv z=>by cases z
 rw[YG]at I4;show ZR8 I4 Fa Fk NB hv Sh turn h
def ZX5{tp q:Addr}{Q:Ae}(I:Inv X pins σ H s)(ht:s.o.IsList tp vs.m)(hv:IntsAre vs ns)(Sh:ns.f<64)
  (turn:∀pl z t s',z∈ns->Inv X (pins++pl) σ H s'->wpAny (model X.prog X.w) A.in1.in1 (call ↑q [.int z t]) (λv SN=>v=.bool (key z)/\Inv X (pins++pl) σ H SN) (λ_ _=>False) s')
  (h:∀s' a m out ms,FpOk X pins H a->Inv X pins σ H s'->s'.o.B a=some (seqObj "list" out m)->IntsAre out.toList ms->Qe (λz=>b2i<|key z) ns ms->Q ↑a s'):
  wpAny (model X.prog X.w) A (call (.builtin "sorted") [.ref tp] [(Str.ofString "key",.ref q)]) Q E s:=by
 let NM:sizeLine=16777216:=TB;let Gf:=hv.f
 show call_function_entry_kw kind_sorted plain_sorted entry_sorted (ksk_s1 _ _) ?_;unfold Builtin.«sorted»;show XY (m:=checkCount "sorted" 1 1 _) (Yh ?_);show XY (collect_list ht ?_ S);show XY (Sr ?_ S);let hsz:((s.o.push<|seqObj "list" #[] 0).update (~~~s) (Obj.mapSeq (·++vs.m))).objs.G=(~~~s)+1:=by rw[Heap.size_update,size_push']
 let JS:(((s.o.push<|seqObj "list" #[] 0).update (~~~s) (Obj.mapSeq (·++vs.m))).push (seqObj "list" vs.m 0)).B ((~~~s)+1)=some (seqObj "list" vs.m 0):=by rw[<-hsz];show Yl _ rfl
 let keep:∀b o,s.o.B b=some o->(((s.o.push<|seqObj "list" #[] 0).update (~~~s) (Obj.mapSeq (·++vs.m))).push (seqObj "list" vs.m 0)).B b=some o:=λb o q=>by let Xp:b<(~~~s):=Ys q;show Xf _ ((YW _ _<|Rr Xp).l (Xf _ q))
 change wpAny _ _ _ _ _ {s with heap:=((s.o.push<|seqObj "list" #[] 0).update (~~~s) (Obj.mapSeq (·++vs.m))).push (seqObj "list" vs.m 0)};rw[hsz];let Fa:FpOk X pins H ((~~~s)+1):=I.fpOk (Ur _) (I.hok.fresh<|Ur _)
 show XY (RS<|wpAny_call_entry_kw slot_list_sort ⟨_,JS,Z⟩ entry_list_sort ?body (ksk_l1 _ _));change wpAny (model X.prog X.w) A.in1.in1 (Builtin.«list.sort» {[.ref ((~~~s)+1)],[(Str.ofString "key",.ref q)]}) _ _ _
 rw[ksk_t1];show ZQ8 (s:={s with heap:=((s.o.push<|seqObj "list" #[] 0).update (~~~s) (Obj.mapSeq (·++vs.m))).push (seqObj "list" vs.m 0),toks:=s.toks}) (I.kept keep) Fa JS hv Sh turn λs' m out ms tj e hi hs=>{_,Z,?_};show Yh {_,Z,h s' _ m out ms Fa tj e hi hs}
end
def j9(K:Ad)(Pt:Addr)(UE:Pos)(qual:Str)(i:Nat)(te tb:TE):(TE):=λσ H Q=>te σ H λy H1=>∃(p:Addr)(ns:Ac)(vx:V)(key:Int->Bool),y=.ref p/\SqL K H1 p (ns.C V.int)/\ns.f<64/\TabH H1 Pt UE qual/\σ[i]?=some (some vx)/\
 (∀H2,SameX Pt H1 H2->∀z∈ns,tb [some (.int z),some vx] H2 λr H3=>r=.bl (key z)/\H3=H2)/\
 ∀(ms:Ac)(l:Addr)(H2:Hp),Qe (λz=>b2i<|key z) ns ms->SameX Pt H1 H2->TabH H2 Pt UE qual->H2 l=none->Q ↑l (upd H2 l<|.lst<|ms.C V.int)
section
variable{X:Cx}{p kp pos UE:Pos}{e body:Expr}{params:Arguments}{scope:Scope}{te tb:TE}{v x:Str}{i k:Nat}{c Pt cc:Addr}
def SqL.samexT{K:Ad}{H H2:Hp}{a:Addr}{xs:List V}{qual:Str}(h:SqL K H a xs)(t:TabH H Pt UE qual)(sx:SameX Pt H H2):SqL K H2 a xs:=by
 let(ps,hP,_):=t;rcases h with (h|⟨o,h⟩)|h
 .show .inl (.inl<|sx _ _ (λz=>by rw[z,hP]at h;cases h) h)
 .show .inl (.inr {o,sx _ _ (λz=>by rw[z,hP]at h;cases h) h})
 .show .inr h
def ZY5(he:PE X e te)(hg:Gl X (Str.ofString "sorted"))(hm:X.mg (Str.ofString "sorted")=none)(hr:Room (k+3) X.A)(hex:X.ex=[])(Ut:X.R.code=.ref c)(hC:codeHdIn X.K c Pt=true)(hB:X.base.BuiltinsAt X.mg Pt)(Bx:mainGlobals≠Pt)
  (AP:LamScope v x scope)(QM:closureFor scope X.R=pure [(x,cc)])(Io:defaultsOf params X.R=([],[]))(Tc:∀(c':Addr)(pm RD u:Value),bindArgs (kla_fn (Str.ofString "<lambda>") (X.R.qual++Str.ofString "<lambda>") params body scope [(x,cc)] pm ↑c' RD) {[u],[]}=pure [(v,u)])
  (hi:X.N[i]?=some x)(hkx:X.R.kindOf x=some .cell)(WE:X.R.cells.L x=some cc)
  (hb:∀(f c':Addr)(A:Around)(outer:List Env)(s:Shared)(H:Hp),Room k (A.deeper<|envX (X.R.qual++Str.ofString "<lambda>") scope (~~~s) f ↑c' [(x,cc)])->PE (OC X.prog X.w X.K X.mg X.base [v,x] (X.R.qual++Str.ofString "<lambda>") scope f ↑c' [(x,cc)] A outer s H) body tb)(hs:starEach [e] X.R=[(false,eval e X.R)]:=by rfl):
  PE X (.Call (.Name (Str.ofString "sorted") p) [e] [{some<|Str.ofString "key",.Lambda params body scope UE,kp}] pos) (j9 X.K Pt UE (X.R.qual++Str.ofString "<lambda>") i te tb):=by
 intro pins s σ H Q I h;show NZ (VG I hg hm Boot.«sorted» ?_ tI tI);let ha:PA X [e] (Pp te JD):=XZ he XX hs
 show callWith_kw (thn (ha pos pins s σ H (λvs H1=>match vs with
  |[y]=>∃(p:Addr)(ns:Ac)(vx:V)(key:Int->Bool),y=.ref p/\SqL X.K H1 p (ns.C V.int)/\ns.f<64/\TabH H1 Pt UE (X.R.qual++Str.ofString "<lambda>")/\σ[i]?=some (some vx)/\
   (∀H2,SameX Pt H1 H2->∀z∈ns,tb [some (.int z),some vx] H2 λr H3=>r=.bl (key z)/\H3=H2)/\
   ∀(ms:Ac)(l:Addr)(H2:Hp),Qe (λz=>b2i<|key z) ns ms->SameX Pt H1 H2->TabH H2 Pt UE (X.R.qual++Str.ofString "<lambda>")->H2 l=none->Q ↑l (upd H2 l<|.lst<|ms.C V.int)
  |_=>False) I h) λus s1 hh=>?_) (by rw[hs];rfl) (by rw[hs];rfl) Z rfl
 let(vs,H1,I1,r,q):=hh
 match vs,r,q with
 |[],_,q=>show False.elim q
 |_::_::_,_,q=>show False.elim q
 |[y],r,q=>
  let(p2,ns,vx,key,rfl,hq,Sh,hT,hσ,hk,q):=q;let(u,rfl,ru):=TR r;let rfl:u=Value.ref p2:=ru;show kws_cons (ky I1 Ut hC hB hT QM Io Bx λf c' pm RD s2 H2 sx tab F I2 hf WO=>kws_nil ?_);let I3:=I2.pin1 F hf λv z=>by cases z
  let Lh:=SqL.samexT hq hT sx;let(XU,rv,g1,hz):=I2.list Lh;let hv:=ZL rv
  show ZX5 I3 g1.isList hv Sh (key:=key) (λpl z t s3 hmem tj=>?_) λs3 a m out ms Fa tj Mm Ip UA=>?_
  .-- the lambda called
   let Pj:s3.o.B f=some (kla_obj (Str.ofString "<lambda>") (X.R.qual++Str.ofString "<lambda>") params body scope [(x,cc)] pm c' RD):=(tj.pin (f,_)<|Yi _<|Yj _<|Yi _ Yb).1;let(mm,_,j8):=tj.loc;let(ux,rx,Bq):=j8 i x vx hi hσ (.inr<|.inl hkx);let RP:s3.o.IsCell cc (some ux):=by
    rcases Bq with ⟨kz,_⟩|⟨_,c2,e2,Vk⟩
    .rw[hkx]at kz;cases kz
    .rw[WE]at e2;cases e2;show Vk
   let Mo:s3.o.CodeRec ↑c' (X.R.qual++Str.ofString "<lambda>"):=(tj.hok c' _ WO).1;let UT:Room (k+1) X.A.in1.in1:=(hr.in1).in1
   show PB (LM (kE (u:=.int z t) (vv:=.int z) AP UT tj.env0.in1.in1 Pj Mo (Tc c' pm RD _) RP rx (tj.freeC x cc WE) ⟨t,Z⟩ (hb f c' _ _ s3 H2<|UT.deeper _)<|hk H2 sx z hmem) λrr s4 hh=>?_);let(u',rfl,ce):=hh;let(v',H',J',oj,e1,e2):=tj.after ce;subst e1 e2;let rfl:=oj;exists Z,J'
  .let J0:Inv X pins σ H2 s3:=tj.unpinned;let Fa0:FpOk X pins H2 a:=⟨Fa.1,Fa.2.1,Fa.2.2.1,Fa.2.2.2.1,Fa.2.2.2.2.1,λp hp=>Fa.2.2.2.2.2 p (by
    rcases Xx.E hp with hp|hp
    .show Yj _ hp
    .show Yi _<|Yj _ hp)⟩
   let OZ:ms.f=ns.f:=by let(pp,h1,_,rfl):=UA;rw[Xz,h1.length_eq,YO]
   exists .ref a,_,J0.adopt hex Fa0 (u:=.lst<|ms.C V.int) {?_,out.toList,m,Pa Ip,by simpa using Mm},Z,q ms a H2 UA sx tab Fa.1;rw[Xz,OZ]
   have:sizeLine=16777216:=TB
   lia
end
abbrev QE:List (Str×Value):=[(Str.ofString "default",.none)]
section
variable{prog:Program}{w:World}{A:Around}{I AP:Addr}{fp wr:List Addr}{n:Nat}{P:Nat->Value->Prop}{St:Nat->Heap->Prop}{R:Result->Shared->Prop}
def ZL8(W:Walks prog w A.in1 I fp wr n P St)(lt:Nat->Nat->Bool)(C:Heap->Prop)(ck:∀h h',C h->(∀b o,b≠AP->b∉wr->h.B b=some o->h'.B b=some o)->C h')(cc:∀s i j v u E Q,C s.o->i≠j->P i v->P j u->Q (.bool (lt i j)) s->wpAny (model prog w) A.in1 (compareOp .Lt v u) Q E s)(Sj:AP∉fp):∀k j s vb c,n-(j+1)=k->j+1<=n->St (j+1) s.o->P (argBest lt j) vb->C s.o->
  s.o.B AP=some {cls:=.type "list",dict:=none,data:=.seq #[vb,vb] c,slots:=#[]}->
  (∀v h' tk,P (argBest lt<|n-1) v->(∀b o,b≠AP->b∉wr->s.o.B b=some o->h'.B b=some o)->R (.ok<|.ret v) {s with heap:=h',toks:=tk})->
  codeAny (model prog w) A (.builtin "min.loop" {[.ref I,.none,.ref AP],QE}) R s:=by
 let vX:AP∉wr:=λh=>Sj (W.sub _ h);let nm:(toString "min"++toString ".loop":String)="min.loop":=tI
 intro k
 induction k with
 |zero=>
  intro j s vb c hk hj st pb ta hS hR;let ej:j+1=n:=tL
  show RU xT ?_;rw[Ss Up _];change wpAny _ A.in1 (seqItems? ↑AP >>= _) _ _ s
  show XY (Nr hS Z ?_);change wpAny _ A.in1 (tryCatch (pyNext<|.ref I) _ >>= _) _ _ s
  show XY (Fm<|W.done s _ _ (ej▸st) λh' tk Tb=>?_);let SH:=Tb AP _ vX hS
  change wpAny _ A.in1 (updateSeq AP (λ_=>#[]) >>= _) _ _ _;show XY (Ni SH Z<|XY<|Rk<|Yh ?_);show hR vb _ tk (by rwa[<-ej]) λb o b1 b2 e=>(YW _ _<|YY b1).l (Tb b o b2 e)
 |succ k ih=>
  intro j s vb c hk hj st pb ta hS hR;let Xp:j+1<n:=S
  show RU xT ?_;rw[Ss Up _];change wpAny _ A.in1 (seqItems? ↑AP >>= _) _ _ s
  show XY (Nr hS Z ?_);change wpAny _ A.in1 (tryCatch (pyNext<|.ref I) _ >>= _) _ _ s
  show XY (Fm<|W.item (j+1) s _ _ Xp st λv h' tk pv VB Tb=>?_);let SH:=Tb AP _ vX hS
  let j7:=ck _ h' ta λb o _ b2 e=>Tb b o b2 e;change wpAny _ A.in1 (tryCatch (holding [v,v]<|richCompare .Lt (v) (vb) >>= _) _ >>= _) _ _ _
  show XY (Fm<|RS<|XY<|show wpAny _ _ (compareOp .Lt (v)<|vb) _ _ _ from cc {s with heap:=h',toks:=tk} (j+1) _ v vb _ _ j7 (Rr<|Nat.lt_succ_of_le<|My.RH _ _) pv pb ?_);show XY (RS<|PQ ?_);show XY (Rk<|Yh ?_);cases hb:lt (j+1) (argBest lt j) with
  |true=>
   simp only[if_true];show XY (Ni SH Z<|XY<|Rk ?_);rw[nm];let up:∀b o,b≠AP->h'.B b=some o->(h'.update AP<|Obj.mapSeq λ_=>#[v,v]).B b=some o:=λb o b1 e=>(YW _ _<|YY b1).l e
   show Yh {Nn Up _,ih (j+1) _ (v) _ S Xp (W.frame _ h' _ VB λb KW o e=>up b o (λh=>Sj<|h▸KW) e) ?_ (ck _ _ j7 λb o b1 _ e=>up b o b1 e) (VS _ SH Z) λv' Bp Oz Bo Bn=>?_}
   .unfold argBest;rw[if_pos hb];show pv
   .show hR v' Bp Oz Bo λb o b1 b2 e=>Bn b o b1 b2 (up b o b1<|Tb b o b2 e)
  |false=>
   simp only[JZ,if_false];show XY (Rk ?_);rw[nm];show Yh {Nn Up _,ih (j+1) _ (vb) c S Xp VB ?_ j7 SH λv' Bp Oz Bo Bn=>?_}
   .unfold argBest;rwa[if_neg (by rw[hb];decide)]
   .show hR v' Bp Oz Bo λb o b1 b2 e=>Bn b o b1 b2 (Tb b o b2 e)
def j6(W:Walks prog w A.in1 I fp wr n P St)(lt:Nat->Nat->Bool)(C:Heap->Prop)(ck:∀h h',C h->(∀b o,b≠AP->b∉wr->h.B b=some o->h'.B b=some o)->C h')(cc:∀s i j v u E Q,C s.o->i≠j->P i v->P j u->Q (.bool (lt i j)) s->wpAny (model prog w) A.in1 (compareOp .Lt v u) Q E s)(Sj:AP∉fp)(hn:0<n){c:Nat}(st:St 0 s.o)(ta:C s.o)(hS:s.o.B AP=some {cls:=.type "list",dict:=none,data:=.seq #[] c,slots:=#[]})
  (hR:∀v h' tk,P (argBest lt<|n-1) v->(∀b o,b≠AP->b∉wr->s.o.B b=some o->h'.B b=some o)->R (.ok<|.ret v) {s with heap:=h',toks:=tk}):
  codeAny (model prog w) A (.builtin "min.loop" {[.ref I,.none,.ref AP],QE}) R s:=by
 let vX:AP∉wr:=λh=>Sj (W.sub _ h);let nm:(toString "min"++toString ".loop":String)="min.loop":=tI
 show RU xT ?_;rw[Ss Up _];change wpAny _ A.in1 (seqItems? ↑AP >>= _) _ _ s
 show XY (Nr hS Z ?_);change wpAny _ A.in1 (tryCatch (pyNext<|.ref I) _ >>= _) _ _ s
 show XY (Fm<|W.item 0 s _ _ hn st λv h' tk pv VB Tb=>?_);let SH:=Tb AP _ vX hS
 change wpAny _ A.in1 (updateSeq AP (λ_=>#[v,v]) >>= _) _ _ _;show XY (Ni SH Z ?_);rw[nm];let up:∀b o,b≠AP->h'.B b=some o->(h'.update AP<|Obj.mapSeq λ_=>#[v,v]).B b=some o:=λb o b1 e=>(YW _ _<|YY b1).l e
 show Yh {Nn Up _,ZL8 W lt C ck cc Sj _ 0 _ v _ Z hn (W.frame _ h' _ VB λb KW o e=>up b o (λh=>Sj<|h▸KW) e) pv (ck _ _ ta λb o b1 b2 e=>up b o b1<|Tb b o b2 e) (VS _ SH Z) λv' Bp Oz Bo Bn=>?_};show hR v' Bp Oz Bo λb o b1 b2 e=>Bn b o b1 b2 (up b o b1<|Tb b o b2 e)
def ZK8(W:Walks prog w A.in1 I fp wr n P St)(hn:n=0)(Sj:AP∉fp){c:Nat}(st:St 0 s.o)(hS:s.o.B AP=some {cls:=.type "list",dict:=none,data:=.seq #[] c,slots:=#[]})
  (hR:∀h' tk,(∀b o,b≠AP->b∉wr->s.o.B b=some o->h'.B b=some o)->R (.ok<|.ret .none) {s with heap:=h',toks:=tk}):
  codeAny (model prog w) A (.builtin "min.loop" {[.ref I,.none,.ref AP],QE}) R s:=by
 subst hn;show RU xT ?_;rw[Ss Up _];change wpAny _ A.in1 (seqItems? ↑AP >>= _) _ _ s
 show XY (Nr hS Z ?_);change wpAny _ A.in1 (tryCatch (pyNext<|.ref I) _ >>= _) _ _ s
 show XY (Fm<|W.done s _ _ st λh' tk Tb=>?_);show XY (Kb<|Yh ?_);show hR h' tk λb o _ b2 e=>Tb b o b2 e
def ZI4{E:Ae}{s:Shared}{id:String}{b:Builtin}{args:Ag}{kw:List (Str×Value)}{Q:Ae}(hk:builtinKind id=none)(hp:plainId id=true)(hb:entryFor table id=some b)(ha:argsOk id ⟨args,kw⟩)
  (hc:wpAny (model prog w) A.in1 (b ⟨args,kw⟩) (λfin s'=>match fin with
   | .done f=>(match (Except.ok f:Result) with | .ok (.ret v)=>Q v s' | .ok _=>False | .error e=>E e s')
   | .again c'=>c'.quiet=true/\codeAny (model prog w) A c' (λr s'=>match r with | .ok (.ret v)=>Q v s' | .ok _=>False | .error e=>E e s') s') E s):wpAny (model prog w) A (call (.builtin id) args kw) Q E s:=by
 show PB (codeAny_call_builtin hp hb ?_);simp only[checkBuiltinCall,hk];cases j5:Manifest.signature? id with
 |none=>show Yh hc
 |some sig=>
  let QW:Bind.checkArgs id sig ⟨args,kw⟩=pure ():=by simpa only[argsOk,j5] using ha
  simp only[QW];show Yh hc
def j4(a:Value):argsOk "min" {[a],QE}:=by unfold argsOk;kernel_rfl
def j3{E:Ae}{s:Shared}{Q:Ae}(hh:A.handled=none)(hl:s.o.IsList l (intItems xs))
  (h0:xs.G=0->∀h' tk,(∀b o,s.o.B b=some o->h'.B b=some o)->Q .none {s with heap:=h',toks:=tk})
  (h:0<xs.G->∀v h' tk,(intItems xs)[argBest (λi j=>decide<|numAt xs i<numAt xs j) (xs.G-1)]?=some v->(∀b o,s.o.B b=some o->h'.B b=some o)->Q v {s with heap:=h',toks:=tk}):
  wpAny (model prog w) A (call (.builtin "min") [.ref l] QE) Q E s:=by
 let nm:(toString "min"++toString ".loop":String)="min.loop":=tI;show ZI4 F.kind_min F.plain_min F.entry_min (j4 _) ?_;change wpAny _ A.in1 (Builtin.Builtins.bindParams "min" ["key","default"] 0 {[],QE} >>= _) _ _ s
 show XY (TF (a:=[none,some .none]) Z ?_);show XY (Yh ?_);show XY (iter_intList hl λs₂ e st wz hlI=>?_);subst e;show XY (RY ?_);rw[nm];let W:=Walks.list (prog:=prog) (w:=w) (A:=A.in1) hh (~~~s) l hlI (intItems xs)
 obtain⟨G,hG⟩:∃G,G=s.o.push {cls:=.type "list_iterator",data:=.fields #[.ref l,.int 0 0]}:={_,Z};let hold:∀b o,s.o.B b=some o->b≠G.objs.G/\b∉[(~~~s)]/\(G.push {cls:=.type "list",data:=.seq #[] 0}).B b=some o:=λb o e=>by
  let Xp:=Ys e;let j0:b<G.objs.G:=by rw[hG];show Yu Xp (by rw[Qo];show Ur _)
  exists YA j0,λhm=>by rw[XF.E hm]at Xp;show RT _ Xp,Xf _<|by rw[hG];show Xf _ e
 rw[<-hG]at st wz ⊢;let Sj:G.objs.G∉[(~~~s),l]:=λhm=>RT _ (wz _ hm)
 let Na:=W.frame 0 G (G.push {cls:=.type "list",data:=.seq #[] 0}) st λb _ o e=>Xf _ e;let jZ:(intItems xs).G=xs.G:=by simp[intItems]
 rcases Nat.eq_zero_or_pos xs.G with hz|hz
 .show Yh {Nn Up _,ZK8 W (jZ.l hz) Sj Na (Yl _ Z) λh' tk hk=>?_};show h0 hz h' tk λb o e=>by let(a1,a2,a3):=hold b o e;show hk b o a1 a2 a3
 .show Yh {Nn Up _,j6 W (λi j=>decide<|numAt xs i<numAt xs j) (λ_=>True) (λ_ _ _ _=>trivial) (λs i j v u E Q _ _ pv pu q=>?_) Sj (by rwa[jZ]) Na trivial (Yl _ Z) λv h' tk pv hk=>?_}
  .let⟨t1,rfl⟩:=intItems_at pv;let(t2,rfl):=intItems_at pu;show lt_int q
  .rw[jZ]at pv;show h hz v h' tk pv λb o e=>by let(a1,a2,a3):=hold b o e;show hk b o a1 a2 a3
end
def jY(K:Ad)(te:TE):(TE):=λσ H Q=>te σ H λy H1=>∃p ns,y=.ref p/\SqL K H1 p (ns.C V.int)/\(ns=[]->Q .non H1)/\∀m:Int,m∈ns->(∀a∈ns,m<=a)->Q (.int m) H1
def ZI9{p kp pos cp:Pos}{j:Nat}(hc:X.calm=true)(hg:Gl X (Str.ofString "min"))(hm:X.mg (Str.ofString "min")=none)(he:PE X e te)(hs:starEach [e] X.R=[(false,eval e X.R)]:=by rfl):
  PE X (.Call (.Name (Str.ofString "min") p) [e] [{some<|Str.ofString "default",.Constant .none j cp,kp}] pos) (jY X.K te):=by
 intro pins s σ H Q I h;show NZ (VG I hg hm Boot.«min» ?_ tI tI);let ha:PA X [e] (Pp te JD):=XZ he XX hs
 show callWith_kw (thn (ha pos pins s σ H (λvs H1=>match vs with
  |[y]=>∃p ns,y=.ref p/\SqL X.K H1 p (ns.C V.int)/\(ns=[]->Q .non H1)/\∀m:Int,m∈ns->(∀a∈ns,m<=a)->Q (.int m) H1
  |_=>False) I h) λus s1 hh=>?_) (by rw[hs];rfl) (by rw[hs];rfl) Z rfl
 let(vs,H1,I1,r,q):=hh
 match vs,r,q with
 |[],_,q=>show False.elim q
 |_::_::_,_,q=>show False.elim q
 |[y],r,q=>
  let(p2,ns,rfl,hq,q0,q1):=q;let(u,rfl,ru):=TR r;let rfl:u=Value.ref p2:=ru;show kws_cons (Constant_none<|kws_nil ?_);let(XU,rv,pl,hz):=I1.list hq;let hi:=ZL rv
  let(xs,e'):=hi.allInts.items;let RC:ns=xs.toList.C (·.1):=by rw[<-hi.numsOf,<-nums_intItems,<-e']
  let hl:=pl.isList;rw[e']at hl;show j3 (I1.ok.hd hc) hl (λhsz h' tk hk=>?_) λhsz v h' tk hv hk=>?_
  .exists .non,H1,I1.kept (t':=tk) hk,Z,q0 ?_;rw[RC,Fy];show Vy.E (by rwa[YN])
  .let⟨t,rfl⟩:=intItems_at hv;let(h1,h2):=argBest_lt (numAt xs) (xs.G-1);exists .int _,H1,I1.kept (t':=tk) hk,⟨t,Z⟩,q1 _ ?_ λa ha=>?_
   .rw[RC,numAt_eq];show getD_mem (by rw[Xz,YN];omega)
   .rw[RC]at ha;let(j,hj,rfl):=mem_getD ha;rw[Xz,YN]at hj;rw[<-numAt_eq];show h2 j tL
end L2
namespace My
open PySem L2
def Bm(K:Ad)(mg:Af)(x qual:Str)(st:Stmt)(fs:List Str)(Pt:Addr):(Prop):=∃C f fd c,mg x=some ↑C/\Fun K "__init__" qual st f fd/\Cls K C/\Mk K C f/\(∀a∈fs,NoAttr K C a)/\fd.code=.ref c/\PySem.W.codeHdIn K c Pt=true
def Ij{mg:Af}{oc:Value}{od an:Option Addr}{TQ:Array (Option Value)}{kV doc pm ct:Value}(X:K.In h)(G:h.Ns mainGlobals mg)
  (aC:PySem.W.nsIn K mainGlobals x=some (some<|.ref C))(a:PySem.W.findIn K ↑C "__init__"=some (some<|.ref f))(i:PySem.W.isFn K ↑f=true)
  (l:K.L f=some {oc,od,.func<|PySem.W.fnOf "__init__" qual (Lx st) (Ra st) (Zc st) .none kV doc pm an ↑cA ct,TQ})(c:PySem.W.codeIn K ↑cA qual=true)(k:PySem.W.keepIn K ↑f=true)
  (pg:PySem.W.plainGet K C Str.empty=true)(hd:PySem.W.hasDictIn K C=true)(po:PySem.W.plainOver K C=true)(sa:PySem.W.findIn K ↑C "__setattr__"=some (some<|.builtin "object.__setattr__"))(mk:PySem.W.makesIn K C=true)(kc:PySem.W.keepIn K ↑C=true)
  (na:∀a∈fs,PySem.W.findIn K ↑C a=some none)(z:PySem.W.codeHdIn K cA Pt=true):Bm K mg x qual st fs Pt:=
 {C,f,_,cA,Ng X G aC,MR l c k,⟨pg,hd,po,sa⟩,⟨mk,a,i,kc⟩,na,Z,z}
def Ml(M:Ac)(ps:Aa)(g:Ac)(i:Nat):(Ac):=(Xh i).filter λz=>decide (z∉g/\mk M (ps.t z.j (0,0)).1.j≠mk M (ps.t z.j (0,0)).2.j)
def jX(M:Ac)(ps:Aa)(g:Ac)(i:Nat):Ml M ps g (i+1)=Ml M ps g i++if (i:Int)∉g/\mk M (ps.t i (0,0)).1.j≠mk M (ps.t i (0,0)).2.j then [(i:Int)] else []:=by
 unfold Ml;rw[b8,PU];congr 1;rw[Wt,uc];change(if decide ((i:Int)∉g/\mk M (ps.t ((i:Int).j) (0,0)).1.j≠mk M (ps.t ((i:Int).j) (0,0)).2.j)=true then [(i:Int)] else [])=_
 rw[Yf];simp only[Kq]
def jW(M:Ac)(ps:Aa)(g:Ac)(i:Nat):(Ml M ps g i).f<=i:=YE (YT ..) (by rw[ZB];show Ya _)
def Xa:(Option Int->V)
 |none=>.non
 |some z=>.int z
def vW(w k s ld l i fu:V):(List (Str×V)):=[("web",w),("kept",k),("shut",s),("lead",ld),("least",l),("incoming",i),("further",fu)]
def Wz:SameX x H (upd H x o):=λb o' hb e=>by rwa[XR hb]
def WebAt.but{C CP w x dx:Addr}(h:WebAt C H w n ps)(hx:H x=some (.ins CP dx []))(s:SameX x H H1):WebAt C H1 w n ps:=by
 let(d,tl,xs,h1,h2,h3):=h;exists d,tl,xs,s _ _ (λe=>?_) h1,s _ _ (λe=>?_) h2,h3.1,λi p e=>?_
 .rw[e,hx]at h1
  have:=XG (λo=>match o with|some (HO.ins _ _ fs)=>fs.f|_=>0) h1
  show absurd this (by change ¬0=2;decide)
 .rw[e,hx]at h2;cases h2
 .let⟨v,a1,tt,a2,a3⟩:=h3.2 i p e;exists v,a1,tt,a2,s _ _ (λe=>by rw[e,hx]at a3;cases a3) a3
def Bl{CP a x dx:Addr}(h:SqT K H a xs)(hx:H x=some (.ins CP dx []))(s:SameX x H H1):SqT K H1 a xs:=by
 rcases h with (h|⟨o,h⟩)|h
 .show .inl (.inl<|s _ _ (λz=>by rw[z,hx]at h;cases h) h)
 .show .inl (.inr {o,s _ _ (λz=>by rw[z,hx]at h;cases h) h})
 .show .inr h
def jV{CP Pt x dx:Addr}(t:TabH H Pt pos qual)(hx:H x=some (.ins CP dx []))(s:SameX x H H1):TabH H1 Pt pos qual:=by
 let(ps,h1,h2,h3):=t;exists ps,s _ _ (λe=>by rw[e,hx]at h1;cases h1) h1,h2,?_;rcases h3 with h|⟨c,h,h'⟩
 .show .inl h
 .show .inr {c,h,s _ _ (λe=>by rw[e,hx]at h';cases h') h'}
def Oy(ha:SqT K H a (IL l))(hb:SqT K H b (IL m))(hl:l.f+m.f<=1000)(k:∀r H',Same H H'->SqT K H' r (IL (l++m))->Q ↑r H'):Jd K ↑a ↑b H Q:=by
 exists a,b,_,_,Z,Z,ha,hb,by rw[Xw,Xw];show YE hl tI,λe=>?_,λ_ e=>?_,λ_ _ p hp=>?_
 .let el:l=[]:=Fy.E e;rw[el,Uo]at k;show k b H (Same.refl _) hb
 .let em:m=[]:=Fy.E e;rw[em,Yy]at k;show k a H (Same.refl _) ha
 .show k p _ (XJ hp) (SqT.of ?_);rw[XS,xk]
def TJ(M:Ac)(ps:Aa)(z:Int):(Int×Int):=(min (mk M (ps.t z.j (0,0)).1.j)<|mk M (ps.t z.j (0,0)).2.j,max (mk M (ps.t z.j (0,0)).1.j)<|mk M (ps.t z.j (0,0)).2.j)
def ZK3{l:Ac}(hp:l.Perm [a,b])(hs:l.Q (·<=·)):l=[min a b,max a b]:=by
 cases c:a<=b
 .rw[xV c,ug c];show wW hp hs (by simpa using c)
 .rw[uh J,t7 S];show wW (hp.l<|List.Perm.swap b a []) hs (by simp;omega)
def ZM9{z:Int}(h:z∈Ml M ps g i):0<=z/\z<(i:Int):=XO.E (Yt.E h).1
def WM(n:Int)(ps:Aa)(I O F:Ac):(Ac):=Ml (Xu n.j<|XT ps I) ps (I++O++F) ps.f
def Sz(n:Int)(ps:Aa)(I O F:Ac)(ld:Option Int):(Ac):=(WM n ps I O F).filter λz=>decide (∃y,ld=some y/\TJ (Xu n.j<|XT ps I) ps z=TJ (Xu n.j<|XT ps I) ps y)
def VC(n:Int)(ps:Aa)(I O F:Ac)(ld:Option Int):(Ac):=(WM n ps I O F).filter λz=>decide (z∉Sz n ps I O F ld)
def PartAt(K:Ad)(CP C:Addr)(H:Hp)(x:Addr)(n:Int)(ps:Aa)(I O F inc:Ac)(ld fu:Option Int):(Prop):=∃dx w a b l i,H x=some (.ins CP dx<|vW ↑w ↑a ↑b (Xa ld) ↑l ↑i<|Xa fu)/\WebAt C H w n ps/\SqT K H a (IL I)/\SqT K H b (IL O)/\H l=some (.tup<|IL F)/\H i=some (.lst<|IL inc)
def PartAt.samex(h:PartAt K CP C H x n ps I O F inc ld fu)(t:TabH H Pt pos qual)(sx:SameX Pt H H2):PartAt K CP C H2 x n ps I O F inc ld fu:=by let(dx,w,a,b,l,i,h1,h2,h3,h4,h5,h6):=h;exists dx,w,a,b,l,i,sx _ _ (t.ne h1 tG) h1,h2.samex t sx,SqK.samex (kd:=true) h3 t sx,SqK.samex (kd:=true) h4 t sx,sx _ _ (t.ne h5 tG) h5,sx _ _ (t.ne h6 tG) h6
structure PartOk(n:Int)(ps:Aa)(I O:Ac)(ld:Option Int)(F inc:Ac)(fu:Option Int):Prop where
 tr:With n ps I O F
 least:∀U,With n ps I O U->HT.lexLt U F=false
 inc:Qe (λz=>PyProof.Rows.b2i<|decide<|ld=some z) (Sz n ps I O F ld) inc
 none:fu=none↔VC n ps I O F ld=[]
 some:∀y,fu=some y->y∈VC n ps I O F ld/\∀z∈VC n ps I O F ld,y<=z
def xchT(F:Ac)(o z:Int):(Ac):=(wo F o++[z]).mergeSort λa b=>decide (a<=b)
def Bk(F:Ac)(o z:Int):(xchT F o z).Perm (wo F o++[z]):=List.mergeSort_perm _ _
def Mj(F:Ac)(o z:Int):(xchT F o z).Q (·<=·):=by
 show(Fg (le:=λa b:Int=>decide<|a<=b) (λa b c h1 h2=>?_) (λa b=>?_) _).imp λh=>YH h
 .simp only[Kq]at *;lia
 .simp only[tY,Kq];lia
def Vo(n:Int)(ps:Aa)(I F:Ac)(z:Int):(Ac):=(SF n ps F z F).filter λt=>decide (t∉I)
section
variable{n:Int}{ps:Aa}{I O F T M:Ac}{x y z:Int}(g:Zt n ps)
include g
def vV(hF:With n ps I O F)(he:exg n ps F x y)(hx:x∉I)(hy:y∉O)(hp:M.Perm (wo F x++[y]))(hs:M.Q (·<=·)):With n ps I O M:=by
 exists o6 g hF.1 he hp hs,λv hv=>(wR g hF.1 he hp hs).H (.inl {hF.2.1 v hv,λe=>hx<|e▸hv}),λv hv h=>?_;rcases(wR g hF.1 he hp hs).E h with h|h
 .show hF.2.2 v hv h.1
 .show hy (h▸hv)
def Ze5(hF:Zn n ps F)(he:exg n ps F x y)(h:y<x)(hp:M.Perm (wo F x++[y]))(hs:M.Q (·<=·)):HT.lexLt M F=true:=by
 let tM:=o6 g hF he hp hs;let yF:y∉F:=((wU g hF).E he).2.1
 show(aP (XW.E tM.1).2 (XW.E hF.1).2 (by have:=tM.2.1;have:=hF.2.1;lia)).H ⟨y,(wR g hF he hp hs).H (.inr Z),yF,λs Lw=>?_⟩;rw[wR g hF he hp hs];constructor
 .rintro(q|q)
  .show q.1
  .lia
 .show λq=>.inl ⟨q,J⟩
def Zc7(hF:With n ps I O F)(Se:∀U,With n ps I O U->HT.lexLt U F=false)(hT:With n ps (I++[z]) O T)(hTm:∀U,With n ps (I++[z]) O U->HT.lexLt U T=false):∀v∈T,v∈F\/v=z:=λv hv=>YC λno=>by
 let vF:v∉F:=λh=>no (.inl h);let vz:v≠z:=λh=>no (.inr h)
 let(u,e1,e2):=bZ g hT.1 hF.1 hv vF;let uF:u∈F:=e2.1
 let uT:u∉T:=((wU g hT.1).E e1).2.1;let uI:u∉I:=λh=>uT (hT.2.1 u<|Yj _ h)
 let vO:v∉O:=λh=>hT.2.2 v h hv;let uO:u∉O:=λh=>hF.2.2 u h uF
 let vI:v∉I++[z]:=λh=>by
  rcases Xx.E h with h|h
  .show vF (hF.2.1 v h)
  .show vz (XF.E h)
 let uv:u≠v:=λe=>uT (e▸hv);let(M1,p1,q1):=oN (wo F u++[v]);let w1:=vV g hF e2 uI vO p1 q1
 let(M2,p2,q2):=oN (wo T v++[u]);let w2:=vV g hT e1 vI uO p2 q2
 rcases Int.lt_or_lt_of_ne uv with h|h
 .have:=Ze5 g hT.1 e1 h p2 q2
  rw[hTm M2 w2]at this;cases this
 .have:=Ze5 g hF.1 e2 h p1 q1
  rw[Se M1 w1]at this;cases this
def Zb7(hF:With n ps I O F)(Se:∀U,With n ps I O U->HT.lexLt U F=false)(hz:z∉F):With n ps I (O++[z]) F/\∀U,With n ps I (O++[z]) U->HT.lexLt U F=false:=
 {{hF.1,hF.2.1,λv hv=>(Xx.E hv).elim (hF.2.2 v) λh=>by rwa[XF.E h]},λU hU=>Se U {hU.1,hU.2.1,λv hv=>hU.2.2 v<|Yj _ hv}}
end
def QD{z:Int}:With n ps I O T↔With n ps I (O++[z]) T\/With n ps (I++[z]) O T:=by
 constructor
 .intro h;cases c:z∈T
  .show .inr {h.1,λv hv=>(Xx.E hv).elim (h.2.1 v) λe=>by rw[XF.E e];show c,h.2.2}
  .show .inl {h.1,h.2.1,λv hv=>(Xx.E hv).elim (h.2.2 v) λe=>by rwa[XF.E e]}
 .rintro(h|h)
  .exists h.1,h.2.1,λv hv=>h.2.2 v<|Yj _ hv
  .exists h.1,λv hv=>h.2.1 v<|Yj _ hv,h.2.2
def RowAll(n:Int)(ps:Aa)(I O:Ac)(R:Ab):(Prop):=R.Nodup/\∀T,T∈R↔With n ps I O T
def RowAll.pc(h:RowAll n ps I O R):PC n ps I O R.f:={R,h.1,λl=>h.2 l,Z}
def ZB6{z:Int}(hA:RowAll n ps I (O++[z]) A)(hB:RowAll n ps (I++[z]) O B):RowAll n ps I O (A++B.reverse):=by
 exists YM.H {hA.1,(uz B).nodup_iff.H hB.1,λa ha b hb e=>?_},λT=>?_
 .subst e;show((hA.2 a).E ha).2.2 z tG (((hB.2 a).E (Fs.E hb)).2.1 z tG)
 .rw[Xx,Fs,hA.2,hB.2];show QD.U
def jU{a b c d:Int}(h1:min a b=min c d)(h2:max a b=max c d):(a=c/\b=d)\/(a=d/\b=c):=by
 rcases Int.le_total a b with p|p<;>rcases Int.le_total c d with q|q<;>simp only[xV,uh,t7,ug,p,q]at h1 h2
 .show .inl ⟨h1,h2⟩
 .show .inr ⟨h1,h2⟩
 .show .inr ⟨h2,h1⟩
 .show .inl ⟨h2,h1⟩
section
variable{n:Int}{ps:Aa}{I O F T:Ac}{o t t':Int}(g:Zt n ps)
include g
def Zm6(hT:Zn n ps T)(ho:o∈T):¬Conn (XT ps (wo T o)) (Zo ps o).1 (Zo ps o).2:=by let(o0,o1):=hT.1.all o ho;show(Ve g hT o0 o1).E ((QT g hT ho ho).H Z)
def Zg8(hT:Zn n ps T)(hI:∀v∈I,v∈T)(ht:t∈T)(hn:t∉I):¬Conn (XT ps I) (Zo ps t).1 (Zo ps t).2:=λc=>
 Zm6 g hT ht (c.mono<|ZV λv hv=>Xm.H {hI v hv,λe=>hn<|by rwa[<-e]})
def jT(WX:∀z∈I,0<=z/\z<ps⁻¹)(t0:0<=t)(t1:t<ps⁻¹)(s0:0<=t')(s1:t'<ps⁻¹)(h:TJ (Xu n.j (XT ps I)) ps t=TJ (Xu n.j (XT ps I)) ps t'):
  (Conn (XT ps I) (Zo ps t).1 (Zo ps t').1/\Conn (XT ps I) (Zo ps t).2 (Zo ps t').2)\/(Conn (XT ps I) (Zo ps t).1 (Zo ps t').2/\Conn (XT ps I) (Zo ps t).2 (Zo ps t').1):=by
 let Wu:=ZE g WX;let a:=TM (z:=t) g t0 t1
 let b:=TM (z:=t') g s0 s1;let h:(min (mk (Xu n.j<|XT ps I) (Zo ps t).1)<|mk (Xu n.j<|XT ps I) (Zo ps t).2,max (mk (Xu n.j<|XT ps I) (Zo ps t).1)<|mk (Xu n.j<|XT ps I) (Zo ps t).2)=(min (mk (Xu n.j<|XT ps I) (Zo ps t').1)<|mk (Xu n.j<|XT ps I) (Zo ps t').2,max (mk (Xu n.j<|XT ps I) (Zo ps t').1)<|mk (Xu n.j<|XT ps I) (Zo ps t').2):=h
 let(h1,h2):=Prod.mk.inj h;rw[<-QV Wu a.1 b.1,<-QV Wu a.2 b.2,<-QV Wu a.1 b.2,<-QV Wu a.2 b.1];show jU h1 h2
def Zp9(WX:∀z∈I,0<=z/\z<ps⁻¹)(hT:Zn n ps T)(hI:∀v∈I,v∈T)(ht:t∈T)(hs:t'∈T)(hn:t∉I)(RQ:t'∉I)(h:TJ (Xu n.j (XT ps I)) ps t=TJ (Xu n.j (XT ps I)) ps t'):t=t':=YC λne=>by
 let(t0,t1):=hT.1.all t ht;let(s0,s1):=hT.1.all t' hs;let sub:∀v∈I++[t],v∈wo T t':=λv hv=>by
  rcases Xx.E hv with hv|hv
  .show Xm.H {hI v hv,λe=>RQ<|by rwa[<-e]}
  .rw[XF.E hv];show Xm.H ⟨ht,ne⟩
 let up:∀{i j},Conn (XT ps I) i j->Conn (XT ps<|I++[t]) i j:=λc=>c.mono (ZV λv hv=>Yj _ hv);let ed:Conn (XT ps<|I++[t]) (Zo ps t).1 (Zo ps t).2:=.edge (Yq.H ⟨t,tG,Z⟩)
 let c:Conn (XT ps<|I++[t]) (Zo ps t').1 (Zo ps t').2:=by
  rcases jT g WX t0 t1 s0 s1 h with ⟨a,b⟩|⟨a,b⟩
  .show((up a).U.l ed).l (up b)
  .show((up b).U.l ed.U).l (up a)
 show Zm6 g hT hs (c.mono<|ZV sub)
def ZN9(WX:∀z∈I,0<=z/\z<ps⁻¹)(hT:With n ps I O T)(hF:∀v∈I,v∈F)(ht:t∈T)(hn:t∉F):t∈WM n ps I O F:=by
 let(t0,t1):=hT.1.1.all t ht;let a:=TM (z:=t) g t0 t1
 let hI:t∉I:=λh=>hn (hF t h);show Yt.H {XO.H ⟨t0,t1⟩,YK {λh=>?_,λe=>?_}}
 .rcases Xx.E h with h|h
  .rcases Xx.E h with h|h
   .show hI h
   .show hT.2.2 t h ht
  .show hn h
 .show Zg8 g hT.1 hT.2.1 ht hI ((QV (ZE g WX) a.1 a.2).E e)
end
def Sy(n:Int)(ps:Aa)(I F:Ac)(asc:Bool)(z:Int):(Ab):=if asc then (Vo n ps I F z).C λo=>xchT F o z else ((Vo n ps I F z).C λo=>xchT F o z).reverse
def Sx(n:Int)(ps:Aa)(I F:Ac):(Ac->Bool->Ab)
 |[],_=>[]
 |z::r,asc=>Sy n ps I F asc z++Sx n ps I F r (!asc)
def Zj6(n:Int)(ps:Aa)(I F:Ac)(z:Int):∀l asc,Sx n ps I F (l++[z]) asc=Sx n ps I F l asc++Sy n ps I F (asc != (l.f%2 == 1)) z
 |[],asc=>by change Sy n ps I F asc z++[]=[]++Sy n ps I F (asc != false) z;rw[Yy,Uo,Bool.bne_false]
 |y::l,asc=>by change Sy n ps I F asc y++Sx n ps I F (l++[z]) (!asc)=Sy n ps I F asc y++Sx n ps I F l (!asc)++_;rw[Zj6 n ps I F z l,YG,Yv];congr 3;rcases(by lia:l.f%2=0/\(l.f+1)%2=1\/l.f%2=1/\(l.f+1)%2=0) with ⟨a,b⟩|⟨a,b⟩<;>rw[a,b]<;>cases asc<;>rfl
def jS(n:Int)(ps:Aa)(I F:Ac)(asc:Bool)(z:Int):(Sy n ps I F asc z).f<=F.f:=by
 unfold Sy;let h:(Vo n ps I F z).f<=F.f:=YE (YT ..) (Gr n ps F z F)
 split
 .rw[Xz];show h
 .rw[YX,Xz];show h
def Zs9(n:Int)(ps:Aa)(I F:Ac):∀l asc,(Sx n ps I F l asc).f<=l.f*F.f
 |[],_=>Yk _
 |z::l,asc=>by
  change(Sy n ps I F asc z++Sx n ps I F l (!asc)).f<=_;rw[XB,Yv,Nat.succ_mul]
  have:=jS n ps I F asc z
  have:=Zs9 n ps I F l (!asc)
  lia
def vU(n:Int)(ps:Aa)(I F inc:Ac):(Ab):=F::Sx n ps I F inc (inc.f%2 == 1)
def Wi:o∈SF n ps F t F↔o∈F/\t∈Tn n ps F o:=by unfold SF;rw[Yt,Qs];show Iff.rfl
def Ww{o t v:Int}:v∈xchT F o t↔(v∈F/\v≠o)\/v=t:=by rw[(Bk F o t).mem_iff,Xx,Xm,XF]
section
variable{n:Int}{ps:Aa}{I O F T:Ac}{ld:Option Int}{o t:Int}(g:Zt n ps)
include g
def jR(WX:∀z∈I,0<=z/\z<ps⁻¹)(hF:With n ps I O F)(hu:VC n ps I O F ld=[])(hT:With n ps I O T):T=F\/∃t∈WM n ps I O F,∃o∈Vo n ps I F t,T=xchT F o t:=by
 cases c:∀v∈T,v∈F
 .show .inl (Zn6 g hT.1 hF.1 c)
 .obtain⟨t,ht,hn⟩:∃t,t∈T/\t∉F:=YC λno=>c λv hv=>YC λhn=>no ⟨v,hv,hn⟩;let hto:=ZN9 g WX hT hF.2.1 ht hn
  let alike:∀v∈WM n ps I O F,∃y,ld=some y/\TJ (Xu n.j<|XT ps I) ps v=TJ (Xu n.j<|XT ps I) ps y:=λv hv=>by
   let hm:v∈Sz n ps I O F ld:=YC λno=>by
    have:v∈VC n ps I O F ld:=Yt.H {hv,YK no}
    rw[hu]at this;cases this
   show YH (Yt.E hm).2
  let only:∀v∈T,v∉F->v=t:=λv hv hvn=>by let(y,e1,e2):=alike v (ZN9 g WX hT hF.2.1 hv hvn);let(y',e3,e4):=alike t hto;rw[e1]at e3;cases e3;show Zp9 g WX hT.1 hT.2.1 hv ht (λh=>hvn<|hF.2.1 v h) (λh=>hn<|hF.2.1 t h) (e2.l e4.U)
  let(o,e1,e2):=bZ g hT.1 hF.1 ht hn;let oT:o∉T:=((wU g hT.1).E e1).2.1
  let hM:=o6 g hF.1 e2 (Bk F o t) (Mj F o t);show .inr {t,hto,o,Yt.H {Wi.H ⟨e2.1,e2.2.2⟩,YK λh=>oT<|hT.2.1 o h},Zn6 g hT.1 hM λv hv=>Ww.H ?_};cases cv:v∈F
  .show .inl {cv,λe=>oT<|by rwa[<-e]}
  .show .inr (only v hv cv)
def jQ(hF:With n ps I O F)(ht:t∈WM n ps I O F)(ho:o∈Vo n ps I F t):With n ps I O (xchT F o t):=by
 let(h1,h2):=Yt.E ht;let(hg,_):=YH h2;let(h3,h4):=Yt.E ho;let(h5,h6):=Wi.E h3;let tF:t∉F:=λh=>hg (Yi _ h)
 show vV g hF {h5,λe=>tF (by rwa[e]),h6} (YH h4) (λh=>hg<|Yj _<|Yi _ h) (Bk F o t) (Mj F o t)
end
def RB{I F T:Ac}:T∈Sy n ps I F asc z↔∃o∈Vo n ps I F z,T=xchT F o z:=by
 let h:T∈((Vo n ps I F z).C λo=>xchT F o z)↔∃o∈Vo n ps I F z,T=xchT F o z:=by rw[Yq];exists λzz=>by let(o,h1,h2):=zz;show⟨o,h1,h2.U⟩,λzz=>by let(o,h1,h2):=zz;exists o,h1,h2.U
 unfold Sy;split
 .show h
 .rw[Fs];show h
def Vn{I F T:Ac}:∀{l:Ac}{asc:Bool},T∈Sx n ps I F l asc↔∃z∈l,∃o∈Vo n ps I F z,T=xchT F o z
 |[],_=>{λh=>(by cases h),λzz=>by let(_,h,_):=zz;show(by cases h)}
 |z::l,asc=>by
  change T∈Sy n ps I F asc z++Sx n ps I F l (!asc)↔_;rw[Xx,RB,Vn];constructor
  .rintro(h|⟨z',h1,h2⟩)
   .exists z,Yb,h
   .exists z',Ye _ h1,h2
  .rintro⟨z',h1,h2⟩;rcases Yg.E h1 with e|e
   .show .inl (e▸h2)
   .show .inr ⟨z',e,h2⟩
def jP(ht:t∉F)(e:xchT F o t=xchT F o' t'):t=t':=by
 have:t∈xchT F o' t':=e▸Ww.H (.inr Z)
 rcases Ww.E this with h|h
 .show absurd h.1 ht
 .show h
def jO(ho:o∈F)(ht:t∉F)(e:xchT F o t=xchT F o' t):o=o':=YC λne=>by
 let h1:o∈xchT F o' t:=Ww.H (.inl ⟨ho,ne⟩);rw[<-e]at h1;rcases Ww.E h1 with h|h
 .show h.2 rfl
 .show ht (h▸ho)
def ZM8(hF:F.Nodup)(hz:z∉F):(Sy n ps I F asc z).Nodup:=by
 let hm:∀v∈Vo n ps I F z,v∈F:=λv hv=>(Wi.E (Yt.E hv).1).1;let h:((Vo n ps I F z).C λo=>xchT F o z).Nodup:=by let hd:(Vo n ps I F z).Q (·≠·):=(hF.filter _).filter _;show Sv.H (uS (λ{a b} ha hb VJ e=>VJ<|jO (hm a ha) hz e) hd)
 unfold Sy;split
 .show h
 .show(uz _).nodup_iff.H h
def ZR4(hF:F.Nodup):∀{l:Ac}{asc:Bool},l.Nodup->(∀z∈l,z∉F)->(Sx n ps I F l asc).Nodup
 |[],_,_,_=>.nil
 |z::l,asc,hn,hl=>by
  let(n1,n2):=Qp.E hn;show YM.H {ZM8 hF<|hl z Yb,ZR4 hF n2 λv hv=>hl v<|Ye _ hv,λa ha b hb e=>?_};let(o,_,h1):=RB.E ha;let(z',Bj,o',_,h2):=Vn.E hb;rw[h1,h2]at e
  have:=jP (hl z Yb) e
  show n1 (this▸Bj)
def jN(g:Zt n ps)(WX:∀z∈I,0<=z/\z<ps⁻¹)(hF:With n ps I O F)(hu:VC n ps I O F ld=[])(Ta:∀z,z∈inc↔z∈WM n ps I O F)(hn:inc.Nodup):RowAll n ps I O (vU n ps I F inc):=by
 let Ms:∀z∈inc,z∉F:=λz hz h=>(YH (Yt.E<|(Ta z).E hz).2).1 (Yi _ h);exists Qp.H {λh=>?_,ZR4 hF.1.1.nodup hn Ms},λT=>?_
 .let⟨z,hz,o,_,e⟩:=Vn.E h;show Ms z hz (by rw[e];show Ww.H<|.inr Z)
 .unfold vU;rw[Yg,Vn];constructor
  .rintro(h|⟨z,hz,o,ho,rfl⟩)
   .rw[h];show hF
   .show jQ g hF ((Ta z).E hz) ho
  .intro h;rcases jR g WX hF hu h with e|⟨t,ht,o,ho,e⟩
   .show .inl e
   .show .inr {t,(Ta t).H ht,o,ho,e}
def Zi9{u v i j:Nat}(c:Conn (es++[(u,v)]) i j):Conn es i j\/(Conn es i u/\Conn es v j)\/(Conn es i v/\Conn es u j):=by
 induction c with
 |refl i=>show .inl (.refl i)
 |edge h=>
  rcases Xx.E h with h|h
  .show .inl (.edge h)
  .cases XF.E h;show .inr (.inl {.refl _,.refl _})
 |symm _ ih=>
  rcases ih with a|⟨a,b⟩|⟨a,b⟩
  .show .inl a.U
  .show .inr (.inr ⟨b.U,a.U⟩)
  .show .inr (.inl ⟨b.U,a.U⟩)
 |trans _ _ OU SE=>
  rcases OU with a|⟨a,b⟩|⟨a,b⟩<;>rcases SE with c|⟨c,d⟩|⟨c,d⟩
  .show .inl (a.l c)
  .show .inr (.inl {a.l c,d})
  .show .inr (.inr {a.l c,d})
  .show .inr (.inl {a,b.l c})
  .show .inr (.inl ⟨a,d⟩)
  .show .inl (a.l d)
  .show .inr (.inr {a,b.l c})
  .show .inl (a.l d)
  .show .inr (.inr ⟨a,d⟩)
def Zl8{key:Int->Int}(h:Qe key ns ms):ms.Perm ns:=by
 let(p,h1,_,rfl):=h;let e:(List.range ns.f).C (λi=>ns.t i 0)=ns:=by
  show PR λi=>?_;rw[Yr];cases c:i<ns.f
  .rw[PX c,XH c];change some (ns.t i 0)=_
   rw[Xl,XH c];rfl
  .rw[YJ (by simpa using c),YJ J];rfl
 have:=h1.C λi=>ns.t i 0
 rwa[e]at this
def jM(key:Int->Int)(ns:Ac):∃ms,Qe key ns ms:=by
 let hp:=List.mergeSort_perm (List.range ns.f) λi j=>decide (key (ns.t i 0)<key (ns.t j 0)\/(key (ns.t i 0)=key (ns.t j 0)/\i<=j));let hs:=Fg (le:=λi j=>decide<|key (ns.t i 0)<key (ns.t j 0)\/(key (ns.t i 0)=key (ns.t j 0)/\i<=j)) (λa b c h1 h2=>by simp only[Kq]at *;grind) (λa b=>by simp only[tY,Kq];grind) (List.range ns.f)
 exists _,_,hp,?_,Z;show(hs.and<|hp.nodup_iff.H List.nodup_range).imp λ{a b} h=>?_;let h1:=YH h.1
 let h2:=h.2;change key (ns.t a 0)<key (ns.t b 0)\/(key (ns.t a 0)=key (ns.t b 0)/\a<b)
 grind
def jL(n:Int)(ps:Aa)(I O F:Ac)(ld:Option Int):(VC n ps I O F ld).Q (·<·):=((NK _).filter _).filter _
def Mi(g:Zt n ps)(ld:Option Int)(h:∃U,With n ps I O U):∃F inc fu,PartOk n ps I O ld F inc fu:=by
 let(L,l1,l2):=Ca g;let(U,hU):=h;obtain⟨F,hF,hm⟩:∃F,With n ps I O F/\∀U,With n ps I O U->HT.lexLt U F=false:=by
  let key:∀M:Ab,M.Q ME->(∃U∈M,With n ps I O U)->∃F∈M,With n ps I O F/\∀U∈M,With n ps I O U->HT.lexLt U F=false:=by
   intro M
   induction M with
   |nil=>rintro _ ⟨U,h,_⟩;cases h
   |cons x M ih=>
    intro hp hex;let(p1,p2):=Wd.E hp;cases c:With n ps I O x
    .exists x,Yb,c,λV hV _=>?_;rcases Yg.E hV with e|e
     .rw[e];show o5 x
     .cases q:HT.lexLt V x with
      |false=>rfl
      |true=>
       let z:=cu q (p1 V e);rw[o5]at z;cases z
    .let⟨V,hV,hw⟩:=hex;let(F,hF,a,b):=ih p2 {V,(Yg.E hV).resolve_left λe=>c<|e▸hw,hw};exists F,Ye _ hF,a,λV hV hw=>?_;rcases Yg.E hV with e|e
     .show absurd (e▸hw) c
     .show b V e hw
  let(F,_,a,b):=key L l2 {U,(l1 U).H hU.1,hU};exists F,a,λV hV=>b V ((l1 V).H hV.1) hV
 let(inc,hi):=jM (λz=>PyProof.Rows.b2i<|decide<|ld=some z) (Sz n ps I O F ld);let Sd:=jL n ps I O F ld
 cases hu:VC n ps I O F ld with
 |nil=>exists F,inc,none,hF,hm,hi,{λ_=>hu,λ_=>rfl},λy h=>by cases h
 |cons y l=>
  rw[hu]at Sd;exists F,inc,some y,hF,hm,hi,{λh=>(by cases h),λh=>(by rw[hu]at h;cases h)},λv h=>?_;cases h;rw[hu];exists Yb,λv hv=>?_;rcases Yg.E hv with e|e
  .rw[e];show PH _
  .show GQ ((Wd.E Sd).1 v e)
inductive RowR(n:Int)(ps:Aa):Nat->Ac->Ac->Option Int->Ab->Prop
 |und {d:Nat} {I O F inc:Ac} {ld:Option Int}:PartOk n ps I O ld F inc none->inc.f<=30->(∀z∈inc,z∉F/\0<=z/\z<ps⁻¹)->RowR n ps d I O ld (vU n ps I F inc)
 |div {d:Nat} {I O F inc:Ac} {z y:Int} {A B:Ab}:PartOk n ps I O (some z) F inc (some y)->(I++[z]).Nodup->(∀v∈I++[z],0<=v/\v<ps⁻¹)->(∀v∈I++[z],v∉O)->(O++[z]).f<=30->(∃U,With n ps (I++[z]) O U)->(∃U,With n ps I (O++[z]) U)->0<=y->y<ps⁻¹->PC n ps I (O++[z]) A.f->RowR n ps d I (O++[z]) (some y) A->RowR n ps d (I++[z]) O (some y) B->RowR n ps (d+1) I O (some z) (A++B.reverse)
def Zk8{key:Int->Int}(h:Qe key ns ms)(h':Qe key ns ms'):ms=ms':=by
 let(p,h1,h2,rfl):=h;let(p',Gi,jK,rfl):=h';let e:p=p':=eM (le:=Ahd λi=>key<|ns.t i 0) (λa b _ _ x y=>by unfold Ahd at x y;omega) h2 jK (h1.l Gi.U)
 rw[e]
def PartOk.uniq{n:Int}{ps:Aa}{I O F F' inc VY:Ac}{ld fu Gb:Option Int}(h1:PartOk n ps I O ld F inc fu)(h2:PartOk n ps I O ld F' VY Gb):F=F'/\inc=VY/\fu=Gb:=by
 let eF:F=F':=IZ (h2.least F h1.tr) (h1.least F' h2.tr);subst eF;exists Z,Zk8 h1.inc h2.inc,?_;cases fu with
 |none=>
  cases Gb with
  |none=>rfl
  |some y=>
   have:=(h2.some y Z).1
   rw[h1.none.E Z]at this;cases this
 |some y=>
  cases Gb with
  |none=>
   have:=(h1.some y Z).1
   rw[h2.none.E Z]at this;cases this
  |some y'=>
   let(a1,a2):=h1.some y rfl;let(b1,b2):=h2.some y' rfl
   have:=a2 y' b1
   have:=b2 y a1
   rw[show y=y' by omega]
def RowW(n:Int)(ps:Aa)(R:Ab):(Prop):=∃ld F inc fu,PartOk n ps [] [] ld F inc fu/\(ld=none↔WM n ps [] [] F=[])/\(∀y,ld=some y->y∈WM n ps [] [] F/\∀z∈WM n ps [] [] F,y<=z)/\RowR n ps 31 [] [] ld R/\TC n ps R.f
section
variable{n:Int}{ps:Aa}{I O F:Ac}{y z:Int}(g:Zt n ps)
include g
def Ii(WX:∀v∈I,0<=v/\v<ps⁻¹):z∈WM n ps I O F↔(0<=z/\z<ps⁻¹)/\z∉I/\z∉O/\z∉F/\¬Conn (XT ps I) (Zo ps z).1 (Zo ps z).2:=by
 unfold WM Ml;rw[Yt,XO,Qs];constructor
 .rintro⟨h,h1,h2⟩;let a:=TM (z:=z) g h.1 h.2
  exists h,λq=>h1<|Yj _<|Yj _ q,λq=>h1<|Yj _<|Yi _ q,λq=>h1<|Yi _ q,λc=>h2<|(QV (ZE g WX) a.1 a.2).H c
 .rintro⟨h,h1,h2,h3,h4⟩;let a:=TM (z:=z) g h.1 h.2
  exists h,λq=>?_,λe=>h4<|(QV (ZE g WX) a.1 a.2).E e;rcases Xx.E q with q|q
  .rcases Xx.E q with q|q
   .show h1 q
   .show h2 q
  .show h3 q
def Zc8(WX:∀v∈I,0<=v/\v<ps⁻¹)(hF:With n ps I O F)(hz:z∈WM n ps I O F):∃U,With n ps (I++[z]) O U:=by
 let((z0,z1),zI,zO,zF,hc):=(Ii g WX).E hz;obtain⟨o,ho,hoI⟩:∃o,o∈SF n ps F z F/\o∉I:=YC λno=>hc ((Dk g hF.1 z0 z1).mono (ZV λv hv=>YC λh=>no ⟨v,hv,h⟩));let(h5,h6):=Wi.E ho;let he:exg n ps F o z:={h5,λe=>zF (by rwa[e]),h6}
 let hw:=vV g hF he hoI zO (Bk F o z) (Mj F o z);exists xchT F o z,hw.1,λv hv=>?_,hw.2.2;rcases Xx.E hv with hv|hv
 .show hw.2.1 v hv
 .rw[XF.E hv];show Ww.H (.inr Z)
def jJ(WX:∀v∈I,0<=v/\v<ps⁻¹)(y0:0<=y/\y<ps⁻¹)(z0:0<=z/\z<ps⁻¹)(h:(Conn (XT ps I) (Zo ps y).1 (Zo ps z).1/\Conn (XT ps I) (Zo ps z).2 (Zo ps y).2)\/(Conn (XT ps I) (Zo ps y).1 (Zo ps z).2/\Conn (XT ps I) (Zo ps z).1 (Zo ps y).2)):TJ (Xu n.j (XT ps I)) ps y=TJ (Xu n.j (XT ps I)) ps z:=by
 let Wu:=ZE g WX;let a:=TM (z:=y) g y0.1 y0.2
 let b:=TM (z:=z) g z0.1 z0.2;rw[<-QV Wu a.1 b.1,<-QV Wu b.2 a.2,<-QV Wu a.1 b.2,<-QV Wu b.1 a.2]at h;change(min (mk (Xu n.j<|XT ps I) (Zo ps y).1)<|mk (Xu n.j<|XT ps I) (Zo ps y).2,max (mk (Xu n.j<|XT ps I) (Zo ps y).1)<|mk (Xu n.j<|XT ps I) (Zo ps y).2)=(min (mk (Xu n.j<|XT ps I) (Zo ps z).1)<|mk (Xu n.j<|XT ps I) (Zo ps z).2,max (mk (Xu n.j<|XT ps I) (Zo ps z).1)<|mk (Xu n.j<|XT ps I) (Zo ps z).2)
 rcases h with ⟨e1,e2⟩|⟨e1,e2⟩
 .rw[e1,<-e2]
 .rw[e1,<-e2,Int.min_comm,Int.max_comm]
end
section
variable{n:Int}{ps:Aa}(g:Zt n ps)
include g
def Bi(d:Nat)(hP:PartOk n ps I O ld F inc fu)(WX:∀v∈I,0<=v/\v<ps⁻¹)(hu:VC n ps I O F ld=[]):∃R,RowR n ps d I O ld R/\RowAll n ps I O R:=by
 let rfl:=hP.none.H hu;let hp:=Zl8 hP.inc
 let Vq:(Sz n ps I O F ld).Nodup:=((((NK _).imp λh e=>by lia:(Xh ps.f).Nodup)).filter _).filter _;let Ta:∀z,z∈inc↔z∈WM n ps I O F:=λz=>by
  rw[hp.mem_iff];constructor
  .show λh=>(Yt.E h).1
  .intro h;show YC λno=>?_
   have:z∈VC n ps I O F ld:=Yt.H {h,YK no}
   rw[hu]at this;cases this
 let hlen:inc.f<=30:=by rw[hp.length_eq];show YE (YT ..) (YE (jW _ _ _ _) g.2.2.1)
 exists _,.und hP hlen λz hz=>by let(h1,_,_,h2,_):=(Ii g WX).E ((Ta z).E hz);show⟨h2,h1⟩,jN g WX hP.tr hu Ta<|hp.nodup_iff.H Vq
def Bh:∀d I O F inc ld fu,PartOk n ps I O ld F inc fu->I.Nodup->(∀v∈I,0<=v/\v<ps⁻¹)->(∀v∈I,v∉O)->O.Nodup->(∀v∈O,0<=v/\v<ps⁻¹)->(ld=none->WM n ps I O F=[])->(∀z,ld=some z->z∈WM n ps I O F)->ps.f<=d+I.f+O.f->∃R,RowR n ps d I O ld R/\RowAll n ps I O R:=by
 intro d
 induction d with
 |zero=>
  intro I O F inc ld fu hP hIn WX TY vT vS _ _ hm;show Bi g 0 hP WX ?_;let Ms:WM n ps I O F=[]:=fe.H λz hz=>by
   let(h1,h2,h3,_):=(Ii g WX).E hz;let nd:(z::(I++O)).Nodup:=Qp.H {λh=>(Xx.E h).elim h2 h3,YM.H {hIn,vT,λa ha b hb e=>TY a ha<|e▸hb}}
   have:=IW (m:=Xh ps.f) nd λv hv=>XO.H (by
    rcases Yg.E hv with e|e
    .rw[e];show h1
    .show(Xx.E e).elim (WX v) (vS v))
   rw[ZB,Yv,XB]at this;lia
  unfold VC;rw[Ms];rfl
 |succ d ih=>
  intro I O F inc ld fu hP hIn WX TY vT vS NG Us hm;cases hu:VC n ps I O F ld=[]
  .show Bi g _ hP WX hu
  obtain⟨y,rfl⟩:∃y,fu=some y:=by
   cases fu with
   |none=>show absurd (hP.none.E Z) hu
   |some y=>exists y,Z
  let(yu,_):=hP.some y rfl;let(yo,ya):=Yt.E yu;let ya:=YH ya
  obtain⟨z,rfl⟩:∃z,ld=some z:=by
   cases ld with
   |none=>rw[NG Z]at yo;cases yo
   |some z=>exists z,Z
  let zo:=Us z rfl;let(Bg,yI,yO,yF,yc):=(Ii g WX).E yo;let(jI,zI,zO,zF,zc):=(Ii g WX).E zo;let XM:TJ (Xu n.j<|XT ps I) ps y≠TJ (Xu n.j<|XT ps I) ps z:=λe=>ya (Yt.H {yo,YK ⟨z,Z,e⟩})
  let yz:y≠z:=λe=>XM (by rw[e]);let hIz:(I++[z]).Nodup:=YM.H {hIn,tG,λa ha b hb e=>zI<|by rwa[<-XF.E hb,<-e]}
  let hOz:(O++[z]).Nodup:=YM.H {vT,tG,λa ha b hb e=>zO<|by rwa[<-XF.E hb,<-e]};let Ih:∀v∈I++[z],0<=v/\v<ps⁻¹:=λv hv=>(Xx.E hv).elim (WX v) λh=>by rwa[XF.E h]
  let Bf:∀v∈O++[z],0<=v/\v<ps⁻¹:=λv hv=>(Xx.E hv).elim (vS v) λh=>by rwa[XF.E h]
  let Ox:(O++[z]).f<=30:=by
   have:=IW (m:=Xh ps.f) hOz λv hv=>XO.H (Bf v hv)
   rw[ZB]at this
   have:=g.2.2.1
   lia
  let Be:∀v∈I++[z],v∉O:=λv hv=>(Xx.E hv).elim (TY v) λh=>by rwa[XF.E h]
  let jH:∀v∈I,v∉O++[z]:=λv hv h=>(Xx.E h).elim (TY v hv) λh=>zI (by rwa[<-XF.E h]);let(s1,s2):=Zb7 g hP.tr hP.least zF;let(F1,Mh,vR,IF):=Mi g (some y) ⟨F,s1⟩;let e1:F1=F:=IZ (s2 F1 IF.tr) (IF.least F s1)
  subst e1;let hW:=Zc8 g WX hP.tr zo
  let(F2,Ig,jG,Ie):=Mi g (some y) hW;let yF2:y∉F2:=λh=>(Zc7 g hP.tr hP.least Ie.tr Ie.least y h).elim yF yz
  let(A,Ln,SG):=ih I (O++[z]) F1 Mh (some y) vR IF hIn WX jH hOz Bf (λh=>by cases h) (λv h=>by cases h;show(Ii g WX).H {Bg,yI,λh=>(Xx.E h).elim yO λh=>yz<|XF.E h,yF,yc}) (by rw[XB,Yo];lia)
  let(B,cP,OY):=ih (I++[z]) O F2 Ig (some y) jG Ie hIz Ih Be vT vS (λh=>by cases h) (λv h=>by
   cases h;show(Ii g Ih).H {Bg,λh=>(Xx.E h).elim yI λh=>yz<|XF.E h,yO,yF2,λc=>?_};let e:XT ps (I++[z])=XT ps I++[((Zo ps z).1,(Zo ps z).2)]:=Yp
   rw[e]at c;rcases Zi9 c with h|h
   .show yc h
   .show XM<|jJ g WX Bg jI h) (by rw[XB,Yo];lia)
  exists _,.div hP hIz Ih Be Ox hW ⟨F1,s1⟩ Bg.1 Bg.2 SG.pc Ln cP,ZB6 SG OY
def Bc(h:∃U,Zn n ps U):∃R,RowW n ps R/\R.Nodup/\∀T,T∈R↔Zn n ps T:=by
 let(U,hU):=h;let hw:∀T,With n ps [] [] T↔Zn n ps T:=λT=>{λh=>h.1,λh=>{h,λz q=>(by cases q),λz q=>(by cases q)}}
 let(F,_,_,hP0):=Mi g none {U,(hw U).H hU};let Sd:(WM n ps [] [] F).Q (·<·):=(NK _).filter _
 obtain⟨ld,h1,h2⟩:∃ld:Option Int,(ld=none↔WM n ps [] [] F=[])/\∀y,ld=some y->y∈WM n ps [] [] F/\∀z∈WM n ps [] [] F,y<=z:=by
  cases ho:WM n ps [] [] F with
  |nil=>exists none,{λ_=>rfl,λ_=>rfl},λy h=>by cases h
  |cons y l=>
   rw[ho]at Sd;exists some y,{λh=>(by cases h),λh=>(by cases h)},λv h=>?_;cases h;exists Yb,λv hv=>?_;rcases Yg.E hv with e|e
   .rw[e];show PH _
   .show GQ ((Wd.E Sd).1 v e)
 let(F',inc,fu,hP):=Mi g ld {U,(hw U).H hU};let eF:F'=F:=IZ (hP0.least F' hP.tr) (hP.least F hP0.tr)
 subst eF;let(R,r1,r2):=Bh g 31 [] [] F' inc ld fu hP .nil (λv h=>by cases h) (λv h=>by cases h) .nil (λv h=>by cases h) (λe=>h1.E e) (λz e=>(h2 z e).1) (by have:=g.2.2.1;simp;lia);exists R,{ld,F',inc,fu,hP,h1,h2,r1,R,r2.1,λl=>(r2.2 l).l (hw l),Z},r2.1,λT=>(r2.2 T).l (hw T)
end
def jF{mg:Af}:FnOk P w K mg base Xo k f fd ps λ_ _ _ _=>False:={λ_ _ _ _ h=>h.elim,λ_ _ _ _ _ _ _ _ _ _ _ _ _ h=>h.elim}
def jE{l:Ac}{ld Ga:Option Int}(h1:ld=none↔l=[])(h2:∀y,ld=some y->y∈l/\∀z∈l,y<=z)(Gi:Ga=none↔l=[])(jK:∀y,Ga=some y->y∈l/\∀z∈l,y<=z):ld=Ga:=by
 cases ld with
 |none=>show(Gi.H<|h1.E Z).U
 |some y=>
  cases Ga with
  |none=>show absurd (h1.H<|Gi.E Z) tG
  |some y'=>
   let(a1,a2):=h2 y rfl;let(b1,b2):=jK y' rfl
   have:=a2 y' b1
   have:=b2 y a1
   rw[show y=y' by lia]
end My
namespace L2
open PySem PySem.Spec PyProof.Rows
def RA{N P:List Str}{sc:Scope}(h:sc.kind=.function/\sc.isCoroutine=false/\sc.isGenerator=false/\N.Nodup/\N.X P.f=P/\(∀x∈P,sc.names.L x=some .local\/sc.names.L x=some .cell)/\∀y∈sc.names,y.2≠.free):FnScope N P sc:=⟨h.1,h.2.1,h.2.2.1,h.2.2.2.1,h.2.2.2.2.1,h.2.2.2.2.2.1,h.2.2.2.2.2.2⟩
structure DfA(K:Ad)(mg:Af)(x:Str)(st:Stmt)(f:Addr)(fd:FuncData)(ps:List Str):Prop where
 fn:Fun K x x st f fd
 bi:Binds K fd ps []
 mm:mg x=some ↑f
def Xv{X:Cx}{CX:Qm}{k m:Nat}{f:Addr}{fd:FuncData}{ps:List Str}{sp:Sp}{x:Str}{st:Stmt}{e:Expr}{es:List Expr}{t:TA}{p pos:Pos}{E:XK}(F:FnOk X.prog X.w X.K X.mg X.base CX k f fd ps sp)(hr:Room m X.A)(d:DfA X.K X.mg x st f fd ps)(hx:Rf CX X E)(ha:PA X (e::es) t)(hk:k<=m:=by decide)(hg:Gl X x:=by show Z)(Tv:(x == ("__debug__":Str))=false:=by decide)(he:starEach (e::es) X.R=(false,eval e X.R)::starEach es X.R:=by rfl)(Wc:(backTo pos<|starEach es X.R).any (·.1)=false:=by rfl):PE X (.Call (.Name x p) (e::es) [] pos) (Eu sp [] E t):=
 JC F (hr.mono hk) hg d.mm d.fn.kp d.bi .nil hx ha Tv he Wc
def vQ(N P:List Str)(sc:Scope):(Prop):=sc.kind=.function/\sc.isCoroutine=false/\sc.isGenerator=false/\N.Nodup/\N.X P.f=P/\(∀x∈P,sc.names.L x=some .local\/sc.names.L x=some .cell)/\∀y∈sc.names,y.2≠.free
instance (N P:List Str) (sc:Scope):Decidable (vQ N P sc):=by unfold vQ;infer_instance
section
variable{P:Program}{w:World}{K:Ad}{mg:Af}{base:Heap}{x:Str}{st:Stmt}{f:Addr}{fd:FuncData}{ps:List Str}{k:Nat}{sp:Sp}
abbrev Xg(P:Program)(w:World)(base:Heap)(CX:Qm)(_:DfA K mg x st f fd ps)(k:Nat)(sp:Sp):Prop:=FnOk P w K mg base CX k f fd ps sp
def DfA.okI(q:DfA K mg x st f fd ps)(N:List Str)(AP:vQ N ps (Zc st))
  (VR:∀XD A outer s H vs Q E,Room k (A.deeper<|envOfC x (Zc st) (~~~s) f XD)->sp vs H Q E->
   ∃t,PSs (Uh Xo P w K mg base N x (Zc st) f XD A outer s H E).nox (Ra st) t/\t {nx:=λ_ H'=>Q .non H',rt:=Q} (start N vs) H) (len:∀vs H Q E,sp vs H Q E->vs.f=ps.f:=by intro _ _ _ _ h;cases h;subst_vars;rfl):Xg P w base Xo q (k+1) sp:=q.fn.ok (RA AP) len VR
def DfA.ok(q:DfA K mg x st f fd ps)(N:List Str)(AP:vQ N ps (Zc st))(len:∀vs H Q E,sp vs H Q E->vs.f=ps.f)
  (VR:∀XD A outer s H vs Q E,Room k (A.deeper<|envOfC x (Zc st) (~~~s) f XD)->sp vs H Q E->
   ∃t,PSs (Uh Xo P w K mg base N x (Zc st) f XD A outer s H E).nox (Ra st) t/\t {nx:=λ_ H'=>Q .non H',rt:=Q} (start N vs) H):Xg P w base Xo q (k+1) sp:=q.fn.ok (RA AP) len VR
end
end L2
namespace My
open PySem L2
def FQ(K:Ad)(mg:Af)(x:Str)(st:Stmt)(ps:List Str):(Prop):=∃f fd,DfA K mg x st f fd ps
def Bb{K:Ad}{h:Heap}{mg:Af}{x:Str}{st:Stmt}{ps:List Str}{f:Addr}{oc:Value}{od an:Option Addr}{TQ:Array (Option Value)}{kV doc pm XD ct:Value}(X:K.In h)(G:h.Ns mainGlobals mg)
  (a:PySem.W.nsIn K mainGlobals x=some (some<|.ref f))(l:K.L f=some {oc,od,.func<|PySem.W.fnOf x x (Lx st) (Ra st) (Zc st) .none kV doc pm an XD ct,TQ})(c:PySem.W.codeIn K XD x=true)(k:PySem.W.keepIn K ↑f=true)
  (b:∀kV doc pm an XD ct us,us.f=ps.f->bindArgs (PySem.W.fnOf x x (Lx st) (Ra st) (Zc st) .none kV doc pm an XD ct) {us,[]}=pure (ps.zip us)):FQ K mg x st ps:=
 {f,_,MR l c k,(MR l c k).binds b,Ng X G a}
def jD:(List Str):=["count","cheapest"]
def jC:(List Str):=["tree","row","rank"]
def jB:(List Str):=["number","place","next","share"]
def isN(w:Str):(Bool):=kH w.cps.toList
def Ba(x0:Str)(r:List Str):(Prop):=(x0∈jD/\r.f+1=1)\/(x0∈jC/\r.f+1=2/\r.all isN=true)\/(x0∈jB/\1<r.f+1/\(r=[("-":Str)]\/r.all isN=true))
instance:Decidable (Ba x0 r):=by unfold Ba;infer_instance
def WZ(f:Int->Int)(t:Int):(Int):=2*t+f t
def Xe(f:Int->Int)(t:Int):(Int):=2*t+1-f t
def WL(p k:Nat):(Nat):=(k+(p-1))%p
def WT(p k:Nat):(Nat):=(k+1)%p
def jA{p k:Nat}(hp:0<p)(hk:k<p):WT p (WL p k)=k:=by
 unfold WT WL;cases c:k=0
 .subst c;rw[SU,SW (show p-1<p by lia),Nat.sub_add_cancel hp,Sq]
 .rw[show k+(p-1)=(k-1)+p by lia,JX,SW (show k-1<p by lia),Nat.sub_add_cancel (show 1<=k by lia),SW hk]
def ZF9{p k:Nat}(hp:0<p)(hk:k<p):WL p (WT p k)=k:=by
 unfold WT WL;cases c:k+1=p
 .rw[c,Sq,SU,SW (show p-1<p by lia)];lia
 .rw[SW (by lia:k+1<p),show k+1+(p-1)=k+p by lia,JX,SW hk]
def vP{p k:Nat}(hp:0<p):WL p k<p:=Um _ hp
def AZ{p k:Nat}(hp:0<p):WT p k<p:=Um _ hp
def Rz(f:Int->Int)(a b:Ac):(Ac):=a.C (WZ f)++b.reverse.C (Xe f)
def VM(f:Int->Int)(Bs:Ab):(Ab):=(List.range Bs.f).C λk=>Rz f (Bs.t k []) (Bs.t (WL Bs.f k) [])
structure RingB(f:Int->Int)(Bs:Ab)(ps:Aa):Prop where
 two:2<=Bs.f
 flip:∀t,f t=0\/f t=1
 ne:∀l∈Bs,l≠[]
 all:Bs.D.Perm (Xh ps.f)
 ends:∀(k:Nat)(l:Ac),Bs[k]?=some l->∀t∈l,ps[t.j]?=some (if f t=0 then ((k:Int),(WT Bs.f k:Int)) else ((WT Bs.f k:Int),(k:Int)))
section
variable{f:Int->Int}{Bs:Ab}{ps:Aa}
def Ic(h:∀t,f t=0\/f t=1)(t:Int):WD (WZ f t)=Xe f t:=by unfold WD WZ Xe;rcases h t with e|e<;>rw[e]<;>split<;>lia
def AY(h:∀t,f t=0\/f t=1)(t:Int):WD (Xe f t)=WZ f t:=by rw[<-Ic h,OG]
def AX(h:∀t,f t=0\/f t=1){s t:Int}(e:WZ f s=WZ f t):s=t:=by unfold WZ at e;rcases h s with a|a<;>rcases h t with b|b<;>lia
def AW(h:∀t,f t=0\/f t=1){s t:Int}(e:Xe f s=Xe f t):s=t:=by unfold Xe at e;rcases h s with a|a<;>rcases h t with b|b<;>lia
def KJ(h:∀t,f t=0\/f t=1){s t:Int}:WZ f s≠Xe f t:=λe=>by
 unfold WZ Xe at e;cases c:s=t
 .subst c;rcases h s with a|a<;>lia
 .rcases h s with a|a<;>rcases h t with b|b<;>lia
def KI(h:∀t,f t=0\/f t=1){t:Int}{m:Nat}(ht:0<=t/\t<(m:Int)):0<=WZ f t/\WZ f t<2*(m:Int):=by unfold WZ;rcases h t with a|a<;>lia
def AV(h:∀t,f t=0\/f t=1){t:Int}{m:Nat}(ht:0<=t/\t<(m:Int)):0<=Xe f t/\Xe f t<2*(m:Int):=by unfold Xe;rcases h t with a|a<;>lia
def ZV6(h:∀t,f t=0\/f t=1)(x:Int):x=WZ f (x/2)\/x=Xe f (x/2):=by unfold WZ Xe;rcases h (x/2) with a|a<;>lia
def RingB.rng(R:RingB f Bs ps){k:Nat}{l:Ac}(hl:Bs[k]?=some l){t:Int}(ht:t∈l):0<=t/\t<ps⁻¹:=
 XO.E (R.all.mem_iff.E<|Wq.H {l,Xr hl,ht})
def RingB.has(R:RingB f Bs ps){t:Int}(ht:0<=t/\t<ps⁻¹):∃(k:Nat)(l:Ac),Bs[k]?=some l/\t∈l:=by let(l,hl,hm):=Wq.E (R.all.mem_iff.H<|XO.H ht);let(k,hk):=Yz hl;exists k,l,hk,hm
def RingB.nd(R:RingB f Bs ps):Bs.D.Nodup:=R.all.nodup_iff.H (QI<|NK _)
def RingB.own(R:RingB f Bs ps){k:Nat}{l:Ac}(hl:Bs[k]?=some l){t:Int}(ht:t∈l):WV ps (WZ f t)=k/\WV ps (Xe f t)=WT Bs.f k:=by
 let(t0,t1):=R.rng hl ht;let e:=R.ends k l hl t ht
 let g:ps.t t.j (0,0)=(if f t=0 then ((k:Int),(WT Bs.f k:Int)) else ((WT Bs.f k:Int),(k:Int))):=by rw[Xl,e];rfl
 unfold WV WZ Xe;rcases R.flip t with a|a
 .rw[if_pos a]at g;rw[a,show(2*t+0)/2=t by lia,show(2*t+1-0)/2=t by lia,if_pos J,if_neg J,g];exists Z,Z
 .rw[if_neg J]at g;rw[a,show(2*t+1)/2=t by lia,show(2*t+1-1)/2=t by lia,if_neg J,if_pos J,g];exists Z,Z
def jz(h:∀t,f t=0\/f t=1){a b:Ac}(ha:a.Nodup)(hb:b.Nodup):(Rz f a b).Nodup:=by
 unfold Rz;show YM.H {?_,?_,λx hx y hy e=>?_}
 .unfold List.Nodup;rw[Sv];show ha.imp λn e=>n (AX h e)
 .unfold List.Nodup;rw[Sv];show((uz b).nodup_iff.H hb).imp λn e=>n (AW h e)
 .let⟨s,_,rfl⟩:=Yq.E hx;let(t,_,rfl):=Yq.E hy;show KJ h e
def jy{L:Ab}(h:L.D.Nodup){l:Ac}(hl:l∈L):l.Nodup:=by let(s,t,rfl):=yg hl;rw[PV,YZ]at h;show(YM.E (YM.E h).2.1).1
def Ib{k:Nat}(hk:k<Bs.f):(VM f Bs)[k]?=some (Rz f (Bs.t k []) (Bs.t (WL Bs.f k) [])):=by unfold VM;rw[Yr,PX hk];rfl
def QC{k:Nat}(hk:k<Bs.f):Bs[k]?=some (Bs.t k []):=by rw[Xl,XH hk];rfl
def jx(R:RingB f Bs ps):VT Bs.f ps (VM f Bs):=by
 let hp:=R.two;show{by unfold VM;rw[Xz,YO],λk row hk=>?_};let OA:k<Bs.f:=by
  have:=(Xy.E hk).1
  unfold VM at this;rwa[Xz,YO]at this
 rw[Ib OA]at hk;let rfl:=Yc hk;let h1:=QC OA
 let h2:=QC (vP (p:=Bs.f) (k:=k) J);show(Vm (jz R.flip (jy R.nd<|Xr h1)<|jy R.nd<|Xr h2)<|QI wm).H λx=>?_;rw[BM];unfold Rz;rw[Xx,Yq,Yq];constructor
 .rintro(⟨t,ht,rfl⟩|⟨t,ht,rfl⟩)
  .exists KI R.flip<|R.rng h1 ht,(R.own h1 ht).1
  .let ht:=Fs.E ht;exists AV R.flip<|R.rng h2 ht,?_;rw[(R.own h2 ht).2,jA J OA]
 .rintro⟨hx,ho⟩;let(j,l,hj,ht):=R.has (t:=x/2) J;let Qh:=(Xy.E hj).1
  rcases ZV6 R.flip x with e|e
  .rw[e,(R.own hj ht).1]at ho
   have:j=k:=J
   subst this;rw[hj]at h1;rw[<-Yc h1];show .inl {x/2,ht,e.U}
  .rw[e,(R.own hj ht).2]at ho;let e2:WT Bs.f j=k:=J
   let e3:WL Bs.f k=j:=by rw[<-e2,ZF9 J Qh]
   rw[e3]at h2 ⊢;rw[hj]at h2;rw[<-Yc h2];show .inr {x/2,Fs.H ht,e.U}
def ZX2(R:RingB f Bs ps):Th Bs.f ps:=by
 let hp:=R.two;let step:∀k,k+1<Bs.f->Conn (XT ps<|Xh ps.f) k (k+1):=λk hk=>by
  let h1:=QC (Bs:=Bs) (k:=k) J;cases e:Bs.t k [] with
  |nil=>show absurd e (R.ne _<|Xr h1)
  |cons t r=>
   rw[e]at h1;let ht:t∈t::r:=Yb
   let hr:=R.rng h1 ht;let ee:=R.ends k _ h1 t ht
   let en:WT Bs.f k=k+1:=SW hk;let hm:((ps.t t.j (0,0)).1.j,(ps.t t.j (0,0)).2.j)∈XT ps (Xh ps.f):=Yq.H {t,XO.H hr,Z}
   rw[Xl,ee,en]at hm;rcases R.flip t with a|a
   .rw[if_pos a]at hm;show .edge hm
   .rw[if_neg J]at hm;show .symm (.edge hm)
 let key:∀k,k<Bs.f->Conn (XT ps<|Xh ps.f) 0 k:=λk=>by
  induction k with
  |zero=>intro _;show .refl 0
  |succ k ih=>intro hk;show(ih J).l (step k hk)
 intro i j hi hj;show(key i J).U.l (key j J)
end
def JagAt.off{H0 H:Hp}{r g:Addr}{ys:List V}{L:Ab}{o:HO}(h:JagAt H0 r H ys L)(hr:g≠r)(hn:V.ref g∉ys):JagAt H0 r (upd H g o) ys L:=by
 show{by rw[XR (YY hr)];show h.tab,{h.rows.1,λi l e=>?_},h.nd,h.new};let(v,hv,A,rfl,h1,h2):=h.rows.2 i l e;exists _,hv,A,Z,?_,h2;rw[XR]
 .show h1
 .intro z;subst z;show hn (Xr hv)
def VX(f:Int->Int):(Ac->Ab)
 |[]=>[]
 |[_]=>[]
 |a::b::r=>[Xe f a,WZ f b]::VX f (b::r)
def Ia(f:Int->Int)(Bs:Ab):(Ab):=(Bs.C λl=>WZ f<|l.headD 0)::(Bs.C λl=>Xe f<|l.getLastD 0).reverse::Bs.flatMap (VX f)
section
variable{f:Int->Int}{Bs:Ab}{ps:Aa}
def AU:∀l:Ac,l≠[]->(VX f l).f+1=l.f
 |[],h=>absurd Z h
 |[_],_=>rfl
 |a::b::r,_=>by
  have:=AU (b::r) tG
  change(VX f<|b::r).f+1+1=(b::r).f+1;lia
def AS:∀(l row:Ac),row∈VX f l->∃s a b t,l=s++a::b::t/\row=[Xe f a,WZ f b]
 |[],_,h=>by cases h
 |[_],_,h=>by cases h
 |a::b::r,row,h=>by
  rcases Yg.E h with e|e
  .exists [],a,b,r,Z,e
  .let⟨s,x,y,t,h1,h2⟩:=AS (b::r) row e;exists a::s,x,y,t,by rw[h1];rfl,h2
def Zo5(x:Int):∀l:Ac,l≠[]->[WZ f (l.headD 0)].count x+[Xe f (l.getLastD 0)].count x+(VX f l).D.count x=(l.C (WZ f)).count x+(l.C (Xe f)).count x
 |[],h=>absurd Z h
 |[a],_=>rfl
 |a::b::r,_=>by
  let ih:=Zo5 x (b::r) tG;let e1:(a::b::r).getLastD 0=(b::r).getLastD 0:=rfl
  rw[e1];change [WZ f a].count x+[Xe f ((b::r).getLastD 0)].count x+(Xe f a::WZ f b::(VX f<|b::r).D).count x=(WZ f a::(b::r).C (WZ f)).count x+(Xe f a::(b::r).C (Xe f)).count x
  let ih:[WZ f b].count x+[Xe f ((b::r).getLastD 0)].count x+(VX f<|b::r).D.count x=((b::r).C (WZ f)).count x+((b::r).C (Xe f)).count x:=ih;let c1:∀(u:Int)(l:Ac),(u::l).count x=[u].count x+l.count x:=λu l=>by rw[<-Tz];rfl
  rw[c1 (Xe f a),c1 (WZ f b) (VX f<|b::r).D,c1 (WZ f a)<|List.C (WZ f)<|b::r,c1 (Xe f a) (List.C (Xe f)<|b::r)];lia
def jw(h:∀l∈Bs,l≠[]):(Ia f Bs).D.Perm (Bs.D.C (WZ f)++Bs.D.C (Xe f)):=by
 show List.perm_iff_count.H λx=>?_;let key:(Bs.C λl=>WZ f<|l.headD 0).count x+(Bs.C λl=>Xe f<|l.getLastD 0).count x+(Bs.flatMap<|VX f).D.count x=(Bs.D.C<|WZ f).count x+(Bs.D.C<|Xe f).count x:=by
  induction Bs with
  |nil=>rfl
  |cons l Bs ih=>
   let ih:=ih λm hm=>h m (Ye _ hm);let g:=Zo5 (f:=f) x l (h l Yb)
   let c1:∀(u:Int)(l:Ac),(u::l).count x=[u].count x+l.count x:=λu l=>by rw[<-Tz];rfl
   rw[YD,YD,ye,PV,YZ,Yp,Yp,c1<|WZ f<|l.headD 0,c1<|Xe f<|l.getLastD 0,Tz,Tz,Tz];lia
 change((Bs.C λl=>WZ f<|l.headD 0)++((Bs.C λl=>Xe f<|l.getLastD 0).reverse++(Bs.flatMap<|VX f).D)).count x=_;rw[Tz,Tz,Tz,List.count_reverse];lia
def AR(h:∀l∈Bs,l≠[]):(Ia f Bs).f+Bs.f=Bs.D.f+2:=by
 let key:(Bs.flatMap<|VX f).f+Bs.f=Bs.D.f:=by
  induction Bs with
  |nil=>rfl
  |cons l Bs ih=>
   let ih:=ih λm hm=>h m (Ye _ hm);let g:=AU (f:=f) l (h l Yb)
   rw[ye,XB,YZ,XB,Yv];lia
 change(Bs.flatMap<|VX f).f+1+1+Bs.f=_;lia
def vN{k:Nat}(hk:k<Bs.f):Rz f (Bs.t k []) (Bs.t (WL Bs.f k) [])∈VM f Bs:=Xr (Ib hk)
def AQ{l:Ac}(h:l≠[]):∃t,l=l.headD 0::t:=by
 cases l with
 |nil=>show absurd Z h
 |cons a t=>exists t,Z
def Zy9{l:Ac}(h:l≠[]):∃s,l=s++[l.getLastD 0]:=by
 exists l.dropLast,?_;let e:=uW h
 let e2:l.getLastD 0=l.getLast h:=by rw[List.getLastD_eq_getLast?,List.getLast?_eq_some_getLast h];rfl
 rw[e2];show e.U
def RingB.lst(R:RingB f Bs ps){k:Nat}(hk:k<Bs.f):Bs.t k []≠[]:=R.ne _ (Xr<|QC hk)
def AO(R:RingB f Bs ps){k:Nat}(hk:k<Bs.f):(WZ f ((Bs.t (WL Bs.f k) []).headD 0),WZ f ((Bs.t k []).headD 0))∈WC (VM f Bs):=by
 let m:=vN (f:=f) hk;let(t,e):=AQ (R.lst hk);let(t',e'):=AQ (R.lst<|vP (p:=Bs.f) (k:=k) J);generalize Bs.t k []=l at *;generalize Bs.t (WL Bs.f k) []=l' at *;let h:=OE m (a:=Xe f<|l'.headD 0) (b:=WZ f<|l.headD 0) (.inr {{l.C (WZ f)++t'.reverse.C (Xe f),?_},t.C (WZ f)++l'.reverse.C (Xe f),?_})
 .rw[AY R.flip]at h;show h
 .unfold Rz
  conv=>lhs;rw[e']
  rw[GY,Yp,YG];rfl
 .unfold Rz
  conv=>lhs;rw[e]
  rfl
def KH(R:RingB f Bs ps){k:Nat}(hk:k<Bs.f):(Xe f ((Bs.t k []).getLastD 0),Xe f ((Bs.t (WL Bs.f k) []).getLastD 0))∈WC (VM f Bs):=by
 let m:=vN (f:=f) hk;let(s,e):=Zy9 (R.lst hk);let(s',e'):=Zy9 (R.lst<|vP (p:=Bs.f) (k:=k) J);generalize Bs.t k []=l at *;generalize Bs.t (WL Bs.f k) []=l' at *;let h:=OE m (a:=WZ f<|l.getLastD 0) (b:=Xe f<|l'.getLastD 0) (.inl {s.C<|WZ f,s'.reverse.C<|Xe f,?_})
 .rw[Ic R.flip]at h;show h
 .unfold Rz
  conv=>lhs;rw[e,e']
  rw[List.reverse_append,Yp,YG];rfl
def jv(R:RingB f Bs ps){k:Nat}(hk:k<Bs.f){s t:Ac}{a b:Int}(e:Bs.t k []=s++a::b::t):(Xe f a,WZ f b)∈WC (VM f Bs)/\(WZ f b,Xe f a)∈WC (VM f Bs):=by
 let m1:=vN (f:=f) hk;let m2:=vN (f:=f) (AZ (p:=Bs.f) (k:=k) J)
 rw[ZF9 J hk]at m2;rw[e]at m1 m2;exists ?_,?_
 .let h:=OE m1 (a:=WZ f a) (b:=WZ f b) (.inl {s.C<|WZ f,t.C (WZ f)++(Bs.t (WL Bs.f k) []).reverse.C (Xe f),?_})
  .rw[Ic R.flip]at h;show h
  .unfold Rz;rw[Yp,YG];rfl
 .let h:=OE m2 (a:=Xe f b) (b:=Xe f a) (.inl {(Bs.t (WT Bs.f k) []).C (WZ f)++t.reverse.C (Xe f),s.reverse.C<|Xe f,?_})
  .rw[AY R.flip]at h;show h
  .unfold Rz;rw[List.reverse_append,GY,GY];simp only[Yp,YG,YD,Fl,Ko,Uo]
def ju{p k:Nat}(hk:k+1<p):WL p (k+1)=k:=by unfold WL;rw[show k+1+(p-1)=k+p by lia,JX,SW J]
def jt{p:Nat}(hp:0<p):WL p 0=p-1:=by unfold WL;rw[SU,SW J]
def Ow{g:Ac->Int}{i:Nat}{x:Int}(h:(Bs.C g)[i]?=some x):i<Bs.f/\x=g (Bs.t i []):=by
 let hi:i<Bs.f:=by
  have:=(Xy.E h).1
  rwa[Xz]at this
 rw[Yr,QC hi]at h;exists hi,(Yc h).U
def js(R:RingB f Bs ps):OP (WC (VM f Bs)) (2*ps.f) (Ia f Bs):=by
 let hp:=R.two;let KG:=(jw (f:=f) R.ne).l ((R.all.C<|WZ f).append (R.all.C<|Xe f))
 let Vq:(Ia f Bs).D.Nodup:=by
  show KG.nodup_iff.H (YM.H {?_,?_,λx hx y hy e=>?_})
  .unfold List.Nodup;rw[Sv];show(QI<|NK ps.f).imp λn e=>n (AX R.flip e)
  .unfold List.Nodup;rw[Sv];show(QI<|NK ps.f).imp λn e=>n (AW R.flip e)
  .let⟨s,_,rfl⟩:=Yq.E hx;let(t,_,rfl):=Yq.E hy;show KJ R.flip e
 let nd:∀row∈Ia f Bs,row.Nodup:=λrow h=>jy Vq h;exists λrow UD=>?_,Vq,λx=>?_
 .let FZ:=nd row UD;let AM:row∈(Bs.C λl=>WZ f<|l.headD 0)::(Bs.C λl=>Xe f<|l.getLastD 0).reverse::Bs.flatMap (VX f):=UD
  rcases Yg.E AM with e|h2
  .rw[e]at FZ ⊢;exists λz=>?_,FZ,λi x y h1 h2=>?_,λx hx y hy=>?_
   .have:=XG List.f z
    rw[Xz]at this;simp at this;rw[this]at hp;simp at hp
   .let⟨i1,rfl⟩:=Ow h1;let(i2,rfl):=Ow h2
    have:=AO R i2
    rwa[ju i2]at this
   .rw[FI,Xz]at hx;rw[FF]at hy;let(i1,rfl):=Ow hx;let(i2,rfl):=Ow hy
    have:=AO R i2
    rwa[jt J]at this
  rcases Yg.E h2 with e|h3
  .rw[e]at FZ ⊢;let rev:∀{i:Nat}{x:Int},((Bs.C λl=>Xe f<|l.getLastD 0).reverse)[i]?=some x->i<Bs.f/\x=Xe f ((Bs.t (Bs.f-1-i) []).getLastD 0):=λ{i x} h=>by let hi:=(Xy.E h).1;rw[YX,Xz]at hi;rw[FC (by rwa[Xz]),Xz]at h;exists hi,(Ow h).2
   exists λz=>?_,FZ,λi x y h1 h2=>?_,λx hx y hy=>?_
   .have:=XG List.f z
    rw[YX,Xz]at this;simp at this;rw[this]at hp;simp at hp
   .let⟨i1,rfl⟩:=rev h1;let(i2,rfl):=rev h2
    have:=KH R (k:=Bs.f-1-i) J
    rwa[show Bs.f-1-i=(Bs.f-1-(i+1))+1 by lia,ju J,<-show Bs.f-1-i=(Bs.f-1-(i+1))+1 by lia]at this
   .rw[FI,YX,Xz]at hx;rw[FF]at hy;let(i1,rfl):=rev hx;let(i2,rfl):=rev hy
    have:=KH R (k:=0) J
    rw[jt J]at this;rwa[show Bs.f-1-(Bs.f-1)=0 by lia,show Bs.f-1-0=Bs.f-1 by lia]
  .let⟨l,hl,hg⟩:=x6.E h3;let(k,hk):=Yz hl;let OA:=(Xy.E hk).1
   let(s,a,b,t,e1,rfl):=AS l row hg;let eb:Bs.t k []=s++a::b::t:=by rw[<-e1,Xl,hk];rfl
   let(g1,g2):=jv R OA eb;exists tG,FZ,λi x y h1 h2=>?_,λx hx y hy=>?_
   .let hi:=(Xy.E h2).1;let hi:i+1<2:=hi
    let rfl:i=0:=J;let rfl:=Yc h1;let rfl:=Yc h2;show g1
   .let rfl:=Yc hx;let rfl:=Yc hy;show g2
 .rw[KG.mem_iff,Xx,Yq,Yq];constructor
  .rintro(⟨t,ht,rfl⟩|⟨t,ht,rfl⟩)
   .have:=KI R.flip (XO.E ht);lia
   .have:=AV R.flip (XO.E ht);lia
  .intro hx;let hr:x/2∈Xh ps.f:=XO.H J
   rcases ZV6 R.flip x with e|e
   .show .inl {x/2,hr,e.U}
   .show .inr {x/2,hr,e.U}
def RingB.len(R:RingB f Bs ps):Bs.D.f=ps.f:=by rw[R.all.length_eq,ZB]
def Zx8(R:RingB f Bs ps):FlatM Bs.f ps (VM f Bs):=by
 exists ZX2 R,.inr {Ia f Bs,js R,?_}
 have:=AR (f:=f) R.ne
 have:=R.len
 lia
end
def jr(u v i j:Nat):ind v u i*ind v u j=ind u v i*ind u v j:=by unfold ind;grind
def jq{ps qs:Aa}(h:ps.Perm qs)(i j:Nat):lapE (Xk ps) i j=lapE (Xk qs) i j:=by
 induction h with
 |nil=>rfl
 |cons x _ ih=>rw[QJ,QJ,ih]
 |swap x y l=>rw[QJ,QJ,QJ,QJ];lia
 |trans _ _ h1 h2=>rw[h1,h2]
def Zg7{u v:Nat}(qs:Aa)(i j:Nat)(r:Aa)(h:∀e∈r,e=((u:Int),(v:Int))\/e=((v:Int),(u:Int))):lapE (Xk (qs++r)) i j=lapE (Xk qs) i j+r⁻¹*(ind u v i*ind u v j):=by
 induction r generalizing qs with
 |nil=>rw[Yy];change _=_+(0:Int)*_;rw[PK,TV]
 |cons e r ih=>
  let e1:qs++e::r=(qs++[e])++r:=by rw[YG];rfl
  rw[e1,ih _ λx hx=>h x<|Ye _ hx,av,Yv];let e2:ind e.1.j e.2.j i*ind e.1.j e.2.j j=ind u v i*ind u v j:=by
   rcases h e Yb with z|z<;>subst z
   .change ind (u:Int).j (v:Int).j i*ind (u:Int).j (v:Int).j j=_;rw[Yf,Yf]
   .change ind (v:Int).j (u:Int).j i*ind (v:Int).j (u:Int).j j=_;rw[Yf,Yf];show jr u v i j
  rw[e2];generalize ind u v i*ind u v j=z;change _+z+r⁻¹*z=_+((r.f+1:Nat):Int)*z
  rw[t8,GO,Int.natCast_one,UW];lia
section
variable{f:Int->Int}{Bs:Ab}{ps:Aa}
def UQ(Bs:Ab)(k:Nat):(Int):=((Bs.t k []).f:Int)
def Zu8(R:RingB f Bs ps):(Bs.D.C λt=>ps.t t.j (0,0)).Perm ps:=by
 let e:(Xh ps.f).C (λt=>ps.t t.j (0,0))=ps:=by
  apply PR;intro i;unfold Xh;rw[Rq,Yr];cases h:i<ps.f
  .rw[PX h,XH h];change some (ps.t (i:Int).j (0,0))=_
   rw[Yf,Xl,XH h];rfl
  .rw[YJ (by rw[YO];lia),YJ J];rfl
 have:=R.all.C λt=>ps.t t.j (0,0)
 rwa[e]at this
def AL(R:RingB f Bs ps)(i j:Nat):lapE (Xk ps) i j=lapE (Xk (ND 0 (Bs.f-1) (UQ Bs) Bs.f)) i j:=by
 let hp:=R.two;rw[<-jq (Zu8 R)];let key:∀k,k<=Bs.f->lapE (Xk<|(Bs.X k).D.C λt=>ps.t t.j (0,0)) i j=lapE (Xk<|ND 0 (Bs.f-1) (UQ Bs) k) i j:=λk=>by
  induction k with
  |zero=>intro _;rfl
  |succ k ih=>
   intro hk;let hb:=QC (Bs:=Bs) (k:=k) J
   let en:WT Bs.f k=(k+1)%(Bs.f-1+1):=by unfold WT;rw[show Bs.f-1+1=Bs.f by lia]
   let es:UQ Bs k=((Bs.t k []).f:Int):=rfl;rw[YS,hb];change lapE (Xk<|((Bs.X k)++[Bs.t k []]).D.C λt=>ps.t t.j (0,0)) i j=lapE (Xk<|ND 0 (Bs.f-1) (UQ Bs) k++List.M (UQ Bs k).j (((0+k:Nat):Int),((0+(k+1)%(Bs.f-1+1):Nat):Int))) i j
   rw[PV,Yp,Fd,Zg7 (u:=k) (v:=WT Bs.f k) _ i j _ λe he=>?_,Zg7 (u:=k) (v:=WT Bs.f k) _ i j _ λe he=>?_,ih J,Xz,Yw,es,Yf]
   .rw[FH he,SU,SU,en];show .inl rfl
   .let⟨t,ht,rfl⟩:=Yq.E he
    have:=R.ends k _ hb t ht
    rw[Xl,this];change(if f t=0 then _ else _)=_\/(if f t=0 then _ else _)=_
    cases c:f t=0
    .rw[if_pos c];show .inl rfl
    .rw[if_neg c];show .inr rfl
 have:=key Bs.f (Ya _)
 rwa[YI]at this
def jo(g:Zt Bs.f ps)(R:RingB f Bs ps){c:Nat}(h:TC Bs.f ps c):(c:Int)=NF (UQ Bs) (Bs.f-1):=by
 let hp:=R.two;let g1:Zt 1 []:={tI,tI,tI,λp hp=>(by cases hp)}
 let hm:=Zv8 g1 (m:=Bs.f-1) (a:=UQ Bs) λi hi=>by
  have:=R.lst (k:=i) J
  have:=List.length_pos_iff.H this
  change(1:Int)<=((Bs.t i []).f:Int);lia
 rw[Zd9 g h];let e1:(Bs⁻¹-1).j=((1:Int)+((Bs.f-1:Nat):Int)-1).j:=J
 rw[e1];let e2:det ((1:Int)+((Bs.f-1:Nat):Int)-1).j (lapE<|Xk ps)=det ((1:Int)+((Bs.f-1:Nat):Int)-1).j (lapE<|Xk<|[]++ND ((1:Int)-1).j (Bs.f-1) (UQ Bs) (Bs.f-1+1)):=by show Zg λi j _ _=>?_;rw[AL R,show Bs.f-1+1=Bs.f by lia];rfl
 rw[e2,hm];change(1:Int)*_=_
 rw[UW]
end
def jn{D E:Ac}(hD:D.Q (·<·))(hE:E.Q (·<·))(h:∀z,z∈D↔z∈E):D=E:=
 eM (le:=(·<·)) (λa b _ _ x y=>J) hD hE ((Vm (QI hD)<|QI hE).H h)
def AK{m:Nat}{D T:Ac}(hD:D.Q (·<·))(h:∀z,z∈D↔(0<=z/\z<(m:Int))/\z∉T):D=Wr m T:=
 jn hD (wd m T) λz=>(h z).l Xi.U
section
variable{n n':Int}{ps qs:Aa}
def jm(g:Zt n ps)(g':Zt n' qs)(hl:qs.f=ps.f)(ho:Orth ps qs)(hj:Th n ps)(To:Th n' qs)(he:n-ps⁻¹+n'=2){z:Int}{c:Nat}(hz:0<=z/\z<ps⁻¹)(h:PC n' qs [z] [] c):PC n ps [] [z] c:=by
 let(L,nd,mem,rfl):=h;let st:∀U∈L,IsSet ps.f U:=λU hU=>by rw[<-hl];show((mem U).E hU).1.1
 exists L.C<|Wr ps.f,?_,λT=>?_,Xz _
 .unfold List.Nodup;rw[Sv];show uS (λ{a b} ha hb n e=>n ?_) nd;rw[<-KN (st a ha),e,KN (st b hb)]
 .rw[Yq];constructor
  .rintro⟨U,hU,rfl⟩;let(u1,u2,_):=(mem U).E hU;exists (ZW7 g g' hl ho hj To he<|aa _ _).H (by rwa[KN (st U hU)]),λy hy=>(by cases hy),λy hy hc=>?_;rw[XF.E hy]at hc;show(Xi.E hc).2 (u2 z<|XF.H Z)
  .rintro⟨h1,_,h3⟩;exists Wr ps.f T,(mem _).H {(ZW7 g g' hl ho hj To he h1.1).E h1,λy hy=>?_,λy hy=>(by cases hy)},KN h1.1;rw[XF.E hy];show Xi.H {hz,h3 z<|XF.H Z}
def Zm8{c e d p q r s:Int}(h1:QK c d p q)(h2:QK e d r s)(h:c+e=d)(hd:0<d):p*s+r*q=q*s:=by
 let(_,_,a):=h1;let(_,_,b):=h2;show uV (a:=d) J ?_;let e1:d*(p*s+r*q)=(p*d)*s+(r*d)*q:=tL
 rw[e1,a,b,<-h];grind
end
def top(i:Nat):(Stmt):=PySem.Challenge.pw_spanrow_k97_whole_rings_of_bundles.main.body.t i (.Pass ⟨0,0,0,0⟩)
abbrev sZ2:Stmt:=Ly (top 14) 0
abbrev sZI:Stmt:=Ly (top 64) 0
abbrev sZY:Stmt:=top 83
set_option genInjectivity false in
structure Adr where
 (aZ0 aZ1 aZ2 aZ3 aZ4 aZ5 aZ6 aZ7 aZ8 aZ9 aZa aZb aZc aZd aZe aZf aZg aZh aZi aZj aZk aZl aZm aZn aZo aZp aZq aZr aZs aZt aZu aZv aZw aZx aZy aZz aZA aZB aZC aZD aZE aZF aZG aZH aZI aZJ aZK aZL aZM aZN aZO aZP aZQ aZR aZS aZT aZU aZV aZW aZX aZY A_Web A_Part:Addr)
 (dZ0 dZ1 dZ2 dZ3 dZ4 dZ5 dZ6 dZ7 dZ8 dZ9 dZa dZb dZc dZd dZe dZf dZg dZh dZi dZj dZk dZl dZm dZn dZo dZp dZq dZr dZs dZt dZu dZv dZw dZx dZy dZz dZA dZB dZC dZD dZE dZF dZG dZH dZI dZJ dZK dZL dZM dZN dZO dZP dZQ dZR dZS dZT dZU dZV dZW dZX dZY:FuncData)
def Txt(K:Ad)(mg:Af)(t:Adr):(Prop):=(((((((DfA K mg "is_tie" (top 16) t.aZ0 t.dZ0 ["web","number"]/\DfA K mg "refuse_bad_web" (top 15) t.aZ1 t.dZ1 ["places","ties"])/\Fun K "__init__" "Web.__init__" sZ2 t.aZ2 t.dZ2)/\((Binds K t.dZ2 ["self","places","ties"] []/\DfA K mg "all_ties" (top 17) t.aZ3 t.dZ3 ["web"])/\DfA K mg "ties_beside" (top 18) t.aZ4 t.dZ4 ["web","ties"]))/\(((DfA K mg "ties_without" (top 19) t.aZ5 t.dZ5 ["ties","left_out"]/\DfA K mg "is_set" (top 20) t.aZ6 t.dZ6 ["web","ties"])/\DfA K mg "made_set" (top 21) t.aZ7 t.dZ7 ["web","ties"])/\((DfA K mg "merged_marks" (top 22) t.aZ8 t.dZ8 ["web","marks","ties"]/\DfA K mg "piece_marks" (top 23) t.aZ9 t.dZ9 ["web","ties"])/\DfA K mg "pieces_of" (top 24) t.aZa t.dZa ["web","ties"])))/\((((DfA K mg "is_joined" (top 25) t.aZb t.dZb ["web","ties"]/\DfA K mg "refuse_parted" (top 26) t.aZc t.dZc ["web"])/\DfA K mg "is_tree" (top 28) t.aZd t.dZd ["web","ties"])/\((DfA K mg "refuse_no_tree" (top 29) t.aZe t.dZe ["web","tree"]/\DfA K mg "grown_tree" (top 30) t.aZf t.dZf ["web","inside","order"])/\DfA K mg "tree_cut" (top 31) t.aZg t.dZg ["web","tree","tie"]))/\(((DfA K mg "ring_of" (top 32) t.aZh t.dZh ["web","tree","tie"]/\DfA K mg "darts_away" (top 34) t.aZi t.dZi ["web"])/\DfA K mg "refuse_bad_turns" (top 35) t.aZj t.dZj ["web","turns"])/\((DfA K mg "back_dart" (top 36) t.aZk t.dZk ["dart"]/\DfA K mg "darts_behind" (top 37) t.aZl t.dZl ["turns"])/\DfA K mg "round_from" (top 38) t.aZm t.dZm ["behind","start"]))))/\(((((DfA K mg "rounds_of" (top 39) t.aZn t.dZn ["web","turns"]/\DfA K mg "lies_flat" (top 40) t.aZo t.dZo ["web","turns"])/\DfA K mg "round_numbers" (top 41) t.aZp t.dZp ["rounds"])/\((DfA K mg "other_web" (top 42) t.aZq t.dZq ["web","turns"]/\DfA K mg "left_of" (top 43) t.aZr t.dZr ["web","tree"])/\DfA K mg "refuse_not_square" (top 45) t.aZs t.dZs ["table"]))/\(((DfA K mg "row_taken_off" (top 46) t.aZt t.dZt ["row","pivot","last"]/\DfA K mg "first_with_some" (top 47) t.aZu t.dZu ["rows"])/\DfA K mg "determinant" (top 48) t.aZv t.dZv ["table"])/\((DfA K mg "row_without" (top 49) t.aZw t.dZw ["row","number"]/\DfA K mg "table_without" (top 50) t.aZx t.dZx ["table","number"])/\DfA K mg "common_divisor" (top 51) t.aZy t.dZy ["one","other"])))/\((((DfA K mg "fraction" (top 52) t.aZz t.dZz ["top","bottom"]/\DfA K mg "weighted_table" (top 54) t.aZA t.dZA ["web","weights"])/\DfA K mg "pull_table" (top 55) t.aZB t.dZB ["web"])/\((DfA K mg "tree_count" (top 56) t.aZC t.dZC ["web"]/\DfA K mg "part_count" (top 57) t.aZD t.dZD ["web","inside","outside"])/\DfA K mg "least_in" (top 59) t.aZE t.dZE ["web","inside","outside"]))/\(((DfA K mg "refuse_below_nought" (top 60) t.aZF t.dZF ["number"]/\DfA K mg "end_pieces" (top 62) t.aZG t.dZG ["web","marks","tie"])/\DfA K mg "open_ties" (top 63) t.aZH t.dZH ["web","marks","gone"])/\(Fun K "__init__" "Part.__init__" sZI t.aZI t.dZI/\Binds K t.dZI ["self","web","kept","shut","lead"] [])))))/\((((((DfA K mg "whole_part" (top 65) t.aZJ t.dZJ ["web"]/\DfA K mg "half_without" (top 66) t.aZK t.dZK ["part"])/\DfA K mg "half_with" (top 67) t.aZL t.dZL ["part"])/\((DfA K mg "part_size" (top 68) t.aZM t.dZM ["part"]/\DfA K mg "trees_with_tie" (top 69) t.aZN t.dZN ["part","into"])/\DfA K mg "undivided_row" (top 70) t.aZO t.dZO ["part"]))/\(((DfA K mg "trees_between" (top 71) t.aZP t.dZP ["part","size","start","stop"]/\DfA K mg "row_from" (top 72) t.aZQ t.dZQ ["web","number","most"])/\DfA K mg "row_at" (top 73) t.aZR t.dZR ["web","number"])/\((DfA K mg "share_of" (top 75) t.aZS t.dZS ["web","ties"]/\DfA K mg "_law_mixed" (top 78) t.aZT t.dZT ["cell","k"])/\DfA K mg "_law_bundles" (top 79) t.aZU t.dZU ["cell"])))/\((((DfA K mg "_law_due" (top 81) t.aZV t.dZV ["bundles"]/\DfA K mg "_law_made" (top 80) t.aZW t.dZW ["bundles","cell"])/\DfA K mg "_law_other_good" (top 82) t.aZX t.dZX ["web","turns","cell","many"])/\((DfA K mg "law" sZY t.aZY t.dZY ["script"]/\mg "Web"=some (.ref t.A_Web))/\Cls K t.A_Web))/\(((Mk K t.A_Web t.aZ2/\NoAttr K t.A_Web "places")/\NoAttr K t.A_Web "ties")/\(mg "Part"=some (.ref t.A_Part)/\Cls K t.A_Part))))/\(((((Mk K t.A_Part t.aZI/\NoAttr K t.A_Part "web")/\NoAttr K t.A_Part "kept")/\((NoAttr K t.A_Part "shut"/\NoAttr K t.A_Part "lead")/\NoAttr K t.A_Part "least"))/\(((NoAttr K t.A_Part "incoming"/\NoAttr K t.A_Part "further")/\(∃tk,mg "MOST_PLACES"=some (.int 14 tk)))/\(((∃tk,mg "MOST_TIES"=some (.int 30 tk))/\mg "abs"=none)/\mg "enumerate"=none)))/\((((mg "len"=none/\mg "list"=none)/\mg "max"=none)/\((mg "min"=none/\mg "range"=none)/\mg "reversed"=none))/\(((mg "set"=none/\mg "sorted"=none)/\mg "sum"=none)/\(mg "tuple"=none/\mg "zip"=none))))))
section
variable(T:Txt K mg t)
def Txt.qZ0:=T.1.1.1.1.1.1.1
def Txt.qZ1:=T.1.1.1.1.1.1.2
def Txt.fZ2:=T.1.1.1.1.1.2
def Txt.bZ2:=T.1.1.1.1.2.1.1
def Txt.qZ3:=T.1.1.1.1.2.1.2
def Txt.qZ4:=T.1.1.1.1.2.2
def Txt.qZ5:=T.1.1.1.2.1.1.1
def Txt.qZ6:=T.1.1.1.2.1.1.2
def Txt.qZ7:=T.1.1.1.2.1.2
def Txt.qZ8:=T.1.1.1.2.2.1.1
def Txt.qZ9:=T.1.1.1.2.2.1.2
def Txt.qZa:=T.1.1.1.2.2.2
def Txt.qZb:=T.1.1.2.1.1.1.1
def Txt.qZc:=T.1.1.2.1.1.1.2
def Txt.qZd:=T.1.1.2.1.1.2
def Txt.qZe:=T.1.1.2.1.2.1.1
def Txt.qZf:=T.1.1.2.1.2.1.2
def Txt.qZg:=T.1.1.2.1.2.2
def Txt.qZh:=T.1.1.2.2.1.1.1
def Txt.qZi:=T.1.1.2.2.1.1.2
def Txt.qZj:=T.1.1.2.2.1.2
def Txt.qZk:=T.1.1.2.2.2.1.1
def Txt.qZl:=T.1.1.2.2.2.1.2
def Txt.qZm:=T.1.1.2.2.2.2
def Txt.qZn:=T.1.2.1.1.1.1.1
def Txt.qZo:=T.1.2.1.1.1.1.2
def Txt.qZp:=T.1.2.1.1.1.2
def Txt.qZq:=T.1.2.1.1.2.1.1
def Txt.qZr:=T.1.2.1.1.2.1.2
def Txt.qZs:=T.1.2.1.1.2.2
def Txt.qZt:=T.1.2.1.2.1.1.1
def Txt.qZu:=T.1.2.1.2.1.1.2
def Txt.qZv:=T.1.2.1.2.1.2
def Txt.qZw:=T.1.2.1.2.2.1.1
def Txt.qZx:=T.1.2.1.2.2.1.2
def Txt.qZy:=T.1.2.1.2.2.2
def Txt.qZz:=T.1.2.2.1.1.1.1
def Txt.qZA:=T.1.2.2.1.1.1.2
def Txt.qZB:=T.1.2.2.1.1.2
def Txt.qZC:=T.1.2.2.1.2.1.1
def Txt.qZD:=T.1.2.2.1.2.1.2
def Txt.qZE:=T.1.2.2.1.2.2
def Txt.qZF:=T.1.2.2.2.1.1.1
def Txt.qZG:=T.1.2.2.2.1.1.2
def Txt.qZH:=T.1.2.2.2.1.2
def Txt.fZI:=T.1.2.2.2.2.1
def Txt.bZI:=T.1.2.2.2.2.2
def Txt.qZJ:=T.2.1.1.1.1.1.1
def Txt.qZK:=T.2.1.1.1.1.1.2
def Txt.qZL:=T.2.1.1.1.1.2
def Txt.qZM:=T.2.1.1.1.2.1.1
def Txt.qZN:=T.2.1.1.1.2.1.2
def Txt.qZO:=T.2.1.1.1.2.2
def Txt.qZP:=T.2.1.1.2.1.1.1
def Txt.qZQ:=T.2.1.1.2.1.1.2
def Txt.qZR:=T.2.1.1.2.1.2
def Txt.qZS:=T.2.1.1.2.2.1.1
def Txt.qZT:=T.2.1.1.2.2.1.2
def Txt.qZU:=T.2.1.1.2.2.2
def Txt.qZV:=T.2.1.2.1.1.1.1
def Txt.qZW:=T.2.1.2.1.1.1.2
def Txt.qZX:=T.2.1.2.1.1.2
def Txt.qZY:=T.2.1.2.1.2.1.1
def Txt.c_Web:=T.2.1.2.1.2.1.2
def Txt.cl_Web:=T.2.1.2.1.2.2
def Txt.k_Web:=T.2.1.2.2.1.1.1
def Txt.n_Web_places:=T.2.1.2.2.1.1.2
def Txt.n_Web_ties:=T.2.1.2.2.1.2
def Txt.c_Part:=T.2.1.2.2.2.1
def Txt.cl_Part:=T.2.1.2.2.2.2
def Txt.k_Part:=T.2.2.1.1.1.1.1
def Txt.n_Part_web:=T.2.2.1.1.1.1.2
def Txt.n_Part_kept:=T.2.2.1.1.1.2
def Txt.n_Part_shut:=T.2.2.1.1.2.1.1
def Txt.n_Part_lead:=T.2.2.1.1.2.1.2
def Txt.n_Part_least:=T.2.2.1.1.2.2
def Txt.n_Part_incoming:=T.2.2.1.2.1.1.1
def Txt.n_Part_further:=T.2.2.1.2.1.1.2
def Txt.g_MOST_PLACES:=T.2.2.1.2.1.2
def Txt.g_MOST_TIES:=T.2.2.1.2.2.1.1
def Txt.n_abs:=T.2.2.1.2.2.1.2
def Txt.n_enumerate:=T.2.2.1.2.2.2
def Txt.n_len:=T.2.2.2.1.1.1.1
def Txt.n_list:=T.2.2.2.1.1.1.2
def Txt.n_max:=T.2.2.2.1.1.2
def Txt.n_min:=T.2.2.2.1.2.1.1
def Txt.n_range:=T.2.2.2.1.2.1.2
def Txt.n_reversed:=T.2.2.2.1.2.2
def Txt.n_set:=T.2.2.2.2.1.1.1
def Txt.n_sorted:=T.2.2.2.2.1.1.2
def Txt.n_sum:=T.2.2.2.2.1.2
def Txt.n_tuple:=T.2.2.2.2.2.1
def Txt.n_zip:=T.2.2.2.2.2.2
end
end My
namespace My
open PySem L2 PyProof.Rows
set_option maxHeartbeats 4000000
section
variable{P:Program}{w:World}{K:Ad}{mg:Af}{base:Heap}{t:Adr}
inductive spZ0(C:Addr)(vs:List V)(H:Hp)(Q:VK)(_:XK):Prop
 |mk (w n ps k:_) (_:vs=[.ref w,.int k]) (_:WebAt C H w n ps) (_:Q (.bl<|decide<|0<=k/\k<ps⁻¹) H)
def AJ(T:Txt K mg t):Xg P w base Xo T.qZ0 1 (spZ0 t.A_Web):=by
 show T.qZ0.okI ["web","number"] tH λXD A outer s H vs Q E hr h=>?_
 .let⟨w,n,ps,k,rfl,⟨dx,tl,xs,h1,h2,h3⟩,q⟩:=h;exists _,(XI<|Zm<|rZ Pr Rh Zd (pv 1)<|Zf (Zh K) tK T.n_len Boot.«len»<|XZ (Zk K (pv 0) Z) XX),?_;exists _,Z,_,_,Z,Z,_,Z,?_;show qK (λhc=>?_) (λhc=>?_)
  .exists _,Z,w,_,dx,_,_,Z,h1,T.cl_Web,T.n_Web_ties,Wf _ _,tl,xs,Z,.inl<|SqL.of h2,_,_,Z,Z,?_;let hc:=YH hc
   change Q (.bl<|decide<|k<xs⁻¹) H;rwa[h3.1,show decide (k<ps⁻¹)=decide (0<=k/\k<ps⁻¹) from by simp[hc]]
  .let hc:¬(0<=k):=λz=>hc (YK z);change Q (.bl false) H
   rwa[show(false:Bool)=decide (0<=k/\k<ps⁻¹) from by simp;lia]
inductive spZ1(K:Ad)(vs:List V)(H:Hp)(Q:VK)(_:XK):Prop
 |mk (n a kd xs ps:_) (_:vs=[.int n,.ref a]) (_:SqK kd K H a xs) (_:PairsV H xs ps) (_:Zt n ps) (_:Q .non H)
def jl(T:Txt K mg t):Xg P w base Xo T.qZ1 1 (spZ1 K):=by
 show T.qZ1.okI ["places","ties","ends","end"] tH λXD A outer s H vs Q E hr h=>?_
 .let⟨n,a,kd,xs,ps,rfl,hS,hp,⟨g1,g2,g3,g4⟩,q⟩:=h;show⟨_,(XQ (Wk (Nf<|dH Pr Pr Zd (pv 0)<|dR (v:=V.int 14) Z T.g_MOST_PLACES.choose_spec {_,Z})
   (XI Vv)
   Zp)
   (XQ (Wk (Zl Pq (Zf (Zh K) tK T.n_len Boot.«len»<|XZ (pv 1) XX) (dR (v:=V.int 30) Z T.g_MOST_TIES.choose_spec {_,Z})<|Zx _)
   (XI Vv)
   Zp)
   (XI (WS YR Z (NO K<|pv 1) (Zb 2)
   (XI (WS YR Z (p6 K<|pv 2) (Zb 3)
   (XI (Wk (Nf<|dH Pr Rh Zd (pv 3)<|pv 0)
   (XI Vv)
   Zp)))))))),?_⟩
  exists _,Z,_,_,Z,Z,_,Z,?_;show xi g1 ?_;exists _,_,Z,Z,_,Z,?_;show Lv g2 ?_;exists _,Z,a,xs,Z,hS.or,_,_,Z,Z,_,Z,?_;show Jo (by rw[hp.1];lia) ?_;exists _,Z,a,Z,Pe (k:=kd) (K:=K) (xs:=xs) (λi σ H2=>∃v v2,σ=[some (.int n),some<|.ref a,v,v2]/\H2=H) ⟨none,none,Z,Z⟩ (λi σ H2 _ zz=>by let(_,_,_,e):=zz;show e▸hS) ?_ ?_
  .rintro i x σ H2 hi ⟨v,v2,rfl,rfl⟩;let(p,Pb,tt,rfl,ht):=hp.at hi;let(e1,e2,e3,e4):=g4 p (Xr Pb);exists _,Z,tt,Z,{_,SqT.of ht},EI (K:=K) (a:=tt) (xs:=[.int p.1,.int p.2]) (λj σ H3=>∃v v2,σ=[some (.int n),some<|.ref a,v,v2]/\H3=H2) {_,_,Z,Z} (λj σ H3 _ zz=>by let(_,_,_,e):=zz;show e▸SqT.of ht) ?_ ?_
   .rintro j y σ H3 hj ⟨v,v2,rfl,rfl⟩;let hy:∃z:Int,y=.int z/\0<=z/\z<n:=by
     match j,hj with
     |0,hj=>exists p.1,(Yc hj).U,e1,e2
     |1,hj=>exists p.2,(Yc hj).U,e3,e4
    let(z,rfl,z1,z2):=hy;exists _,Z,_,_,Z,Z,_,Z,?_;show xi z1 ?_;exists _,Z,_,_,Z,Z,_,Z,?_;show Lv z2 ?_;exists _,_,Z,Z
   .rintro σ H3 ⟨v,v2,rfl,rfl⟩;exists _,_,Z,Z
  .rintro σ H2 ⟨v,v2,rfl,rfl⟩;show q
inductive sp_Web_init(K:Ad)(C:Addr)(vs:List V)(H:Hp)(Q:VK)(_:XK):Prop
 |mk (w dx n a kd xs ps:_) (_:vs=[.ref w,.int n,.ref a]) (_:H w=some (.ins C dx [])) (_:(∀o,SqK kd K (upd H w o) a xs)) (_:PairsV H xs ps) (_:Zt n ps) (_:∀H':Hp,WebAt C H' w n ps->(∀b o,H b=some o->b≠w->H' b=some o)->Q .non H')
def jk:FnScope ["self","places","ties"] ["self","places","ties"] (Zc sZ2):=RA tH
def HZ(T:Txt K mg t):FnOk P w K mg base Xo 2 t.aZ2 t.dZ2 ["self","places","ties"] (sp_Web_init K t.A_Web):=by
 show T.fZ2.ok jk (λvs H Q E h=>?_) (λXD A outer s H vs Q E hr h=>?_)
 .let⟨w,dx,n,a,kd,xs,ps,rfl,_⟩:=h;rfl
 .let⟨w,dx,n,a,kd,xs,ps,rfl,hw,hS,hp,g,q⟩:=h;let eH:upd H w (.ins t.A_Web dx [])=H:=by
   funext b
   cases hb:b=w
   .subst hb;rw[XS,hw]
   .rw[XR hb]
  let Gv:SqK kd K H a xs:=by let z:=hS (.ins t.A_Web dx []);rwa[eH]at z
  show⟨_,(XQ (ZS<|Xv (jl T) hr T.qZ1 Zr<|XZ (pv 1)<|XZ (pv 2) XX)
   (XQ (MY (pv 0) (pv 1) Z)
   (XI<|MY (pv 0) (SI Z (sc0:=Zc sZ2) (N0:=["self","places","ties"]) (N':=["ends"]) (o:=1) (fr:=[]) ⟨Z,tH,tH,tH,Z,tH⟩ (NO K<|pv 2) (Zw tI) (λ_ _ _ _=>(Zb 0)) (λ_ _ _ _=>ZY) λ_ _ _ _=>(Ui<|XZ (ZH (Zy K) (pv 0) Zd λ_ _=>rfl)<|XZ (ZH (Zy K) (pv 0) Zd λ_ _=>rfl) XX)) Z))),?_⟩
  exists _,Z,_,Z,n,a,kd,xs,ps,Z,Gv,hp,g,?_;exists _,Z,_,Z,w,_,dx,[],Z,hw,T.cl_Web,T.n_Web_places,(by change 0<1000;decide),?_;let TK:PairsV (upd H w<|.ins t.A_Web dx<|XN "places" (.int n) []) xs ps:={hp.1,λi p e=>by let(v,e1,tt,e2,e3):=hp.2 i p e;show{v,e1,tt,e2,by rwa[XR (NV e3 hw (λz=>nomatch z))]}}
  let sx:xs.f<sizeLine:=Zi (by rw[hp.1];have:=g.2.2.1;lia);show⟨_,Z,a,Z,DJ (k:=kd) (K:=K) (xs:=xs) (λi ys H2=>i<=xs.f/\ys.f=i/\Same (upd H w<|.ins t.A_Web dx<|XN "places" (.int n) []) H2/\PairsV H2 ys (ps.X i)) {Yk _,Z,Same.refl _,PairsV.nil} sx
   (λi ys H2 _ zz=>by let(_,hl,s2,_):=zz;exists (hS _).Y s2,Nat.le_of_eq hl) ?_ ?_⟩
  .rintro i x ys H2 hi ⟨h1,hl,s2,hy⟩ AP Xj;let(p,Pb,tt,rfl,ht):=TK.at hi;let HY:=s2 _ _ ht
   show cX ?_;exists _,Z,tt,_,0,.int p.1,Z,Z,SqT.of HY,Z,_,Z,tt,_,1,.int p.2,Z,Z,SqT.of HY,Z,(by change 2<=sizeLine;decide),λq hq=>?_;let VW:i<xs.f:=(Xy.E hi).1
   show Xj _ _ {VW,by rw[XB,hl];rfl,ZD s2 hq,?_};rw[YS,Pb];show(hy.Y<|XJ hq).snoc ⟨q,Z,XS⟩
  .rintro ys H2 ⟨_,hl,s2,hy⟩ tl jj;let ji:=s2 w _ XS
   let nwt:w≠tl:=Za ji jj;exists _,Z,w,_,dx,_,Z,(by rwa[XR nwt]),T.cl_Web,T.n_Web_ties,(by change 1<1000;decide),?_;show q _ {dx,tl,ys,XS,by rw[XR (YY nwt),XS],?_} λb ob e hb=>?_
   .let e1:ps.X xs.f=ps:=Vx (by rw[hp.1];show Ya _);rw[e1]at hy;exists hy.1,λi p e=>?_;let(v,e2,tt,e3,e4):=hy.2 i p e;exists v,e2,tt,e3,by rwa[XR (NV e4 ji (λz=>nomatch z)),XR (Za e4 jj)]
   .let e2:=s2 b ob (by rwa[XR hb]);rwa[XR hb,XR (Za e2 jj)]
inductive spZ3(K:Ad)(C:Addr)(vs:List V)(H:Hp)(Q:VK)(_:XK):Prop
 |mk (w n ps:_) (_:vs=[.ref w]) (_:WebAt C H w n ps) (_:ps.f<=1000) (_:∀r H',Same H H'->H r=none->H' r=some (.tup<|IL<|Xh ps.f)->Q ↑r H')
def HX(T:Txt K mg t):Xg P w base Xo T.qZ3 1 (spZ3 K t.A_Web):=by
 show T.qZ3.okI ["web"] tH λXD A outer s H vs Q E hr h=>?_
 .let⟨w,n,ps,rfl,⟨dx,tl,xs,h1,h2,h3⟩,hl,q⟩:=h;exists _,(XI<|Zm<|Zq (Yz3 Z) tK T.n_tuple Boot.«tuple»<|XZ (Zq qq tK T.n_range Boot.«range»<|XZ (Zf (Zh K) tK T.n_len Boot.«len»<|XZ (Zk K (pv 0) Z) XX) XX) XX),?_;let hx:=h3.1
  exists _,Z,w,_,dx,_,_,Z,h1,T.cl_Web,T.n_Web_ties,Wf _ _,tl,xs,Z,.inl<|SqL.of h2,_,Z,λr hr=>{r,0,_,Z,XS,⟨tI,tI,J,J⟩,J,λl hl=>?_};show q l _ (ZD (XJ hr) hl) ((XJ hr).free hl) ?_;rw[XS,hx,cn]
inductive spZ4(K:Ad)(C:Addr)(vs:List V)(H:Hp)(Q:VK)(_:XK):Prop
 |mk (w a n ps kd T:_) (_:vs=[.ref w,.ref a]) (_:WebAt C H w n ps) (_:ps.f<=1000) (_:SqK kd K H a (IL T)) (_:∀D,D.Q (·<·)->(∀z,z∈D↔(0<=z/\z<ps⁻¹)/\z∉T)->∀r H',Same H H'->H' r=some (.tup<|IL D)->Q ↑r H')
def AI(T:Txt K mg t):Xg P w base Xo T.qZ4 1 (spZ4 K t.A_Web):=by
 show T.qZ4.okI ["web","ties"] tH λXD A outer s H vs Q E hr h=>?_
 .let⟨w,a,n,ps,kd,T',rfl,hW,hl,hA,q⟩:=h;exists _,(XI<|Zm<|Zq (ZW K) tK T.n_tuple Boot.«tuple»<|XZ (SI Z (sc0:=Zc<|top 18) (N0:=["web","ties"]) (N':=["tie","ties"]) (o:=1) (fr:=[1]) ⟨Z,tH,tH,tH,Z,tH⟩ (ZJ Z T.n_range<|XZ (Zf (Zh K) tK T.n_len Boot.«len»<|XZ (Zk K (pv 0) Z) XX) XX) (Zw tI) (λ_ _ _ _=>(Zb 0)) (λ_ _ _ _=>(NS<|Zl (DF K) (pv 0) (pv 1) Z)) λ_ _ _ _=>(pv 0)) XX),?_;let(dx,tl,xs,h1,h2,h3):=hW;let MC:=h3.1
  exists _,Z,w,_,dx,_,_,Z,h1,T.cl_Web,T.n_Web_ties,Wf _ _,tl,xs,Z,.inl<|SqL.of h2,_,Z,J,J,DI (lo:=0) (n:=(xs.f:Int).j) (λj ys H3=>H3=H/\∃D:Ac,ys=IL D/\D.f<=j/\D.Q (·<·)/\∀z,z∈D↔(0<=z/\z<(j:Int))/\z∉T') {Z,[],Z,Ya _,.nil,λz=>{λh=>(by cases h),λh=>(by lia)}} (Zi J) (λj ys H3 _ zz=>by let(_,D,e,hl,_):=zz;rwa[e,Xw]) ?_ ?_
  .rintro j ys H3 hj ⟨rfl,D,rfl,hDl,hp,hm⟩ AP Xj;let lt:∀z∈D,z<(j:Int):=λz hz=>((hm z).E hz).1.2
   show nm ?_;exists _,Z,_,Z,a,_,Z,hA.or,Z,Ji _,_,Z,?_;rw[Jj,RR];show WI (λWu=>?_) (λWu=>?_)
   .show Xj _ _ {Z,D,Z,J,hp,λz=>?_};rw[hm z];exists λh=>⟨J,h.2⟩,λh=>{{h.1.1,?_},h.2};cases e:z=(j:Int)
    .show absurd (e▸Wu) h.2
    .lia
   .exists _,Z,Xj _ _ {Z,D++[(j:Int)],?_,by rw[XB];show Nat.succ_le_succ hDl,?_,λz=>?_}
    .rw[ZN]
    .show Nu.H {hp,Hf _ _,λa ha b hb=>by rw[XF.E hb];show lt a ha}
    .rw[Xx,XF,hm z];constructor
     .rintro(⟨f1,f2⟩|h)
      .exists J,f2
      .rw[h];exists J,Wu
     .rintro⟨f1,f2⟩;cases e:z=(j:Int)
      .show .inr e
      .show .inl ⟨J,f2⟩
  rintro ys H3 ⟨rfl,D,rfl,hDl,hp,hm⟩ la Mg;rw[show(((xs.f:Int).j:Nat):Int)=ps⁻¹ by lia]at hm;exists la,_,Z,.inl {SqL.of XS,λtp htp=>?_};show q D hp hm tp _ ((XJ Mg).l (XJ htp)) XS
inductive spZ5(K:Ad)(vs:List V)(H:Hp)(Q:VK)(_:XK):Prop
 |mk (a kd ns z:_) (_:vs=[.ref a,.int z]) (_:SqK kd K H a (IL ns)) (_:ns.f<=1000) (_:∀r H',Same H H'->H r=none->H' r=some (.tup<|IL<|wo ns z)->Q ↑r H')
def AH(T:Txt K mg t):Xg P w base Xo T.qZ5 1 (spZ5 K):=by
 show T.qZ5.okI ["ties","left_out"] tH λXD A outer s H vs Q E hr h=>?_
 .let⟨a,kd,ns,z,rfl,hS,hn,q⟩:=h;exists _,(XI<|Zm<|Zq (ZW K) tK T.n_tuple Boot.«tuple»<|XZ (SI Z (sc0:=Zc<|top 19) (N0:=["ties","left_out"]) (N':=["tie","left_out"]) (o:=1) (fr:=[1]) ⟨Z,tH,tH,tH,Z,tH⟩ (NO K<|pv 0) (Zw tI) (λ_ _ _ _=>(Zb 0)) (λ_ _ _ _=>(NS<|Zl SQ (pv 0) (pv 1)<|Zx _)) λ_ _ _ _=>(pv 0)) XX),?_;show⟨_,Z,a,Z,DJ (k:=kd) (K:=K) (xs:=IL ns) (λi ys H2=>H2=H/\i<=ns.f/\ys=IL (wo (ns.X i) z)) {Z,Yk _,Z} (Zi<|by rw[Xw];lia)
   (λi ys H2 hi zz=>by let(e,Vs,ey):=zz;show{e▸hS,by rw[ey,Xw];show YE (Dy _ _)<|by rw[YB];lia}) ?_ ?_⟩
  .rintro i x ys H2 hi ⟨rfl,VW,rfl⟩ AP Xj;let(y,rfl,hy):=WQ hi;let Xs:i<ns.f:=(Xy.E hy).1
   show nm ?_;exists _,Z,_,Z,Z,_,Z,?_;rw[Zz];show WI (λhe=>?_) (λhe=>?_)
   .show Xj _ _ {Z,Xs,?_};rw[cK hy,if_neg (by simpa using he),Yy]
   .exists _,Z,Xj _ _ {Z,Xs,?_};rw[cK hy,if_pos he,ZN]
  .rintro ys H2 ⟨rfl,_,rfl⟩ p hp;rw[Xw,YI];exists p,_,Z,.inl {SqL.of XS,λr hr=>?_};show q r _ (ZD (XJ hp) hr) ((XJ hp).free hr) XS
inductive spZ6(K:Ad)(C:Addr)(vs:List V)(H:Hp)(Q:VK)(_:XK):Prop
 |mk (w a n ps kd ns:_) (_:vs=[.ref w,.ref a]) (_:WebAt C H w n ps) (_:SqK kd K H a (IL ns)) (_:∀b:Bool,(b=true↔IsSet ps.f ns)->Q (.bl b) H)
def AG(T:Txt K mg t):Xg P w base Xo T.qZ6 2 (spZ6 K t.A_Web):=by
 show T.qZ6.okI ["web","ties","last","tie"] tH λXD A outer s H vs Q E hr h=>?_
 .let⟨w,a,n,ps,kd,ns,rfl,hW,hS,q⟩:=h;show⟨_,(XQ (Ze 2<|JI JG Zd)
   (XQ (WS YR Z (NO K<|pv 1) (Zb 3)
   (XQ (Wk (PW.pt<|Pz (Zl Pr (pv 3) (pv 2)<|Zx _)<|EV<|Nf<|LK<|Xv (AJ T) hr T.qZ0 Zr<|XZ (pv 0)<|XZ (pv 3) XX)
   (XI<|Zm UM)
   Zp)
   (XI<|Ze 2<|pv 3)))
   (XI<|Zm UM))),?_⟩
  exists _,Z,?_;show⟨_,Z,a,Z,Pe (k:=kd) (K:=K) (xs:=IL ns) (λi σ H2=>∃l v,σ=[some ↑w,some<|.ref a,some<|.int l,v]/\H2=H/\(i=0->l=-1)/\(i≠0->ns[i-1]?=some l)/\∀j z,j<i->ns[j]?=some z->0<=z/\z<ps⁻¹/\∀y,j≠0->ns[j-1]?=some y->y<z)
   {-1,none,Z,Z,λ_=>rfl,λz=>absurd Z z,λj z hj=>absurd hj<|TH j} (λi σ H2 _ zz=>by let(_,_,_,e,_):=zz;show e▸hS) ?_ ?_⟩
  .rintro i x σ H2 hi ⟨l,v,rfl,rfl,NG,Us,hp⟩;let(z,rfl,hz):=WQ hi;exists _,Z,_,Z,_,_,Z,Z,_,Z,?_;show WA (λhc=>?_) (λhc=>?_)
   .-- tie<=last
    show UK ?_;show q false {λz=>(nomatch z),λhs=>?_};let(b1,b2,b3):=hs i z hz;cases h0:i=0
    .have:=NG h0;lia
    .have:=b3 l h0 (Us h0);lia
   .exists _,Z,_,Z,w,n,ps,z,Z,hW,_,Z,?_;show WI (λVk=>?_) (λVk=>?_)
    .exists _,Z,?_;show{z,_,Z,Z,λe=>(nomatch e),λ_=>by simpa using hz,λj y hj ey=>?_};cases hji:j<i
     .show hp j y hji ey
     .let e:j=i:=J;subst e;rw[hz]at ey;cases ey;exists Vk.1,Vk.2,λy h0 ey=>?_;rw[Us h0]at ey;cases ey;lia
    .show q false {λz=>(nomatch z),λhs=>?_};let(b1,b2,b3):=hs i z hz;show absurd ⟨b1,b2⟩ Vk
  .rintro σ H2 ⟨l,v,rfl,rfl,NG,Us,hp⟩;show q true {λ_ i z hz=>?_,λ_=>rfl};let hi:i<(IL ns).f:=by rw[Xw];show(Xy.E hz).1
   show hp i z hi hz
inductive spZ7(K:Ad)(C:Addr)(vs:List V)(H:Hp)(Q:VK)(_:XK):Prop
 |mk (w a n ps kd ns:_) (_:vs=[.ref w,.ref a]) (_:WebAt C H w n ps) (_:SqK kd K H a (IL ns)) (_:IsSet ps.f ns) (_:∀r H',Same H H'->SqT K H' r (IL ns)->Q ↑r H')
def AF(T:Txt K mg t):Xg P w base Xo T.qZ7 3 (spZ7 K t.A_Web):=by
 show T.qZ7.okI ["web","ties"] tH λXD A outer s H vs Q E hr h=>?_
 .let⟨w,a,n,ps,kd,ns,rfl,hW,hS,hI,q⟩:=h;show⟨_,(XQ (Wk (Nf<|LK<|Xv (AG T) hr T.qZ6 Zr<|XZ (pv 0)<|XZ (pv 1) XX)
   (XI Vv)
   Zp)
   (XI<|Zm<|Zq (ZW K) tK T.n_tuple Boot.«tuple»<|XZ (pv 1) XX)),?_⟩
  exists _,Z,_,Z,w,a,n,ps,kd,ns,Z,hW,hS,λb hb=>{_,Z,?_};show ML (λ_=>?_) (λz=>?_)
  .exists _,Z,a,IL ns,Z,?_;cases kd with
   |false=>show .inl {hS,λl hl=>q l _ (XJ hl)<|SqT.of XS}
   |true=>show .inr {hS,q a H (Same.refl H) hS}
  .rw[hb.H hI]at z;cases z
inductive spZ8(K:Ad)(C:Addr)(vs:List V)(H:Hp)(Q:VK)(_:XK):Prop
 |mk (w m a n ps M kd ns:_) (_:vs=[.ref w,.ref m,.ref a]) (_:WebAt C H w n ps) (_:Zt n ps) (_:H m=some (.lst<|IL M)) (_:M.f=n.j) (_:SqK kd K H a (IL ns)) (_:(∀z∈ns,0<=z/\z<ps⁻¹)) (_:∀m' H',Same H H'->(m'=m\/H m'=none)->H' m'=some (.lst<|IL<|NL M<|XT ps ns)->Q ↑m' H')
def HW:FnScope ["web","marks","ties","tie","ends","low","high"] ["web","marks","ties"] (Zc (top 22)):=RA tH
def AE(T:Txt K mg t):Xg P w base Xo T.qZ8 1 (spZ8 K t.A_Web):=by
 show T.qZ8.okI ["web","marks","ties","tie","ends","low","high"] tH λXD A outer s H vs Q E hr h=>?_
 .let⟨w,m0,a,n,ps,M0,kd,ns,rfl,⟨dx,tl,xs,h1,h2,h3⟩,⟨g1,g2,g3,g4⟩,hm,hlM,hS,hI,q⟩:=h;show⟨_,(XQ (WS YR Z (NO K<|pv 2) (Zb 3)
   (XQ (Ze 4<|ZH (Zj K) (Zk K (pv 0) Z) (pv 3) λ_ _=>rfl)
   (XQ (RO (i:=5) HW.nd Z (Or.inr Z)<|Zf (rY Z) tK T.n_min Boot.«min»<|XZ (ZH (Zj K) (pv 1) (ZH (Zy K) (pv 4) Zd λ_ _=>rfl) λ_ _=>rfl)<|XZ (ZH (Zj K) (pv 1) (ZH (Zy K) (pv 4) Zd λ_ _=>rfl) λ_ _=>rfl) XX)
   (XQ (RO (i:=6) HW.nd Z (Or.inr Z)<|Zf (dG Z) tK T.n_max Boot.«max»<|XZ (ZH (Zj K) (pv 1) (ZH (Zy K) (pv 4) Zd λ_ _=>rfl) λ_ _=>rfl)<|XZ (ZH (Zj K) (pv 1) (ZH (Zy K) (pv 4) Zd λ_ _=>rfl) λ_ _=>rfl) XX)
   (XI (Wk (Zl Rh (pv 5) (pv 6)<|Zx _)
   (XI<|Ph (i:=1) Z HW.nd Z Z (sc0:=Zc<|top 22) (N0:=["web","marks","ties","tie","ends","low","high"]) (N':=["mark","high","low"]) (o:=1) (fr:=[6,5]) ⟨Z,tH,tH,tH,Z,tH⟩ (ZQ K<|pv 1) (Zw tI) (λ_ _ _ _=>(Zb 0)) (λ_ _ _ _=>ZY) λ_ _ _ _=>(sQ (Zl UL (pv 0) (pv 1)<|Zx _) (pv 2)<|pv 0))
   Zp))))))
   (XI<|Zm<|pv 1)),?_⟩
  show⟨_,Z,a,Z,Pe (k:=kd) (K:=K) (a:=a) (xs:=IL ns) (λi σ H2=>∃m v3 v4 v5 v6,σ=[some ↑w,some<|.ref m,some<|.ref a,v3,v4,v5,v6]/\Same H H2/\(m=m0\/H m=none)/\H2 m=some (.lst<|IL<|NL M0<|XT ps<|ns.X i))
   {m0,none,none,none,none,Z,Same.refl _,.inl Z,hm} (λi σ H2 _ zz=>by let(_,_,_,_,_,_,s2,_):=zz;show hS.Y s2) ?_ ?_⟩
  .rintro i x σ H2 hi ⟨m,v3,v4,v5,v6,rfl,s2,Qc,We⟩;let(z,rfl,hz):=WQ hi;let(z0,z1):=hI z (Xr hz);obtain⟨p,hp⟩:∃p,ps[z.j]?=some p:={_,XH J};let(v,hv,tt,rfl,VV):=h3.2 z.j p hp;let(e1,e2,e3,e4):=g4 p (Xr hp);let ed:ps.t z.j (0,0)=p:=ZO hp
   exists _,Z,w,_,dx,_,_,Z,s2 _ _ h1,T.cl_Web,T.n_Web_ties,Wf _ _,_,Z,tl,xs,z,.ref tt,Z,Z,SqL.of<|s2 _ _ h2,ZM (n:=z.j) J hv,?_;let HY:=s2 _ _ VV
   let hl:(NL M0<|XT ps<|ns.X i).f=n.j:=(ZN6 _ _).l hlM;generalize hM:NL M0 (XT ps<|ns.X i)=M at *;let ha:M[p.1.j]?=some (mk M p.1.j):=NN J
   let hb:M[p.2.j]?=some (mk M p.2.j):=NN J;let iA:Wg (IL M) p.1=some (.int<|mk M p.1.j):=ZM (n:=p.1.j) J (by rw[Yr,ha];rfl)
   let iB:Wg (IL M) p.2=some (.int<|mk M p.2.j):=ZM (n:=p.2.j) J (by rw[Yr,hb];rfl);let t0:Wg ([.int p.1,.int p.2]:List V) 0=some (.int p.1):=rfl
   let t1:Wg ([.int p.1,.int p.2]:List V) 1=some (.int p.2):=rfl;exists _,rfl,_,rfl,tt,_,0,_,rfl,rfl,SqT.of HY,t0,m,_,p.1,_,rfl,rfl,SqL.of We,iA,_,rfl,_,rfl,tt,_,1,_,rfl,rfl,SqT.of HY,t1,m,_,p.2,_,rfl,rfl,SqL.of We,iB,_,_,rfl,?_;exists _,rfl,_,rfl,tt,_,0,_,rfl,rfl,SqT.of HY,t0,m,_,p.1,_,rfl,rfl,SqL.of We,iA,_,rfl,_,rfl,tt,_,1,_,rfl,rfl,SqT.of HY,t1,m,_,p.2,_,rfl,rfl,SqL.of We,iB,_,_,rfl,?_;let eL:(if mk M p.2.j<mk M p.1.j then mk M p.2.j else mk M p.1.j)=min (mk M p.1.j) (mk M p.2.j):=by rw[Int.min_def];split<;>split<;>lia
   let eH:(if mk M p.2.j>mk M p.1.j then mk M p.2.j else mk M p.1.j)=max (mk M p.1.j) (mk M p.2.j):=by rw[Int.max_def];split<;>split<;>lia
   exists _,Z,_,Z,_,_,Z,Z,_,Z,?_;rw[eL,eH];let step:NL M0 (XT ps<|ns.X<|i+1)=pm M p.1.j p.2.j:=by rw[pU hz,Ds,hM,ed]
   show WA (λhc=>?_) (λhc=>?_)
   .show⟨_,Z,m,Z,{_,SqL.of We},NP (K:=K) (a:=m) (xs:=IL M) (λj ys H3=>H3=H2/\j<=M.f/\ys=IL ((M.X j).C λk=>if k=max (mk M p.1.j) (mk M p.2.j) then min (mk M p.1.j) (mk M p.2.j) else k)) {Z,Yk _,Z} (Zi<|by rw[Xw];lia)
     (λj ys H3 hj zz=>by let(e,Qh,ey):=zz;show{e▸SqL.of We,by rw[ey,Xw,Xz,YB];lia}) ?_ ?_⟩
    .rintro j y ys H3 hj ⟨rfl,Qh,rfl⟩ AP Xj;let(k,rfl,hk):=WQ hj;show cX ?_;exists _,Z,_,Z,Z,_,Z,?_;let WG:j<M.f:=(Xy.E hk).1
     let app:∀r:Int,r=(if k=max (mk M p.1.j) (mk M p.2.j) then min (mk M p.1.j) (mk M p.2.j) else k)->
       IL ((M.X j).C λk=>if k=max (mk M p.1.j) (mk M p.2.j) then min (mk M p.1.j) (mk M p.2.j) else k)++[.int r]=IL ((M.X<|j+1).C λk=>if k=max (mk M p.1.j) (mk M p.2.j) then min (mk M p.1.j) (mk M p.2.j) else k):=by intro r er;rw[YS,hk,er];simp
     show WA (λhe=>?_) (λhe=>?_)
     .exists _,Z,Xj _ _ {Z,WG,app _ ?_};rw[if_pos (V.int.inj he)]
     .exists _,Z,Xj _ _ {Z,WG,app _ ?_};rw[if_neg λz=>he (XG V.int z)]
    .rintro ys H3 ⟨rfl,_,rfl⟩ p' HV;exists p',_,_,_,_,Z,ZD s2 HV,.inr<|s2.free HV,?_;rw[XS,step,Xw,YI];unfold pm;rw[if_pos hc]
   .exists m,_,_,_,_,Z,s2,Qc,?_;rw[We,step];unfold pm;rw[if_neg hc]
  .rintro σ H2 ⟨m,v3,v4,v5,v6,rfl,s2,Qc,We⟩;rw[Xw,YI]at We;exists _,Z,q m H2 s2 Qc We
inductive spZ9(K:Ad)(C:Addr)(vs:List V)(H:Hp)(Q:VK)(_:XK):Prop
 |mk (w a n ps ns:_) (_:vs=[.ref w,.ref a]) (_:WebAt C H w n ps) (_:Zt n ps) (_:SqT K H a (IL ns)) (_:(∀z∈ns,0<=z/\z<ps⁻¹)) (_:∀m H',Same H H'->H m=none->H' m=some (.lst<|IL<|Xu n.j<|XT ps ns)->Q ↑m H')
def QB(T:Txt K mg t):Xg P w base Xo T.qZ9 2 (spZ9 K t.A_Web):=by
 show T.qZ9.okI ["web","ties"] tH λXD A outer s H vs Q E hr h=>?_
 .let⟨w,a,n,ps,ns,rfl,hW,hG,hS,hI,q⟩:=h;exists _,(XI<|Zm<|Xv (AE T) hr T.qZ8 Zr<|XZ (pv 0)<|XZ (Zq (c5 Z) tK T.n_list Boot.«list»<|XZ (Zq qq tK T.n_range Boot.«range»<|XZ (Zk K (pv 0) Z) XX) XX)<|XZ (pv 1) XX),?_;let(dx,tl,xs,h1,h2,h3):=id hW;let(g1,g2,g3,g4):=id hG;exists _,Z,_,Z,w,_,dx,_,_,Z,h1,T.cl_Web,T.n_Web_places,Uc _ _,n,Z,λr VU=>{r,0,n,Z,XS,⟨tI,tI,J,S⟩,J,λm hm=>?_};let sm:Same H (upd (upd H r<|.rng 0 n) m<|.lst<|(Wb 0 n).C V.int):=ZD (XJ VU) hm
  exists _,Z,w,m,a,n,ps,(List.range n.j).C λ(i:Nat)=>(i:Int),true,ns,Z,hW.Y sm,hG,?_,tG,MM sm hS,hI,λm' H' s' hf Lq=>?_
  .rw[XS,Zr8]
  .show q m' H' (sm.l s') ?_ Lq;rcases hf with rfl|hf
   .show(XJ VU).free hm
   .show sm.free hf
inductive spZa(K:Ad)(C:Addr)(vs:List V)(H:Hp)(Q:VK)(_:XK):Prop
 |mk (w a n ps kd ns:_) (_:vs=[.ref w,.ref a]) (_:WebAt C H w n ps) (_:Zt n ps) (_:SqK kd K H a (IL ns)) (_:IsSet ps.f ns) (_:∀r as H',Same H H'->H r=none->H' r=some (.lst<|as.C V.ref)->r∉as->GrpAt H H' (Jk<|Xu n.j<|XT ps ns) as->Q ↑r H')
def jh(T:Txt K mg t):Xg P w base Xo T.qZa 4 (spZa K t.A_Web):=by
 show T.qZa.okI ["web","ties","pieces","place","mark"] tH λXD A outer s H vs Q E hr h=>?_
 .let⟨w,a,n,ps,kd,ns,rfl,hW,hG,hS,hI,q⟩:=h;show⟨_,(XQ (Ze 2 xo)
   (XQ (WS YR Z (Lu K Z T.n_enumerate<|XZ (Xv (QB T) hr T.qZ9 Zr<|XZ (pv 0)<|XZ (Xv (AF T) hr T.qZ7 Zr<|XZ (pv 0)<|XZ (pv 1) XX) XX) XX) (Qi (n:=2) K Z<|Zs (Zb 3)<|Zs (Zb 4) Qn)
   (XI<|ZS<|Sk K YU Nw Nx Ue (Sk K eK fc PySem.F.type_dict_setdefault ZZ3 (pv 2)<|XZ (pv 4)<|XZ (Uz XX) XX)<|XZ (pv 3) XX))
   (XI<|Zm<|Zq (ZD3 Z) tK T.n_list Boot.«list»<|XZ (pZ K eK eS PySem.F.type_dict_values ZH8<|pv 2) XX))),?_⟩
  intro d hd;let s0:Same H (upd H d<|.dK []):=XJ hd
  exists _,Z,_,Z,_,Z,w,a,n,ps,kd,ns,Z,hW.Y s0,hS.Y s0,hI,λr H1 s1 Wj=>?_;exists w,r,n,ps,ns,Z,(hW.Y s0).Y s1,hG,Wj,hI.all,λm H2 s2 Tg We=>?_;let Ry:Same H H2:=(s0.l s1).l s2
  let hd2:H2 d=some (.dK []):=s2 _ _ (s1 _ _ XS);let hl:(Xu n.j<|XT ps ns).f=n.j:=ZC _ _
  generalize hM:Xu n.j (XT ps ns)=M at *;let Qc:H m=none:=(s0.l s1).free Tg
  let n14:M.f<=14:=by have:=hG.2.1;lia
  exists m,Z,{_,SqL.of We},?_;show DH (K:=K) (a:=m) (xs:=IL M) (λi σ H3=>∃as v3 v4,σ=[some ↑w,some<|.ref a,some<|.ref d,v3,v4]/\i<=M.f/\Same H H3/\H3 m=some (.lst<|IL M)/\H3 d=some (.dK<|UJ (Xq M i) as)/\d∉as/\m∉as/\GrpAt H H3 (Xq M i) as/\as.f<=i)
   {[],none,none,Z,Yk _,Ry,We,hd2,tG,tG,{Z,List.nodup_nil,λi kv a e=>by simp[Xq]at e,λa ha=>by simp at ha},Ya _} (λi σ H3 _ zz=>by let(_,_,_,_,_,_,h,_):=zz;show SqL.of h) ?_ ?_
  .rintro i x σ H3 pt UC hi ⟨as,v3,v4,rfl,VW,s3,AD,Qb,vM,vL,gA,hal⟩;let(k,rfl,hk):=WQ hi;let Tb:mk M i=k:=ZO hk
   let Xs:i<M.f:=(Xy.E hk).1;let s4:Same H3 (upd H3 pt<|.tup [.int i,.int k]):=XJ UC
   exists pt,_,Z,SqT.of XS,Z,_,_,Z,_,_,Z,Z,?_;exists _,Z,.inr<|.inr<|.inl {Z,.inl {_,s4 _ _ Qb}},_,Z,(by change 0<=sizeLine;show Yk _),λl NG=>?_;let s5:Same H3 (upd (upd H3 pt<|.tup [.int i,.int k]) l<|.lst []):=ZD s4 NG
   let hd5:=s5 _ _ Qb;let NA:H3 l=none:=s4.free NG
   let jg:d≠l:=Za Qb NA;let gl:=gA.len
   exists d,UJ (Xq M i) as,Sum.inl k,.ref l,Z,Z,hd5,?_,λv hv=>?_,λhv=>?_
   .rw[Zr7 gl];show Zi J
   .-- the mark has XU list
    rcases pS (g:=Xq M i) (as:=as) (k:=k) gl with ⟨h1,_⟩|⟨j,kv,b,e1,e2,e3,e4⟩
    .rw[h1]at hv;cases hv
    .rw[e4]at hv;cases hv;let hb5:=s5 _ _ (gA.at_ j kv b e1 e2)
     let vK:k∈(Xq M i).C (·.1):=Yq.H {kv,Xr e1,e3};let hlen:kv.2.f<=i:=pV (Xr e1)
     exists .inl {Z,_,SqL.of hb5},_,Z,b,_,.int i,Z,Z,hb5,?_,?_
     .rw[Xw];show Zi J
     .let HU:b∈as:=Xr e2;let Tv:d≠b:=λz=>vM (z▸HU)
      let hmb:m≠b:=λz=>vL (z▸HU);let Mu:=gA.new b HU
      let KD:(Xq M<|i+1).C (·.1)=(Xq M i).C (·.1):=by change(RJ (Xq M i) (i:Int)<|mk M i).C (·.1)=_;rw[MJ,Tb,if_pos vK]
      exists as,_,_,Z,Xs,Zu Mu<|s3.l s5,by rw[XR hmb];show s5 _ _ AD,by rw[XR Tv,hd5,cU KD],vM,vL,{?_,gA.nd,?_,gA.new},J
      .have:=XG List.f KD
       rw[Xz,Xz]at this;lia
      .intro i2 vJ a2 f1 f2;let f1:(RJ (Xq M i) (i:Int)<|mk M i)[i2]?=some vJ:=f1
       unfold RJ at f1;rw[Tb,if_pos vK,Yr]at f1;cases f3:(Xq M i)[i2]? with
       |none=>rw[f3]at f1;cases f1
       |some FY=>
        rw[f3]at f1;let f1:(if FY.1=k then (FY.1,FY.2++[(i:Int)]) else FY)=vJ:=Yc f1
        cases hj:i2=j
        .subst hj;rw[e1]at f3;cases f3;rw[e2]at f2;cases f2;rw[if_pos e3]at f1;subst f1;rw[XS];simp
        .let VJ:a2≠b:=λz=>by subst z;show hj (Ub gA.nd f2 e2)
         let hkk:¬FY.1=k:=λz=>hj (Ub (pW M i) (by rw[Yr,f3];show XG some z)<|by rw[Yr,e1];show XG some e3);rw[if_neg hkk]at f1;subst f1;rw[XR VJ];show s5 _ _ (gA.at_ i2 FY a2 f3 f2)
   .-- a new list
    rcases pS (g:=Xq M i) (as:=as) (k:=k) gl with ⟨h1,hkn⟩|⟨j,kv,b,e1,e2,e3,e4⟩
    .let AB:(upd (upd (upd H3 pt<|.tup [.int i,.int k]) l<|.lst []) d<|.dK<|UJ (Xq M i) as++[(Sum.inl k,.ref l)]) l=some (.lst []):=by rw[XR (YY jg),XS]
     exists .inl {Z,_,SqL.of AB},_,Z,l,[],.int i,Z,Z,AB,(by change 0<sizeLine;decide),?_;let AA:H l=none:=s3.free NA
     let jf:l∉as:=λz=>by let(_,e):=gA.mem z;rw[NA]at e;cases e
     let OZ:m≠l:=Za AD NA;let hmd:m≠d:=NV AD Qb (λz=>nomatch z)
     let je:Xq M (i+1)=Xq M i++[(k,[(i:Int)])]:=by change RJ (Xq M i) (i:Int) (mk M i)=_;unfold RJ;rw[Tb,if_neg hkn]
     let hdH:H d=none:=hd;exists as++[l],_,_,Z,Xs,Zu AA<|Zu hdH<|s3.l s5,by rw[XR OZ,XR hmd];show s5 _ _ AD,?_,?_,?_,{?_,?_,?_,?_},?_
     .rw[XR jg,XS,je,cT gl]
     .rw[Xx,XF];rintro(z|z)
      .show vM z
      .show jg z
     .rw[Xx,XF];rintro(z|z)
      .show vL z
      .show OZ z
     .rw[je,XB,XB,gl];rfl
     .show MK gA.nd jf
     .intro i2 vJ a2 f1 f2;rw[je]at f1;cases Vs:i2<(Xq M i).f
      .rw[Yn Vs]at f1;rw[Yn J]at f2;let e:=gA.at_ i2 vJ a2 f1 f2
       let n1:a2≠l:=Za e NA;let n2:a2≠d:=NV e Qb (λz=>nomatch z)
       rw[XR n1,XR n2];show s5 _ _ e
      .let h2:i2=(Xq M i).f:=by
        have:=(Xy.E f1).1
        rw[XB,Yo]at this;lia
       subst h2;rw[Ym (Ya _),Vw]at f1;rw[Ym J,gl,Vw]at f2;cases f1;cases f2;rw[XS];rfl
     .intro a2 ha2;rcases Xx.E ha2 with z|z
      .show gA.new a2 z
      .rw[XF.E z];show AA
     .rw[XB,Yo];lia
    .rw[e4]at hv;cases hv
  .rintro σ H3 ⟨as,v3,v4,rfl,VW,s3,AD,Qb,vM,vL,gA,hal⟩;rw[Xw]at Qb gA;exists _,Z,.inr<|.inr<|.inl {Z,.inl {_,Qb}},d,_,Z,Z,Qb,λp hp=>?_;let s6:Same H3 (upd H3 p<|QY p d):=XJ hp
   exists p,d,_,Z,XS,s6 _ _ Qb,λr VU=>?_;let s7:Same H3 (upd (upd H3 p<|QY p d) r (.lst ((UJ (Xq M M.f) as).C (·.2)))):=ZD s6 VU
   show q r as _ (s3.l s7) ((s3.l s6).free VU) (by rw[XS,DC gA.len]) (λz=>?_) (gA.Y s7);let(_,e):=gA.mem z;rw[s6.free VU]at e;cases e
inductive spZb(K:Ad)(C:Addr)(vs:List V)(H:Hp)(Q:VK)(_:XK):Prop
 |mk (w a n ps kd ns:_) (_:vs=[.ref w,.ref a]) (_:WebAt C H w n ps) (_:Zt n ps) (_:SqK kd K H a (IL ns)) (_:IsSet ps.f ns) (_:∀b H',Same H H'->(b=true↔(Jk<|Xu n.j<|XT ps ns).f=1)->Q (.bl b) H')
def HS(T:Txt K mg t):Xg P w base Xo T.qZb 5 (spZb K t.A_Web):=by
 show T.qZb.okI ["web","ties"] tH λXD A outer s H vs Q E hr h=>?_
 .let⟨w,a,n,ps,kd,ns,rfl,hW,hG,hS,hI,q⟩:=h;exists _,(XI<|Zm<|Rg UL (Zf (Zh K) tK T.n_len Boot.«len»<|XZ (Xv (jh T) hr T.qZa Zr<|XZ (pv 0)<|XZ (pv 1) XX) XX) Zd<|Zx _),?_;exists _,Z,_,Z,w,a,n,ps,kd,ns,Z,hW,hG,hS,hI,λr as H' s1 VU Wj FZ gA=>?_;exists r,_,Z,.inl<|SqL.of Wj,Z,?_;rw[Xz,gA.len,Zz];show q _ H' s1 ?_;rw[Qs];lia
inductive spZc(K:Ad)(C:Addr)(vs:List V)(H:Hp)(Q:VK)(_:XK):Prop
 |mk (w n ps:_) (_:vs=[.ref w]) (_:WebAt C H w n ps) (_:Zt n ps) (_:(Th n ps->∀H':Hp,Same H H'->Q .non H')) (_:(¬Th n ps->∀H':Hp,Same H H'->False))
def jd(T:Txt K mg t):Xg P w base Xo T.qZc 6 (spZc K t.A_Web):=by
 show T.qZc.okI ["web"] tH λXD A outer s H vs Q E hr h=>?_
 .let⟨w,n,ps,rfl,hW,hG,q,qe⟩:=h;show⟨_,(XI (Wk (Nf<|LK<|Xv (HS T) hr T.qZb Zr<|XZ (pv 0)<|XZ (Xv (HX T) hr T.qZ3 Zr<|XZ (pv 0) XX) XX)
   (XI Vv)
   Zp)),?_⟩
  show{_,Z,_,Z,w,n,ps,Z,hW,by have:=hG.2.2.1;lia,λr H1 s1 VU Wj=>?_};exists w,r,n,ps,true,Xh ps.f,Z,hW.Y s1,hG,SqT.of Wj,NJ _,λb H2 s2 hb=>{_,Z,?_};rw[pj (by have:=hG.1;lia) (ZE hG (NJ _).all)]at hb;show ML (λz=>?_) (λz=>?_)
  .show q (hb.E z) H2 (s1.l s2)
  .show qe (λg=>by rw[hb.H g]at z;cases z) H2 (s1.l s2)
inductive spZd(K:Ad)(C:Addr)(vs:List V)(H:Hp)(Q:VK)(_:XK):Prop
 |mk (w a n ps kd ns:_) (_:vs=[.ref w,.ref a]) (_:WebAt C H w n ps) (_:Zt n ps) (_:SqK kd K H a (IL ns)) (_:∀b H',Same H H'->(b=true↔Zn n ps ns)->Q (.bl b) H')
def Az(T:Txt K mg t):Xg P w base Xo T.qZd 6 (spZd K t.A_Web):=by
 show T.qZd.okI ["web","ties"] tH λXD A outer s H vs Q E hr h=>?_
 .let⟨w,a,n,ps,kd,ns,rfl,hW,hG,hS,q⟩:=h;exists _,(XI<|Zm<|JQ (Xv (AG T) hr T.qZ6 Zr<|XZ (pv 0)<|XZ (pv 1) XX)<|JQ (Rg UL (Zf (Zh K) tK T.n_len Boot.«len»<|XZ (pv 1) XX) (Zv VF (Zk K (pv 0) Z) Zd)<|Zx _)<|JR<|Xv (HS T) hr T.qZb Zr<|XZ (pv 0)<|XZ (pv 1) XX),?_;exists _,Z,_,Z,w,a,n,ps,kd,ns,Z,hW,hS,λb hb=>{b,Z,?_};show itb (λe=>?_) (λe=>?_)
  .let hI:=hb.E e;let(dx,tl,xs,h1,h2,h3):=id hW;exists _,Z,a,_,Z,hS.or,_,Z,w,_,dx,_,_,Z,h1,T.cl_Web,T.n_Web_places,Uc _ _,_,_,Z,Z,Z,_,Z,?_;rw[Xw,Zz];show WA (λhl=>?_) (λhl=>?_)
   .exists _,Z,_,Z,w,a,n,ps,kd,ns,Z,hW,hG,hS,hI,λb2 H' s Il=>q b2 H' s ?_;rw[Il,pj (by have:=hG.1;lia) (ZE hG hI.all)];exists λz=>⟨hI,hl,z⟩,λz=>z.2.2
   .show q false H (Same.refl H) {λz=>(nomatch z),λz=>absurd z.2.1 hl}
  .show q false H (Same.refl H) {λz=>(nomatch z),λz=>by rw[hb.H z.1]at e;cases e}
inductive spZe(K:Ad)(C:Addr)(vs:List V)(H:Hp)(Q:VK)(_:XK):Prop
 |mk (w a n ps kd ns:_) (_:vs=[.ref w,.ref a]) (_:WebAt C H w n ps) (_:Zt n ps) (_:SqK kd K H a (IL ns)) (_:(Zn n ps ns->∀H':Hp,Same H H'->Q .non H')) (_:(¬Zn n ps ns->∀H':Hp,Same H H'->False))
def Ay(T:Txt K mg t):Xg P w base Xo T.qZe 7 (spZe K t.A_Web):=by
 show T.qZe.okI ["web","tree"] tH λXD A outer s H vs Q E hr h=>?_
 .let⟨w,a,n,ps,kd,ns,rfl,hW,hG,hS,q,qe⟩:=h;show⟨_,(XI (Wk (Nf<|LK<|Xv (Az T) hr T.qZd Zr<|XZ (pv 0)<|XZ (pv 1) XX)
   (XI Vv)
   Zp)),?_⟩
  exists _,Z,_,Z,w,a,n,ps,kd,ns,Z,hW,hG,hS,λb H' s hb=>{_,Z,?_};show ML (λz=>?_) (λz=>?_)
  .show q (hb.E z) H' s
  .show qe (λg=>by rw[hb.H g]at z;cases z) H' s
inductive spZf(K:Ad)(C:Addr)(vs:List V)(H:Hp)(Q:VK)(_:XK):Prop
 |mk (w a b n ps ka kb ns os:_) (_:vs=[.ref w,.ref a,.ref b]) (_:WebAt C H w n ps) (_:Zt n ps) (_:SqK ka K H a (IL ns)) (_:SqK kb K H b (IL os)) (_:ns.f<=1000) (_:os.f<=1000) (_:(∀z∈ns++os,0<=z/\z<ps⁻¹)) (_:(((WR n.j ps<|ns++os).X ns.f≠ns\/((WR n.j ps<|ns++os).f:Int)<n-1)->∀H':Hp,Same H H'->Q .non H')) (_:((WR n.j ps<|ns++os).X ns.f=ns->¬((WR n.j ps<|ns++os).f:Int)<n-1->∀r ms H',ms.Perm (WR n.j ps<|ns++os)->ms.Q (·<=·)->Same H H'->H r=none->H' r=some (.tup<|IL ms)->Q ↑r H'))
def jc(T:Txt K mg t):Xg P w base Xo T.qZf 3 (spZf K t.A_Web):=by
 show T.qZf.okI ["web","inside","order","marks","grown","tie","ends"] tH λXD A outer s H vs Q E hr h=>?_
 .let⟨w,a,b,n,ps,ka,kb,ns,os,rfl,hW,hG,hS,Lo,hnl,TN,hI,q0,q1⟩:=h;show⟨_,(XQ (Ze 3<|Xv (QB T) hr T.qZ9 Zr<|XZ (pv 0)<|XZ (Ui XX) XX)
   (XQ (Ze 4<|Uz XX)
   (XQ (WS YR Z (ZQ K<|Zv xr (Zq (Gz K) tK T.n_list Boot.«list»<|XZ (pv 1) XX)<|Zq (Gz K) tK T.n_list Boot.«list»<|XZ (pv 2) XX) (Zb 5)
   (XQ (Ze 6<|ZH (Zj K) (Zk K (pv 0) Z) (pv 5) λ_ _=>rfl)
   (XI (Wk (Zl SQ (ZH (Zj K) (pv 3) (ZH (Zy K) (pv 6) Zd λ_ _=>rfl) λ_ _=>rfl) (ZH (Zj K) (pv 3) (ZH (Zy K) (pv 6) Zd λ_ _=>rfl) λ_ _=>rfl)<|Zx _)
   (XQ (Ze 3<|Xv (AE T) hr T.qZ8 Zr<|XZ (pv 0)<|XZ (pv 3)<|XZ (Ui<|XZ (pv 5) XX) XX)
   (XI<|ZS<|Sk K YU Nw Nx Ue (pv 4)<|XZ (pv 5) XX))
   Zp))))
   (XQ (Wk (PW.pt<|Pz (Zl (qa K<|xj hr) (Rc (QX K) (pv 4) En<|JA<|Zf (Zh K) tK T.n_len Boot.«len»<|XZ (pv 1) XX) (Zq (Gz K) tK T.n_list Boot.«list»<|XZ (pv 1) XX)<|Zx _)<|EV<|Zl Rh (Zf (Zh K) tK T.n_len Boot.«len»<|XZ (pv 4) XX) (Zv VF (Zk K (pv 0) Z) Zd)<|Zx _)
   (XI<|Zm xF)
   Zp)
   (XI<|Zm<|Zq (ZW K) tK T.n_tuple Boot.«tuple»<|XZ (Zf (w6 K) tK T.n_sorted Boot.«sorted»<|XZ (pv 4) XX) XX))))),?_⟩
  let(g1,g2,g3,g4):=id hG;let one:1<=sizeLine:=tI
  exists _,Z,Yk _,λr0 VU=>?_;let s0:=XJ (o:=.tup []) VU
  exists w,r0,n,ps,[],Z,hW.Y s0,hG,SqT.of XS,λ_ e=>(nomatch e),λm H1 s1 Qc Tg=>?_;let s01:=s0.l s1
  let hmf:=s0.free Qc;exists Yk _,λgl jb=>?_;let s2:=XJ (o:=.lst []) jb
  let Ry:=s01.l s2;let hgf:=s01.free jb
  exists _,Z,a,_,Z,(hS.Y Ry).or,λl1 Us=>?_;let s3:=XJ (o:=.lst<|IL ns) Us
  let s03:=Ry.l s3;exists _,Z,b,_,Z,(Lo.Y s03).or,λl2 VL=>?_;let s4:=XJ (o:=.lst<|IL os) VL
  let FX:=s03.l s4;exists l1,l2,_,_,Z,Z,s4 _ _ XS,XS,Jp (by rw[Xw,Xw];lia),λcl QM=>?_;let s5:=XJ (o:=.lst<|IL ns++IL os) QM
  let Ax:=FX.l s5;let eI:IL ns++IL os=IL (ns++os):=(xk _ _).U
  let Aw:=s5 _ _ (s4 _ _<|s3 _ _<|XS (H:=H1) (a:=gl) (o:=.lst []));let vH:=s5 _ _ (s4 _ _<|s3 _ _<|s2 _ _ Tg)
  let HR:=XS (H:=upd (upd (upd H1 gl<|.lst []) l1<|.lst<|IL ns) l2<|.lst<|IL os) (a:=cl) (o:=.lst<|IL ns++IL os);let ncg:cl≠gl:=λe=>by rw[e]at QM;show absurd ((s4 _ _<|s3 _ _<|XS (H:=H1) (a:=gl) (o:=.lst [])).U.l QM) tG
  let nmg:m≠gl:=λe=>by rw[e]at Tg;show absurd (Tg.U.l jb) tG
  rw[eI]at s5 Ax Aw vH HR ⊢;generalize upd (upd (upd (upd H1 gl<|.lst []) l1<|.lst<|IL ns) l2<|.lst<|IL os) cl (.lst<|IL<|ns++os)=H5 at *;show⟨cl,Z,{_,SqL.of HR},GH (K:=K) (a:=cl) (xs:=IL<|ns++os) (λi σ H2=>∃mc v5 v6,σ=[some ↑w,some<|.ref a,some<|.ref b,some<|.ref mc,some<|.ref gl,v5,v6]/\Same H H2/\mc≠gl/\
    H2 cl=some (.lst<|IL<|ns++os)/\H2 mc=some (.lst<|IL<|Xu n.j<|XT ps<|WR n.j ps<|(ns++os).X i)/\H2 gl=some (.lst<|IL<|WR n.j ps<|(ns++os).X i))
   ⟨m,none,none,Z,Ax,nmg,HR,vH,Aw⟩ (λi σ H2 _ zz=>by let(_,_,_,_,_,_,e,_):=zz;show SqL.of e) ?_ ?_⟩
  .rintro i x σ H2 hi ⟨mc,v5,v6,rfl,s2,XM,Vk,We,Mm⟩;let(z,rfl,hz):=WQ hi;let(z0,z1):=hI z (Xr hz);let hIt:∀y∈(ns++os).X i,0<=y/\y<ps⁻¹:=λy hy=>hI y (FA hy)
   let est:(ns++os).X (i+1)=(ns++os).X i++[z]:=by rw[YS,hz];rfl
   let eG:WR n.j ps ((ns++os).X (i+1))=QS n.j ps (WR n.j ps<|(ns++os).X i) z:=by rw[est,Lk]
   let Wu:=IY hG hIt;let Av:=Lj hG hIt
   generalize WR n.j ps ((ns++os).X i)=G at *;let(dx,tl,xs,h1,h2,h3):=hW.Y s2;obtain⟨p,hp⟩:∃p,ps[z.j]?=some p:={_,XH J};let(v,hv,tt,rfl,VV):=h3.2 z.j p hp;let(e1,e2,e3,e4):=g4 p (Xr hp);let ed:Zo ps z=(p.1.j,p.2.j):=by unfold Zo;rw[ZO hp]
   let hl:(Xu n.j<|XT ps G).f=n.j:=ZC _ _;let iA:Wg (IL<|Xu n.j<|XT ps G) p.1=some (.int<|mk (Xu n.j<|XT ps G) p.1.j):=ZM (n:=p.1.j) J (Ud<|NN J)
   let iB:Wg (IL<|Xu n.j<|XT ps G) p.2=some (.int<|mk (Xu n.j<|XT ps G) p.2.j):=ZM (n:=p.2.j) J (Ud<|NN J);let t0:Wg ([.int p.1,.int p.2]:List V) 0=some (.int p.1):=rfl
   let t1:Wg ([.int p.1,.int p.2]:List V) 1=some (.int p.2):=rfl;let key:mk (Xu n.j<|XT ps G) p.1.j=mk (Xu n.j<|XT ps G) p.2.j↔mk (WH n.j<|XT ps G) (Zo ps z).1=mk (WH n.j<|XT ps G) (Zo ps z).2:=by rw[ed,QV Wu J J,ZU Wu J J]
   exists _,Z,w,_,dx,_,_,Z,h1,T.cl_Web,T.n_Web_ties,Wf _ _,_,Z,tl,xs,z,.ref tt,Z,Z,SqL.of h2,ZM (n:=z.j) J hv,?_;exists _,Z,_,Z,tt,_,0,_,Z,Z,SqT.of VV,t0,mc,_,p.1,_,Z,Z,SqL.of We,iA,_,Z,_,Z,tt,_,1,_,Z,Z,SqT.of VV,t1,mc,_,p.2,_,Z,Z,SqL.of We,iB,Z,_,Z,?_;rw[Zz];show WI (λhe=>?_) (λhe=>?_)
   .exists mc,_,_,Z,s2,XM,Vk,?_,?_
    .rw[eG];unfold QS;rwa[if_pos (key.E he)]
    .rw[eG];unfold QS;rwa[if_pos (key.E he)]
   .let eG2:WR n.j ps ((ns++os).X (i+1))=G++[z]:=by rw[eG];unfold QS;rw[if_neg λe=>he (key.H e)]
    exists _,Z,_,Z,_,Z,one,λp2 Vu=>?_;let s6:=XJ (o:=.tup [.int z]) Vu
    show{w,mc,p2,n,ps,_,true,[z],Z,(hW.Y s2).Y s6,hG,s6 _ _ We,hl,SqT.of XS,λy hy=>by rw[XF.E hy];show⟨z0,z1⟩,λm' H7 s7 hf vG=>?_};let ja:=s6.l s7
    let hg7:=ja _ _ Mm;let hc7:=ja _ _ Vk
    let nm':m'≠gl:=by
     rcases hf with rfl|hf
     .show XM
     .show λe=>absurd ((s6 _ _ Mm).U.l (e▸hf)) tG
    exists _,Z,.inl {Z,_,SqL.of hg7},_,Z,gl,_,_,Z,Z,hg7,Zi (by rw[Xw];lia),?_;exists m',_,_,Z,Zu hgf<|s2.l ja,nm',?_,?_,?_
    .rw[XR ncg];show hc7
    .rw[XR nm',vG,eG2,Jc,DD];rfl
    .rw[XS,eG2,ZN]
  .rintro σ H2 ⟨mc,v5,v6,rfl,s2,XM,Vk,We,Mm⟩;rw[Xw,YI]at Mm;let Av:=Lj hG hI
   generalize WR n.j ps (ns++os)=G at *;exists _,Z,_,Z,a,_,Z,(hS.Y s2).or,_,Z,gl,_,Z,SqL.of Mm,λr1 Wj=>?_;let ec:Ws (IL G) none (some ((IL ns).f:Int))=IL (G.X ns.f):=by rw[cq J,Yf,Xw,DM]
   rw[ec];let s3:=XJ (o:=.lst<|IL<|G.X ns.f) Wj
   exists _,Z,a,_,Z,(hS.Y<|s2.l s3).or,λr2 UT=>?_;let s4:=XJ (o:=.lst<|IL ns) UT
   exists 1,_,r1,r2,Z,Z,tI,cS (SqL.of<|s4 _ _ XS)<|SqL.of XS,_,Z,?_;let KC:=s2.l (s3.l s4)
   show WI (λhe=>?_) (λhe=>?_)
   .let⟨dx,tl,xs,h1,h2,h3⟩:=hW.Y KC;let hg4:=s4 _ _ (s3 _ _ Mm)
    exists _,Z,gl,_,Z,.inl<|SqL.of hg4,_,Z,w,_,dx,_,_,Z,h1,T.cl_Web,T.n_Web_places,Uc _ _,_,_,Z,Z,_,_,Z,Z,_,Z,?_;rw[Xw];show WA (λhc=>?_) (λhc=>?_)
    .show q0 (.inr hc) _ KC
    .exists _,Z,gl,G,Z,SqL.of hg4,J,λms TK Vu l hl=>?_;let s5:=XJ (o:=.lst<|IL ms) hl
     exists l,_,Z,.inl {SqL.of XS,λr hr=>?_};show q1 he hc r ms _ TK Vu ((KC.l s5).l (XJ hr)) ((KC.l s5).free hr) XS
   .show UK ?_;show q0 (.inl he) _ KC
inductive spZg(K:Ad)(C:Addr)(vs:List V)(H:Hp)(Q:VK)(_:XK):Prop
 |mk (w a n ps kd ns z:_) (_:vs=[.ref w,.ref a,.int z]) (_:WebAt C H w n ps) (_:Zt n ps) (_:SqK kd K H a (IL ns)) (_:IsSet ps.f ns) (_:∀r H',Same H H'->H r=none->H' r=some (.tup<|IL<|unlike (WH n.j<|XT ps<|wo ns z) ps ps.f)->Q ↑r H')
def i9:FnScope ["web","tree","tie","marks"] ["web","tree","tie"] (Zc (top 31)):=RA tH
def i8(T:Txt K mg t):Xg P w base Xo T.qZg 3 (spZg K t.A_Web):=by
 show T.qZg.okI ["web","tree","tie","marks"] tH λXD A outer s H vs Q E hr h=>?_
 .let⟨w,a,n,ps,kd,ns,z,rfl,hW,hG,hS,hI,q⟩:=h;show⟨_,(XQ (RO (i:=3) i9.nd Z (Or.inr Z)<|Xv (QB T) hr T.qZ9 Zr<|XZ (pv 0)<|XZ (Xv (AH T) hr T.qZ5 Zr<|XZ (pv 1)<|XZ (pv 2) XX) XX)
   (XI<|Zm<|Zq (ZW K) tK T.n_tuple Boot.«tuple»<|XZ (SI Z (sc0:=Zc<|top 31) (N0:=["web","tree","tie","marks"]) (N':=["number","ends","marks"]) (o:=2) (fr:=[3]) ⟨Z,tH,tH,tH,Z,tH⟩ (Lu K Z T.n_enumerate<|XZ (Zk K (pv 0) Z) XX) (DS<|NR tI<|NR tI DT) (λ_ _ _ _=>(Qi (n:=2) K Z<|Zs (Zb 0)<|Zs (Zb 1) Qn)) (λ_ _ _ _=>(NS<|Zl SQ (ZH (Zj K) (pv 2) (ZH (Zy K) (pv 1) Zd λ_ _=>rfl) λ_ _=>rfl) (ZH (Zj K) (pv 2) (ZH (Zy K) (pv 1) Zd λ_ _=>rfl) λ_ _=>rfl)<|Zx _)) λ_ _ _ _=>(pv 0)) XX)),?_⟩
  let(g1,g2,g3,g4):=id hG;let hln:=hI.len
  let hb:∀y∈wo ns z,0<=y/\y<ps⁻¹:=λy hy=>hI.all y (Xm.E hy).1;exists _,Z,_,Z,_,Z,a,kd,ns,z,Z,hS,J,λr1 H1 s1 VU Wj=>?_;exists w,r1,n,ps,wo ns z,Z,hW.Y s1,hG,SqT.of Wj,hb,λm H2 s2 Qc We=>?_;let Wu:=ZE hG hb
  let e0:=ZV5 (M:=Xu n.j<|XT ps<|wo ns z) hG (ZC _ _) (xc Wu);let hl:(Xu n.j<|XT ps<|wo ns z).f=n.j:=ZC _ _
  rw[<-e0]at q;generalize Xu n.j (XT ps<|wo ns z)=M at *;let Wy:=s1.l s2
  let(dx,tl,xs,h1,h2,h3):=hW.Y Wy;let MC:=h3.1
  show⟨_,Z,w,_,dx,_,_,Z,h1,T.cl_Web,T.n_Web_ties,Wf _ _,tl,Z,{_,SqL.of h2},wX (K:=K) (a:=tl) (xs:=xs) (λi ys H3=>Same H2 H3/\i<=xs.f/\ys=IL (unlike M ps i)) {Same.refl _,Yk _,Z} (Zi J)
   (λi ys H3 _ zz=>by let(e,_,ey):=zz;show{SqL.of<|e _ _ h2,by rw[ey,Xw];show Zh6 _ _ _}) ?_ ?_⟩
  .rintro i x ys H3 pt UC hi ⟨s3,VW,rfl⟩ AP Xj;let(p,Pb,tt,rfl,VV):=h3.at hi;let(e1,e2,e3,e4):=g4 p (Xr Pb);let Xs:i<xs.f:=(Xy.E hi).1
   let s4:Same H3 (upd H3 pt<|.tup [.int i,.ref tt]):=XJ UC;let SY:=s3.l s4
   let Ov:=SY _ _ VV;let Au:=SY _ _ We
   let ed:ps.t i (0,0)=p:=ZO Pb;let t0:Wg ([.int p.1,.int p.2]:List V) 0=some (.int p.1):=rfl
   let t1:Wg ([.int p.1,.int p.2]:List V) 1=some (.int p.2):=rfl;let iA:Wg (IL M) p.1=some (.int<|mk M p.1.j):=ZM (n:=p.1.j) J (Ud<|NN J)
   let iB:Wg (IL M) p.2=some (.int<|mk M p.2.j):=ZM (n:=p.2.j) J (Ud<|NN J);exists pt,_,Z,SqT.of XS,Z,_,_,Z,_,_,Z,Z,?_;exists _,Z,_,Z,tt,_,0,_,Z,Z,SqT.of Ov,t0,m,_,p.1,_,Z,Z,SqL.of Au,iA,_,Z,_,Z,tt,_,1,_,Z,Z,SqT.of Ov,t1,m,_,p.2,_,Z,Z,SqL.of Au,iB,Z,_,Z,?_;rw[Zz];show WI (λhe=>?_) (λhe=>?_)
   .show Xj _ _ {SY,Xs,?_};rw[cL,ed,if_neg (by simpa using he),Yy]
   .exists _,Z,Xj _ _ {SY,Xs,?_};rw[cL,ed,if_pos he,ZN]
  .rintro ys H3 ⟨s3,_,rfl⟩ p hp;rw[MC];exists p,_,Z,.inl {SqL.of XS,λr hr=>?_};show q r _ (Wy.l<|s3.l<|ZD (XJ hp) hr) ((Wy.l<|s3.l<|XJ hp).free hr) XS
inductive spZh(K:Ad)(C:Addr)(vs:List V)(H:Hp)(Q:VK)(_:XK):Prop
 |mk (w a n ps kd ns z:_) (_:vs=[.ref w,.ref a,.int z]) (_:WebAt C H w n ps) (_:Zt n ps) (_:SqK kd K H a (IL ns)) (_:-(10^70)<z) (_:z<10^70) (_:(Zn n ps ns->z∉ns->0<=z->z<ps⁻¹->∀ms,ms.Perm (SF n ps ns z ns++[z])->ms.Q (·<=·)->∀r H',Same H H'->H r=none->H' r=some (.tup<|IL ms)->Q ↑r H')) (_:(Zn n ps ns->(z∈ns\/¬(0<=z/\z<ps⁻¹))->∀H':Hp,Same H H'->False)) (_:(¬Zn n ps ns->∀H':Hp,Same H H'->False))
def i7(T:Txt K mg t):Xg P w base Xo T.qZh 8 (spZh K t.A_Web):=by
 show T.qZh.okI ["web","tree","tie"] tH λXD A outer s H vs Q E hr h=>?_
 .let⟨w,a,n,ps,kd,ns,z,rfl,hW,hG,hS,z0,z1,q,q1,q2⟩:=h;show⟨_,(XQ (ZS<|Xv (Ay T) hr T.qZe Zr<|XZ (pv 0)<|XZ (pv 1) XX)
   (XQ (Wk (PW.pt<|Pz (Zl (DG K) (pv 2) (pv 1) Z)<|EV<|Nf<|LK<|Xv (AJ T) hr T.qZ0 Zr<|XZ (pv 0)<|XZ (pv 2) XX)
   (XI Vv)
   Zp)
   (XI<|Zm<|Zq (ZW K) tK T.n_tuple Boot.«tuple»<|XZ (Zf (w6 K) tK T.n_sorted Boot.«sorted»<|XZ (Zv xr (SI Z (sc0:=Zc<|top 32) (N0:=["web","tree","tie"]) (N':=["out","tie","web","tree"]) (o:=1) (fr:=[2,0,1]) ⟨Z,tH,tH,tH,Z,tH⟩ (NO K<|pv 1) (Zw tI) (λ_ _ _ _=>(Zb 0)) (λ_ _ _ _=>(NS<|Zl (DG K) (pv 1) (Xv (i8 T) hr T.qZg Zr<|XZ (pv 2)<|XZ (pv 3)<|XZ (pv 0) XX) Z)) λ_ _ _ _=>(pv 0))<|Uz<|XZ (pv 2) XX) XX) XX))),?_⟩
  exists _,Z,_,Z,w,a,n,ps,kd,ns,Z,hW,hG,hS,λhT H1 s1=>?_,q2;let one:1<=sizeLine:=tI
  let tl:ns.f<=20:=by have:=hT.2.1;have:=hG.2.1;lia
  exists _,Z,_,Z,a,_,Z,(hS.Y s1).or,Z,Ji _,_,Z,?_;rw[Jj];show WA (λhc=>?_) (λhc=>?_)
  .show UK (q1 hT (.inl hc) H1 s1)
  .exists _,Z,_,Z,w,n,ps,z,Z,hW.Y s1,_,Z,?_;show WI (λht=>?_) (λht=>?_)
   .show⟨_,Z,a,Z,DJ (k:=kd) (K:=K) (xs:=IL ns) (λi ys H2=>Same H1 H2/\i<=ns.f/\ys=IL (SF n ps ns z<|ns.X i)) {Same.refl _,Yk _,Z} (Zi<|by rw[Xw];lia)
     (λi ys H2 hi zz=>by let(e,Vs,ey):=zz;show{(hS.Y s1).Y e,by rw[ey,Xw];show YE (Gr ..)<|by rw[YB];lia}) ?_ ?_⟩
    .rintro i x ys H2 hi ⟨s2,VW,rfl⟩ AP Xj;let(y,rfl,hy):=WQ hi;let Xs:i<ns.f:=(Xy.E hy).1
     let Wy:=s1.l s2;show nm ?_;exists _,Z,_,Z,_,Z,_,Z,w,a,n,ps,kd,ns,y,Z,hW.Y Wy,hG,hS.Y Wy,hT.1,λr H3 s3 VU Rx=>?_;exists r,_,Z,.inr<|SqT.of Rx,Z,Ji _,_,Z,?_;rw[Jj];show WA (λhe=>?_) (λhe=>?_)
     .exists _,Z,Xj _ _ {s2.l s3,Xs,?_};rw[cJ hy,if_pos he,ZN]
     .show Xj _ _ {s2.l s3,Xs,?_};rw[cJ hy,if_neg he,Yy]
    .rintro ys H2 ⟨s2,_,rfl⟩ p hp;rw[Xw,YI];let rl:=Gr n ps ns z ns
     exists _,Z,one,λp2 Vu=>?_;show pJ (l2:=[z]) (by rw[XR (Za XS Vu)];show XS) XS (by simp only[Yv,GU];lia) λp3 Br=>?_;show{p3,_,Z,SqL.of XS,by simp only[XB,Yv,GU];lia,λms Wa MF p4 FW=>?_};exists p4,IL ms,Z,.inl {SqL.of XS,λr hr=>?_};let s6:=(s1.l s2).l (ZD (ZD (XJ (o:=.lst<|IL<|SF n ps ns z ns) hp) (o:=.lst<|IL [z]) Vu) (o:=.lst<|IL<|SF n ps ns z ns++[z]) Br)
     show q hT hc ht.1 ht.2 ms Wa MF r _ (s6.l<|ZD (XJ FW) hr) ((s6.l<|XJ FW).free hr) XS
   .show q1 hT (.inr ht) H1 s1
inductive spZi(K:Ad)(C:Addr)(vs:List V)(H:Hp)(Q:VK)(_:XK):Prop
 |mk (w:Addr) (n:Int) (ps:Aa) (_:vs=[.ref w]) (_:WebAt C H w n ps) (_:Zt n ps) (_:∀(r:Addr)(ys:List V)(H':Hp),Same H H'->JagAt H r H' ys (SA n.j ps ps.f)->Q ↑r H')
def i6:FnScope ["web","darts","tie","ends"] ["web"] (Zc (top 34)):=RA tH
def i5(T:Txt K mg t):Xg P w base Xo T.qZi 1 (spZi K t.A_Web):=by
 show T.qZi.okI ["web","darts","tie","ends"] tH λXD A outer s H vs Q E hr h=>?_
 .let⟨w,n,ps,rfl,hW,hG,q⟩:=h;show⟨_,(XQ (Ph (i:=1) Z i6.nd Z Z (sc0:=Zc<|top 34) (N0:=["web","darts","tie","ends"]) (N':=["place"]) (o:=1) (fr:=[]) ⟨Z,tH,tH,tH,Z,tH⟩ (ZJ Z T.n_range<|XZ (Zk K (pv 0) Z) XX) (Zw tI) (λ_ _ _ _=>(Zb 0)) (λ_ _ _ _=>ZY) λ_ _ _ _=>(Uz XX))
   (XQ (WS YR Z (Lu K Z T.n_enumerate<|XZ (Zk K (pv 0) Z) XX) (Qi (n:=2) K Z<|Zs (Zb 2)<|Zs (Zb 3) Qn)
   (XQ (ZS<|Sk K YU Nw Nx Ue (ZH (Zj K) (pv 1) (ZH (Zy K) (pv 3) Zd λ_ _=>rfl) λ_ _=>rfl)<|XZ (Zv RN Zd<|pv 2) XX)
   (XI<|ZS<|Sk K YU Nw Nx Ue (ZH (Zj K) (pv 1) (ZH (Zy K) (pv 3) Zd λ_ _=>rfl) λ_ _=>rfl)<|XZ (Zv ZZ (Zv RN Zd<|pv 2) Zd) XX)))
   (XI<|Zm<|pv 1))),?_⟩
  let(dx,tl,xs,h1,h2,h3):=id hW;let hl:=h3.1
  let(g1,g2,g3,g4):=id hG;let eD:∀i,SA i ps 0=List.M i []:=λi=>by unfold SA;rw[show(λ(p:Nat)=>UR ps (p:Int) 0)=λ_=>[] from Z,List.map_const',YO]
  exists _,Z,w,_,dx,_,_,Z,h1,T.cl_Web,T.n_Web_places,Uc _ _,n,Z,S,S,DI (lo:=0) (n:=n.j) (λi zs H2=>Same H H2/\Bears (Xd H2) zs (List.M i [])/\zs.Nodup/\∀A,V.ref A∈zs->H A=none/\∃o,H2 A=some o) {Same.refl _,{Z,λi l e=>by simp at e},.nil,λA h=>(by cases h)} (Zi S) (λi zs H2 _ zz=>by let(_,e,_):=zz;rw[e.1,Yw];show Ya _) ?_ ?_
  .rintro i zs H2 hi ⟨s2,hZ,Vq,Vh⟩ AP Xj;show nm ?_;exists Yk _,λp1 TK=>?_;let u1:=XJ (o:=.lst []) TK
   show Xj _ _ {s2.l u1,?_,?_,λA hA=>?_}
   .rw[Nj];show(hZ.imp λ_ _ zz=>by let(r',e,h):=zz;exists r',e,u1 _ _ h).snoc ⟨p1,Z,XS⟩
   .show YM.H {Vq,tG,λx hx y hy e=>?_};rw[XF.E hy]at e;let(_,o,ho):=Vh p1 (e▸hx);rw[TK]at ho;cases ho
   .rcases Xx.E hA with e|e
    .let⟨a1,o,a2⟩:=Vh A e;exists a1,o,u1 _ _ a2
    .let e':A=p1:=by simpa using e
     rw[e'];exists s2.free TK,_,XS
  rintro zs H2 ⟨s2,hZ,Vq,Vh⟩ tA Rv;let s3:=s2.l (XJ (o:=.lst zs) Rv)
  let hT:JagAt H tA (upd H2 tA<|.lst zs) zs (SA n.j ps 0):={XS,by rw[eD];show hZ.imp λ_ _ zz=>by let(r',e,h):=zz;show{r',e,XJ Rv _ _ h,Za h Rv},Vq,λA hA=>(Vh A hA).1};generalize upd H2 tA (.lst zs)=H3 at *;exists _,Z,w,_,dx,_,_,Z,s3 _ _ h1,T.cl_Web,T.n_Web_ties,Wf _ _,tl,Z,{_,SqL.of<|s3 _ _ h2},DH (K:=K) (a:=tl) (xs:=xs) (λi σ H4=>∃v2 v3:Option V,σ=[some ↑w,some<|.ref tA,v2,v3]/\Same H H4/\i<=ps.f/\JagAt H tA H4 zs (SA n.j ps i)) {none,none,Z,s3,Yk _,hT} (λi σ H4 _ zz=>by let(_,_,_,e,_):=zz;show SqL.of<|e _ _ h2) ?_ ?_
  .rintro i v σ H4 pt UC hi ⟨v2,v3,rfl,s4,hip,hJ⟩;let(p,hp,tt,rfl,VV):=h3.at hi;let i4:=(Xy.E hp).1
   let(e1,e2,e3,e4):=g4 p (Xr hp);obtain⟨a,ha⟩:∃a:Nat,p.1=(a:Int):=⟨p.1.j,S⟩;obtain⟨b,hb⟩:∃b:Nat,p.2=(b:Int):=⟨p.2.j,S⟩;let u1:=XJ (o:=.tup [.int i,.ref tt]) UC
   exists pt,_,Z,SqT.of XS,Z,_,_,Z,_,_,Z,Z,?_;let iZ:=hJ.Y u1
   let s5:=s4.l u1;generalize upd H4 pt (.tup [.int i,.ref tt])=H5 at *;let dl:(SA n.j ps i).f=n.j:=by unfold SA;rw[Xz,YO]
   let HQ:∀(c:Nat) ,(UR ps (c:Int) i).f<1000:=λc=>by have:=lG (ps:=ps) (p:=(c:Int)) i;omega
   let(A,l,y1,z1,hA,vE,hAr):=iZ.at (i:=a) S;let el:l=UR ps (a:Int) i:=by
    have:(SA n.j ps i)[a]?=some (UR ps (a:Int) i):=wg S
    rw[this]at z1;show(Yc z1).U
   let Lc:=HQ a;rw[<-el]at Lc;exists _,Z,_,Z,tt,_,0,.int p.1,Z,Z,SqT.of<|s5 _ _ VV,Z,tA,_,p.1,.ref A,Z,Z,SqL.of iZ.tab,ZM (n:=a) S y1,.inl {Z,_,SqL.of hA},_,Z,_,_,Z,Z,.inl ⟨tI,tI⟩,A,_,_,Z,Z,hA,Zi (by rw[Xw];omega),?_;let c1:IL l++[.int (2*(i:Int))]=IL (l++[2*(i:Int)]):=(ZN ..).U
   rw[c1];let HP:=iZ.put (l':=l++[2*(i:Int)]) y1 z1 hAr
   let s6:Same H (upd H5 A<|.lst<|IL<|l++[2*(i:Int)]):=Zu vE s5;let iY:=s6 _ _ VV
   generalize upd H5 A (.lst<|IL<|l++[2*(i:Int)])=H6 at *;let(B,l2,y2,z2,hB,hB0,hBr):=HP.at (i:=b) (by rw[PL];omega);let w5:l2=if b=a then UR ps (a:Int) i++[2*(i:Int)] else UR ps (b:Int) i:=by
    rw[Qr]at z2;cases c:a=b
    .rw[if_pos c,if_pos S]at z2;rw[if_pos c.U,<-el];show(Yc z2).U
    .rw[if_neg c]at z2
     have:(SA n.j ps i)[b]?=some (UR ps (b:Int) i):=wg S
     rw[this]at z2;rw[if_neg (YY c)];show(Yc z2).U
   let VL:l2.f<10000:=by
    have:=HQ a
    have:=HQ b
    rw[w5];split
    .rw[XB,Yo];omega
    .omega
   exists _,Z,_,Z,tt,_,1,.int p.2,Z,Z,SqT.of iY,Z,tA,_,p.2,.ref B,Z,Z,SqL.of HP.tab,ZM (n:=b) S y2,.inl {Z,_,SqL.of hB},_,Z,_,_,Z,Z,.inl ⟨tI,tI⟩,_,_,Z,Z,B,_,_,Z,Z,hB,Zi (by rw[Xw];omega),?_;let c2:IL l2++[.int (2*(i:Int)+1)]=IL (l2++[2*(i:Int)+1]):=(ZN ..).U
   rw[c2];let vD:=HP.put (l':=l2++[2*(i:Int)+1]) y2 z2 hBr
   let ah:ps.t i (0,0)=((a:Int),(b:Int)):=by rw[ZO hp,<-ha,<-hb]
   rw[w5,el,lj ah]at vD;rw[w5];exists _,_,Z,Zu hB0 s6,i4,vD
  rintro σ H4 ⟨v2,v3,rfl,s4,_,hJ⟩;rw[hl]at hJ;exists _,Z,q tA zs H4 s4 hJ
inductive spZj(K:Ad)(C:Addr)(vs:List V)(H:Hp)(Q:VK)(_:XK):Prop
 |mk (w a:Addr) (kd:Bool) (n:Int) (ps:Aa) (xs:List V) (ts:Ab) (_:vs=[.ref w,.ref a]) (_:WebAt C H w n ps) (_:Zt n ps) (_:SqK kd K H a xs) (_:Bears (RowV K H) xs ts) (_:ts.f<=1000) (_:(∀l∈ts,l.f<64)) (_:(VT n.j ps ts->∀H':Hp,Same H H'->Q .non H')) (_:(¬VT n.j ps ts->∀H':Hp,Same H H'->False))
def iX(T:Txt K mg t):Xg P w base Xo T.qZj 2 (spZj K t.A_Web):=by
 show T.qZj.okI ["web","turns"] tH λXD A outer s H vs Q E hr h=>?_
 .let⟨w,a,kd,n,ps,xs,ts,rfl,hW,hG,hA,hX,Us,VL,q,qe⟩:=h;show⟨_,(XI (Wk (Zl (qa K<|xj hr) (SI Z (sc0:=Zc<|top 35) (N0:=["web","turns"]) (N':=["turn"]) (o:=1) (fr:=[]) ⟨Z,tH,tH,tH,Z,tH⟩ (NO K<|pv 1) (Zw tI) (λ_ _ _ _=>(Zb 0)) (λ_ _ _ _=>ZY) λ_ _ _ _=>(Zf (ZJ4 K) tK T.n_sorted Boot.«sorted»<|XZ (pv 0) XX)) (Xv (i5 T) hr T.qZi Zr<|XZ (pv 0) XX)<|Zx _)
   (XI Vv)
   Zp)),?_⟩
  let Sw:=hX.1;exists _,Z,a,Z,DJ (K:=K) (k:=kd) (a:=a) (xs:=xs) (λi zs H2=>Same H H2/\i<=xs.f/\∃ss:Ab,Bears (Xd H2) zs ss/\ss.f=i/\∀(j:Nat)(x y:Ac),ts[j]?=some x->ss[j]?=some y->y.Perm x/\y.Q (·<=·)) {Same.refl _,Yk _,[],{Z,λi l e=>by simp at e},Z,λj x y _ h=>by simp at h} (Zi S) (λi zs H2 hi zz=>by let(e,Vs,ss,ez,el,_):=zz;show{hA.Y e,by rw[ez.1,el];show Ya _}) ?_ ?_
  .rintro i v zs H2 hi ⟨s2,VW,ss,hZ,NM,iV⟩ AP Xj;let(l,hl,r,k2,rfl,hr):=hX.at hi;let Xs:=(Xy.E hi).1
   show nm ?_;exists _,Z,k2,r,l,Z,hr.Y s2,VL l<|Xr hl,λms p1 p2 la Mg=>?_;let u:=XJ (o:=.lst<|IL ms) Mg
   show Xj _ _ {s2.l u,Xs,ss++[ms],(hZ.imp λ_ _ zz=>by let(r',e,h):=zz;exists r',e,u _ _ h).snoc ⟨la,Z,XS⟩,by rw[XB,NM];rfl,λj x y ex ey=>?_};cases c:j<ss.f
   .rw[Yn c]at ey;show iV j x y ex ey
   .let lt:=(Xy.E ey).1;rw[XB,Yo]at lt;let ej:j=i:=S
    rw[Ym S,show j-ss.f=0 by omega]at ey;let ey:ms=y:=Yc ey
    rw[ej,hl]at ex;let ex:l=x:=Yc ex
    rw[<-ey,<-ex];exists p1,p2
  rintro zs H2 ⟨s2,_,ss,hZ,NM,iV⟩ lA HN;let u3:=XJ (o:=.lst zs) HN
  let k3:(upd H2 lA<|.lst zs) lA=some (.lst zs):=XS;let HM:Bears (Xd<|upd H2 lA<|.lst zs) zs ss:=hZ.imp λ_ _ zz=>by let(r',e,h):=zz;exists r',e,u3 _ _ h
  let s3:=s2.l u3;generalize upd H2 lA (.lst zs)=H3 at *;exists _,Z,w,n,ps,Z,hW.Y s3,hG,λr ys H4 s4 hJ=>?_;let SY:=s3.l s4
  exists 2,_,lA,r,Z,Z,tI,Zx7 (SqL.of<|s4 _ _ k3) (SqL.of hJ.tab) (HM.imp λ_ _ zz=>by let(r',e,h):=zz;exists r',e,s4 _ _ h) hJ.lists,_,Z,?_;let key:=lh (n:=n.j) (ps:=ps) S iV
  show WI (λh=>?_) (λh=>?_)
  .show q (key.E h) H4 SY
  .show(qe (λv=>h<|key.H v) H4 SY).elim
inductive spZk(vs:List V)(H:Hp)(Q:VK)(_:XK):Prop
 |mk (d:Int) (_:vs=[.int d]) (_:Q (.int<|WD d) H)
def iU(T:Txt K mg t):Xg P w base Xo T.qZk 1 spZk:=by
 show T.qZk.okI ["dart"] tH λXD A outer s H vs Q E hr h=>?_
 .let⟨d,rfl,q⟩:=h;exists _,(XI<|Zm<|sQ (Zl UL (Zv SR (pv 0) Zd) Zd<|Zx _) (Zv ZZ (pv 0) Zd)<|Zv VF (pv 0) Zd),?_;exists _,Z,_,_,Z,Z,(by change(0:Int)<2;decide),Z,_,Z,?_;rw[Zz];show WA (λh=>?_) (λh=>?_)
  .exists _,Z,_,_,Z,Z,?_;let e:WD d=d+1:=if_pos h
   rwa[e]at q
  .exists _,Z,_,_,Z,Z,?_;let e:WD d=d-1:=if_neg h
   rwa[e]at q
inductive spZl(K:Ad)(vs:List V)(H:Hp)(Q:VK)(_:XK):Prop
 |mk (a:Addr) (kd:Bool) (xs:List V) (ts:Ab) (_:vs=[.ref a]) (_:SqK kd K H a xs) (_:Bears (RowV K H) xs ts) (_:ts.D.Nodup) (_:ts.D.f<=1000) (_:∀(d:Addr)(H':Hp),Same H H'->H d=none->H' d=some (.dK<|VI<|WC ts)->Q ↑d H')
def iT(L:Aa):(VI L).f=L.f:=by unfold VI;rw[Xz]
def iS(T:Txt K mg t):Xg P w base Xo T.qZl 2 (spZl K):=by
 show T.qZl.okI ["turns","behind","turn","at","dart"] tH λXD A outer s H vs Q E hr h=>?_
 .let⟨a,kd,xs,ts,rfl,hA,hX,Vq,QZ,q⟩:=h;show⟨_,(XQ (Ze 1 xo)
   (XQ (WS YR Z (NO K<|pv 0) (Zb 2)
   (XI (WS YR Z (lI K Z T.n_enumerate<|XZ (pv 2) XX) (Qi (n:=2) K Z<|Zs (Zb 3)<|Zs (Zb 4) Qn)
   (XI<|qM (VA hr) (pv 1) (Xv (iU T) hr T.qZk Zr<|XZ (pv 4) XX) (ZH (oQ K) (pv 2) (Zv SR (Zv ZZ (pv 3) Zd)<|Zf (Zh K) tK T.n_len Boot.«len»<|XZ (pv 2) XX) λ_ _=>rfl) Z))))
   (XI<|Zm<|pv 1))),?_⟩
  intro d hd;let u1:=XJ (o:=.dK []) hd
  let k1:(upd H d<|.dK []) d=some (.dK []):=XS;generalize upd H d (.dK [])=H1 at *;show nm ?_;dsimp only;exists _,Z,a,Z,Pe (K:=K) (k:=kd) (a:=a) (xs:=xs) (λi σ H2=>∃v2 v3 v4:Option V,σ=[some ↑a,some<|.ref d,v2,v3,v4]/\Same H H2/\i<=xs.f/\H2 d=some (.dK<|VI<|WC<|ts.X i)) {none,none,none,Z,u1,Yk _,k1} (λi σ H2 _ zz=>by let(_,_,_,_,e,_):=zz;show hA.Y e) ?_ ?_
  .rintro i v σ H2 hi ⟨v2,v3,v4,rfl,s2,VW,k2⟩;let(row,UD,r,k3,rfl,hr):=hX.at hi;let Xs:=(Xy.E hi).1
   let hrs:(ts.X i).D.f+row.f<=1000:=by
    let e:ts.D=(ts.X<|i+1).D++(ts.drop<|i+1).D:=by rw[<-PV,FE]
    rw[e,wj UD,XB,XB]at QZ;omega
   show nm ?_;dsimp only;exists _,Z,r,k3,Z,{_,hr.Y s2},lH (K:=K) (kd:=k3) (a:=r) (xs:=IL row) (λj σ H3=>∃v3 v4:Option V,σ=[some ↑a,some<|.ref d,some<|.ref r,v3,v4]/\Same H H3/\j<=row.f/\H3 d=some (.dK<|VI<|WC (ts.X i)++RE row j)) {v3,v4,Z,s2,Yk _,by rwa[show RE row 0=[] from Z,Yy]} (λj σ H3 _ zz=>by let(_,_,_,e,_):=zz;show hr.Y e) ?_ ?_
   .rintro j x σ H3 pt UC hj ⟨w3,w4,rfl,s3,Qh,k4⟩;let(z,rfl,hz):=WQ hj;let WG:=(Xy.E hz).1
    let u4:=XJ (o:=.tup [.int j,.int z]) UC;exists pt,_,Z,SqT.of XS,Z,_,_,Z,_,_,Z,Z,?_;let k5:=u4 _ _ k4
    let s5:=s3.l u4;generalize upd H3 pt (.tup [.int j,.int z])=H5 at *;let pos:(0:Int)<((IL row).f:Int):=by rw[Xw];omega
    let m0:0<=((j:Int)+1)%((IL row).f:Int):=Kj _ S;let m1:((j:Int)+1)%((IL row).f:Int)<((IL row).f:Int):=Kr _ pos
    let em:((j:Int)+1)%((IL row).f:Int)=(((j+1)%row.f:Nat):Int):=by rw[Xw,Int.natCast_emod,t8];rfl
    let n9:(j+1)%row.f<row.f:=Um _ S;obtain⟨y,hy⟩:∃y,row[(j+1)%row.f]?=some y:={_,XH n9};let e1:row.t j 0=z:=ZO hz
    let e2:row.t ((j+1)%row.f) 0=y:=ZO hy;exists _,Z,_,Z,_,_,Z,Z,_,Z,r,_,Z,(hr.Y s5).or,_,_,Z,Z,pos,k3,r,_,_,.int y,Z,Z,hr.Y s5,ZM (n:=(j+1)%row.f) em<|Ud hy,_,Z,_,Z,z,Z,?_;exists d,_,Z,DPut.k (k:=Sum.inl<|WD z) k5 (Zi<|by rw[iT,XB,lr,lu];omega),?_;let nw:=lx Vq UD WG
    rw[e1]at nw;exists _,_,Z,Zu hd s5,WG,?_;rw[XS,aq nw,lz,e1,e2,YG]
   rintro σ H3 ⟨w3,w4,rfl,s3,_,k4⟩;rw[Xw]at k4;exists _,_,_,Z,s3,Xs,by rwa[ly UD]
  rintro σ H2 ⟨v2,v3,v4,rfl,s2,_,k2⟩;rw[hX.1,YI]at k2;exists _,Z,q d H2 s2 hd k2
inductive spZm(vs:List V)(H:Hp)(Q:VK)(_:XK):Prop
 |mk (d:Addr) (B:Aa) (M:Nat) (x:Int) (_:vs=[.ref d,.int x]) (_:H d=some (.dK<|VI B)) (_:(B.C (·.1)).Nodup) (_:(∀x y z,(x,z)∈B->(y,z)∈B->x=y)) (_:(∀x y,(x,y)∈B->(0<=x/\x<(M:Int))/\0<=y/\y<(M:Int))) (_:(∀x,0<=x/\x<(M:Int)->∃y,(x,y)∈B)) (_:(0<=x/\x<(M:Int))) (_:M<=1000) (_:∀(r:Addr)(row:Ac)(H':Hp),Same H H'->H r=none->Orb B x row->H' r=some (.lst<|IL row)->Q ↑r H')
def iR(T:Txt K mg t):Xg P w base Xo T.qZm 1 spZm:=by
 show T.qZm.okI ["behind","start","found","dart"] tH λXD A outer s H vs Q E hr h=>?_
 .let⟨d,B,M,x,rfl,hd,Vq,Mf,FV,hex,hx,hM,q⟩:=h;show⟨_,(XQ (Ze 2<|Uz<|XZ (pv 1) XX)
   (XQ (Ze 3<|MT (VA hr) (pv 0) (pv 1) λ_ _=>rfl)
   (XQ (sE YR (Zl SQ (pv 3) (pv 1)<|Zx _)
   (XQ (ZS<|Sk K YU Nw Nx Ue (pv 2)<|XZ (pv 3) XX)
   (XI<|Ze 3<|MT (VA hr) (pv 0) (pv 3) λ_ _=>rfl)))
   (XI<|Zm<|pv 2)))),?_⟩
  exists _,Z,(by change 1<=sizeLine;decide),λr hr=>?_;let u1:=XJ (o:=.lst [.int x]) hr
  let k1:(upd H r<|.lst [.int x]) r=some (.lst<|IL [x]):=XS;let d1:=u1 _ _ hd
  generalize upd H r (.lst [.int x])=H1 at *;let dc:r≠d:=YY (Za hd hr)
  show nm ?_;dsimp only;let(y,hy):=hex x hx;exists _,Z,_,Z,d,.int y,Z,?_,?_
  .have:=DGet.k (k:=Sum.inl x) d1
   rwa[lC Vq hy]at this
  show nm ?_;dsimp only;let W0:Way B x y [x]:=by let h0:Way B x x []:={.nil,λi a b e=>by simp at e,.inl ⟨Z,Z⟩};show h0.snoc tG hy
  exists λm σ H2=>∃(row:Ac)(c:Int),σ=[some ↑d,some<|.int x,some<|.ref r,some (.int c)]/\Same H H2/\H2 r=some (.lst<|IL row)/\Way B x c row/\row≠[]/\(∀z∈row,0<=z/\z<(M:Int))/\(0<=c/\c<(M:Int))/\m=M-row.f,{M-1,[x],y,Z,u1,k1,W0,tG,λz hz=>(by rwa[XF.E hz]),(FV x y hy).2,Z},?_;rintro m σ H2 ⟨row,c,rfl,s2,k2,hW,XM,hz,hc,rfl⟩;exists _,Z,_,Z,Z,_,Z,?_;rw[Zz];let few:=KQ hW.1 hz
  show WI (λhe=>?_) (λhne2=>?_)
  .subst he;exists _,Z,q r row H2 s2 hr (hW.orb XM) k2
  .exists _,λσ' H' h=>h,?_;let Gd:c∉row:=λh=>hne2 (hW.meets Mf h)
   let(e,he):=hex c hc;exists _,Z,.inl {Z,_,SqL.of k2},_,Z,r,_,_,Z,Z,k2,Zi (by rw[Xw];omega),?_;let c1:IL row++[.int c]=IL (row++[c]):=(ZN ..).U
   rw[c1];let d3:(upd H2 r<|.lst<|IL<|row++[c]) d=some (.dK<|VI B):=by rw[XR (YY dc)];show s2 _ _ hd
   let W1:=hW.snoc Gd he;let iQ:=KQ W1.1 (M:=M) (λz Bj=>by
    rcases Xx.E Bj with e|e
    .show hz z e
    .rw[XF.E e];show hc)
   rw[XB,Yo]at iQ;exists _,Z,_,Z,d,.int e,Z,?_,?_
   .have:=DGet.k (k:=Sum.inl c) d3
    rwa[lC Vq he]at this
   show nm ?_;dsimp only;show{M-(row++[c]).f,by rw[XB,Yo];omega,row++[c],e,Z,Zu hr s2,XS,W1,tG,λz Bj=>?_,(FV c e he).2,Z};rcases Xx.E Bj with e|e
   .show hz z e
   .rw[XF.E e];show hc
inductive spZn(K:Ad)(C:Addr)(vs:List V)(H:Hp)(Q:VK)(_:XK):Prop
 |mk (w a:Addr) (kd:Bool) (n:Int) (ps:Aa) (xs:List V) (ts:Ab) (_:vs=[.ref w,.ref a]) (_:WebAt C H w n ps) (_:Zt n ps) (_:SqK kd K H a xs) (_:Bears (RowV K H) xs ts) (_:ts.f<=1000) (_:(∀l∈ts,l.f<64)) (_:(VT n.j ps ts->∀(r:Addr)(ys:List V)(R:Ab)(H':Hp),Same H H'->H r=none->RdW ps ts R->JagAt H r H' ys R->Q ↑r H')) (_:(¬VT n.j ps ts->∀H':Hp,Same H H'->False))
def HL(T:Txt K mg t):Xg P w base Xo T.qZn 3 (spZn K t.A_Web):=by
 show T.qZn.okI ["web","turns","behind","rounds","gone","dart","found","walked"] tH λXD A outer s H vs Q E hr h=>?_
 .let⟨w,a,kd,n,ps,xs,ts,rfl,hW,hG,hA,hX,Us,VL,q,qe⟩:=h;show⟨_,(XQ (ZS<|Xv (iX T) hr T.qZj Zr<|XZ (pv 0)<|XZ (pv 1) XX)
   (XQ (Wk (Zl UL (Zf (Zh K) tK T.n_len Boot.«len»<|XZ (Zk K (pv 0) Z) XX) Zd<|Zx _)
   (XI<|Zm<|Uz<|XZ (Uz XX) XX)
   Zp)
   (XQ (Ze 2<|Xv (iS T) hr T.qZl Zr<|XZ (pv 1) XX)
   (XQ (Ze 3<|Uz XX)
   (XQ (Ze 4 xo)
   (XQ (WS YR Z (ZJ Z T.n_range<|XZ (Zv RN Zd<|Zf (Zh K) tK T.n_len Boot.«len»<|XZ (Zk K (pv 0) Z) XX) XX) (Zb 5)
   (XI (Wk (sY<|ZC8 (VA hr) (pv 5)<|pv 4)
   (XQ (Ze 6<|Xv (iR T) hr T.qZm Zr<|XZ (pv 2)<|XZ (pv 5) XX)
   (XQ (ZS<|Sk K YU Nw Nx Ue (pv 3)<|XZ (pv 6) XX)
   (XI (WS YR Z (ZQ K<|pv 6) (Zb 7)
   (XI<|qM (VA hr) (pv 4) (pv 7) UM Z)))))
   Zp)))
   (XI<|Zm<|pv 3))))))),?_⟩
  let(g1,g2,g3,g4):=id hG;let one:1<=sizeLine:=tI
  exists _,Z,_,Z,w,a,kd,n,ps,xs,ts,Z,hW,hG,hA,hX,Us,VL,λhV H1 s1=>?_,λhV H1 s1=>qe hV H1 s1;let q:=q hV
  let gg:∀p∈ps,0<=p.1/\p.1<((n.j:Nat):Int)/\0<=p.2/\p.2<((n.j:Nat):Int):=λp hp=>by have:=g4 p hp;omega
  let(dx,tl,zs,h1,h2,h3):=id (hW.Y s1);let IS:=h3.1
  exists _,Z,w,_,dx,_,_,Z,h1,T.cl_Web,T.n_Web_ties,Wf _ _,tl,zs,Z,.inl<|SqL.of h2,Z,_,Z,?_;rw[Zz];show WA (λh0=>?_) (λh0=>?_)
  .let p0:ps.f=0:=S;exists Yk _,λi1 Gm=>{one,λr hr=>?_};let u1:=XJ (o:=.lst []) Gm
   let u2:=XJ (o:=.lst [.ref i1]) hr;let XM:i1≠r:=Za (H:=upd H1 i1<|.lst []) XS hr
   show q r [.ref i1] [[]] _ (s1.l<|u1.l u2) (s1.free<|u1.free hr) (.inl ⟨p0,Z⟩) {XS,{Z,λi l e=>?_},tG,λA hA=>?_}
   .let li:=(Xy.E e).1;let li:i<1:=li
    let rfl:i=0:=S;let rfl:[]=l:=Yc e;exists _,Z,i1,Z,u2 _ _ XS,XM
   .have:A=i1:=by simpa using hA
    rw[this];show s1.free Gm
  let p0:0<ps.f:=S;let As:Bears (RowV K H1) xs ts:=hX.imp λ_ _ h=>h.Y s1
  let fl:=hV.flat_len;exists _,Z,a,kd,xs,ts,Z,hA.Y s1,As,hV.flat,S,λd H2 s2 hd0 hd2=>?_;show nm ?_;dsimp only;let Ry:=s1.l s2
  let dn0:H d=none:=s1.free hd0;exists Yk _,λrA UX=>?_;let u3:=XJ (o:=.lst []) UX
  show nm ?_;dsimp only;intro gA Ar;let u4:=XJ (o:=.dK []) Ar
  let FX:=Ry.l (u3.l u4);let d4:=u4 _ _ (u3 _ _ hd2)
  let r4:=u4 _ _ (XS (H:=H2) (a:=rA) (o:=.lst []));let k4:(upd (upd H2 rA<|.lst []) gA<|.dK []) gA=some (.dK []):=XS
  let rn0:H rA=none:=Ry.free UX;let gn0:H gA=none:=Ry.free (u3.free Ar)
  let grA:gA≠rA:=λz=>by rw[z,XS]at Ar;cases Ar
  let gdA:gA≠d:=YY (Za (u3 _ _ hd2) Ar);let rdA:rA≠d:=YY (Za hd2 UX)
  generalize upd (upd H2 rA<|.lst []) gA (.dK [])=H4 at *;show nm ?_;dsimp only;let Mf:∀x y z,(x,z)∈WC ts->(y,z)∈WC ts->x=y:=λx y z=>wk hV
  let FV:∀x y,(x,y)∈WC ts->(0<=x/\x<((2*ps.f:Nat):Int))/\0<=y/\y<((2*ps.f:Nat):Int):=λx y Ua=>by have:=Gg hV Ua;omega
  let hex:∀x,0<=x/\x<((2*ps.f:Nat):Int)->∃y,(x,y)∈WC ts:=λx hx=>lE hV gg S;let(dx4,tl4,iP,w1,w2,w3):=id (hW.Y FX);let hz4:=w3.1
  exists _,Z,w,_,dx4,_,_,Z,w1,T.cl_Web,T.n_Web_ties,Wf _ _,tl4,iP,Z,.inl<|SqL.of w2,_,_,Z,Z,.inl ⟨tI,tI⟩,_,Z,S,S,JK (lo:=0) (n:=(2*iP⁻¹).j) (λk σ H5=>∃(v5 v6 v7:Option V)(ys:List V)(R:Ab)(kvs:List (Key×V)),σ=[some ↑w,some<|.ref a,some<|.ref d,some<|.ref rA,some<|.ref gA,v5,v6,v7]/\Same H H5/\H5 d=some (.dK<|VI<|WC ts)/\JagAt H rA H5 ys R/\Rds (WC ts) k R/\H5 gA=some (.dK kvs)/\Kys kvs R.D/\kvs.f<=R.D.f) {none,none,none,[],[],[],Z,FX,d4,JagAt.nil r4,Z,k4,Kys.nil,Ya _} ?_ ?_
  .rintro k σ H5 hk ⟨v5,v6,v7,ys,R,kvs,rfl,s5,d5,hJ,hR,k5,Aq,OA⟩;rw[RR];show nm ?_;dsimp only;let hk2:k<2*ps.f:=S
   let ndR:=hR.nodup Mf;let fewR:=KQ ndR (hR.range FV)
   exists _,Z,_,Z,gA,_,Z,DGet.k (k:=Sum.inl (k:Int)) k5,_,Z,?_;cases Wu:(Xt kvs<|Sum.inl (k:Int)).isSome with
   |true=>
    show Ts ?_;exists _,_,_,ys,R,kvs,Z,s5,d5,hJ,{R,hR,.inl {(Aq _).E Wu,Z}},k5,Aq,OA
   |false=>
    show UK ?_;let iO:(k:Int)∉R.D:=λh=>by rw[(Aq _).H h]at Wu;cases Wu
    exists _,Z,_,Z,d,WC ts,2*ps.f,(k:Int),Z,d5,lq hV.flat,Mf,FV,hex,S,S,λr row H6 s6 VU ho Me=>?_;show nm ?_;dsimp only;let HP:=hJ.Y s6
    let rny:V.ref r∉ys:=hJ.fresh VU;let rrA:r≠rA:=YY (Za hJ.tab VU)
    let rgA:r≠gA:=YY (Za k5 VU);let Qa:=hJ.rows.1
    let Rl:R.f<=R.D.f:=by
     have:∀L:Ab,(∀l∈L,0<l.f)->L.f<=L.D.f:=λL=>by
      induction L with
      |nil=>intro _;show Ya _
      |cons l L ih=>
       intro h
       have:=h l Yb
       have:=ih λx hx=>h x (Ye _ hx)
       rw[YZ,XB,Yv];omega
     show this R λl hl=>by let(_,o):=hR.orbs l hl;show o.pos
    exists _,Z,.inl {Z,_,SqL.of HP.tab},_,Z,rA,_,_,Z,Z,HP.tab,Zi S,?_;let vD:=HP.snoc Me (s5.free VU) rrA rny
    let s7:Same H (upd H6 rA<|.lst<|ys++[.ref r]):=Zu rn0 (s5.l s6);let d7:(upd H6 rA<|.lst<|ys++[.ref r]) d=some (.dK<|VI<|WC ts):=by rw[XR (YY rdA)];show s6 _ _ d5
    let k7:(upd H6 rA<|.lst<|ys++[.ref r]) gA=some (.dK kvs):=by rw[XR grA];show s6 _ _ k5
    let r7:(upd H6 rA<|.lst<|ys++[.ref r]) r=some (.lst<|IL row):=by rwa[XR rrA]
    generalize upd H6 rA (.lst<|ys++[.ref r])=H7 at *;let Ap:=ho.2.1
    let iN:=KQ Ap (BK FV ho);exists _,Z,r,Z,{_,SqL.of r7},GH (K:=K) (a:=r) (xs:=IL row) (λj σ H8=>∃(v7:Option V)(Sb:List (Key×V)),σ=[some ↑w,some<|.ref a,some<|.ref d,some<|.ref rA,some<|.ref gA,some<|.int k,some<|.ref r,v7]/\Same H H8/\H8 d=some (.dK<|VI<|WC ts)/\JagAt H rA H8 (ys++[.ref r]) (R++[row])/\H8 r=some (.lst<|IL row)/\H8 gA=some (.dK Sb)/\Kys Sb (R.D++row.X j)/\Sb.f<=R.D.f+j/\j<=row.f) {v7,kvs,Z,s7,d7,vD,r7,k7,by rw[xU,Yy];show Aq,OA,Yk _} (λj σ H8 _ zz=>by let(_,_,_,_,_,_,e,_):=zz;show SqL.of e) ?_ ?_
    .rintro j x σ H8 hj ⟨v7,Sb,rfl,s8,d8,iM,r8,k8,vC,iL,Qh⟩;let(z,rfl,hz):=WQ hj;let WG:=(Xy.E hz).1
     show nm ?_;dsimp only;exists _,Z,_,Z,gA,_,Z,DPut.k (k:=Sum.inl z) k8<|Zi S,?_;let hK9:=vC.put z (.bl true)
     rw[YG,show row.X j++[z]=row.X (j+1) by rw[YS,hz];rfl]at hK9;let lp:=xq Sb (Sum.inl z) (.bl true)
     exists _,_,Z,Zu gn0 s8,by rw[XR (YY gdA)];show d8,iM.oth grA (λxs e=>by rw[k8]at e;cases e),by rw[XR rgA];show r8,XS,hK9,S,WG
    rintro σ H8 ⟨v7,Sb,rfl,s8,d8,iM,r8,k8,vC,iL,_⟩;rw[Xw]at iL;rw[Xw,YI]at vC;let ef:(R++[row]).D=R.D++row:=by rw[PV];simp
    exists _,_,_,_,R++[row],Sb,Z,s8,d8,iM,{R,hR,.inr ⟨iO,row,ho,Z⟩},k8,by rw[ef];show vC,by rwa[ef,XB]
  rintro σ H5 ⟨v5,v6,v7,ys,R,kvs,rfl,s5,d5,hJ,hR,k5,Aq,OA⟩;rw[show(2*iP⁻¹).j=2*ps.f by omega]at hR;exists _,Z,q rA ys R H5 s5 rn0 (.inr ⟨p0,hR⟩) hJ
inductive spZo(K:Ad)(C:Addr)(vs:List V)(H:Hp)(Q:VK)(_:XK):Prop
 |mk (w a:Addr) (kd:Bool) (n:Int) (ps:Aa) (xs:List V) (ts:Ab) (_:vs=[.ref w,.ref a]) (_:WebAt C H w n ps) (_:Zt n ps) (_:SqK kd K H a xs) (_:Bears (RowV K H) xs ts) (_:ts.f<=1000) (_:(∀l∈ts,l.f<64)) (_:(VT n.j ps ts->∀(b:Bool)(R:Ab)(H':Hp),Same H H'->RdW ps ts R->(b=true↔Flat n ps R)->Q (.bl b) H')) (_:(¬VT n.j ps ts->∀H':Hp,Same H H'->False))
def Ao(T:Txt K mg t):Xg P w base Xo T.qZo 6 (spZo K t.A_Web):=by
 show T.qZo.okI ["web","turns","rounds"] tH λXD A outer s H vs Q E hr h=>?_
 .let⟨w,a,kd,n,ps,xs,ts,rfl,hW,hG,hA,hX,Us,VL,q,qe⟩:=h;show⟨_,(XQ (Ze 2<|Xv (HL T) hr T.qZn Zr<|XZ (pv 0)<|XZ (pv 1) XX)
   (XI<|Zm<|JQ (Xv (HS T) hr T.qZb Zr<|XZ (pv 0)<|XZ (Xv (HX T) hr T.qZ3 Zr<|XZ (pv 0) XX) XX)<|JR<|Rg UL (Zv ZZ (Zv VF (Zk K (pv 0) Z)<|Zf (Zh K) tK T.n_len Boot.«len»<|XZ (Zk K (pv 0) Z) XX)<|Zf (Zh K) tK T.n_len Boot.«len»<|XZ (pv 2) XX) Zd<|Zx _)),?_⟩
  exists _,Z,_,Z,w,a,kd,n,ps,xs,ts,Z,hW,hG,hA,hX,Us,VL,λhV r ys R H1 s1 VU hR hJ=>?_,λhV H1 s1=>qe hV H1 s1;show nm ?_;dsimp only;let hW1:=hW.Y s1
  show{_,Z,_,Z,w,n,ps,Z,hW1,by have:=hG.2.2.1;omega,λra H2 s2 hr0' Wj=>?_};exists w,ra,n,ps,true,Xh ps.f,Z,hW1.Y s2,hG,SqT.of Wj,NJ _,λb H3 s3 hb=>{_,Z,?_};rw[pj (by have:=hG.1;omega) (ZE hG (NJ _).all)]at hb;let QA:=s1.l (s2.l s3)
  cases b with
  |false=>
   show Ts ?_;show q hV false R H3 QA hR {λh=>(by cases h),λh=>?_}
   have:=hb.H h.1
   cases this
  |true=>
   show UK ?_;let(dx,tl,zs,h1,h2,h3):=id (hW.Y QA);let IS:=h3.1
   let hj3:=(s2.l s3) _ _ hJ.tab;let Qa:=hJ.rows.1
   exists _,Z,w,_,dx,_,_,Z,h1,T.cl_Web,T.n_Web_places,Uc _ _,_,Z,w,_,dx,_,_,Z,h1,T.cl_Web,T.n_Web_ties,Wf _ _,tl,zs,Z,.inl<|SqL.of h2,_,_,Z,Z,_,Z,r,_,Z,.inl<|SqL.of hj3,_,_,Z,Z,Z,?_;rw[Zz,IS,Qa];show q hV _ R H3 QA hR {λh=>{hb.E Z,YH h},λh=>YK h.2}
inductive spZp(K:Ad)(vs:List V)(H:Hp)(Q:VK)(_:XK):Prop
 |mk (a:Addr) (xs:List V) (ts:Ab) (_:vs=[.ref a]) (_:SqL K H a xs) (_:Bears (Xd H) xs ts) (_:ts.D.Nodup) (_:ts.D.f<=1000) (_:∀(d:Addr)(H':Hp),Same H H'->H d=none->H' d=some (.dK<|VI<|UG ts ts.f)->Q ↑d H')
def iK(T:Txt K mg t):Xg P w base Xo T.qZp 1 (spZp K):=by
 show T.qZp.okI ["rounds","numbers","number","darts","dart"] tH λXD A outer s H vs Q E hr h=>?_
 .let⟨a,ys,ts,rfl,hA,hY,flN,fl,q⟩:=h;show⟨_,(XQ (Ze 1 xo)
   (XQ (WS YR Z (Lu K Z T.n_enumerate<|XZ (pv 0) XX) (Qi (n:=2) K Z<|Zs (Zb 2)<|Zs (Zb 3) Qn)
   (XI (WS YR Z (ZQ K<|pv 3) (Zb 4)
   (XI<|qM (VA hr) (pv 1) (pv 4) (pv 2) Z))))
   (XI<|Zm<|pv 1))),?_⟩
  let Qa:=hY.1;intro pA An;let u5:=XJ (o:=.dK []) An
  let k5:(upd H pA<|.dK []) pA=some (.dK<|VI []):=XS;generalize upd H pA (.dK [])=H5 at *;show nm ?_;dsimp only;exists _,Z,a,Z,{_,u5.seq hA},DH (K:=K) (a:=a) (xs:=ys) (λi σ H6=>∃v8 v9 v10:Option V,σ=[some ↑a,some<|.ref pA,v8,v9,v10]/\Same H H6/\i<=ys.f/\H6 pA=some (.dK<|VI<|UG ts i)) ⟨none,none,none,Z,u5,Yk _,k5⟩ (λi σ H6 _ zz=>by let(_,_,_,_,e,_):=zz;show e.seq hA) ?_ ?_
  .rintro i v σ H6 pt UC hi ⟨v8,v9,v10,rfl,s6,VW,k6⟩;let(row,UD,r,rfl,hr):=hY.at hi;let Xs:=(Xy.E hi).1
   let u7:=XJ (o:=.tup [.int i,.ref r]) UC;exists pt,_,Z,SqT.of XS,Z,_,_,Z,_,_,Z,Z,?_;let s7:=s6.l u7
   let k7:=u7 _ _ k6;generalize upd H6 pt (.tup [.int i,.ref r])=H7 at *;let grow:ts.t i []=row:=by rw[Xl,UD];rfl
   let nd:=BI flN UD;let hrs:(ts.X i).D.f+row.f<=1000:=by
    let e:ts.D=(ts.X<|i+1).D++(ts.drop<|i+1).D:=by rw[<-PV,FE]
    rw[e,wj UD,XB,XB]at fl;omega
   let pk:=we ts i S;let pll:(UG ts i).f=(ts.X i).D.f:=by rw[<-pk,Xz]
   exists _,Z,r,Z,{_,SqL.of<|s7 _ _ hr},GH (K:=K) (a:=r) (xs:=IL row) (λj σ H8=>∃v10:Option V,σ=[some ↑a,some<|.ref pA,some<|.int i,some<|.ref r,v10]/\Same H H8/\j<=row.f/\H8 pA=some (.dK<|VI<|UG ts i++TL (row.X j) i)) {v10,Z,s7,Yk _,by rwa[show TL (row.X 0) i=[] from Z,Yy]} (λj σ H8 _ zz=>by let(_,_,e,_):=zz;show SqL.of<|e _ _ hr) ?_ ?_
   .rintro j x σ H8 hj ⟨w10,rfl,s8,Qh,k8⟩;let(z,rfl,hz):=WQ hj;let WG:=(Xy.E hz).1
    show nm ?_;dsimp only;let nw:∀p∈UG ts i++TL (row.X j) i,p.1≠z:=λp hp e=>by
     let m1:p.1∈(UG ts i++TL (row.X j) i).C (·.1):=List.mem_map_of_mem hp;let e1:(TL (row.X j) (i:Int)).C (·.1)=row.X j:=by unfold TL;rw[Rq];show List.map_id'' (λ_=>rfl) _
     rw[Yp,pk,e1,e]at m1;let e4:(ts.X i).D++row=((ts.X i).D++row.X j)++row.drop j:=by rw[YG,FE]
     rw[e4]at nd;show(YM.E nd).2.2 _ m1 _ (Xr (i:=0)<|by rwa[Fv]) rfl
    let kl:(VI<|UG ts i++TL (row.X j) (i:Int)).f<=1000:=by unfold VI TL;rw[Xz,XB,Xz,YB];omega
    exists _,Z,_,Z,_,Z,pA,_,Z,DPut.k (k:=Sum.inl z) k8<|Zi S,?_;exists _,Z,Zu An s8,WG,?_;rw[XS,aq nw,YG]
    have:TL (row.X<|j+1) (i:Int)=TL (row.X j) i++[(z,(i:Int))]:=by unfold TL;rw[YS,hz,Yp];rfl
    rw[this]
   rintro σ H8 ⟨w10,rfl,s8,_,k8⟩;rw[Xw,YI]at k8;exists _,_,_,Z,s8,Xs,?_;rw[k8];change some (HO.dK<|VI<|UG ts i++TL row i)=some (HO.dK<|VI<|UG ts i++TL (ts.t i []) i)
   rw[grow]
  rintro σ H6 ⟨v8,v9,v10,rfl,s6,_,k6⟩;rw[Qa]at k6;exists _,Z,q pA H6 s6 An k6
inductive spZq(K:Ad)(C:Addr)(vs:List V)(H:Hp)(Q:VK)(_:XK):Prop
 |mk (w a:Addr) (kd:Bool) (n:Int) (ps:Aa) (xs:List V) (ts:Ab) (_:vs=[.ref w,.ref a]) (_:WebAt C H w n ps) (_:Zt n ps) (_:SqK kd K H a xs) (_:Bears (RowV K H) xs ts) (_:ts.f<=1000) (_:(∀l∈ts,l.f<64)) (_:(VT n.j ps ts->∀R:Ab,RdW ps ts R->(Flat n ps R->R.f<=14->∀(w':Addr)(H':Hp),Same H H'->WebAt C H' w' R.f (UY R ps.f)->Q ↑w' H')/\(Flat n ps R->¬R.f<=14->∀H':Hp,Same H H'->False)/\(¬Flat n ps R->∀H':Hp,Same H H'->False))) (_:(¬VT n.j ps ts->∀H':Hp,Same H H'->False))
def iJ:FnScope ["web","turns","rounds","numbers"] ["web","turns"] (Zc (top 42)):=RA tH
def iI(T:Txt K mg t):Xg P w base Xo T.qZq 7 (spZq K t.A_Web):=by
 show T.qZq.okI ["web","turns","rounds","numbers"] tH λXD A outer s H vs Q E hr h=>?_
 .let⟨w,a,kd,n,ps,xs,ts,rfl,hW,hG,hA,hX,Us,VL,q,qe⟩:=h;show⟨_,(XQ (Wk (Nf<|LK<|Xv (Ao T) hr T.qZo Zr<|XZ (pv 0)<|XZ (pv 1) XX)
   (XI Vv)
   Zp)
   (XQ (Ze 2<|Xv (HL T) hr T.qZn Zr<|XZ (pv 0)<|XZ (pv 1) XX)
   (XQ (RO (i:=3) iJ.nd Z (Or.inr Z)<|Xv (iK T) hr T.qZp Zr<|XZ (pv 2) XX)
   (XI<|Zm<|GF T.k_Web (HZ T) (hr.mono tI) Z T.c_Web T.bZ2 .nil Zr<|XZ (Zf (Zh K) tK T.n_len Boot.«len»<|XZ (pv 2) XX)<|XZ (SI Z (sc0:=Zc<|top 42) (N0:=["web","turns","rounds","numbers"]) (N':=["tie","numbers"]) (o:=1) (fr:=[3]) ⟨Z,tH,tH,tH,Z,tH⟩ (p6 K<|Xv (HX T) hr T.qZ3 Zr<|XZ (pv 0) XX) (Zw tI) (λ_ _ _ _=>(Zb 0)) (λ_ _ _ _=>ZY) λ_ _ _ _=>(Ui<|XZ (MT (VA hr) (pv 1) (Zv RN Zd<|pv 0) λ_ _=>rfl)<|XZ (MT (VA hr) (pv 1) (Zv ZZ (Zv RN Zd<|pv 0) Zd) λ_ _=>rfl) XX)) XX)))),?_⟩
  let two:2<=sizeLine:=tI;let(g1,g2,g3,g4):=id hG;exists _,Z,_,Z,w,a,kd,n,ps,xs,ts,Z,hW,hG,hA,hX,Us,VL,λhV b R H1 s1 hR hb=>?_,λhV H1 s1=>qe hV H1 s1;let(q1,q2,q3):=q hV R hR;exists _,Z,?_;show ML (λz=>?_) λz=>?_;rotate_left
  .show(q3 (λh=>by rw[hb.H h]at z;cases z) H1 s1).elim
  let hF:=hb.E z;exists _,Z,_,Z,w,a,kd,n,ps,xs,ts,Z,hW.Y s1,hG,hA.Y s1,hX.imp λ_ _ h=>h.Y s1,Us,VL,λ_ r ys R2 H2 s2 VU iH hJ=>?_,λh=>absurd hV h;let eR:R2=R:=iH.uniq hV hR
  subst eR;show nm ?_;dsimp only;let Wy:=s1.l s2
  let fw:=hR.few hV;exists _,Z,r,ys,R2,Z,SqL.of hJ.tab,hJ.lists,hR.nodup hV,S,λd H3 s3 hd0 Qb=>?_;show nm ?_;dsimp only;let QA:=Wy.l s3
  let Qa:=hJ.rows.1;exists _,Z,r,ys,Z,.inl<|SqL.of<|s3 _ _ hJ.tab,_,Z,w,n,ps,Z,hW.Y QA,S,λra H4 s4 hra0 hra=>?_;let d4:=s4 _ _ Qb
  let rgl:(Xh ps.f).f=ps.f:=ZB _;exists ra,Z,{_,SqT.of hra},Jl (K:=K) (a:=ra) (xs:=IL<|Xh ps.f) (λi zs H5=>Same H4 H5/\i<=ps.f/\PairsV H5 zs ((UY R2 ps.f).X i)) {Same.refl _,Yk _,PairsV.nil} (Zi<|by rw[Xw];omega) (λi zs H5 _ zz=>by let(e,hi,h):=zz;show{SqT.of<|e _ _ hra,by rw[h.1,YB];omega}) ?_ ?_
  .rintro i v zs H5 hi ⟨s5,VW,hZ⟩ AP Xj;let(z,rfl,hz):=WQ hi;let Xs:i<ps.f:=by have:=(Xy.E hz).1;rwa[rgl]at this
   let rfl:(i:Int)=z:=by rw[oS Xs]at hz;show Yc hz
   show nm ?_;let d5:=s5 _ _ d4
   let v0:=Iu (hR.all hV (x:=2*(i:Int)) S);let v1:=Iu (hR.all hV (x:=2*(i:Int)+1) S)
   let G0:=DGet.k (k:=Sum.inl<|2*(i:Int)) d5;rw[v0.1]at G0;let G1:=DGet.k (k:=Sum.inl<|2*(i:Int)+1) d5
   rw[v1.1]at G1;exists _,Z,_,Z,_,_,Z,Z,.inl ⟨tI,tI⟩,d,_,Z,G0,_,Z,_,Z,_,_,Z,Z,.inl ⟨tI,tI⟩,_,_,Z,Z,d,_,Z,G1,two,λtt VV=>Xj _ _ {s5.l<|XJ VV,Xs,?_};let e:(UY R2 ps.f)[i]?=some (Vr R2<|2*(i:Int),Vr R2<|2*(i:Int)+1):=by unfold UY;rw[Yr,PX Xs];rfl
   rw[YS,e];show(hZ.Y<|XJ VV).snoc ⟨tt,Z,XS⟩
  rintro zs H5 ⟨s5,_,hZ⟩ la Mg;let owl:(UY R2 ps.f).f=ps.f:=by unfold UY;rw[Xz,YO]
  rw[Xw,rgl,Vx S]at hZ;let u6:=XJ (o:=.lst zs) Mg
  let Md:(upd H5 la<|.lst zs) la=some (.lst zs):=XS;let iG:=hZ.Y u6
  let vB:=QA.l (s4.l<|s5.l u6);generalize upd H5 la (.lst zs)=H6 at *;intro x HK nx Ru Ou;let t1:Same H6 (upd (upd H6 HK<|.own x) x<|.ins t.A_Web HK []):=ZD (XJ Ru) (by rwa[XR (YY Ou)])
  let inR:∀p∈UY R2 ps.f,0<=p.1/\p.1<R2⁻¹/\0<=p.2/\p.2<R2⁻¹:=λp hp=>by
   let(k,hk,rfl):=Yq.E hp;let hk:=YL.E hk
   let a0:=(Iu<|hR.all hV (x:=2*(k:Int)) S).2;let a1:=(Iu<|hR.all hV (x:=2*(k:Int)+1) S).2
   exists a0.1,a0.2,a1.1,a1.2
  let eG:Zt R2⁻¹ (UY R2 ps.f)↔R2.f<=14:=by
   constructor
   .intro g;have:=g.2.1;omega
   .intro h;exists ?_,S,S,inR
    have:=hF.2
    rcases hR with ⟨_,rfl⟩|⟨p0,h'⟩
    .change(1:Int)<=1;omega
    .have:=h'.below 0 S S
     cases R2 with
     |nil=>cases this
     |cons a b=>rw[Yv];omega
  rw[Qa];let Am:R2.f<=14:=YC λh=>q2 hF h _ (vB.l t1)
  exists x,HK,R2⁻¹,la,false,zs,UY R2 ps.f,Z,XS,λo=>?_,iG.Y t1,eG.H Am,λH7 hV7 k7=>{Z,?_}
  .show SqL.of (by rwa[XR (Za Md nx),XR<|Za Md nx,XR (Za Md Ru)])
  .show q1 hF Am x H7 (vB.l λb o e=>k7 b o (t1 b o e)<|Za e nx) hV7
inductive spZr(K:Ad)(C:Addr)(vs:List V)(H:Hp)(Q:VK)(_:XK):Prop
 |mk (w a:Addr) (n:Int) (ps:Aa) (kd:Bool) (ts:Ac) (_:vs=[.ref w,.ref a]) (_:WebAt C H w n ps) (_:Zt n ps) (_:SqK kd K H a (IL ts)) (_:(Zn n ps ts->∀(D:Ac)(r:Addr)(H':Hp),D.Q (·<·)->(∀z,z∈D↔(0<=z/\z<ps⁻¹)/\z∉ts)->Same H H'->H' r=some (.tup<|IL D)->Q ↑r H')) (_:(¬Zn n ps ts->∀H':Hp,Same H H'->False))
def Al(T:Txt K mg t):Xg P w base Xo T.qZr 8 (spZr K t.A_Web):=by
 show T.qZr.okI ["web","tree"] tH λXD A outer s H vs Q E hr h=>?_
 .let⟨w,a,n,ps,kd,ts,rfl,hW,hG,hS,q,qe⟩:=h;show⟨_,(XQ (ZS<|Xv (Ay T) hr T.qZe Zr<|XZ (pv 0)<|XZ (pv 1) XX)
   (XI<|Zm<|Xv (AI T) hr T.qZ4 Zr<|XZ (pv 0)<|XZ (pv 1) XX)),?_⟩
  let g3:=hG.2.2.1;exists _,Z,_,Z,w,a,n,ps,kd,ts,Z,hW,hG,hS,λhT H1 s1=>?_,qe;exists _,Z,_,Z,w,a,n,ps,kd,ts,Z,hW.Y s1,S,hS.Y s1,λD FU hD r H' s hr=>q hT D r H' FU hD (s1.l s) hr
inductive spZs(K:Ad)(vs:List V)(H:Hp)(Q:VK)(_:XK):Prop
 |mk (a kd xs L:_) (_:vs=[.ref a]) (_:SqK kd K H a xs) (_:Bears (RowV K H) xs L) (_:((∀l∈L,l.f=L.f)->Q .non H)) (_:(¬(∀l∈L,l.f=L.f)->False))
def iF(T:Txt K mg t):Xg P w base Xo T.qZs 1 (spZs K):=by
 show T.qZs.okI ["table","row"] tH λXD A outer s H vs Q E hr h=>?_
 .let⟨a,kd,xs,L,rfl,hS,hB,q,qe⟩:=h;show⟨_,(XI (WS YR Z (NO K<|pv 0) (Zb 1)
   (XI (Wk (Zl SQ (Zf (Zh K) tK T.n_len Boot.«len»<|XZ (pv 1) XX) (Zf (Zh K) tK T.n_len Boot.«len»<|XZ (pv 0) XX)<|Zx _)
   (XI Vv)
   Zp)))),?_⟩
  let Sw:=hB.1;exists _,Z,a,Z,Pe (K:=K) (k:=kd) (a:=a) (xs:=xs) (λi σ H2=>∃v1,σ=[some ↑a,v1]/\H2=H/\∀l∈L.X i,l.f=L.f) {none,Z,Z,λl h=>(by cases h)} (λi σ H2 _ zz=>by let(_,_,e,_):=zz;show e▸hS) ?_ ?_
  .rintro i v σ H2 hi ⟨v1,rfl,rfl,hall⟩;let(l,hl,r,k,rfl,hr):=hB.at hi;show nm ?_;exists _,Z,r,_,Z,hr.or,_,Z,a,xs,Z,hS.or,Z,_,Z,?_;rw[Xw,Zz];show WI (λe=>?_) (λe=>?_)
   .exists _,Z,Z,λm hm=>?_;rw[YS,hl]at hm;rcases Xx.E hm with h|h
    .show hall m h
    .let Lq:m=l:=by simpa using h
     rw[Lq];lia
   .show qe λh=>e (by rw[h l (Xr hl),Sw])
  .rintro σ H2 ⟨v1,rfl,rfl,hall⟩;rw[Sw,YI]at hall;show q hall
inductive spZt(K:Ad)(vs:List V)(H:Hp)(Q:VK)(_:XK):Prop
 |mk (r p x y last l q:_) (_:vs=[.ref r,.ref p,.int last]) (_:SqL K H r (IL<|x::l)) (_:SqL K H p (IL<|y::q)) (_:l.f=q.f) (_:l.f<=1000) (_:last≠0) (_:last.natAbs<2^9000) (_:(∀z∈x::l,z.natAbs<2^9000)) (_:(∀z∈y::q,z.natAbs<2^9000)) (_:∀c H',Same H H'->H c=none->H' c=some (.lst<|IL<|OM y q last<|x::l)->Q ↑c H')
def iE(T:Txt K mg t):Xg P w base Xo T.qZt 1 (spZt K):=by
 show T.qZt.okI ["row","pivot","last"] tH λXD A outer s H vs Q E hr h=>?_
 .let⟨r,p,x,y,last,l,q',rfl,hR,hP,hlq,hl,l0,l1,hx,hy,q⟩:=h;exists _,(XI<|Zm<|SI Z (sc0:=Zc<|top 46) (N0:=["row","pivot","last"]) (N':=["own","other","pivot","row","last"]) (o:=2) (fr:=[1,0,2]) ⟨Z,tH,tH,tH,Z,tH⟩ (CU K Z T.n_zip<|XZ (Rc (QX K) (pv 0) (JA Zd) En)<|XZ (Rc (QX K) (pv 1) (JA Zd) En) XX) (DS<|NR tI<|NR tI DT) (λ_ _ _ _=>(Qi (n:=2) K Z<|Zs (Zb 0)<|Zs (Zb 1) Qn)) (λ_ _ _ _=>ZY) λ_ _ _ _=>(Zv nM (Zv VF (Zv nN (ZH (Zj K) (pv 2) Zd λ_ _=>rfl)<|pv 0)<|Zv nN (ZH (Zj K) (pv 3) Zd λ_ _=>rfl)<|pv 1)<|pv 4)),?_;exists _,Z,_,Z,r,_,Z,hR,λp1 TK=>?_;rw[bL];let s1:=XJ (o:=.lst<|IL l) TK
  exists _,Z,_,Z,p,_,Z,s1.seq hP,λp2 Vu=>?_;rw[bL];let s2:=XJ (o:=.lst<|IL q') Vu
  let Wy:=s1.l s2;let h1:=s2 _ _ (XS (H:=H) (a:=p1) (o:=.lst<|IL l))
  let h2:(upd (upd H p1<|.lst<|IL l) p2<|.lst<|IL q') p2=some (.lst<|IL q'):=XS;generalize upd (upd H p1<|.lst<|IL l) p2 (.lst<|IL q')=H2 at *;show⟨p1,p2,Z,{_,_,SqL.of h1,SqL.of h2},n8 (K:=K) (a:=p1) (b:=p2) (xs:=IL l) (ys:=IL q') (λi zs H3=>Same H2 H3/\i<=l.f/\zs=IL ((OM y q' last<|x::l).X i)) {Same.refl _,Yk _,Z} (by rwa[Xw,Xw]) (Zi<|by rw[Xw];lia)
   (λi zs H3 hi zz=>by let(e,Vs,ez):=zz;show{SqL.of<|e _ _ h1,SqL.of<|e _ _ h2,by rw[ez,Xw,YB];lia}) ?_ ?_⟩
  .rintro i u v zs H3 pt UC hu hv ⟨s3,VW,rfl⟩ AP Xj;let(own,rfl,ho):=WQ hu;let(oth,rfl,ht):=WQ hv;let Xs:=(Xy.E ho).1
   let s4:=XJ (o:=.tup [.int own,.int oth]) UC;exists pt,_,Z,SqT.of XS,Z,_,_,Z,_,_,Z,Z,?_;let SY:=Wy.l (s3.l s4)
   let a1:=hy y Yb;let a2:=hx own (Ye _<|Xr ho)
   let a3:=hx x Yb;let a4:=hy oth (Ye _<|Xr ht)
   exists _,Z,p,_,0,.int y,Z,Z,SY.seq hP,ZM (n:=0) Z Z,_,Z,_,_,Z,Z,⟨a1,a2⟩,_,Z,r,_,0,.int x,Z,Z,SY.seq hR,ZM (n:=0) Z Z,_,Z,_,_,Z,Z,⟨a3,a4⟩,_,_,Z,Z,_,Z,_,_,Z,Z,⟨l0,l1⟩,?_;show Xj _ _ {s3.l s4,Xs,?_};let e:(OM y q' last<|x::l)[i]?=some ((y*own-x*oth).fdiv last):=by change(List.zipWith _ l q')[i]?=_;rw[Ha,ho,ht];rfl
   rw[YS,e];show(ZN _ _).U
  .rintro zs H3 ⟨s3,_,rfl⟩ c hc;rw[Xw,Vx (by rw[bM (by rw[Yv,hlq])];lia)];show q c _ (Wy.l<|s3.l<|XJ hc) ((Wy.l s3).free hc) XS
inductive spZu(K:Ad)(vs:List V)(H:Hp)(Q:VK)(_:XK):Prop
 |mk (a ys R:_) (_:vs=[.ref a]) (_:SqL K H a ys) (_:Bears (Xd H) ys R) (_:(∀l∈R,0<l.f)) (_:(∀H':Hp,Same H H'->(∀i,i<R.f->fnL R i 0=0)->Q .non H')) (_:(∀t H',Same H H'->t<R.f->fnL R t 0≠0->Q (.int t) H'))
def iD(T:Txt K mg t):Xg P w base Xo T.qZu 1 (spZu K):=by
 show T.qZu.okI ["rows","at","row"] tH λXD A outer s H vs Q E hr h=>?_
 .let⟨a,ys,R,rfl,hS,hB,hp,q0,q1⟩:=h;show⟨_,(XQ (WS YR Z (Lu K Z T.n_enumerate<|XZ (pv 0) XX) (Qi (n:=2) K Z<|Zs (Zb 1)<|Zs (Zb 2) Qn)
   (XI (Wk (Zl SQ (ZH (Zj K) (pv 2) Zd λ_ _=>rfl) Zd<|Zx _)
   (XI<|Zm<|pv 1)
   Zp)))
   (XI<|Zm xF)),?_⟩
  let Qa:=hB.1;exists _,Z,a,Z,{_,hS},DH (K:=K) (a:=a) (xs:=ys) (λi σ H2=>∃v1 v2,σ=[some ↑a,v1,v2]/\Same H H2/\∀j,j<i->fnL R j 0=0) {none,none,Z,Same.refl _,λj h=>absurd h<|TH _} (λi σ H2 _ zz=>by let(_,_,_,e,_):=zz;show e.seq hS) ?_ ?_
  .rintro i v σ H2 pt UC hi ⟨v1,v2,rfl,s2,hz⟩;let(l,hl,r,rfl,hr):=hB.at hi;let hlp:=hp l (Xr hl)
   obtain⟨x,l',rfl⟩:∃x l',l=x::l':=by
    cases l with
    |nil=>show absurd hlp (RT 0)
    |cons x l'=>exists x,l',Z
   let e0:fnL R i 0=x:=NH hl rfl;let s3:=s2.l (XJ (o:=.tup [.int i,.ref r]) UC)
   exists pt,_,Z,SqT.of XS,Z,_,_,Z,_,_,Z,Z,?_;generalize upd H2 pt (.tup [.int i,.ref r])=H3 at *;exists _,Z,r,_,0,.int x,Z,Z,SqL.of<|s3 _ _ hr,ZM (n:=0) Z Z,Z,_,Z,?_;rw[Zz];show WI (λe=>?_) (λe=>?_)
   .exists _,_,Z,s3,λj hj=>?_;cases c:j=i
    .rw[c,e0,e]
    .show hz j J
   .exists _,Z,q1 i H3 s3 (by have:=(Xy.E hl).1;show this)<|by rwa[e0]
  .rintro σ H2 ⟨v1,v2,rfl,s2,hz⟩;show q0 H2 s2 λi hi=>hz i J
inductive spZv(K:Ad)(vs:List V)(H:Hp)(Q:VK)(_:XK):Prop
 |mk (a kd xs L:_) (_:vs=[.ref a]) (_:SqK kd K H a xs) (_:Bears (RowV K H) xs L) (_:L.f<=16) (_:(∀i j,i<L.f->j<L.f->(fnL L i j).natAbs<=2^400)) (_:((∀l∈L,l.f=L.f)->∀H':Hp,Same H H'->Q (.int<|det L.f<|fnL L) H')) (_:(¬(∀l∈L,l.f=L.f)->∀H':Hp,Same H H'->False))
def iz{s rest:TS}{D:Ends}{σ:L2.St}{H:Hp}(P:L2.St->Hp->Prop)(h1:∀σ' H',P σ' H'->rest D σ' H')(h2:∀K:L2.St->Hp->Prop,(∀σ' H',P σ' H'->K σ' H')->s {D with nx:=K} σ H):Wo s rest D σ H:=h2 _ h1
def Ot:FnScope ["table","rows","sign","last","at","pivot"] ["table"] (Zc (top 48)):=RA tH
def iy(T:Txt K mg t):Xg P w base Xo T.qZv 2 (spZv K):=by
 show T.qZv.okI ["table","rows","sign","last","at","pivot"] tH λXD A outer s H vs Q E hr h=>?_
 .let⟨a,kd,xs,L,rfl,hS,hB,Ak,vE,q,qe⟩:=h;show⟨_,(XQ (ZS<|Xv (iF T) hr T.qZs Zr<|XZ (pv 0) XX)
   (XQ (Ph (i:=1) Z Ot.nd Z Z (sc0:=Zc<|top 48) (N0:=["table","rows","sign","last","at","pivot"]) (N':=["row"]) (o:=1) (fr:=[]) ⟨Z,tH,tH,tH,Z,tH⟩ (NO K<|pv 0) (Zw tI) (λ_ _ _ _=>(Zb 0)) (λ_ _ _ _=>ZY) λ_ _ _ _=>(Zq (Gz K) tK T.n_list Boot.«list»<|XZ (pv 0) XX))
   (XQ (Ze 2 Zd)
   (XQ (RO (i:=3) Ot.nd Z (Or.inr Z) Zd)
   (XQ (sE YR (Zl Pq (Zf (Zh K) tK T.n_len Boot.«len»<|XZ (pv 1) XX) Zd<|Zx _)
   (XQ (Ze 4<|Xv (iD T) hr T.qZu Zr<|XZ (pv 1) XX)
   (XQ (Wk (Zl EC (pv 4) xF<|Zx _)
   (XI<|Zm Zd)
   Zp)
   (XQ (Wk (Zl UL (Zv SR (pv 4) Zd) Zd<|Zx _)
   (XI<|Ze 2<|JI JG<|pv 2)
   Zp)
   (XQ (RO (i:=5) Ot.nd Z (Or.inr Z)<|Sk K YU eE eJ di (pv 1)<|XZ (pv 4) XX)
   (XQ (Ph (i:=1) Z Ot.nd Z Z (sc0:=Zc<|top 48) (N0:=["table","rows","sign","last","at","pivot"]) (N':=["row","pivot","last"]) (o:=1) (fr:=[5,3]) ⟨Z,tH,tH,tH,Z,tH⟩ (ZQ K<|pv 1) (Zw tI) (λ_ _ _ _=>(Zb 0)) (λ_ _ _ _=>ZY) λ_ _ _ _=>(Xv (iE T) hr T.qZt Zr<|XZ (pv 0)<|XZ (pv 1)<|XZ (pv 2) XX))
   (XI<|RO (i:=3) Ot.nd Z (Or.inr Z)<|ZH (Zj K) (pv 5) Zd λ_ _=>rfl)))))))
   (XI<|Zm<|Zv nN (pv 2)<|pv 3)))))),?_⟩
  let Sw:=hB.1;exists _,Z,a,kd,xs,L,Z,hS,hB,λix=>?_,λh=>qe h H<|Same.refl H;let q:=q ix
  obtain⟨n,hn⟩:∃n,n=L.f:={_,Z};rw[<-hn]at q ix vE Ak;exists _,Z,a,Z,DJ (K:=K) (k:=kd) (a:=a) (xs:=xs) (λi zs H2=>Same H H2/\i<=xs.f/\Bears (Xd H2) zs (L.X i)) {Same.refl _,Yk _,{Z,λi l e=>by simp at e}} (Zi J) (λi zs H2 hi zz=>by let(e,Vs,ez):=zz;show{hS.Y e,by rw[ez.1,YB];lia}) ?_ ?_
  .rintro i v zs H2 hi ⟨s2,VW,hZ⟩ AP Xj;let(l,hl,r,k,rfl,hr):=hB.at hi;let Xs:=(Xy.E hi).1
   show nm ?_;exists _,Z,r,_,Z,(hr.Y s2).or,λc hc=>Xj _ _ {s2.l<|XJ hc,Xs,?_};rw[YS,hl];show(hZ.imp λ_ _ zz=>by let(r',e,h):=zz;exists r',e,XJ hc _ _ h).snoc ⟨c,Z,XS⟩
  rintro zs H2 ⟨s2,_,hZ⟩ rA UX;rw[Sw,YI]at hZ;let s3:=s2.l (XJ (o:=.lst zs) UX)
  exists λm σ H4=>∃A k rA ys R sgn last v4 v5,σ=[some ↑a,some<|.ref rA,some<|.int sgn,some<|.int last,v4,v5]/\Same H H4/\H rA=none/\H4 rA=some (.lst ys)/\Bears (LiV rA H4) ys R/\R.f=m/\(∀l∈R,l.f=m)/\k+m=n/\RG A k m (fnL R) last/\det n (fnL L)=sgn*det n A/\(∀i j,i<n->j<n->(A i j).natAbs<=2^400)/\(m=0->last=det n A)/\(sgn=1\/sgn=-1)/\last.natAbs<2^9000,{n,fnL L,0,rA,zs,L,1,1,none,none,Z,s3,s2.free UX,XS,?_,hn.U,ix,J,Zm9 _ _,tL,vE,λe=>by rw[e];rfl,.inl Z,Nat.one_lt_two_pow tI},?_
  .show hZ.imp λv l zz=>by let(r,e,h):=zz;exists r,e,XJ UX _ _ h,Za h UX
  rintro m σ H4 ⟨A,k,rA,ys,R,sgn,last,v4,v5,rfl,s4,VU,Oq,hR,hRm,Qz,vK,Mc,HJ,hAb,HI,hsg,hlb⟩;let Qa:=hR.1
  exists _,Z,rA,ys,Z,.inl<|SqL.of Oq,_,_,Z,Z,_,Z,?_;show WA (λiw=>?_) (λiw=>?_)
  .obtain⟨M,rfl⟩:∃M,m=M+1:={m-1,J};exists _,λσ' H' h=>{M,NY M,h},?_;let iu:∀l∈R,∀z∈l,z.natAbs<2^9000:=λl hl z hz=>by
    let(i,hi):=Yz hl;let(j,hj):=Yz hz;let h1:=(Xy.E hi).1
    let h2:=(Xy.E hj).1;let h3:=Qz l hl
    have:=Zn9 Mc vK Ak hAb (i:=i) (j:=j) J J
    rwa[NH hi hj]at this
   exists _,Z,rA,ys,R,Z,SqL.of Oq,hR.imp λ_ _ h=>h.list,λl hl=>by rw[Qz l hl];lia,λH5 s5 h0=>?_,λt H5 s5 ht XM=>?_
   .exists _,Z,Z,_,Z,?_;show xi (c:=V.non=V.non) Z ?_;let z:det n A=0:=by
     have:=nQ Mc λi hi=>h0 i J
     rwa[show k+M+1=n by lia]at this
    rw[HJ,z,UP]at q;show q H5 (s4.l s5)
   exists _,Z,Z,_,Z,?_;show Jo (c:=V.int (t:Int)=V.non) (λz=>nomatch z) ?_;show nm ?_;dsimp only;show iz (λσ H6=>∃Mb:Int,H6=H5/\σ=[some ↑a,some<|.ref rA,some<|.int Mb,some<|.int last,some<|.int t,v5]/\Mb=sgn*sg t) ?_ ?_
   .rintro σ H6 ⟨Mb,rfl,rfl,Aj⟩;let Me:=s5 _ _ Oq
    let hR6:=hR.imp λ_ _ h=>h.Y s5;obtain⟨l,hl⟩:∃l,R[t]?=some l:={_,XH ht};let Lc:=Qz l (Xr hl)
    obtain⟨y,p',rfl⟩:∃y p',l=y::p':=by
     cases l with
     |nil=>cases Lc
     |cons y p'=>exists y,p',Z
    let Wc:p'.f=M:=by rw[Yv]at Lc;lia
    let(v,hv,pA,rfl,An,lg):=hR6.2 t _ hl;let hy0:y≠0:=by rwa[NH hl Z]at XM
    show{_,Z,.inl {Z,_,SqL.of Me},_,Z,rA,ys,(t:Int),t,.ref pA,Z,Z,Me,J,J,by rw[Si J J,Yf],hv,?_};let Ai:(upd H6 rA<|.lst<|ys.eraseIdx t) pA=some (.lst<|IL<|y::p'):=by rwa[XR lg]
    let s7:Same H (upd H6 rA<|.lst<|ys.eraseIdx t):=Zu VU (s4.l s5);let hR7:Bears (LiV rA<|upd H6 rA<|.lst<|ys.eraseIdx t) (ys.eraseIdx t) (R.eraseIdx t):=(hR6.erase t).imp λ_ _ h=>h.mut
    let HH:(upd H6 rA<|.lst<|ys.eraseIdx t) rA=some (.lst<|ys.eraseIdx t):=XS;generalize upd H6 rA (.lst<|ys.eraseIdx t)=H7 at *;let eRl:(R.eraseIdx t).f=M:=by rw[uD,if_pos ht];lia
    let HG:∀l∈R.eraseIdx t,l.f=M+1:=λl h=>Qz l (eQ h);let hy7:=hR7.1
    exists _,Z,rA,Z,{_,SqL.of HH},NP (K:=K) (a:=rA) (xs:=ys.eraseIdx t) (λi zs H8=>Same H7 H8/\i<=(ys.eraseIdx t).f/\Bears (Xd H8) zs (((R.eraseIdx t).X i).C (OM y p' last))) {Same.refl _,Yk _,{Z,λi l e=>by simp at e}} (Zi J) (λi zs H8 hi zz=>by let(e,Vs,ez):=zz;show{SqL.of<|e _ _ HH,by rw[ez.1,Xz,YB];lia}) ?_ ?_
    .rintro i v zs H8 hi ⟨s8,VW,vA⟩ AP Xj;let(l,Ld,r,rfl,hr,_):=hR7.at hi;let Xs:=(Xy.E hi).1
     let VL:=HG l (Xr Ld);obtain⟨x,l',rfl⟩:∃x l',l=x::l':=by
      cases l with
      |nil=>cases VL
      |cons x l'=>exists x,l',Z
     let Uk:l'.f=M:=by rw[Yv]at VL;lia
     show nm ?_;exists _,Z,_,Z,_,Z,r,pA,x,y,last,l',p',Z,SqL.of<|s8 _ _ hr,SqL.of<|s8 _ _ Ai,J,J,Mc.1,hlb,iu _<|eQ<|Xr Ld,iu _<|Xr hl,λc H9 s9 Ah hc=>Xj _ _ {s8.l s9,Xs,?_};rw[YS,Ld,Yp];show(vA.imp λ_ _ zz=>by let(r',e,h):=zz;exists r',e,s9 _ _ h).snoc ⟨c,Z,hc⟩
    rintro zs H8 ⟨s8,_,vA⟩ cA Oo;rw[hy7,YI]at vA;let s9:=XJ (o:=.lst zs) Oo
    exists _,Z,pA,_,0,.int y,Z,Z,SqL.of<|s9 _ _<|s8 _ _ Ai,ZM (n:=0) Z Z,?_;let wD:RG (λi=>A<|rotN k t i) k (M+1) (fnL<|(y::p')::R.eraseIdx t) last:=by rw[CH hl];show nR Mc J
    let Il:RG (λi=>A<|rotN k t i) (k+1) M (fnL<|(R.eraseIdx t).C (OM y p' last)) y:=nT wD hy0 λi j hi hj=>nK Wc eRl HG hi hj;let hdr:=nY (n:=n) (k:=k) (t:=t) (A:=A) J
    exists λi=>A<|rotN k t i,k+1,cA,zs,(R.eraseIdx t).C (OM y p' last),Mb,y,_,_,Z,s7.l<|s8.l s9,(s7.l s8).free Oo,XS,?_,by rw[Xz];show eRl,λl h=>?_,J,Il,?_,λi j hi hj=>hAb _ _ ?_ hj,λe0=>?_,?_,iu _ (Xr hl) y Yb
    .show vA.imp λv l zz=>by let(r,e,h):=zz;exists r,e,s9 _ _ h,Za h Oo
    .let⟨l0,h0,rfl⟩:=Yq.E h;rw[bM (by rw[HG l0 h0,Wc]),Wc]
    .rw[hdr,HJ,Aj,SV,<-SV (sg t),nJ,UW]
    .unfold rotN;split
     .grind
     .split
      .lia
      .split<;>lia
    .subst e0
     have:=nP wD
     rwa[show k+1=n by lia]at this
    .rw[Aj];let UA:sg t=1\/sg t=-1:=by
      unfold sg;split
      .show .inl rfl
      .show .inr rfl
     rcases hsg with e|e<;>rcases UA with f|f<;>rw[e,f]
     .show .inl rfl
     .show .inr rfl
     .show .inr rfl
     .show .inl rfl
   .intro Kn hK;exists _,Z,_,_,Z,Z,(by change(0:Int)<2;decide),Z,_,Z,?_;rw[Zz];show WA (λh1=>?_) (λh1=>?_)
    .exists _,Z,_,Z,hK _ _ {-sgn,Z,Z,?_};let e:sg t=-1:=by unfold sg;rw[if_neg J]
     rw[e];lia
    .show hK _ _ {sgn,Z,Z,?_};let e:sg t=1:=by unfold sg;rw[if_pos J]
     rw[e];grind
  .let Qc:m=0:=J;exists _,Z,_,Z,_,_,Z,Z,{?_,hlb},?_
   .rcases hsg with e|e<;>rw[e]<;>show Nat.one_lt_two_pow tI
   .rw[HI Qc]at *;rw[HJ]at q;show q H4 s4
inductive spZw(K:Ad)(vs:List V)(H:Hp)(Q:VK)(_:XK):Prop
 |mk (a:Addr) (l:Ac) (i:Nat) (_:vs=[.ref a,.int i]) (_:SqL K H a (IL l)) (_:l.f<=1000) (_:∀r H',Same H H'->H r=none->H' r=some (.lst<|IL<|cutz l i)->Q ↑r H')
def ir(l:Ac)(z:Int):cutz (IL l) z=IL (cutz l z):=by
 unfold cutz;change(l.C V.int).X _++(l.C V.int).drop _=(l.X _++l.drop _).C V.int
 rw[Yp,List.map_take,List.map_drop]
def iq(T:Txt K mg t):Xg P w base Xo T.qZw 1 (spZw K):=by
 show T.qZw.okI ["row","number"] tH λXD A outer s H vs Q E hr h=>?_
 .let⟨a,l,i,rfl,hA,hl,q⟩:=h;exists _,(XI<|Zm<|Zv xr (Zq (Gz K) tK T.n_list Boot.«list»<|XZ (Rc (QX K) (pv 0) En<|JA<|pv 1) XX)<|Zq (Gz K) tK T.n_list Boot.«list»<|XZ (Rc (QX K) (pv 0) (JA<|Zv ZZ (pv 1) Zd) En) XX),?_;exists _,Z,_,Z,(i:Int),Z,a,_,Z,hA,λp1 TK=>?_;let u1:=XJ (o:=.lst<|Ws (IL l) none<|some (i:Int)) TK
  exists p1,_,Z,.inl<|SqL.of XS,λp2 Vu=>?_;let u2:=XJ (o:=.lst<|Ws (IL l) none<|some (i:Int)) Vu
  exists _,Z,_,Z,_,_,Z,Z,_,Z,a,_,Z,(u1.l u2).seq hA,λp3 Br=>?_;let u3:=XJ (o:=.lst<|Ws (IL l) (some<|(i:Int)+1) none) Br
  exists p3,_,Z,.inl<|SqL.of XS,λp4 FW=>?_;let u4:=XJ (o:=.lst<|Ws (IL l) (some<|(i:Int)+1) none) FW
  let c1:=rD (IL l) none (some (i:Int));let c2:=rD (IL l) (some<|(i:Int)+1) none
  rw[Xw]at c1 c2;exists p2,p4,_,_,Z,Z,(u3.l u4) _ _ XS,XS,Jp J,λp5 vy=>?_;let u14:=u1.l (u2.l<|u3.l u4)
  show q p5 _ (u14.l<|XJ vy) (u14.free vy) ?_;rw[XS,oU J,ir]
inductive spZx(K:Ad)(vs:List V)(H:Hp)(Q:VK)(_:XK):Prop
 |mk (a:Addr) (ys:List V) (L:Ab) (i:Nat) (_:vs=[.ref a,.int i]) (_:SqL K H a ys) (_:Bears (Xd H) ys L) (_:L.f<=1000) (_:(∀l∈L,l.f<=1000)) (_:i<L.f) (_:∀r zs H',Same H H'->H' r=some (.lst zs)->Bears (Xd H') zs ((cutz L i).C λl=>cutz l (i:Int))->Q ↑r H')
def Yz5{α:Type}{l:List α}{i j:Nat}{x:α}(hx:l[j]?=some x):cutz (l.X (j+1)) (i:Int)=cutz (l.X j) (i:Int)++(if j=i then [] else [x]):=by
 let hj:=(Xy.E hx).1;let e:l.X (j+1)=l.X j++[x]:=by rw[YS,hx];rfl
 let hl:(l.X j).f=j:=by rw[YB];lia
 let short:∀m:List α,m.f<=i->cutz m (i:Int)=m:=λm hm=>by unfold cutz;rw[Yf,Vx hm,Kt J,Yy]
 rw[e];cases c:j=i
 .subst c;rw[if_pos Z,Yy,short (l.X j) J];unfold cutz;rw[Yf,Kf J,Kt (by rw[XB,hl];show Ya _),Yy,Vx J]
 .rw[if_neg c];cases d:j<i
  .rw[short (l.X j++[x]) (by rwa[XB,hl]),short (l.X j) J]
  .unfold cutz;rw[Yf,Kf J,Ke J,YG]
def ip(T:Txt K mg t):Xg P w base Xo T.qZx 2 (spZx K):=by
 show T.qZx.okI ["table","number"] tH λXD A outer s H vs Q E hr h=>?_
 .let⟨a,ys,L,i,rfl,hA,hB,hL,hLl,hi,q⟩:=h;exists _,(XI<|Zm<|SI Z (sc0:=Zc<|top 50) (N0:=["table","number"]) (N':=["at","row","number"]) (o:=2) (fr:=[1]) ⟨Z,tH,tH,tH,Z,tH⟩ (Lu K Z T.n_enumerate<|XZ (pv 0) XX) (DS<|NR tI<|NR tI DT) (λ_ _ _ _=>(Qi (n:=2) K Z<|Zs (Zb 0)<|Zs (Zb 1) Qn)) (λ_ _ _ _=>(NS<|Zl SQ (pv 0) (pv 2)<|Zx _)) λ_ _ _ _=>(Xv (iq T) hr T.qZw Zr<|XZ (pv 1)<|XZ (pv 2) XX)),?_;let Qa:=hB.1
  show⟨_,Z,a,Z,{_,hA},wX (K:=K) (a:=a) (xs:=ys) (λj zs H2=>Same H H2/\j<=ys.f/\Bears (Xd H2) zs ((cutz (L.X j) (i:Int)).C λl=>cutz l (i:Int))) {Same.refl _,Yk _,by rw[show(cutz (L.X 0) (i:Int)).C (λl=>cutz l (i:Int))=[] by unfold cutz;simp];show{Z,λi l e=>by simp at e}} (Zi J) (λj zs H2 hj ⟨e,Qf,ez⟩=>⟨e.seq hA,by
   rw[ez.1,Xz];show YE (Dh _ _) ?_;rw[YB]
   lia⟩) ?_ ?_⟩
  .rintro j v zs H2 pt UC hj ⟨s2,Qh,hZ⟩ AP Xj;let(l,hl,r,rfl,hr):=hB.at hj;let WG:=(Xy.E hj).1
   let s3:=XJ (o:=.tup [.int j,.ref r]) UC;exists pt,_,Z,SqT.of XS,Z,_,_,Z,_,_,Z,Z,?_;let HM:Bears (Xd<|upd H2 pt<|.tup [.int j,.ref r]) zs ((cutz (L.X j) (i:Int)).C λl=>cutz l (i:Int)):=hZ.imp λ_ _ zz=>by let(r',e,h):=zz;exists r',e,s3 _ _ h
   let ik:=s2.l s3;generalize upd H2 pt (.tup [.int j,.ref r])=H3 at *;exists _,Z,_,Z,Z,_,Z,?_;rw[Zz];show WI (λe=>?_) (λe=>?_)
   .show Xj _ _ {ik,WG,?_};rwa[Yz5 hl,if_pos J,Yy]
   .exists _,Z,_,Z,r,l,i,Z,SqL.of<|ik _ _ hr,hLl l<|Xr hl,λc H4 s4 _ hc=>Xj _ _ {ik.l s4,WG,?_};rw[Yz5 hl,if_neg J,Yp];show(HM.imp λ_ _ zz=>by let(r',e,h):=zz;exists r',e,s4 _ _ h).snoc ⟨c,Z,hc⟩
  .rintro zs H2 ⟨s2,_,hZ⟩ p hp;rw[Qa,YI]at hZ;show q p zs _ (s2.l<|XJ hp) XS (hZ.imp λ_ _ zz=>by let(r',e,h):=zz;exists r',e,XJ hp _ _ h)
inductive spZy(vs:List V)(H:Hp)(Q:VK)(_:XK):Prop
 |mk (x y:Int) (_:vs=[.int x,.int y]) (_:Q (.int<|Int.gcd x y) H)
def z9(z:Int):(if z<0 then -z else z)=(z.natAbs:Int):=by split<;>omega
def ij(a b:Nat):Nat.gcd b (a%b)=Nat.gcd a b:=by rw[Nat.gcd_comm b,<-Nat.gcd_rec,Nat.gcd_comm]
def ig(T:Txt K mg t):Xg P w base Xo T.qZy 1 spZy:=by
 show T.qZy.okI ["one","other","rest"] tH λXD A outer s H vs Q E hr h=>?_
 .let⟨x,y,rfl,q⟩:=h;show⟨_,(XQ (Ze 0<|Zf aO tK T.n_abs Boot.«abs»<|XZ (pv 0) XX)
   (XQ (Ze 1<|Zf aO tK T.n_abs Boot.«abs»<|XZ (pv 1) XX)
   (XQ (sE YR (Zl SQ (pv 1) Zd<|Zx _)
   (XQ (Ze 2<|Zv SR (pv 0)<|pv 1)
   (XQ (Ze 0<|pv 1)
   (XI<|Ze 1<|pv 2))))
   (XI<|Zm<|pv 0)))),?_⟩
  exists _,Z,x,Z,?_;rw[z9];show nm ?_;dsimp only;exists _,Z,y,Z,?_;rw[z9];show nm ?_;dsimp only;exists λm σ H2=>H2=H/\∃(a b:Nat)(v3:Option V),σ=[some (.int a),some<|.int b,v3]/\b=m/\Nat.gcd a b=Int.gcd x y,⟨y.natAbs,Z,x.natAbs,y.natAbs,none,Z,Z,Z⟩,?_;rintro m σ H2 ⟨rfl,a,b,v3,rfl,rfl,hg⟩;exists _,Z,Z,_,Z,?_;rw[Zz];show WI (λhb=>?_) (λhb=>?_)
  .let b0:b=0:=S;subst b0;rw[Nat.gcd_zero_right]at hg;exists _,Z,?_;rwa[hg]
  .let bp:0<b:=S;exists _,λσ' H' h=>h,?_;exists _,Z,_,Z,_,_,Z,Z,(by omega:(0:Int)<(b:Int)),?_;exists _,Z,?_;exists _,Z,?_;exists a%b,Um _ bp,Z,b,a%b,_,Z,Z,by rwa[ij]
inductive spZz(vs:List V)(H:Hp)(Q:VK)(_:XK):Prop
 |mk (x y:Int) (_:vs=[.int x,.int y]) (_:y≠0) (_:x.natAbs<2^9000) (_:y.natAbs<2^9000) (_:∀p q:Int,QK x y p q->∀r,H r=none->Q ↑r (upd H r<|.tup [.int p,.int q]))
def ie(T:Txt K mg t):Xg P w base Xo T.qZz 2 spZz:=by
 show T.qZz.okI ["top","bottom","divisor"] tH λXD A outer s H vs Q E hr h=>?_
 .let⟨x,y,rfl,hy,bx,by',q⟩:=h;show⟨_,(XQ (Ze 2<|Xv (ig T) hr T.qZy Zr<|XZ (pv 0)<|XZ (pv 1) XX)
   (XQ (Wk (Zl Rh (pv 1) Zd<|Zx _)
   (XI<|Ze 2<|JI JG<|pv 2)
   Zp)
   (XI<|Zm<|Ui<|XZ (Zv nM (pv 0)<|pv 2)<|XZ (Zv nM (pv 1)<|pv 2) XX))),?_⟩
  let gb:Int.gcd x y<2^9000:=GZ (Nat.gcd_le_right _ S) by';let low:=λd hd=>lQ (x:=x) (y:=y) (d:=d) hy hd
  let fin:∀d:Int,d=(if y<0 then -(Int.gcd x y:Int) else (Int.gcd x y:Int))->IM x d/\IM y d:=λd hd=>by
   let h0:=(low d hd).1;let h1:d.natAbs<2^9000:=by
    rw[hd];split
    .rw[Int.natAbs_neg,Ka];show gb
    .rw[Ka];show gb
   exists ⟨h0,h1⟩,⟨h0,h1⟩
  exists _,Z,_,Z,x,y,Z,?_;show nm ?_;dsimp only;show lV (λσ H2=>∃d:Int,d=(if y<0 then -(Int.gcd x y:Int) else (Int.gcd x y:Int))/\σ=[some (.int x),some<|.int y,some (.int d)]/\H2=H) ?_ ?_;rotate_left
  .intro Kn hK;exists _,Z,_,_,Z,Z,_,Z,?_;show WA (λh=>?_) (λh=>?_)
   .exists _,Z,_,Z,?_;show hK _ _ {_,(if_pos h).U,Z,Z}
   .show hK _ _ {_,(if_neg h).U,Z,Z}
  rintro σ H2 ⟨d,hd,rfl,rfl⟩;let(f1,f2):=fin d hd;exists _,Z,_,Z,_,_,Z,Z,f1,_,Z,_,Z,_,_,Z,Z,f2,(by change 2<=sizeLine;decide),λr hr=>?_;show q _ _ (low d hd).2 r hr
inductive spZA(K:Ad)(C:Addr)(vs:List V)(H:Hp)(Q:VK)(_:XK):Prop
 |mk (w b n ps ws:_) (_:vs=[.ref w,.ref b]) (_:WebAt C H w n ps) (_:Zt n ps) (_:SqL K H b (IL ws)) (_:ws.f=ps.f) (_:∀r ys L H',Same H H'->H r=none->TabAt H r n.j H' ys L->(∀i j,i<n.j->j<n.j->fnL L i j=lapE (Xc ps ws) i j)->Q ↑r H')
def ZE6(x:V)(k:Nat):(List.M k [x]).D=List.M k x:=by
 induction k with
 |zero=>rfl
 |succ k ih=>rw[Nt,YZ,ih,Nt];rfl
def ic(n i j:Nat):fnL (List.M n (List.M n 0)) i j=0:=by
 unfold fnL;cases h:(List.M n<|List.M n (0:Int))[i]? with
 |none=>
  let e:(List.M n<|List.M n (0:Int)).t i []=[]:=by rw[Xl,h];rfl
  rw[e];rfl
 |some l=>
  let e:(List.M n<|List.M n (0:Int)).t i []=l:=by rw[Xl,h];rfl
  rw[e,FH<|Xr h,Xl,He];split<;>rfl
def TabAt.get{H0 H:Hp}{r:Addr}{n:Nat}{ys:List V}{L:Ab}(h:TabAt H0 r n H ys L){i j:Nat}(hi:i<n)(hj:j<n):∃A l x,ys[i]?=some ↑A/\H A=some (.lst (IL l))/\l[j]?=some x/\l.f=n/\x=fnL L i j/\H0 A=none/\∀y:Int,∃L':Ab,TabAt H0 r n (upd H A (.lst ((IL l).set j (.int y)))) ys L'/\∀a b,fnL L' a b=if a=i/\b=j then y else fnL L a b:=by
 let(A,l,y1,z1,hA,hl,hn,hr):=h.at hi;obtain⟨x,hx⟩:∃x,l[j]?=some x:={_,XH J};exists A,l,x,y1,hA,hx,hl,(NH z1 hx).U,hn,λy=>{L.set i<|l.set j y,?_,m7 z1 J};let e:(IL l).set j (.int y)=IL (l.set j y):=(List.map_set ..).U
 rw[e];show h.put y1 z1 hr (by rwa[PL])
def vw{xs:List V}{i:Int}(h0:0<=i)(h1:i<xs⁻¹):Qk xs.f i=some i.j:=by unfold Qk;rw[if_pos h0,if_pos S]
def ib:FnScope ["web","weights","table","ends","weight","one","other"] ["web","weights"] (Zc (top 54)):=RA tH
def ia(T:Txt K mg t):Xg P w base Xo T.qZA 1 (spZA K t.A_Web):=by
 show T.qZA.okI ["web","weights","table","ends","weight","one","other"] tH λXD A outer s H vs Q E hr h=>?_
 .let⟨w,b,n,ps,ws,rfl,hW,hG,hS,GA,q⟩:=h;show⟨_,(XQ (Ph (i:=2) Z ib.nd Z Z (sc0:=Zc<|top 54) (N0:=["web","weights","table","ends","weight","one","other"]) (N':=["place","web"]) (o:=1) (fr:=[0]) ⟨Z,tH,tH,tH,Z,tH⟩ (ZJ Z T.n_range<|XZ (Zk K (pv 0) Z) XX) (Zw tI) (λ_ _ _ _=>(Zb 0)) (λ_ _ _ _=>ZY) λ_ _ _ _=>(Zv Jx (Uz<|XZ Zd XX)<|Zk K (pv 1) Z))
   (XQ (WS YR Z (CU K Z T.n_zip<|XZ (Zk K (pv 0) Z)<|XZ (pv 1) XX) (Qi (n:=2) K Z<|Zs (Zb 3)<|Zs (Zb 4) Qn)
   (XQ (Ze 5<|ZH (Zy K) (pv 3) Zd λ_ _=>rfl)
   (XQ (Ze 6<|ZH (Zy K) (pv 3) Zd λ_ _=>rfl)
   (XI (Wk (Zl SQ (pv 5) (pv 6)<|Zx _)
   (XQ (Nd (ZH (Zj K) (pv 2) (pv 5) λ_ _=>rfl) (pv 5) (wI K) (pv 4) LJ Ek)
   (XQ (Nd (ZH (Zj K) (pv 2) (pv 6) λ_ _=>rfl) (pv 6) (wI K) (pv 4) LJ Ek)
   (XQ (Nd (ZH (Zj K) (pv 2) (pv 5) λ_ _=>rfl) (pv 6) (wI K) (pv 4) LI Ek)
   (XI<|Nd (ZH (Zj K) (pv 2) (pv 6) λ_ _=>rfl) (pv 5) (wI K) (pv 4) LI Ek))))
   Zp)))))
   (XI<|Zm<|pv 2))),?_⟩
  let(dx,tl,xs,h1,h2,h3):=id hW;let hl:=h3.1
  let(g1,g2,g3,g4):=id hG;let one:1<=sizeLine:=tI
  exists _,Z,w,_,dx,_,_,Z,h1,T.cl_Web,T.n_Web_places,Uc _ _,n,Z,J,J,DI (lo:=0) (n:=n.j) (λi zs H2=>Same H H2/\Bears (Xd H2) zs (List.M i<|List.M n.j 0)/\zs.Nodup/\∀A,V.ref A∈zs->H A=none/\∃o,H2 A=some o) {Same.refl _,{Z,λi l e=>by simp at e},.nil,λA h=>(by cases h)} (Zi J) (λi zs H2 _ zz=>by let(_,e,_):=zz;rw[e.1,Yw];show Ya _) ?_ ?_
  .rintro i zs H2 hi ⟨s2,hZ,Vq,Vh⟩ AP Xj;show nm ?_;exists one,λp1 TK=>?_;let u1:=XJ (o:=.lst [.int 0]) TK
   exists _,Z,w,_,dx,_,_,Z,u1 _ _<|s2 _ _ h1,T.cl_Web,T.n_Web_places,Uc _ _,p1,n,_,Z,Z,XS,J,J,Jp (by change 1*n.j<=_;lia),λp2 Vu=>?_;let e0:(List.M n.j [V.int 0]).D=IL (List.M n.j 0):=by rw[ZE6];change _=(List.M n.j 0).C V.int;rw[List.map_replicate]
   rw[e0];let u2:=u1.l (XJ (o:=.lst<|IL<|List.M n.j 0) Vu)
   let z8:H2 p2=none:=(XJ TK).free Vu;show Xj _ _ {s2.l u2,?_,?_,λA hA=>?_}
   .rw[Nj];show(hZ.imp λ_ _ zz=>by let(r',e,h):=zz;exists r',e,u2 _ _ h).snoc ⟨p2,Z,XS⟩
   .show YM.H {Vq,tG,λx hx y hy e=>?_};rw[XF.E hy]at e;let(_,o,ho):=Vh p2 (e▸hx);rw[z8]at ho;cases ho
   .rcases Xx.E hA with e|e
    .let⟨a1,o,a2⟩:=Vh A e;exists a1,o,u2 _ _ a2
    .let e':A=p2:=by simpa using e
     rw[e'];exists s2.free z8,_,XS
  rintro zs H2 ⟨s2,hZ,Vq,Vh⟩ tA Rv;let s3:=s2.l (XJ (o:=.lst zs) Rv)
  let h8:H tA=none:=s2.free Rv;let hT:TabAt H tA n.j (upd H2 tA<|.lst zs) zs (List.M n.j<|List.M n.j 0):={XS,hZ.imp λ_ _ zz=>by let(r',e,h):=zz;show{r',e,XJ Rv _ _ h,Za h Rv},Yw,λl h=>by rw[FH h];show Yw,Vq,λA h=>(Vh A h).1}
  let hzero:∀i j,fnL (List.M n.j<|List.M n.j 0) i j=0:=λi j=>by
   have:=ic n.j i j
   show this
  generalize upd H2 tA (.lst zs)=H3 at *;generalize List.M n.j (List.M n.j (0:Int))=L0 at *;exists _,Z,w,_,dx,_,_,Z,s3 _ _ h1,T.cl_Web,T.n_Web_ties,Wf _ _,_,Z,tl,b,Z,{_,_,SqL.of<|s3 _ _ h2,s3.seq hS},m8 (K:=K) (a:=tl) (b:=b) (xs:=xs) (ys:=IL ws) (by rw[Xw];lia) (λi σ H4=>∃L v3 v4 v5 v6,σ=[some ↑w,some<|.ref b,some<|.ref tA,v3,v4,v5,v6]/\Same H H4/\TabAt H tA n.j H4 zs L/\∀x y,x<n.j->y<n.j->fnL L x y=lapE (Xc (ps.X i)<|ws.X i) x y) {L0,none,none,none,none,Z,s3,hT,λx y _ _=>hzero x y} (λi σ H4 _ zz=>by let(_,_,_,_,_,_,e,_):=zz;exists SqL.of<|e _ _ h2,e.seq hS) ?_ ?_
  .rintro i v v' σ H4 pt UC hi Vf ⟨L,v3,v4,v5,v6,rfl,s4,h7,Om⟩;let(p,hp,tt,rfl,VV):=h3.at hi;let(wt,rfl,hwt):=WQ Vf;let(e1,e2,e3,e4):=g4 p (Xr hp);let u1:=XJ (o:=.tup [.ref tt,.int wt]) UC
   exists pt,_,Z,SqT.of XS,Z,_,_,Z,_,_,Z,Z,?_;let g9:=h7.Y u1
   let s5:=s4.l u1;generalize upd H4 pt (.tup [.ref tt,.int wt])=H5 at *;exists _,Z,tt,_,0,.int p.1,Z,Z,SqT.of<|s5 _ _ VV,Z,?_;exists _,Z,tt,_,1,.int p.2,Z,Z,SqT.of<|s5 _ _ VV,Z,?_;exists _,Z,_,Z,Z,_,Z,?_;rw[Zz];let esn:=m6 hp hwt
   show WI (λheq=>?_) (λXM=>?_)
   .exists L,_,_,_,_,Z,s5,g9,λx y hx hy=>?_;rw[esn,bB (by change p.1.j=p.2.j;rw[heq])];show Om x y hx hy
   let Jg:p.1.j≠p.2.j:=λe=>XM J;let(A1,l1,x1,y1,Ln,Iy,Us,nS,g8,g7):=g9.get (i:=p.1.j) (j:=p.1.j) J J;exists _,Z,_,Z,tA,zs,p.1,.ref A1,Z,Z,SqL.of g9.tab,ZM (n:=p.1.j) J y1,_,Z,A1,_,p.1,.int x1,Z,Z,SqL.of Ln,J,Ud Iy,_,Z,_,_,Z,Z,A1,_,p.1,p.1.j,Z,Z,Ln,vw J (by rw[Xw];lia),?_;let(L1,hT6,vt):=g7 (x1+wt);let s6:Same H (upd H5 A1<|.lst<|(IL l1).set p.1.j (.int<|x1+wt)):=Zu g8 s5
   generalize upd H5 A1 (.lst<|(IL l1).set p.1.j (.int<|x1+wt))=H6 at *;rw[nS]at vt;let(A2,l2,x2,y2,SG,QH,VL,ex2,LF,put2):=hT6.get (i:=p.2.j) (j:=p.2.j) J J;exists _,Z,_,Z,tA,zs,p.2,.ref A2,Z,Z,SqL.of hT6.tab,ZM (n:=p.2.j) J y2,_,Z,A2,_,p.2,.int x2,Z,Z,SqL.of SG,J,Ud QH,_,Z,_,_,Z,Z,A2,_,p.2,p.2.j,Z,Z,SG,vw J (by rw[Xw];lia),?_;let(L2,hT7,Ma):=put2 (x2+wt);let s7:Same H (upd H6 A2<|.lst<|(IL l2).set p.2.j (.int<|x2+wt)):=Zu LF s6
   generalize upd H6 A2 (.lst<|(IL l2).set p.2.j (.int<|x2+wt))=H7 at *;rw[ex2]at Ma;let(A3,l3,x3,y3,Gu,hx3,NA,ex3,hn3,put3):=hT7.get (i:=p.1.j) (j:=p.2.j) J J;exists _,Z,_,Z,tA,zs,p.1,.ref A3,Z,Z,SqL.of hT7.tab,ZM (n:=p.1.j) J y3,_,Z,A3,_,p.2,.int x3,Z,Z,SqL.of Gu,J,Ud hx3,_,Z,_,_,Z,Z,A3,_,p.2,p.2.j,Z,Z,Gu,vw J (by rw[Xw];lia),?_;let(L3,hT8,hf3):=put3 (x3-wt);let s8:Same H (upd H7 A3<|.lst<|(IL l3).set p.2.j (.int<|x3-wt)):=Zu hn3 s7
   generalize upd H7 A3 (.lst<|(IL l3).set p.2.j (.int<|x3-wt))=H8 at *;rw[ex3]at hf3;let(A4,l4,x4,y4,KA,vq,hl4,ex4,g6,gZ):=hT8.get (i:=p.2.j) (j:=p.1.j) J J;exists _,Z,_,Z,tA,zs,p.2,.ref A4,Z,Z,SqL.of hT8.tab,ZM (n:=p.2.j) J y4,_,Z,A4,_,p.1,.int x4,Z,Z,SqL.of KA,J,Ud vq,_,Z,_,_,Z,Z,A4,_,p.1,p.1.j,Z,Z,KA,vw J (by rw[Xw];lia),?_;let(L4,hT9,vp):=gZ (x4-wt);let s9:Same H (upd H8 A4<|.lst<|(IL l4).set p.1.j (.int<|x4-wt)):=Zu g6 s8
   generalize upd H8 A4 (.lst<|(IL l4).set p.1.j (.int<|x4-wt))=H9 at *;rw[ex4]at vp;exists L4,_,_,_,_,Z,s9,hT9,λx y hx hy=>?_;rw[esn,ZX,<-Om x y hx hy];show four Jg x y vt Ma hf3 vp
  .rintro σ H4 ⟨L,v3,v4,v5,v6,rfl,s4,h7,Om⟩;rw[hl,YI,<-GA,YI]at Om;exists _,Z,q tA zs L H4 s4 h8 h7 Om
inductive spZB(K:Ad)(C:Addr)(vs:List V)(H:Hp)(Q:VK)(_:XK):Prop
 |mk (w n ps:_) (_:vs=[.ref w]) (_:WebAt C H w n ps) (_:Zt n ps) (_:∀r ys L H',Same H H'->H r=none->TabAt H r n.j H' ys L->(∀i j,i<n.j->j<n.j->fnL L i j=lapE (Xc ps<|List.M ps.f 1) i j)->Q ↑r H')
def gY(T:Txt K mg t):Xg P w base Xo T.qZB 2 (spZB K t.A_Web):=by
 show T.qZB.okI ["web"] tH λXD A outer s H vs Q E hr h=>?_
 .let⟨w,n,ps,rfl,hW,hG,q⟩:=h;exists _,(XI<|Zm<|Xv (ia T) hr T.qZA Zr<|XZ (pv 0)<|XZ (Zv Jx (Uz<|XZ Zd XX)<|Zf (Zh K) tK T.n_len Boot.«len»<|XZ (Zk K (pv 0) Z) XX) XX),?_;let(dx,tl,xs,h1,h2,h3):=id hW;let hl:=h3.1
  let g3:=hG.2.2.1;exists _,Z,(by change 1<=sizeLine;decide),λp1 TK=>?_;let u1:=XJ (o:=.lst [.int 1]) TK
  exists _,Z,w,_,dx,_,_,Z,u1 _ _ h1,T.cl_Web,T.n_Web_ties,Wf _ _,tl,xs,Z,.inl<|SqL.of<|u1 _ _ h2,p1,xs⁻¹,_,Z,Z,XS,J,J,Jp (by change 1*_<=_;lia),λp2 Vu=>?_;let e0:(List.M (xs.f:Int).j [V.int 1]).D=IL (List.M ps.f 1):=by
   rw[Yf,hl,ZE6];change _=(List.M ps.f 1).C V.int
   rw[List.map_replicate]
  rw[e0];let u2:=u1.l (XJ (o:=.lst<|IL<|List.M ps.f 1) Vu)
  exists w,p2,n,ps,List.M ps.f 1,Z,hW.Y u2,hG,SqL.of XS,Yw,λr ys L H' s hr hT hf=>?_;show q r ys L H' (u2.l s) (u2.free hr) {hT.tab,hT.rows,hT.len,hT.all,hT.nd,λA h=>u2.free<|hT.new A h} hf
inductive spZC(K:Ad)(C:Addr)(vs:List V)(H:Hp)(Q:VK)(_:XK):Prop
 |mk (w n ps:_) (_:vs=[.ref w]) (_:WebAt C H w n ps) (_:Zt n ps) (_:∀c H',TC n ps c->Same H H'->Q (.int c) H')
def Kz(u v i:Nat):(ind u v i).natAbs<=1:=by unfold ind;split<;>split<;>decide
def ZX9:∀{E:List Ed},(∀e∈E,e.2.2=1)->∀i j,(lapE E i j).natAbs<=E.f
 |[],_,i,j=>Ya 0
 |e::E,h,i,j=>by
  let ih:=ZX9 (λf hf=>h f<|Ye _ hf) i j;let h1:=Kz e.1 e.2.1 i
  let h2:=Kz e.1 e.2.1 j;let h3:(ind e.1 e.2.1 i*ind e.1 e.2.1 j).natAbs<=1:=by rw[Rm];show Kg h1 h2
  change(e.2.2*(ind e.1 e.2.1 i*ind e.1 e.2.1 j)+lapE E i j).natAbs<=(e::E).f;rw[h e Yb,UW,Yv]
  have:=Int.natAbs_add_le (ind e.1 e.2.1 i*ind e.1 e.2.1 j) (lapE E i j)
  lia
def ZK7{α:Type}{l:List α}{i:Nat}(hi:l.f=i+1):cutz l (i:Int)=l.X i:=by unfold cutz;rw[Yf,Kt J,Yy]
def Ol(T:Txt K mg t):Xg P w base Xo T.qZC 3 (spZC K t.A_Web):=by
 show T.qZC.okI ["web"] tH λXD A outer s H vs Q E hr h=>?_
 .let⟨w,n,ps,rfl,hW,hG,q⟩:=h;exists _,(XI<|Zm<|Xv (iy T) hr T.qZv Zr<|XZ (Xv (ip T) hr T.qZx Zr<|XZ (Xv (gY T) hr T.qZB Zr<|XZ (pv 0) XX)<|XZ (Zv VF (Zk K (pv 0) Z) Zd) XX) XX),?_;let(g1,g2,g3,g4):=id hG;exists _,Z,w,n,ps,Z,hW,hG,λr ys L H1 s1 hr hT hf=>?_;let(dx,tl,xs,h1,h2,h3):=id hW;exists _,Z,w,_,dx,_,_,Z,s1 _ _ h1,T.cl_Web,T.n_Web_places,Uc _ _,_,_,Z,Z,?_;obtain⟨k,hk⟩:∃k:Nat,n-1=(k:Int):={(n-1).j,J};let hnk:n.j=k+1:=tL
  let hLl:=hT.len;let hTB:Bears (Xd H1) ys L:=hT.rows.imp λ_ _ h=>h.list
  exists r,ys,L,k,?_,SqL.of hT.tab,hTB,tL,λl h=>by rw[hT.all l h];lia,J,λr2 zs H2 s2 UT hZ=>?_
  .change [V.ref r,V.int (n-1)]=_;rw[hk]
  let w1:∀e∈Xc ps (List.M ps.f (1:Int)),e.2.2=1:=λe he=>by
   unfold Xc at he;let(i,hi):=Yz he;rw[Ha]at hi;cases h1:ps[i]? with
   |none=>rw[h1]at hi;cases hi
   |some p=>
    cases h2:(List.M ps.f (1:Int))[i]? with
    |none=>rw[h1,h2]at hi;cases hi
    |some w=>
     rw[h1,h2]at hi;let rfl:=Yc hi;show FH (Xr h2)
  let el:(Xc ps<|List.M ps.f (1:Int)).f<=30:=by unfold Xc;rw[Fx,Yw];lia
  let hM:(cutz L (k:Int)).C (λl=>cutz l (k:Int))=(L.X k).C λl=>l.X k:=by rw[ZK7 J];show YQ λl hl=>ZK7 (by rw[hT.all l (FA hl)];omega)
  rw[hM]at hZ;let PZ:((L.X k).C λl=>l.X k).f=k:=by rw[Xz,YB];grind
  let GI:∀i j,i<k->j<k->fnL ((L.X k).C λl=>l.X k) i j=lapE (Xc ps<|List.M ps.f 1) i j:=λi j hi hj=>by
   rw[<-hf i j tL tL];obtain⟨l,hl⟩:∃l,L[i]?=some l:={_,XH tL};let Lc:=hT.all l (Xr hl)
   obtain⟨x,hx⟩:∃x,l[j]?=some x:={_,XH tL};rw[NH hl hx];show NH (l:=l.X k) (by rw[Yr,Fw,if_pos hi,hl];rfl) (by rwa[Fw,if_pos hj])
  exists r2,false,zs,(L.X k).C λl=>l.X k,Z,SqL.of UT,hZ.imp (λ_ _ zz=>by let(r',e,h):=zz;exists r',false,e,SqL.of h),by rw[PZ];lia,λi j hi hj=>?_,λ_ H3 s3=>?_,λh=>absurd (λl hl=>?_) h
  .rw[PZ]at hi hj;rw[GI i j hi hj];show YE (ZX9 w1 i j) (YE el<|YE (by decide:30<=2^5)<|Nk tI tI)
  .let hd:det ((L.X k).C λl=>l.X k).f (fnL<|(L.X k).C λl=>l.X k)=det (n-1).j (lapE<|Xc ps<|List.M ps.f 1):=by rw[PZ,show(n-1).j=k by lia];show Zg λi j hi hj=>GI i j hi hj
   obtain⟨c,M,a1,a2,a3⟩:∃c,TC n ps c:=by let(M,a1,a2,_):=ZF _ (n-1).j (Xc ps<|List.M ps.f 1) Z (II hG _);exists M.f,M,a1,λl=>by rw[a2,KY g1 Yw],Z
   rw[hd,bz hG a1 a2,a3];show q c H3 ⟨M,a1,a2,a3⟩ (s1.l<|s2.l s3)
  .let⟨l0,h0,rfl⟩:=Yq.E hl;rw[PZ,YB,hT.all l0 (FA h0)];grind
inductive spZD(K:Ad)(C:Addr)(vs:List V)(H:Hp)(Q:VK)(_:XK):Prop
 |mk (w a b n ps Is Os:_) (_:vs=[.ref w,.ref a,.ref b]) (_:WebAt C H w n ps) (_:Zt n ps) (_:SqT K H a (IL Is)) (_:SqT K H b (IL Os)) (_:Is.Nodup) (_:(∀z∈Is,0<=z/\z<ps⁻¹)) (_:Os.f<=30) (_:(∀z∈Is,z∉Os)) (_:∀c H',PC n ps Is Os c->Same H H'->Q (.int c) H')
def gX{K:Ad}{H:Hp}{a b:Addr}{l m:Ac}{Q:VK}(ha:SqT K H a (IL l))(hb:SqT K H b (IL m))(hl:l.f+m.f<=1000)(k:∀r H',Same H H'->SqT K H' r (IL (l++m))->Q ↑r H'):Jd K ↑a ↑b H Q:=by
 exists a,b,_,_,Z,Z,ha,hb,by rw[Xw,Xw];show YE hl tI,λe=>?_,λ_ e=>?_,λ_ _ p hp=>?_
 .let el:l=[]:=Fy.E e;rw[el,Uo]at k;show k b H (Same.refl _) hb
 .let em:m=[]:=Fy.E e;rw[em,Yy]at k;show k a H (Same.refl _) ha
 .show k p _ (XJ hp) (SqT.of ?_);rw[XS,xk]
def Zv7{gone:Ac}(j:Nat):XE (j+1) gone=XE j gone++(if ((j:Int)∈gone) then [] else [(j:Int)]):=by
 unfold XE;rw[b8,PU];congr 1;cases c:(j:Int)∈gone
 .rw[if_pos c,Wt,if_neg (by simp[c])];rfl
 .rw[if_neg c,Wt,if_pos (by simp[c])];rfl
def LZ:FnScope ["web","inside","outside","marks","firsts","numbers","gone","free"] ["web","inside","outside"] (Zc (top 57)):=RA tH
def z7(T:Txt K mg t):Xg P w base Xo T.qZD 4 (spZD K t.A_Web):=by
 show T.qZD.okI ["web","inside","outside","marks","firsts","numbers","gone","free"] tH λXD A outer s H vs Q E hr h=>?_
 .let⟨w,a,b,n,ps,Is,Os,rfl,hW,hG,hA,hB,hIn,WX,hO,TY,q⟩:=h;show⟨_,(XQ (Ze 3<|Xv (QB T) hr T.qZ9 Zr<|XZ (pv 0)<|XZ (pv 1) XX)
   (XQ (RO (i:=4) LZ.nd Z (Or.inr Z)<|Zq4 K Z Z T.n_sorted Z T.n_set<|XZ (pv 3) XX)
   (XQ (Wk (Zl Pq (Zv ZZ (Zf (Zh K) tK T.n_len Boot.«len»<|XZ (pv 4) XX)<|Zf (Zh K) tK T.n_len Boot.«len»<|XZ (pv 1) XX) (Zk K (pv 0) Z)<|Zx _)
   (XI<|Zm Zd)
   Zp)
   (XQ (RO (i:=5) LZ.nd Z (Or.inr Z)<|SI Z (sc0:=Zc<|top 57) (N0:=["web","inside","outside","marks","firsts","numbers","gone","free"]) (N':=["mark","firsts"]) (o:=1) (fr:=[4]) ⟨Z,tH,tH,tH,Z,tH⟩ (ZQ K<|pv 3) (Zw tI) (λ_ _ _ _=>(Zb 0)) (λ_ _ _ _=>ZY) λ_ _ _ _=>(Sk K YU PySem.F.slot_list_index PySem.F.type_list_index (ZI8 K) (pv 1)<|XZ (pv 0) XX))
   (XQ (RO (i:=6) LZ.nd Z (Or.inr Z)<|Zv (QU K) (pv 1)<|pv 2)
   (XQ (Ph (i:=7) Z LZ.nd Z Z (sc0:=Zc<|top 57) (N0:=["web","inside","outside","marks","firsts","numbers","gone","free"]) (N':=["tie","ends","gone"]) (o:=2) (fr:=[6]) ⟨Z,tH,tH,tH,Z,tH⟩ (Lu K Z T.n_enumerate<|XZ (Zk K (pv 0) Z) XX) (DS<|NR tI<|NR tI DT) (λ_ _ _ _=>(Qi (n:=2) K Z<|Zs (Zb 0)<|Zs (Zb 1) Qn)) (λ_ _ _ _=>(NS<|Zl (DF K) (pv 0) (pv 2) Z)) λ_ _ _ _=>(pv 1))
   (XI<|Zm<|Xv (Ol T) hr T.qZC Zr<|XZ (GF T.k_Web (HZ T) (hr.mono tI) Z T.c_Web T.bZ2 .nil Zr<|XZ (Zf (Zh K) tK T.n_len Boot.«len»<|XZ (pv 4) XX)<|XZ (SI Z (sc0:=Zc<|top 57) (N0:=["web","inside","outside","marks","firsts","numbers","gone","free"]) (N':=["ends","numbers"]) (o:=1) (fr:=[5]) ⟨Z,tH,tH,tH,Z,tH⟩ (ZQ K<|pv 7) (Zw tI) (λ_ _ _ _=>(Zb 0)) (λ_ _ _ _=>ZY) λ_ _ _ _=>(Ui<|XZ (ZH (Zj K) (pv 1) (ZH (Zy K) (pv 0) Zd λ_ _=>rfl) λ_ _=>rfl)<|XZ (ZH (Zj K) (pv 1) (ZH (Zy K) (pv 0) Zd λ_ _=>rfl) λ_ _=>rfl) XX)) XX) XX))))))),?_⟩
  let(g1,g2,g3,g4):=id hG;let(Js,PY,hJ2):=oN Is;let hJ:IsSet ps.f Js:=XW.H {λz hz=>WX z<|PY.mem_iff.E hz,(hJ2.and<|PY.nodup_iff.H hIn).imp λh=>by have:=h.1;have:=h.2;lia}
  let hIl:Is.f<=ps.f:=by rw[<-PY.length_eq];show hJ.len
  let Gd:∀i j,Conn (XT ps Js) i j↔Conn (XT ps Is) i j:=λi j=>Lm λy=>PY.mem_iff;let hfr:XE ps.f (Js++Os)=XE ps.f (Is++Os):=Ft λz _=>by simp only[Xx,PY.mem_iff]
  let back:∀c,PC n ps Js Os c->PC n ps Is Os c:=λc zz=>by let(L,l1,l2,l3):=zz;exists L,l1,λl=>(l2 l).l {λh=>{h.1,λz hz=>h.2.1 z<|PY.mem_iff.H hz,h.2.2},λh=>{h.1,λz hz=>h.2.1 z<|PY.mem_iff.E hz,h.2.2}},l3
  exists _,Z,_,Z,w,a,n,ps,Is,Z,hW,hG,hA,WX,λmA H1 s1 Qc Tg=>?_;let Wc:=ZC n.j (XT ps Is)
  let Wu:=ZE (ns:=Is) hG WX;let hel:(XT ps Is).f=Is.f:=Xz ..
  show nm ?_;exists _,Z,mA,_,Z,SqL.of Tg,J,λF hF Se fA HF=>?_;let s2:=XJ (o:=.lst<|IL F) HF
  let Ma:(upd H1 fA<|.lst<|IL F) fA=some (.lst<|IL F):=XS;let We:=s2 _ _ Tg
  let Ry:=s1.l s2;show nm ?_;dsimp only;generalize upd H1 fA (.lst<|IL F)=H2 at *;let(g,hfg,gW,hgg):=l9 Wu hF Se;let(k1,kn,nk):=ZA4 Wu J hF Se;let SG:=MM Ry hA
  let OY:=MM Ry hB;let(dx,tl,xs,h1,h2,h3):=hW.Y Ry;let MC:=h3.1
  exists _,Z,fA,_,Z,.inl<|SqL.of Ma,_,Z,a,_,Z,.inr SG,_,_,Z,Z,_,Z,w,_,dx,_,_,Z,h1,T.cl_Web,T.n_Web_places,Uc _ _,_,_,Z,Z,_,Z,?_;rw[Xw,Xw];show WA (λhc=>?_) (λhc=>?_)
  .show q 0 H2 (back 0<|mf hG hJ (λi j hi hj=>(hfg i j hi hj).l (Gd i j).U) gW hgg k1 kn<|by rw[PY.length_eq];omega) Ry
  exists _,Z,mA,Z,{_,SqL.of We},NP (K:=K) (a:=mA) (xs:=IL<|Xu n.j<|XT ps Is) (λi zs H3=>H3=H2/\i<=n.j/\zs=IL (((Xu n.j<|XT ps Is).X i).C λz=>(Va F z:Int))) {Z,Yk _,Z} (Zi<|by rw[Xw,Wc];lia) (λi zs H3 _ zz=>by let(e,hi,ez):=zz;show{e▸SqL.of We,by rw[ez,Xw,Xz,YB];lia}) ?_ ?_
  .rintro i v zs H3 hi ⟨rfl,hin3,rfl⟩ AP Xj;let(z,rfl,hz):=WQ hi;let Gp:z∈F:=(Se z).H (Xr hz)
   let Xp:=(Xy.E hz).1;show nm ?_;show{_,Z,.inl {Z,_,SqL.of Ma},_,Z,fA,F,z,Va F z,Z,Z,SqL.of Ma,IE Gp,λi hi e=>by have:=Ub (Jf hF) e (IE Gp);lia,Xj _ _ {Z,J,?_}};rw[YS,hz,Yp];show(ZN _ _).U
  rintro zs H3 ⟨rfl,_,rfl⟩ nA hnA;rw[Xw,YI];let s3:=XJ (o:=.lst<|IL<|(Xu n.j<|XT ps Is).C λz=>(Va F z:Int)) hnA
  let g6:(upd H3 nA<|.lst<|IL<|(Xu n.j<|XT ps Is).C λz=>(Va F z:Int)) nA=some (.lst<|IL<|(Xu n.j<|XT ps Is).C λz=>(Va F z:Int)):=XS;let vp:=s3 _ _ Ma
  let KA:=MM s3 SG;let HE:=MM s3 OY
  let FX:=Ry.l s3;generalize upd H3 nA (.lst<|IL<|(Xu n.j<|XT ps Is).C λz=>(Va F z:Int))=H4 at *;let nAt:∀x:Int,0<=x->x<n->((Xu n.j<|XT ps Is).C λz=>(Va F z:Int))[x.j]?=some (Va F (mk (Xu n.j<|XT ps Is) x.j):Int):=λx x0 x1=>by rw[Yr,XH J];unfold mk;rw[Xl,XH J];rfl
  show nm ?_;exists _,Z,_,Z,gX KA HE J λgA H5 s5 hg5=>?_;let Ax:=FX.l s5
  let(dx,tl,xs,h1,h2,h3):=hW.Y Ax;let MC:=h3.1
  show nm ?_;exists _,Z,w,_,dx,_,_,Z,h1,T.cl_Web,T.n_Web_ties,Wf _ _,tl,Z,{_,SqL.of h2},wX (K:=K) (a:=tl) (xs:=xs) (λj zs H6=>Same H5 H6/\j<=ps.f/\PairsV H6 zs ((XE j<|Is++Os).C λz=>ps.t z.j (0,0))) {Same.refl _,Yk _,PairsV.nil} (Zi J) (λj zs H6 hj ⟨e,Qf,ez⟩=>{e.seq<|SqL.of h2,by rw[ez.1,Xz];show YE (YT ..) ?_;rw[ZB];show Ya _}) ?_ ?_
  .rintro j v zs H6 pt UC hj ⟨s6,Qh,hZ⟩ AP Xj;let(p,hp,tt,rfl,ht):=h3.at hj;let WG:=(Xy.E hp).1
   let s7:=XJ (o:=.tup [.int j,.ref tt]) UC;exists pt,_,Z,SqT.of XS,Z,_,_,Z,_,_,Z,Z,?_;let z6:=hZ.Y s7
   let Qy:=s6.l s7;generalize upd H6 pt (.tup [.int j,.ref tt])=H7 at *;exists _,Z,_,Z,gA,_,Z,.inr<|MM Qy hg5,Z,Ji _,_,Z,?_;rw[Jj];show WI (λHD=>?_) (λHD=>?_)
   .show Xj _ _ {Qy,WG,?_};rwa[Zv7,if_pos HD,Yy]
   .exists _,Z,Xj _ _ {Qy,WG,?_};rw[Zv7,if_neg HD,Yp];show z6.app ?_;change PairsV H7 [V.ref tt] [ps.t ((j:Nat):Int).j (0,0)]
    rw[Yf,ZO hp];show PairsV.nil.snoc {tt,Z,Qy _ _ ht}
  rintro zs H6 ⟨s6,_,hZ⟩ rA UX;rw[MC]at hZ;let s7:=XJ (o:=.lst zs) UX
  let HH:(upd H6 rA<|.lst zs) rA=some (.lst zs):=XS;let z6:=hZ.Y s7
  let Qy:=s6.l s7;generalize upd H6 rA (.lst zs)=H7 at *;let hf7:=Qy _ _ (s5 _ _ vp)
  let hn7:=Qy _ _ (s5 _ _ g6);let IS:=z6.1
  let QZ:(XE ps.f<|Is++Os).f<=30:=by show YE (YT ..) ?_;rw[ZB];omega
  rw[Xz]at IS;show nm ?_;show⟨_,Z,fA,_,Z,.inl<|SqL.of hf7,_,Z,rA,Z,{_,SqL.of HH},NP (K:=K) (a:=rA) (xs:=zs) (λi ws H8=>Same H7 H8/\i<=(XE ps.f<|Is++Os).f/\PairsV H8 ws (((XE ps.f<|Is++Os).X i).C λz=>((Va F (mk (Xu n.j<|XT ps Is) (Zo ps z).1):Int),(Va F (mk (Xu n.j<|XT ps Is) (Zo ps z).2):Int)))) {Same.refl _,Yk _,PairsV.nil} (Zi J)
   (λi ws H8 hi zz=>by let(e,Vs,ew):=zz;show{e.seq<|SqL.of HH,by rw[ew.1,Xz,YB];lia}) ?_ ?_⟩
  .rintro i v ws H8 hi ⟨s8,VW,vo⟩ AP Xj;let(p,hp,tt,rfl,ht):=z6.at hi;rw[Yr]at hp;obtain⟨z,hz,ez⟩:∃z,(XE ps.f<|Is++Os)[i]?=some z/\ps.t z.j (0,0)=p:=by
    cases hq:(XE ps.f<|Is++Os)[i]? with
    |none=>rw[hq]at hp;cases hp
    |some z=>rw[hq]at hp;exists z,Z,Yc hp
   let bV:=(WU.E<|Xr hz).1;obtain⟨p',HV⟩:∃p,ps[z.j]?=some p:={_,XH J};let epp:p'=p:=by rw[<-ez,ZO HV]
   rw[epp]at HV;let(e1,e2,e3,e4):=g4 p (Xr HV);let ee:Zo ps z=(p.1.j,p.2.j):=by unfold Zo;rw[ZO HV]
   let ht8:=s8 _ _ ht;let hn8:=s8 _ _ hn7
   show nm ?_;exists _,Z,_,Z,tt,_,0,.int p.1,Z,Z,SqT.of ht8,Z,nA,_,_,_,Z,Z,SqL.of hn8,ZM (n:=p.1.j) J<|Ud<|nAt p.1 e1 e2,?_;exists _,Z,_,Z,tt,_,1,.int p.2,Z,Z,SqT.of ht8,Z,nA,_,_,_,Z,Z,SqL.of hn8,ZM (n:=p.2.j) J<|Ud<|nAt p.2 e3 e4,(by change 2<=sizeLine;decide),λpp hpp=>?_;show Xj _ _ {s8.l<|XJ hpp,by have:=(Xy.E hz).1;lia,?_};rw[YS,hz,Yp];show(vo.Y<|XJ hpp).snoc {pp,Z,?_};dsimp only;rw[ee];show XS
  rintro ws H8 ⟨s8,_,vo⟩ la Mg;rw[IS,YI]at vo;let s9:=XJ (o:=.lst ws) Mg
  let LY:(upd H8 la<|.lst ws) la=some (.lst ws):=XS;let hP9:=vo.Y s9
  let vn:=s8.l s9;generalize upd H8 la (.lst ws)=H9 at *;let hGc:=aR (f:=λi=>Va F<|mk (Xu n.j<|XT ps Is) i) hG (Is++Os) gW k1 kn
  intro x HK nx Ru Ou;let t1:Same H9 (upd (upd H9 HK<|.own x) x<|.ins t.A_Web HK []):=ZD (XJ Ru) (by rwa[XR (YY Ou)])
  exists x,HK,F⁻¹,la,false,ws,_,by rw[Xw];rfl,XS,λo=>?_,hP9.Y t1,hGc,λz5 hV k10=>{Z,?_}
  .show SqL.of (by rwa[XR (Za LY nx),XR<|Za LY nx,XR (Za LY Ru)])
  let z3:Same H9 z5:=λb o e=>k10 b o (t1 b o e) (Za e nx);exists x,_,_,Z,hV,hGc,λc LX hc HC=>q c LX (back c<|mh hG hJ (λz hz=>TY z<|PY.mem_iff.E hz) (λi j hi hj=>(hfg i j hi hj).l (Gd i j).U) gW hgg (by rw[PY.length_eq];lia)<|by rwa[hfr])<|Ax.l<|Qy.l<|vn.l<|z3.l HC
inductive spZE(K:Ad)(C:Addr)(vs:List V)(H:Hp)(Q:VK)(_:XK):Prop
 |mk (w a b n ps I O:_) (_:vs=[.ref w,.ref a,.ref b]) (_:WebAt C H w n ps) (_:Zt n ps) (_:SqT K H a (IL I)) (_:SqT K H b (IL O)) (_:I.Nodup) (_:(∀z∈I,0<=z/\z<ps⁻¹)) (_:(∀z∈I,z∉O)) (_:(∀H':Hp,Same H H'->(∀U,¬With n ps I O U)->Q .non H')) (_:(∀r F H',Same H H'->H' r=some (.tup<|IL F)->With n ps I O F->(∀U,With n ps I O U->HT.lexLt U F=false)->Q ↑r H'))
def zy(T:Txt K mg t):Xg P w base Xo T.qZE 4 (spZE K t.A_Web):=by
 show T.qZE.okI ["web","inside","outside"] tH λXD A outer s H vs Q E hr h=>?_
 .let⟨w,a,b,n,ps,I,O,rfl,hW,hG,hA,hB,hIn,WX,hd,q0,q1⟩:=h;exists _,(XI<|Zm<|Xv (jc T) hr T.qZf Zr<|XZ (pv 0)<|XZ (pv 1)<|XZ (Xv (AI T) hr T.qZ4 Zr<|XZ (pv 0)<|XZ (pv 2) XX) XX),?_;let g3:=hG.2.2.1
  exists _,Z,_,Z,_,Z,_,Z,w,b,n,ps,true,O,Z,hW,J,hB,λD FU hD dA H1 s1 gV=>?_;let hDs:IsSet ps.f D:=XW.H {λz hz=>((hD z).E hz).1,FU}
  let hb:∀z∈I++D,0<=z/\z<ps⁻¹:=λz hz=>(Xx.E hz).elim (WX z) λh=>((hD z).E h).1;let il:I.f<=ps.f:=by
   have:=IW (m:=Xh ps.f) hIn λz hz=>XO.H (WX z hz)
   rwa[ZB]at this
  let dl:=hDs.len;exists w,a,dA,n,ps,true,true,I,D,Z,hW.Y s1,hG,MM s1 hA,SqT.of gV,J,J,hb,λh H2 s2=>q0 H2 (s1.l s2) λU hU=>?_,λht hl r ms H2 Wa MF s2 VU hr=>?_
  .have:=CW hG hU.1 hIn hU.2.1 (hU.sub hD) hb
   rcases h with h|h
   .show h this.1
   .show this.2 h
  .let hF:With n ps I O ms:={oF hG hb hl Wa MF,λz hz=>Wa.mem_iff.H<|FA<|ht▸hz,λz hz h=>(Xx.E<|(OW _ _ _).subset (Wa.mem_iff.E h)).elim (λh=>hd z h hz) λh=>((hD z).E h).2 hz};show q1 r ms H2 (s1.l s2) hr hF λU hU=>Zo7 hG hU.1 hU.2.1 (hU.sub hD) hb FU hF.1 Wa hF.2.1
inductive spZF(vs:List V)(H:Hp)(Q:VK)(_:XK):Prop
 |mk (z:Int) (_:vs=[.int z]) (_:-(10^70)<z) (_:z<10^70) (_:(0<=z->Q .non H)) (_:(z<0->False))
def gU(T:Txt K mg t):Xg P w base Xo T.qZF 1 spZF:=by
 show T.qZF.okI ["number"] tH λXD A outer s H vs Q E hr h=>?_
 .let⟨z,rfl,z0,z1,q,qe⟩:=h;show⟨_,(XI (Wk (Zl Rh (pv 0) Zd<|Zx _)
   (XI Vv)
   Zp)),?_⟩
  exists _,Z,_,_,Z,Z,_,Z,?_;show WA (λh=>?_) (λh=>?_)
  .show qe h
  .show q J
inductive spZG(K:Ad)(C:Addr)(vs:List V)(H:Hp)(Q:VK)(_:XK):Prop
 |mk (w m n ps M z:_) (_:vs=[.ref w,.ref m,.int z]) (_:WebAt C H w n ps) (_:Zt n ps) (_:H m=some (.lst<|IL M)) (_:M.f=n.j) (_:0<=z) (_:z<ps⁻¹) (_:∀r l H',l.Perm [mk M (ps.t z.j (0,0)).1.j,mk M (ps.t z.j (0,0)).2.j]->l.Q (·<=·)->Same H H'->H' r=some (.lst<|IL l)->Q ↑r H')
def zx(T:Txt K mg t):Xg P w base Xo T.qZG 1 (spZG K t.A_Web):=by
 show T.qZG.okI ["web","marks","tie","ends"] tH λXD A outer s H vs Q E hr h=>?_
 .let⟨w,m,n,ps,M,z,rfl,hW,hG,hM,PZ,z0,z1,q⟩:=h;show⟨_,(XQ (Ze 3<|ZH (Zj K) (Zk K (pv 0) Z) (pv 2) λ_ _=>rfl)
   (XI<|Zm<|Zf (w6 K) tK T.n_sorted Boot.«sorted»<|XZ (Uz<|XZ (ZH (Zj K) (pv 1) (ZH (Zy K) (pv 3) Zd λ_ _=>rfl) λ_ _=>rfl)<|XZ (ZH (Zj K) (pv 1) (ZH (Zy K) (pv 3) Zd λ_ _=>rfl) λ_ _=>rfl) XX) XX)),?_⟩
  let(g1,g2,g3,g4):=id hG;let(dx,tl,xs,h1,h2,h3):=id hW;obtain⟨p,hp⟩:∃p,ps[z.j]?=some p:={_,XH J};let ep:ps.t z.j (0,0)=p:=ZO hp
  rw[ep]at q;let(v,hv,tt,rfl,VV):=h3.2 _ p hp;let(e1,e2,e3,e4):=g4 p (Xr hp);let t0:Wg ([.int p.1,.int p.2]:List V) 0=some (.int p.1):=rfl
  let t1:Wg ([.int p.1,.int p.2]:List V) 1=some (.int p.2):=rfl;let iA:Wg (IL M) p.1=some (.int<|mk M p.1.j):=ZM (n:=p.1.j) J (Ud<|NN J)
  let iB:Wg (IL M) p.2=some (.int<|mk M p.2.j):=ZM (n:=p.2.j) J (Ud<|NN J);exists _,Z,w,_,dx,_,_,Z,h1,T.cl_Web,T.n_Web_ties,Wf _ _,_,Z,tl,_,_,.ref tt,Z,Z,SqL.of h2,ZM (n:=z.j) J hv,?_;show nm ?_;exists _,Z,_,Z,tt,_,0,_,Z,Z,SqT.of VV,t0,m,_,p.1,_,Z,Z,SqL.of hM,iA,_,Z,_,Z,tt,_,1,_,Z,Z,SqT.of VV,t1,m,_,p.2,_,Z,Z,SqL.of hM,iB,(by change 2<=sizeLine;decide),λa ha=>?_;let s1:=XJ (o:=.lst<|IL [mk M p.1.j,mk M p.2.j]) ha
  exists a,[mk M p.1.j,mk M p.2.j],Z,SqL.of XS,(by change 2<64;decide),λl hl hs r hr=>?_;show q r l _ hl hs (s1.l<|XJ hr) XS
inductive spZH(K:Ad)(C:Addr)(vs:List V)(H:Hp)(Q:VK)(_:XK):Prop
 |mk (w m a n ps M g:_) (_:vs=[.ref w,.ref m,.ref a]) (_:WebAt C H w n ps) (_:Zt n ps) (_:H m=some (.lst<|IL M)) (_:M.f=n.j) (_:SqT K H a (IL g)) (_:∀r H',Same H H'->H r=none->H' r=some (.lst<|IL<|Ml M ps g ps.f)->Q ↑r H')
def zw(T:Txt K mg t):Xg P w base Xo T.qZH 1 (spZH K t.A_Web):=by
 show T.qZH.okI ["web","marks","gone"] tH λXD A outer s H vs Q E hr h=>?_
 .let⟨w,m,a,n,ps,M,g,rfl,hW,hG,hM,PZ,hA,q⟩:=h;exists _,(XI<|Zm<|SI Z (sc0:=Zc<|top 63) (N0:=["web","marks","gone"]) (N':=["tie","ends","gone","marks"]) (o:=2) (fr:=[2,1]) ⟨Z,tH,tH,tH,Z,tH⟩ (Lu K Z T.n_enumerate<|XZ (Zk K (pv 0) Z) XX) (DS<|NR tI<|NR tI DT) (λ_ _ _ _=>(Qi (n:=2) K Z<|Zs (Zb 0)<|Zs (Zb 1) Qn)) (λ_ _ _ _=>(NS<|PW.pt<|EU (Zl (DF K) (pv 0) (pv 2) Z)<|dQ<|Zl SQ (ZH (Zj K) (pv 3) (ZH (Zy K) (pv 1) Zd λ_ _=>rfl) λ_ _=>rfl) (ZH (Zj K) (pv 3) (ZH (Zy K) (pv 1) Zd λ_ _=>rfl) λ_ _=>rfl)<|Zx _)) λ_ _ _ _=>(pv 0)),?_;let(g1,g2,g3,g4):=id hG;let(dx,tl,xs,h1,h2,h3):=id hW;let MC:=h3.1
  show⟨_,Z,w,_,dx,_,_,Z,h1,T.cl_Web,T.n_Web_ties,Wf _ _,tl,Z,{_,SqL.of h2},wX (K:=K) (a:=tl) (xs:=xs) (λi ys H3=>Same H H3/\i<=xs.f/\ys=IL (Ml M ps g i)) {Same.refl _,Yk _,Z} (Zi J)
   (λi ys H3 _ h=>by let(e,_,ey):=h;show{SqL.of<|e _ _ h2,by rw[ey,Xw];show jW _ _ _ _}) ?_ ?_⟩
  .rintro i x ys H3 pt UC hi ⟨s3,VW,rfl⟩ AP Xj;let(p,Pb,tt,rfl,VV):=h3.at hi;let(e1,e2,e3,e4):=g4 p (Xr Pb);let Xs:i<xs.f:=(Xy.E hi).1
   let s4:Same H3 (upd H3 pt<|.tup [.int i,.ref tt]):=XJ UC;let SY:=s3.l s4
   let Ov:=SY _ _ VV;let Au:=SY _ _ hM
   let KA:=SqK.Y (k:=true) SY hA;let ed:ps.t i (0,0)=p:=ZO Pb
   let t0:Wg ([.int p.1,.int p.2]:List V) 0=some (.int p.1):=rfl;let t1:Wg ([.int p.1,.int p.2]:List V) 1=some (.int p.2):=rfl
   let iA:Wg (IL M) p.1=some (.int<|mk M p.1.j):=ZM (n:=p.1.j) J (Ud<|NN J);let iB:Wg (IL M) p.2=some (.int<|mk M p.2.j):=ZM (n:=p.2.j) J (Ud<|NN J)
   let hs:=jX M ps g i;rw[ed]at hs;exists pt,_,Z,SqT.of XS,Z,_,_,Z,_,_,Z,Z,?_;exists _,Z,_,Z,a,_,Z,.inr KA,Z,Ji _,_,Z,?_;rw[Jj];show WI (λhe=>?_) (λhe=>?_)
   .show Xj _ _ {SY,Xs,?_};rw[hs,if_neg λh=>h.1 he,Yy]
   exists _,Z,_,Z,tt,_,0,_,Z,Z,SqT.of Ov,t0,m,_,p.1,_,Z,Z,SqL.of Au,iA,_,Z,_,Z,tt,_,1,_,Z,Z,SqT.of Ov,t1,m,_,p.2,_,Z,Z,SqL.of Au,iB,Z,_,Z,?_;rw[Zz];show WI (λhx=>?_) (λhx=>?_)
   .show Xj _ _ {SY,Xs,?_};rw[hs,if_neg λh=>h.2 hx,Yy]
   .exists _,Z,Xj _ _ {SY,Xs,?_};rw[hs,if_pos ⟨he,hx⟩,ZN]
  .rintro ys H3 ⟨s3,_,rfl⟩ p hp;rw[MC];show q p _ (s3.l<|XJ hp) (s3.free hp) XS
def gT(st:Stmt):(Pos):=match (Ra st).t 9 (.Pass ⟨0,0,0,0⟩) with
 | .Assign _ (.Call _ _ [k] _) _=>(match k.value with
  | .Lambda _ _ _ p=>p
  |_=>⟨0,0,0,0⟩)
 |_=>⟨0,0,0,0⟩
def gS:(Str):=Str.ofString "Part.__init__"++Str.ofString ".<locals>."++Str.ofString "<lambda>"
abbrev WK(H:Hp)(Pt:Addr):Prop:=TabH H Pt (gT sZI) gS
inductive sp_Part_init(K:Ad)(CP C Pt:Addr)(vs:List V)(H:Hp)(Q:VK)(_:XK):Prop
 |mk (x dx w a b n ps I O ld:_) (_:vs=[.ref x,.ref w,.ref a,.ref b,Xa ld]) (_:H x=some (.ins CP dx [])) (_:WebAt C H w n ps) (_:Zt n ps) (_:WK H Pt) (_:SqT K H a (IL I)) (_:SqT K H b (IL O)) (_:I.Nodup) (_:(∀z∈I,0<=z/\z<ps⁻¹)) (_:(∀z∈I,z∉O)) (_:O.f<=30) (_:(∃U,With n ps I O U)) (_:(∀y,ld=some y->0<=y/\y<ps⁻¹)) (_:(ld=none->∀F,With n ps I O F->(∀U,With n ps I O U->HT.lexLt U F=false)->WM n ps I O F=[])) (_:∀F inc fu l i H',With n ps I O F->(∀U,With n ps I O U->HT.lexLt U F=false)->Qe (λz=>PyProof.Rows.b2i<|decide<|ld=some z) (Sz n ps I O F ld) inc->(fu=none↔VC n ps I O F ld=[])->(∀y,fu=some y->y∈VC n ps I O F ld/\∀z∈VC n ps I O F ld,y<=z)->H' x=some (.ins CP dx<|vW ↑w ↑a ↑b (Xa ld) ↑l ↑i<|Xa fu)->H' l=some (.tup<|IL F)->H' i=some (.lst<|IL inc)->(∀b o,b≠x->b≠Pt->H b=some o->H' b=some o)->WK H' Pt->Q .non H')
def LW:FnScope ["self","web","kept","shut","lead","marks","opened","alike","unlike"] ["self","web","kept","shut","lead"] (Zc sZI):=RA tH
def HA{Pt:Addr}(T:Txt K mg t)(hB:Mn K mg base t.dZI Pt):FnOk P w K mg base Xo 8 t.aZI t.dZI ["self","web","kept","shut","lead"] (sp_Part_init K t.A_Part t.A_Web Pt):=by
 let(cA,Ut,hC,hBa,Bx):=hB;show T.fZI.okL Ut LW (λvs H Q E h=>?_) (λA outer s H vs Q E hr h=>?_)
 .let⟨x,dx,w,a,b,n,ps,I,O,ld,rfl,_⟩:=h;rfl
 .let⟨x,dx,w,a,b,n,ps,I,O,ld,rfl,hx,hW,hG,hT,hA,Qx,hIn,WX,TY,Nz,⟨U0,FT⟩,hld,RI,q⟩:=h;show⟨_,(XQ (MY (pv 0) (pv 1) Z)
   (XQ (MY (pv 0) (pv 2) Z)
   (XQ (MY (pv 0) (pv 3) Z)
   (XQ (MY (pv 0) (pv 4) Z)
   (XQ (MY (pv 0) (Xv (zy T) hr T.qZE Zr<|XZ (pv 1)<|XZ (pv 2)<|XZ (pv 3) XX) Z)
   (XQ (RO (i:=5) LW.nd Z (Or.inr Z)<|Xv (QB T) hr T.qZ9 Zr<|XZ (pv 1)<|XZ (pv 2) XX)
   (XQ (Ze 6<|Xv (zw T) hr T.qZH Zr<|XZ (pv 1)<|XZ (pv 5)<|XZ (Zv (QU K) (Zv (QU K) (pv 2)<|pv 3)<|Zk K (pv 0) Z) XX)
   (XQ (RO (i:=7) LW.nd Z (Or.inr Z)<|SI Z (sc0:=Zc sZI) (N0:=["self","web","kept","shut","lead","marks","opened","alike","unlike"]) (N':=["tie","web","marks","lead"]) (o:=1) (fr:=[1,5,4]) ⟨Z,tH,tH,tH,Z,tH⟩ (ZQ K<|pv 6) (Zw tI) (λ_ _ _ _=>(Zb 0)) (λ_ _ _ _=>(NS<|Zl (qb K<|xj hr) (Xv (zx T) hr T.qZG Zr<|XZ (pv 1)<|XZ (pv 2)<|XZ (pv 0) XX) (Xv (zx T) hr T.qZG Zr<|XZ (pv 1)<|XZ (pv 2)<|XZ (pv 3) XX)<|Zx _)) λ_ _ _ _=>(pv 0))
   (XQ (Ph (i:=8) Z LW.nd Z Z (sc0:=Zc sZI) (N0:=["self","web","kept","shut","lead","marks","opened","alike","unlike"]) (N':=["tie","alike"]) (o:=1) (fr:=[7]) ⟨Z,tH,tH,tH,Z,tH⟩ (ZQ K<|pv 6) (Zw tI) (λ_ _ _ _=>(Zb 0)) (λ_ _ _ _=>(NS<|Zl (DF K) (pv 0) (pv 1) Z)) λ_ _ _ _=>(pv 0))
   (XQ (MY (pv 0) (ZY5 (k:=0) (i:=4) (v:="tie") (x:="lead") (pv 7) tK T.n_sorted (hr.mono tI) rfl rfl hC hBa Bx (LamScope.of rfl rfl rfl (by first|show .inl rfl|show .inr rfl) tI) rfl rfl (λ_ _ _ _=>rfl) rfl rfl rfl λ_ _ _ _ _ _ hr=>(Rg UL (pv 0) (pv 1)<|Zx _)) rfl)
   (XI<|MY (pv 0) (ZI9 Z tK T.n_min<|pv 8) Z))))))))))),?_⟩
  let(g1,g2,g3,g4):=id hG;exists _,Z,_,Z,x,_,dx,[],Z,hx,T.cl_Part,T.n_Part_web,(by change 0<1000;decide),?_;exists _,Z,_,Z,x,_,dx,_,Z,XS,T.cl_Part,T.n_Part_kept,(by change 1<1000;decide),?_;exists _,Z,_,Z,x,_,dx,_,Z,XS,T.cl_Part,T.n_Part_shut,(by change 2<1000;decide),?_;exists _,Z,_,Z,x,_,dx,_,Z,XS,T.cl_Part,T.n_Part_lead,(by change 3<1000;decide),?_;change Wo _ _ _ [some ↑x,some<|.ref w,some<|.ref a,some<|.ref b,some<|Xa ld,none,none,none,none] (upd (upd (upd (upd H x<|.ins t.A_Part dx<|XN "web" ↑w []) x<|.ins t.A_Part dx<|XN "kept" ↑a<|XN "web" ↑w []) x<|.ins t.A_Part dx<|XN "shut" ↑b<|XN "kept" ↑a<|XN "web" ↑w []) x<|.ins t.A_Part dx<|XN "lead" (Xa ld)<|XN "shut" ↑b<|XN "kept" ↑a<|XN "web" ↑w []);let Oj:SameX x H (upd (upd (upd (upd H x<|.ins t.A_Part dx<|XN "web" ↑w []) x<|.ins t.A_Part dx<|XN "kept" ↑a<|XN "web" ↑w []) x<|.ins t.A_Part dx<|XN "shut" ↑b<|XN "kept" ↑a<|XN "web" ↑w []) x<|.ins t.A_Part dx<|XN "lead" (Xa ld)<|XN "shut" ↑b<|XN "kept" ↑a<|XN "web" ↑w []):=((Wz.l Wz).l Wz).l Wz
  let vq:(upd (upd (upd (upd H x<|.ins t.A_Part dx<|XN "web" ↑w []) x<|.ins t.A_Part dx<|XN "kept" ↑a<|XN "web" ↑w []) x<|.ins t.A_Part dx<|XN "shut" ↑b<|XN "kept" ↑a<|XN "web" ↑w []) x<|.ins t.A_Part dx<|XN "lead" (Xa ld)<|XN "shut" ↑b<|XN "kept" ↑a<|XN "web" ↑w []) x=some (.ins t.A_Part dx [("web",.ref w),("kept",.ref a),("shut",.ref b),("lead",Xa ld)]):=XS;generalize upd (upd (upd (upd H x<|.ins t.A_Part dx<|XN "web" ↑w []) x<|.ins t.A_Part dx<|XN "kept" ↑a<|XN "web" ↑w []) x<|.ins t.A_Part dx<|XN "shut" ↑b<|XN "kept" ↑a<|XN "web" ↑w []) x (.ins t.A_Part dx<|XN "lead" (Xa ld)<|XN "shut" ↑b<|XN "kept" ↑a<|XN "web" ↑w [])=H4 at *;let vm:=hW.but hx Oj
  let KA:=Bl hA hx Oj;let HE:=Bl Qx hx Oj
  let il:I.f<=ps.f:=by
   have:=IW (m:=Xh ps.f) hIn λz hz=>XO.H (WX z hz)
   rwa[ZB]at this
  exists _,Z,_,Z,_,Z,w,a,b,n,ps,I,O,Z,vm,hG,KA,HE,hIn,WX,TY,λH5 s5 h=>absurd FT<|h U0,λl F H5 s5 hl hF Se=>?_;exists _,Z,x,_,dx,_,Z,s5 _ _ vq,T.cl_Part,T.n_Part_least,(by change 4<1000;decide),?_;let zv:SameX x H H5:=Oj.l (SameX.Y s5)
  let vk:SameX x H (upd H5 x<|.ins t.A_Part dx<|XN "least" ↑l [("web",.ref w),("kept",.ref a),("shut",.ref b),("lead",Xa ld)]):=zv.l Wz;let hx6:(upd H5 x<|.ins t.A_Part dx<|XN "least" ↑l [("web",.ref w),("kept",.ref a),("shut",.ref b),("lead",Xa ld)]) x=some (.ins t.A_Part dx [("web",.ref w),("kept",.ref a),("shut",.ref b),("lead",Xa ld),("least",.ref l)]):=XS
  let AB:(upd H5 x<|.ins t.A_Part dx<|XN "least" ↑l [("web",.ref w),("kept",.ref a),("shut",.ref b),("lead",Xa ld)]) l=some (.tup<|IL F):=by rwa[XR (λe=>by rw[e,s5 _ _ vq]at hl;cases hl)]
  change Wo _ _ _ [some ↑x,some<|.ref w,some<|.ref a,some<|.ref b,some<|Xa ld,none,none,none,none] (upd H5 x<|.ins t.A_Part dx<|XN "least" ↑l [("web",.ref w),("kept",.ref a),("shut",.ref b),("lead",Xa ld)]);generalize upd H5 x (.ins t.A_Part dx<|XN "least" ↑l [("web",.ref w),("kept",.ref a),("shut",.ref b),("lead",Xa ld)])=H6 at *;exists _,Z,_,Z,w,a,n,ps,I,Z,hW.but hx vk,hG,Bl hA hx vk,WX,λm H7 s7 Qc vG=>?_;show nm ?_;dsimp only[List.set];let gR:SameX x H H7:=vk.l (SameX.Y s7)
  let hF1:F.f<=ps.f:=hF.1.1.len;let PZ:(Xu n.j<|XT ps I).f=n.j:=ZC _ _
  exists _,Z,_,Z,_,Z,_,Z,?_;show Oy (l:=I) (m:=O) (Bl hA hx gR) (Bl Qx hx gR) J λr1 H8 s8 Wj=>?_;let sx8:SameX x H H8:=gR.l (SameX.Y s8)
  let gQ:=s7.l s8;exists _,Z,x,_,dx,_,.ref l,Z,gQ _ _ hx6,T.cl_Part,T.n_Part_least,Z,?_;show Oy (l:=I++O) (m:=F) Wj (SqT.of<|gQ _ _ AB) (by rw[XB];lia) λr2 H9 s9 UT=>?_;let s69:=gQ.l s9
  let sx9:SameX x H H9:=sx8.l (SameX.Y s9);let vn:=s8.l s9
  exists w,m,r2,n,ps,Xu n.j<|XT ps I,I++O++F,Z,hW.but hx sx9,hG,vn _ _ vG,PZ,UT,λpA z5 z3 hp0 Oi=>?_;let Oi:z5 pA=some (.lst<|IL<|WM n ps I O F):=Oi
  show nm ?_;let sxA:SameX x H z5:=sx9.l (SameX.Y z3)
  let s6A:=s69.l z3;let vj:=(vn.l z3) _ _ vG
  let Pj:∀z∈WM n ps I O F,0<=z/\z<ps⁻¹:=λz hz=>ZM9 hz;let TN:(WM n ps I O F).f<=ps.f:=jW _ _ _ _
  show⟨_,Z,pA,Z,{_,SqL.of Oi},NP (K:=K) (a:=pA) (xs:=IL<|WM n ps I O F) (λi ws LX=>Same z5 LX/\i<=(WM n ps I O F).f/\ws=IL (((WM n ps I O F).X i).filter λz=>decide<|∃y,ld=some y/\TJ (Xu n.j<|XT ps I) ps z=TJ (Xu n.j<|XT ps I) ps y)) ⟨Same.refl _,Yk _,Z⟩ (Zi<|by rw[Xw];lia)
   (λi ws LX hi h=>by let(e,Vs,ew):=h;show{SqL.of<|e _ _ Oi,by rw[ew,Xw];show YE (YT ..)<|by rw[YB];lia}) ?_ ?_⟩
  .rintro i v ws LX hi ⟨HC,VW,rfl⟩ AP Xj;let(z,rfl,hz):=WQ hi;let(z0,z1):=Pj z (Xr hz);let Xs:i<(WM n ps I O F).f:=(Xy.E hz).1
   obtain⟨y,rfl⟩:∃y,ld=some y:=by
    cases ld with
    |some y=>exists y,Z
    |none=>
     rw[RI Z F hF Se]at Xs;show absurd Xs (TH _)
   let(y0,y1):=hld y rfl;show nm ?_;exists _,Z,_,Z,_,Z,w,m,n,ps,_,z,Z,hW.but hx<|sxA.l<|SameX.Y HC,hG,HC _ _ vj,PZ,z0,z1,λe1 l1 H12 Us hs1 Wy IG=>?_;let Hu:=HC.l Wy
   exists _,Z,_,Z,_,Z,w,m,n,ps,_,y,Z,hW.but hx<|sxA.l<|SameX.Y Hu,hG,Hu _ _ vj,PZ,y0,y1,λe2 l2 H13 VL SO QA Sl=>?_;exists 1,_,e1,e2,Z,Z,tI,cS (SqL.of<|QA _ _ IG)<|SqL.of Sl,_,Z,?_;let ed:decide (l1=l2)=decide (∃y_1,some y=some y_1/\TJ (Xu n.j<|XT ps I) ps z=TJ (Xu n.j<|XT ps I) ps y_1):=by
    rw[ZK3 Us hs1,ZK3 VL SO,decide_eq_decide];constructor
    .intro e;injection e with e1 e2
     injection e2 with e2 _;exists y,Z,Prod.ext e1 e2
    .rintro⟨y',e,e'⟩;cases e;let(e1,e2):=Prod.mk.inj e';rw[e1,e2]
   let zu:=Hu.l QA;change(if decide (l1=l2)=true then _ else _)
   rw[ed];show WA (λhc=>?_) (λhc=>?_)
   .exists _,Z,Xj _ _ {zu,Xs,?_};rw[IV hz,if_pos<|YK hc,ZN]
   .show Xj _ _ {zu,Xs,?_};rw[IV hz,if_neg (by simpa using hc),Yy]
  rintro ws LX ⟨HC,_,rfl⟩ kA hkA;rw[Xw,YI];let ea:((WM n ps I O F).filter λz=>decide<|∃y,ld=some y/\TJ (Xu n.j<|XT ps I) ps z=TJ (Xu n.j<|XT ps I) ps y)=Sz n ps I O F ld:=rfl
  rw[ea];let hal:(Sz n ps I O F ld).f<=ps.f:=YE (YT ..) TN
  let v1:=XJ (o:=.lst<|IL<|Sz n ps I O F ld) hkA;let kK:(upd LX kA<|.lst<|IL<|Sz n ps I O F ld) kA=some (.lst<|IL<|Sz n ps I O F ld):=XS
  show nm ?_;dsimp only[List.set];let sAB:=HC.l v1
  change Wo _ _ _ _ (upd LX kA<|.lst<|IL<|Sz n ps I O F ld);generalize upd LX kA (.lst<|IL<|Sz n ps I O F ld)=H14 at *;let hpB:=sAB _ _ Oi
  show⟨_,Z,pA,Z,{_,SqL.of hpB},NP (K:=K) (a:=pA) (xs:=IL<|WM n ps I O F) (λi ws Ky=>Ky=H14/\i<=(WM n ps I O F).f/\ws=IL (((WM n ps I O F).X i).filter λz=>decide<|z∉Sz n ps I O F ld)) {Z,Yk _,Z} (Zi<|by rw[Xw];lia)
   (λi ws Ky hi h=>by let(e,Vs,ew):=h;show{e▸SqL.of hpB,by rw[ew,Xw];show YE (YT ..)<|by rw[YB];lia}) ?_ ?_⟩
  .rintro i v ws Ky hi ⟨rfl,VW,rfl⟩ AP Xj;let(z,rfl,hz):=WQ hi;let Xs:i<(WM n ps I O F).f:=(Xy.E hz).1
   show nm ?_;exists _,Z,_,Z,kA,_,Z,.inl<|SqL.of kK,Z,Ji _,_,Z,?_;rw[Jj];show WI (λhe=>?_) (λhe=>?_)
   .show Xj _ _ {Z,Xs,?_};rw[IV hz,if_neg (by simpa using he),Yy]
   .exists _,Z,Xj _ _ {Z,Xs,?_};rw[IV hz,if_pos<|YK he,ZN]
  rintro ws Ky ⟨rfl,_,rfl⟩ uA zt;rw[Xw,YI];let eu:((WM n ps I O F).filter λz=>decide<|z∉Sz n ps I O F ld)=VC n ps I O F ld:=rfl
  rw[eu];let v2:=XJ (o:=.lst<|IL<|VC n ps I O F ld) zt
  let kU:(upd Ky uA<|.lst<|IL<|VC n ps I O F ld) uA=some (.lst<|IL<|VC n ps I O F ld):=XS;show nm ?_;let gP:=(s6A.l sAB).l v2
  let kKU:=v2 _ _ kK;let sxU:SameX x H (upd Ky uA<|.lst<|IL<|VC n ps I O F ld):=vk.l (SameX.Y gP)
  let IU:=gP _ _ hx6;let hlU:=gP _ _ AB
  change Wo _ _ _ _ (upd Ky uA<|.lst<|IL<|VC n ps I O F ld);generalize upd Ky uA (.lst<|IL<|VC n ps I O F ld)=H16 at *;let LV:WK H16 Pt:=jV hT hx sxU
  exists _,Z,kA,Sz n ps I O F ld,Xa ld,λz=>decide<|ld=some z,Z,SqL.of kKU,J,LV,Z,λzq Oh z hz=>?_,λinc iA zq UA Oh zp gO=>?_
  .exists _,rfl,_,rfl,(by cases ld<;>rfl),?_,rfl
   change V.bl (decide<|V.int z=Xa ld)=V.bl (decide<|ld=some z);cases ld with
   |none=>rfl
   |some y=>
    change V.bl (decide<|V.int z=V.int y)=V.bl (decide<|some y=some z);rw[Zz];congr 1;rw[decide_eq_decide];exists λe=>by rw[e],λe=>(Yc e).U
  let hxP:x≠Pt:=LV.ne IU tG;let v3:=XJ (o:=.lst<|IL inc) gO
  let zm:=v3 _ _ (Oh _ _ hxP IU);let zk:=v3 _ _ (Oh _ _ (LV.ne hlU tG) hlU)
  let zj:=v3 _ _ (Oh _ _ (LV.ne kU tG) kU);let zi:(upd zq iA<|.lst<|IL inc) iA=some (.lst<|IL inc):=XS
  let zh:WK (upd zq iA<|.lst<|IL inc) Pt:=zp.Y v3;let Ht:∀b o,b≠x->b≠Pt->H b=some o->(upd zq iA<|.lst<|IL inc) b=some o:=λb o h1 h2 e=>v3 _ _ (Oh _ _ h2<|sxU _ _ h1 e)
  change tVar _ _ _ _;generalize upd zq iA (.lst<|IL inc)=zg at *;exists _,Z,x,_,dx,_,Z,zm,T.cl_Part,T.n_Part_incoming,(by change 5<1000;decide),?_;let Og:∀c o,zg c=some o->(∀a b fs,o≠.ins a b fs)->c≠x:=λc o h ho e=>by rw[e,zm]at h;show ho _ _ _ (Yc h).U
  let gN:(upd zg x<|.ins t.A_Part dx<|XN "incoming" ↑iA [("web",.ref w),("kept",.ref a),("shut",.ref b),("lead",Xa ld),("least",.ref l)]) uA=some (.lst<|IL<|VC n ps I O F ld):=by rw[XR (Og _ _ zj tG)];show zj
  let fin:∀fu:Option Int,(fu=none↔VC n ps I O F ld=[])->(∀y,fu=some y->y∈VC n ps I O F ld/\∀z∈VC n ps I O F ld,y<=z)->Q .non (upd (upd zg x<|.ins t.A_Part dx<|XN "incoming" ↑iA [("web",.ref w),("kept",.ref a),("shut",.ref b),("lead",Xa ld),("least",.ref l)]) x<|.ins t.A_Part dx<|vW ↑w ↑a ↑b (Xa ld) ↑l ↑iA<|Xa fu):=λfu h1 h2=>by
   let up:∀c o,c≠x->zg c=some o->(upd (upd zg x<|.ins t.A_Part dx<|XN "incoming" ↑iA [("web",.ref w),("kept",.ref a),("shut",.ref b),("lead",Xa ld),("least",.ref l)]) x<|.ins t.A_Part dx<|vW ↑w ↑a ↑b (Xa ld) ↑l ↑iA<|Xa fu) c=some o:=λc o h e=>by rw[XR h,XR h];show e
   let(tp,t1,t2,t3):=id zh;show q F inc fu l iA _ hF Se UA h1 h2 XS (up _ _ (Og _ _ zk tG) zk) (up _ _ (Og _ _ zi tG) zi) (λb o b1 b2 e=>up _ _ b1<|Ht b o b1 b2 e) ⟨tp,up _ _ (Og _ _ t1 tG) t1,t2,?_⟩;rcases t3 with h|⟨c,h,h'⟩
   .show .inl h
   .show .inr {c,h,up _ _ (Og _ _ h'<|by unfold Ge;simp) h'}
  exists _,Z,uA,VC n ps I O F ld,Z,SqL.of gN,λe=>?_,λmn Tg We=>?_
  .exists _,Z,x,_,dx,_,Z,XS,T.cl_Part,T.n_Part_further,(by change 6<1000;decide),?_;show fin none {λ_=>e,λ_=>rfl} λy h=>by cases h
  .exists _,Z,x,_,dx,_,Z,XS,T.cl_Part,T.n_Part_further,(by change 6<1000;decide),?_;show fin (some mn) {λh=>(by cases h),λh=>(by rw[h]at Tg;cases Tg)} λy h=>(by cases h;exists Tg,We)
inductive spZJ(K:Ad)(CP C Pt:Addr)(vs:List V)(H:Hp)(Q:VK)(_:XK):Prop
 |mk (w n ps:_) (_:vs=[.ref w]) (_:WebAt C H w n ps) (_:Zt n ps) (_:WK H Pt) (_:(∃U,Zn n ps U)) (_:∀x F inc ld fu H',PartOk n ps [] [] ld F inc fu->(ld=none↔WM n ps [] [] F=[])->(∀y,ld=some y->y∈WM n ps [] [] F/\∀z∈WM n ps [] [] F,y<=z)->PartAt K CP C H' x n ps [] [] F inc ld fu->SameX Pt H H'->WK H' Pt->Q ↑x H')
def gM{Pt:Addr}(T:Txt K mg t)(hB:Mn K mg base t.dZI Pt):Xg P w base Xo T.qZJ 10 (spZJ K t.A_Part t.A_Web Pt):=by
 show T.qZJ.okI ["web","opened"] tH λXD A outer s H vs Q E hr h=>?_
 .let⟨w,n,ps,rfl,hW,hG,hT,⟨U0,FT⟩,q⟩:=h;show⟨_,(XQ (Ze 1<|Xv (zw T) hr T.qZH Zr<|XZ (pv 0)<|XZ (Xv (QB T) hr T.qZ9 Zr<|XZ (pv 0)<|XZ (Ui XX) XX)<|XZ (Xv (zy T) hr T.qZE Zr<|XZ (pv 0)<|XZ (Ui XX)<|XZ (Ui XX) XX) XX)
   (XI<|Zm<|GF T.k_Part (HA T hB) (hr.mono tI) Z T.c_Part T.bZI .nil Zr<|XZ (pv 0)<|XZ (Ui XX)<|XZ (Ui XX)<|XZ (ZI9 Z tK T.n_min<|pv 1) XX)),?_⟩
  let hU1:With n ps [] [] U0:={FT,λz h=>(by cases h),λz h=>(by cases h)};exists _,Z,_,Z,Yk _,λe1 IG=>?_;let s1:=XJ (o:=.tup []) IG
  exists w,e1,n,ps,[],Z,hW.Y s1,hG,SqT.of XS,λz h=>(by cases h),λm H2 s2 Qc We=>?_;let Wy:=s1.l s2
  exists _,Z,Yk _,λe2 Sl=>{Yk _,λe3 he3=>?_};let s3:=XJ (o:=.tup []) Sl
  let s4:=XJ (o:=.tup []) he3;let s14:=Wy.l (s3.l s4)
  exists w,e2,e3,n,ps,[],[],Z,hW.Y s14,hG,SqT.of<|s4 _ _ XS,SqT.of XS,.nil,λz h=>(by cases h),λz h=>(by cases h),λH5 s5 h=>absurd hU1<|h U0,λl F H5 s5 hl hF Se=>?_;let vi:=s14.l s5
  let vH:=((s3.l s4).l s5) _ _ We;let PZ:(Xu n.j<|XT ps []).f=n.j:=ZC _ _
  exists w,m,l,n,ps,Xu n.j<|XT ps [],F,Z,hW.Y vi,hG,vH,PZ,SqT.of hl,λpA H6 s6 hp0 gL=>?_;let gL:H6 pA=some (.lst<|IL<|WM n ps [] [] F):=gL
  show nm ?_;let vB:=vi.l s6
  let Pj:∀z∈WM n ps [] [] F,0<=z/\z<ps⁻¹:=λz hz=>ZM9 hz;exists _,Z,Yk _,λf1 vt=>{Yk _,λf2 Ma=>?_};let s7:=XJ (o:=.tup []) vt
  let s8:=XJ (o:=.tup []) Ma;let Hs:(upd (upd H6 f1<|.tup []) f2<|.tup []) f1=some (.tup []):=s8 _ _ XS
  let Hr:(upd (upd H6 f1<|.tup []) f2<|.tup []) f2=some (.tup []):=XS;let vh:=vB.l (s7.l s8)
  let hp8:=(s7.l s8) _ _ gL;generalize upd (upd H6 f1<|.tup []) f2 (.tup [])=H8 at *;let main:∀ld:Option Int,(ld=none↔WM n ps [] [] F=[])->(∀y,ld=some y->y∈WM n ps [] [] F/\∀z∈WM n ps [] [] F,y<=z)->∀x dx,H8 x=none->H8 dx=none->dx≠x->sp_Part_init K t.A_Part t.A_Web Pt [.ref x,.ref w,.ref f1,.ref f2,Xa ld] (upd (upd H8 dx<|.own x) x<|.ins t.A_Part dx []) (λv H2=>v=.non/\Q ↑x H2) E0:=by
   intro ld hn hs x dx nx Ru Ou;let s9:Same H8 (upd (upd H8 dx<|.own x) x<|.ins t.A_Part dx []):=ZD (XJ Ru) (by rwa[XR (YY Ou)])
   let s19:=vh.l s9;exists x,dx,w,f1,f2,n,ps,[],[],ld,Z,XS,hW.Y s19,hG,hT.Y s19,SqT.of<|s9 _ _ Hs,SqT.of<|s9 _ _ Hr,.nil,λz h=>(by cases h),λz h=>(by cases h),Yk _,⟨U0,hU1⟩,λy hy=>Pj y (hs y hy).1,λe F' Kx SX=>?_,λF' inc fu l' i' H' Kx SX UA h1 h2 Vz Uk Vf keep Of=>{Z,?_}
   .let eF:F'=F:=IZ (Se F' Kx) (SX F hF);rw[eF];show hn.E e
   .let eF:F'=F:=IZ (Se F' Kx) (SX F hF);subst eF;let sx:SameX Pt H8 H':=λb o hb e=>keep b o (Za e nx) hb (s9 _ _ e)
    let Hq:WK H8 Pt:=hT.Y vh;show q x F' inc ld fu H' ⟨Kx,SX,UA,h1,h2⟩ hn hs {dx,w,f1,f2,l',i',Vz,(hW.Y vh).samex Hq sx,SqT.of<|sx _ _ (Hq.ne Hs tG) Hs,SqT.of<|sx _ _ (Hq.ne Hr tG) Hr,Uk,Vf} ((SameX.Y vh).l sx) Of
  exists _,Z,pA,WM n ps [] [] F,Z,SqL.of hp8,λe=>?_,λmn h1 h2=>?_
  .show main none {λ_=>e,λ_=>rfl} λy h=>by cases h
  .show main (some mn) {λh=>(by cases h),λh=>(by rw[h]at h1;cases h1)} λy h=>(by cases h;exists h1,h2)
inductive spZK(K:Ad)(CP C Pt:Addr)(vs:List V)(H:Hp)(Q:VK)(_:XK):Prop
 |mk (x n ps I O F inc z y:_) (_:vs=[.ref x]) (_:PartAt K CP C H x n ps I O F inc (some z) (some y)) (_:Zt n ps) (_:WK H Pt) (_:(I).Nodup) (_:(∀v∈I,0<=v/\v<ps⁻¹)) (_:(∀v∈I,v∉O++[z])) (_:(O++[z]).f<=30) (_:(∃U,With n ps (I) (O++[z]) U)) (_:0<=y) (_:y<ps⁻¹) (_:∀x' F' VY fu H',PartOk n ps (I) (O++[z]) (some y) F' VY fu->PartAt K CP C H' x' n ps (I) (O++[z]) F' VY (some y) fu->SameX Pt H H'->WK H' Pt->Q ↑x' H')
def gK{Pt:Addr}(T:Txt K mg t)(hB:Mn K mg base t.dZI Pt):Xg P w base Xo T.qZK 10 (spZK K t.A_Part t.A_Web Pt):=by
 show T.qZK.okI ["part"] tH λXD A outer s H vs Q E hr h=>?_
 .let⟨x,n,ps,I,O,F,inc,z,y,rfl,⟨dx,w,a,b,l,i,hx,hW,hA,Qx,hl,hi⟩,hG,hT,hIn,WX,TY,Nz,hex,y0,y1,q⟩:=h;exists _,(XI<|Zm<|GF T.k_Part (HA T hB) (hr.mono tI) Z T.c_Part T.bZI .nil Zr<|XZ (Zk K (pv 0) Z)<|XZ (Zk K (pv 0) Z)<|XZ (Zv (QU K) (Zk K (pv 0) Z)<|Ui<|XZ (Zk K (pv 0) Z) XX)<|XZ (Zk K (pv 0) Z) XX),?_;let gJ:I.f<=30:=by
   have:=IW (m:=Xh ps.f) hIn λv hv=>XO.H (WX v hv)
   let e:=hG.2.2.1;rw[ZB]at this
   try simp only[XB,Yo]at this
   lia
  let Ox:O.f<=30:=by
   have:=Nz
   try simp only[XB,Yo]at this
   lia
  exists _,Z,x,_,dx,_,.ref w,Z,hx,T.cl_Part,T.n_Part_web,Z,_,Z,x,_,dx,_,.ref a,Z,hx,T.cl_Part,T.n_Part_kept,Z,_,Z,x,_,dx,_,.ref b,Z,hx,T.cl_Part,T.n_Part_shut,Z,_,Z,x,_,dx,_,.int z,Z,hx,T.cl_Part,T.n_Part_lead,Z,(by change 1<=sizeLine;decide),λp hp=>?_;let s1:=XJ (o:=.tup<|IL [z]) hp
  show Oy (l:=O) (m:=[z]) (SqK.Y (k:=true) s1 Qx) (SqT.of XS) (by rw[Yo];lia) λr1 H2 s2 Wj=>?_;let Wy:=s1.l s2
  exists _,Z,x,_,dx,_,.int y,Z,Wy _ _ hx,T.cl_Part,T.n_Part_further,Z,?_;intro x' LU nx Ru Ou;let s9:Same H2 (upd (upd H2 LU<|.own x') x'<|.ins t.A_Part LU []):=ZD (XJ Ru) (by rwa[XR (YY Ou)])
  let Wl:WK H2 Pt:=hT.Y Wy;exists x',LU,w,a,r1,n,ps,I,O++[z],some y,Z,XS,hW.Y<|Wy.l s9,hG,Wl.Y s9,SqK.Y (k:=true) (Wy.l s9) hA,SqK.Y (k:=true) s9 Wj,hIn,WX,TY,Nz,hex,λv e=>(by cases e;exists y0,y1),λe=>(by cases e),λF' VY fu l' i' H' Kx SX UA h1 h2 Vz Uk Vf keep Of=>{Z,?_};let sx:SameX Pt H2 H':=λb o hb e=>keep b o (Za e nx) hb (s9 _ _ e)
  show q x' F' VY fu H' ⟨Kx,SX,UA,h1,h2⟩ {LU,w,a,r1,l',i',Vz,(hW.Y Wy).samex Wl sx,SqK.samex (kd:=true) (SqK.Y (k:=true) Wy hA) Wl sx,SqK.samex (kd:=true) (Wj) Wl sx,Uk,Vf} ((SameX.Y Wy).l sx) Of
inductive spZL(K:Ad)(CP C Pt:Addr)(vs:List V)(H:Hp)(Q:VK)(_:XK):Prop
 |mk (x n ps I O F inc z y:_) (_:vs=[.ref x]) (_:PartAt K CP C H x n ps I O F inc (some z) (some y)) (_:Zt n ps) (_:WK H Pt) (_:(I++[z]).Nodup) (_:(∀v∈I++[z],0<=v/\v<ps⁻¹)) (_:(∀v∈I++[z],v∉O)) (_:(O).f<=30) (_:(∃U,With n ps (I++[z]) (O) U)) (_:0<=y) (_:y<ps⁻¹) (_:∀x' F' VY fu H',PartOk n ps (I++[z]) (O) (some y) F' VY fu->PartAt K CP C H' x' n ps (I++[z]) (O) F' VY (some y) fu->SameX Pt H H'->WK H' Pt->Q ↑x' H')
def gI{Pt:Addr}(T:Txt K mg t)(hB:Mn K mg base t.dZI Pt):Xg P w base Xo T.qZL 10 (spZL K t.A_Part t.A_Web Pt):=by
 show T.qZL.okI ["part"] tH λXD A outer s H vs Q E hr h=>?_
 .let⟨x,n,ps,I,O,F,inc,z,y,rfl,⟨dx,w,a,b,l,i,hx,hW,hA,Qx,hl,hi⟩,hG,hT,hIn,WX,TY,Nz,hex,y0,y1,q⟩:=h;exists _,(XI<|Zm<|GF T.k_Part (HA T hB) (hr.mono tI) Z T.c_Part T.bZI .nil Zr<|XZ (Zk K (pv 0) Z)<|XZ (Zv (QU K) (Zk K (pv 0) Z)<|Ui<|XZ (Zk K (pv 0) Z) XX)<|XZ (Zk K (pv 0) Z)<|XZ (Zk K (pv 0) Z) XX),?_;let gJ:I.f<=30:=by
   have:=IW (m:=Xh ps.f) hIn λv hv=>XO.H (WX v hv)
   let e:=hG.2.2.1;rw[ZB]at this
   try simp only[XB,Yo]at this
   lia
  let Ox:O.f<=30:=by
   have:=Nz
   try simp only[XB,Yo]at this
   lia
  exists _,Z,x,_,dx,_,.ref w,Z,hx,T.cl_Part,T.n_Part_web,Z,_,Z,x,_,dx,_,.ref a,Z,hx,T.cl_Part,T.n_Part_kept,Z,_,Z,x,_,dx,_,.int z,Z,hx,T.cl_Part,T.n_Part_lead,Z,(by change 1<=sizeLine;decide),λp hp=>?_;let s1:=XJ (o:=.tup<|IL [z]) hp
  show Oy (l:=I) (m:=[z]) (SqK.Y (k:=true) s1 hA) (SqT.of XS) (by rw[Yo];lia) λr1 H2 s2 Wj=>?_;let Wy:=s1.l s2
  exists _,Z,x,_,dx,_,.ref b,Z,Wy _ _ hx,T.cl_Part,T.n_Part_shut,Z,_,Z,x,_,dx,_,.int y,Z,Wy _ _ hx,T.cl_Part,T.n_Part_further,Z,?_;intro x' LU nx Ru Ou;let s9:Same H2 (upd (upd H2 LU<|.own x') x'<|.ins t.A_Part LU []):=ZD (XJ Ru) (by rwa[XR (YY Ou)])
  let Wl:WK H2 Pt:=hT.Y Wy;exists x',LU,w,r1,b,n,ps,I++[z],O,some y,Z,XS,hW.Y<|Wy.l s9,hG,Wl.Y s9,SqK.Y (k:=true) s9 Wj,SqK.Y (k:=true) (Wy.l s9) Qx,hIn,WX,TY,Nz,hex,λv e=>(by cases e;exists y0,y1),λe=>(by cases e),λF' VY fu l' i' H' Kx SX UA h1 h2 Vz Uk Vf keep Of=>{Z,?_};let sx:SameX Pt H2 H':=λb o hb e=>keep b o (Za e nx) hb (s9 _ _ e)
  show q x' F' VY fu H' ⟨Kx,SX,UA,h1,h2⟩ {LU,w,r1,b,l',i',Vz,(hW.Y Wy).samex Wl sx,SqK.samex (kd:=true) (Wj) Wl sx,SqK.samex (kd:=true) (SqK.Y (k:=true) Wy Qx) Wl sx,Uk,Vf} ((SameX.Y Wy).l sx) Of
inductive spZM(K:Ad)(CP C:Addr)(vs:List V)(H:Hp)(Q:VK)(_:XK):Prop
 |mk (x n ps I O F inc ld fu:_) (_:vs=[.ref x]) (_:PartAt K CP C H x n ps I O F inc ld fu) (_:Zt n ps) (_:I.Nodup) (_:(∀z∈I,0<=z/\z<ps⁻¹)) (_:O.f<=30) (_:(∀z∈I,z∉O)) (_:∀c H',PC n ps I O c->Same H H'->Q (.int c) H')
def gH(T:Txt K mg t):Xg P w base Xo T.qZM 8 (spZM K t.A_Part t.A_Web):=by
 show T.qZM.okI ["part"] tH λXD A outer s H vs Q E hr h=>?_
 .let⟨x,n,ps,I,O,F,inc,ld,fu,rfl,⟨dx,w,a,b,l,i,hx,hW,hA,Qx,hl,hi⟩,hG,hI,WX,hO,TY,q⟩:=h;exists _,(XI<|Zm<|Xv (z7 T) hr T.qZD Zr<|XZ (Zk K (pv 0) Z)<|XZ (Zk K (pv 0) Z)<|XZ (Zk K (pv 0) Z) XX),?_;exists _,Z,x,_,dx,_,.ref w,Z,hx,T.cl_Part,T.n_Part_web,Z,_,Z,x,_,dx,_,.ref a,Z,hx,T.cl_Part,T.n_Part_kept,Z,_,Z,x,_,dx,_,.ref b,Z,hx,T.cl_Part,T.n_Part_shut,Z,?_;exists w,a,b,n,ps,I,O,Z,hW,hG,hA,Qx,hI,WX,hO,TY,q
def gG{n:Int}{ps:Aa}{I F ms:Ac}{z:Int}(hF:Zn n ps F)(hz:z∉F)(hp:ms.Perm (SF n ps F z F++[z]))(hs:ms.Q (·<=·)):(ms.filter λt=>decide (t≠z/\t∉I))=Vo n ps I F z:=by
 show wW ((hp.filter _).l ?_) (hs.filter _) ?_
 .rw[PU,List.filter_cons_of_neg tG,uc,Yy];show List.Perm.of_eq (Ft λt ht=>?_)
  have:t≠z:=λe=>hz (e▸(VD.E ht).1)
  simp[this]
 .show((XW.E hF.1).2.filter _).filter _ |>.imp λh=>J
inductive spZN(K:Ad)(CP C:Addr)(vs:List V)(H:Hp)(Q:VK)(_:XK):Prop
 |mk (x n ps I O F inc ld fu z:_) (_:vs=[.ref x,.int z]) (_:PartAt K CP C H x n ps I O F inc ld fu) (_:Zt n ps) (_:Zn n ps F) (_:z∉F) (_:0<=z) (_:z<ps⁻¹) (_:∀r xs H',Same H H'->H r=none->H' r=some (.lst xs)->Bears (Vd H') xs ((Vo n ps I F z).C λo=>xchT F o z)->Q ↑r H')
def gF:FnScope ["part","into","leaving"] ["part","into"] (Zc (top 69)):=RA tH
def gE(T:Txt K mg t):Xg P w base Xo T.qZN 9 (spZN K t.A_Part t.A_Web):=by
 show T.qZN.okI ["part","into","leaving"] tH λXD A outer s H vs Q E hr h=>?_
 .let⟨x,n,ps,I,O,F,inc,ld,fu,z,rfl,⟨dx,w,a,b,l,i,hx,hW,hA,Qx,hl,hi⟩,hG,hF,hz,z0,z1,q⟩:=h;show⟨_,(XQ (Ph (i:=2) Z gF.nd Z Z (sc0:=Zc<|top 69) (N0:=["part","into","leaving"]) (N':=["tie","into","part"]) (o:=1) (fr:=[1,0]) ⟨Z,tH,tH,tH,Z,tH⟩ (p6 K<|Xv (i7 T) hr T.qZh Zr<|XZ (Zk K (pv 0) Z)<|XZ (Zk K (pv 0) Z)<|XZ (pv 1) XX) (Zw tI) (λ_ _ _ _=>(Zb 0)) (λ_ _ _ _=>(NS<|PW.pt<|EU (Zl SQ (pv 0) (pv 1)<|Zx _)<|dQ<|Zl (DF K) (pv 0) (Zk K (pv 2) Z) Z)) λ_ _ _ _=>(pv 0))
   (XI<|Zm<|SI Z (sc0:=Zc<|top 69) (N0:=["part","into","leaving"]) (N':=["out","part","into"]) (o:=1) (fr:=[0,1]) ⟨Z,tH,tH,tH,Z,tH⟩ (ZQ K<|pv 2) (Zw tI) (λ_ _ _ _=>(Zb 0)) (λ_ _ _ _=>ZY) λ_ _ _ _=>(Zq (ZW K) tK T.n_tuple Boot.«tuple»<|XZ (Zf (cH K) tK T.n_sorted Boot.«sorted»<|XZ (Zv (QU K) (Xv (AH T) hr T.qZ5 Zr<|XZ (Zk K (pv 1) Z)<|XZ (pv 0) XX)<|Ui<|XZ (pv 2) XX) XX) XX))),?_⟩
  let big:(30:Int)<10^70:=tI;let g3:=hG.2.2.1
  exists _,Z,x,_,dx,_,.ref w,Z,hx,T.cl_Part,T.n_Part_web,Z,_,Z,x,_,dx,_,.ref l,Z,hx,T.cl_Part,T.n_Part_least,Z,_,Z,?_;exists w,l,n,ps,true,F,z,Z,hW,hG,SqT.of hl,J,J,λ_ _ _ _ ms Tg We rA H1 s1 VU UX=>?_,λ_ h=>absurd h λh=>h.elim hz λh=>h ⟨z0,z1⟩,λh=>absurd hF h;let hm30:ms.f<=40:=by
   rw[Tg.length_eq,XB,Yo]
   have:=Gr n ps F z F
   have:=hF.1.len
   lia
  show⟨rA,Z,{_,SqT.of UX},Jl (K:=K) (a:=rA) (xs:=IL ms) (λj ws H2=>H2=H1/\j<=ms.f/\ws=IL ((ms.X j).filter λt=>decide<|t≠z/\t∉I)) {Z,Yk _,Z} (Zi<|by rw[Xw];lia)
   (λj ws H2 hj h=>by let(e,Qf,ew):=h;show{e▸SqT.of UX,by rw[ew,Xw];show YE (YT ..)<|by rw[YB];lia}) ?_ ?_⟩
  .rintro j v ws H2 hj ⟨rfl,Qh,rfl⟩ AP Xj;let(y,rfl,hy):=WQ hj;let WG:j<ms.f:=(Xy.E hy).1
   show nm ?_;exists _,Z,_,Z,Z,_,Z,?_;rw[Zz];show WI (λhe=>?_) (λhe=>?_)
   .show Xj _ _ {Z,WG,?_};rw[IV hy,if_neg (by simp[he]),Yy]
   exists _,Z,_,Z,x,_,dx,_,.ref a,Z,s1 _ _ hx,T.cl_Part,T.n_Part_kept,Z,a,_,Z,.inr<|SqK.Y (k:=true) s1 hA,Z,Ji _,_,Z,?_;rw[Jj];show WI (λhc=>?_) (λhc=>?_)
   .show Xj _ _ {Z,WG,?_};rw[IV hy,if_neg (by simp[hc]),Yy]
   .exists _,Z,Xj _ _ {Z,WG,?_};rw[IV hy,if_pos<|YK ⟨he,hc⟩,ZN]
  rintro ws H2 ⟨rfl,_,rfl⟩ lA HN;rw[Xw,YI,gG hF hz Tg We];let u1:=XJ (o:=.lst<|IL<|Vo n ps I F z) HN
  let kL:(upd H2 lA<|.lst<|IL<|Vo n ps I F z) lA=some (.lst<|IL<|Vo n ps I F z):=XS;show nm ?_;dsimp only[List.set];let s2:=s1.l u1
  change ES _ _ _ (upd H2 lA<|.lst<|IL<|Vo n ps I F z);generalize upd H2 lA (.lst<|IL<|Vo n ps I F z)=H3 at *;let lvl:(Vo n ps I F z).f<=30:=YE (YT ..) (by have:=Gr n ps F z F;have:=hF.1.len;lia)
  let gD:F.f<=30:=by have:=hF.1.len;lia
  show⟨_,Z,lA,Z,{_,SqL.of kL},NP (K:=K) (a:=lA) (xs:=IL<|Vo n ps I F z) (λj ys H4=>Same H3 H4/\j<=(Vo n ps I F z).f/\Bears (Vd H4) ys (((Vo n ps I F z).X j).C λo=>xchT F o z)) {Same.refl _,Yk _,{Z,λi l e=>by simp at e}} (Zi<|by rw[Xw];lia)
   (λj ys H4 hj h=>by let(e,Qf,ey):=h;show{SqL.of<|e _ _ kL,by rw[ey.1,Xz,YB];lia}) ?_ ?_⟩
  .rintro j v ys H4 hj ⟨s4,Qh,hY⟩ AP Xj;let(o,rfl,ho):=WQ hj;let WG:j<(Vo n ps I F z).f:=(Xy.E ho).1
   let KC:=s2.l s4;show nm ?_;exists _,Z,x,_,dx,_,.ref l,Z,KC _ _ hx,T.cl_Part,T.n_Part_least,Z,_,Z,l,true,F,o,Z,SqT.of<|KC _ _ hl,J,λr1 H5 s5 hr10 Wj=>?_;let wl:=Dy F o
   exists _,Z,(by change 1<=sizeLine;decide),λp2 Vu=>?_;let s6:=XJ (o:=.tup<|IL [z]) Vu
   show Oy (l:=wo F o) (m:=[z]) (SqT.of<|s6 _ _ Wj) (SqT.of XS) (by rw[Yo];lia) λr3 H7 s7 Rx=>?_;show{r3,wo F o++[z],Z,Rx,by rw[XB,Yo];lia,λns g8 LF p4 FW=>?_};let en:ns=xchT F o z:=wW (g8.l (Bk F o z).U) LF (Mj F o z)
   subst en;let s8:=XJ (o:=.lst<|IL<|xchT F o z) FW
   exists p4,_,Z,.inl {SqL.of XS,λp5 vy=>?_};let s9:=XJ (o:=.tup<|IL<|xchT F o z) vy
   let sA:=(s5.l s6).l (s7.l<|s8.l s9);show Xj _ _ {s4.l sA,WG,?_};rw[YS,ho,Yp];show(hY.imp λ_ _ h=>by let(q,e,hq):=h;exists q,e,sA _ _ hq).snoc ⟨p5,Z,XS⟩
  .rintro ys H4 ⟨s4,_,hY⟩ d hd;rw[Xw,YI]at hY;let s5:=XJ (o:=.lst ys) hd
   show q d ys _ (s2.l<|s4.l s5) ((s2.l s4).free hd) XS (hY.imp λ_ _ h=>by let(q,e,hq):=h;exists q,e,s5 _ _ hq)
def ZR5{α:Type}{R:V->α->Prop}{xs ys:List V}{l m:List α}(h1:Bears R xs l)(h2:Bears R ys m):Bears R (xs++ys) (l++m):=by
 show{by rw[XB,XB,h1.1,h2.1],λi a e=>?_};cases c:i<l.f
 .rw[Yn c]at e;let(v,hv,r):=h1.2 i a e;exists v,by rw[Yn (by rwa[h1.1])];show hv,r
 .rw[Ym J]at e;let(v,hv,r):=h2.2 _ a e;exists v,by rw[Ym (by rw[h1.1];lia),h1.1];show hv,r
def ZQ5{α:Type}{R:V->α->Prop}{xs:List V}{l:List α}(h:Bears R xs l):Bears R xs.reverse l.reverse:=by
 show{by rw[YX,YX,h.1],λi a e=>?_};let hi:i<l.f:=by have:=(Xy.E e).1;rwa[YX]at this
 rw[FC hi]at e;let(v,hv,r):=h.2 _ a e;exists v,by rw[FC (by rwa[h.1]),h.1];show hv,r
inductive spZO(K:Ad)(CP C:Addr)(vs:List V)(H:Hp)(Q:VK)(_:XK):Prop
 |mk (x n ps I O F inc ld fu:_) (_:vs=[.ref x]) (_:PartAt K CP C H x n ps I O F inc ld fu) (_:Zt n ps) (_:Zn n ps F) (_:inc.f<=30) (_:(∀z∈inc,z∉F/\0<=z/\z<ps⁻¹)) (_:∀r xs H',Same H H'->H r=none->H' r=some (.lst xs)->Bears (Vd H') xs (vU n ps I F inc)->Q ↑r H')
def gC(T:Txt K mg t):Xg P w base Xo T.qZO 10 (spZO K t.A_Part t.A_Web):=by
 show T.qZO.okI ["part","row","ascending","into","trees"] tH λXD A outer s H vs Q E hr h=>?_
 .let⟨x,n,ps,I,O,F,inc,ld,fu,rfl,Kw,hG,hF,VW,Ta,q⟩:=h;show⟨_,(XQ (Ze 1<|Uz<|XZ (Zk K (pv 0) Z) XX)
   (XQ (Ze 2<|Rg UL (Zv SR (Zf (Zh K) tK T.n_len Boot.«len»<|XZ (Zk K (pv 0) Z) XX) Zd) Zd<|Zx _)
   (XQ (WS YR Z (ZQ K<|Zk K (pv 0) Z) (Zb 3)
   (XQ (Ze 4<|Xv (gE T) hr T.qZN Zr<|XZ (pv 0)<|XZ (pv 3) XX)
   (XQ (ZS<|Sk K YU eT eV dj (pv 1)<|XZ (sQ (LK<|pv 2) (pv 4)<|cQ K Z Z T.n_list Z T.n_reversed<|XZ (pv 4) XX) XX)
   (XI<|Ze 2<|sR<|pv 2))))
   (XI<|Zm<|pv 1)))),?_⟩
  let(dx,w,a,b,l,i,hx,hW,hA,Qx,hl,hi):=id Kw;exists _,Z,x,_,dx,_,.ref l,Z,hx,T.cl_Part,T.n_Part_least,Z,(by change 1<=sizeLine;decide),λr hr=>?_;let s1:=XJ (o:=.lst [.ref l]) hr
  show nm ?_;exists _,Z,x,_,dx,_,.ref i,Z,s1 _ _ hx,T.cl_Part,T.n_Part_incoming,Z,i,_,Z,.inl<|SqL.of<|s1 _ _ hi,_,_,Z,Z,(by change(0:Int)<2;decide),Z,?_;show nm ?_;let ea:decide (V.int ((IL inc).f%2:Int)=V.int 1)=(inc.f%2 == 1):=by rw[Zz,Xw,NX,Qs,Rn];lia
  change Wo _ _ _ [some ↑x,some<|.ref r,some<|.bl<|decide<|V.int ((IL inc).f%2:Int)=V.int 1,none,none] (upd H r<|.lst [.ref l]);rw[ea];generalize Sd:(inc.f%2 == 1)=asc at *;let kr:(upd H r<|.lst [.ref l]) r=some (.lst [.ref l]):=XS
  generalize upd H r (.lst [.ref l])=H1 at *;let Gm:=s1 _ _ hi
  let fresh:∀b o,H b=some o->b≠r:=λb o e=>Za e hr;show⟨_,rfl,x,_,dx,_,.ref i,rfl,s1 _ _ hx,T.cl_Part,T.n_Part_incoming,rfl,i,rfl,{_,SqL.of Gm},GH (K:=K) (a:=i) (xs:=IL inc) (λj σ H2=>∃xs v3 v4,σ=[some ↑x,some<|.ref r,some<|.bl<|asc != (j%2 == 1),v3,v4]/\Same H H2/\H2 r=some (.lst xs)/\Bears (Vd H2) xs (F::Sx n ps I F (inc.X j) asc)) ⟨[.ref l],none,none,by cases asc<;>rfl,s1,kr,⟨rfl,λj m e=>by
   match j,e with
   |0,e=>show{_,Z,l,Z,by rw[<-Yc e];show s1 _ _ hl}⟩⟩ (λj σ H2 _ h=>by let(_,_,_,_,e,_):=h;show SqL.of<|e _ _ hi) ?_ ?_⟩
  rotate_left
  .rintro σ H2 ⟨xs,v3,v4,rfl,s2,UT,hX⟩;rw[Xw,YI]at hX;show UH ?_;exists _,Z,?_;rw[<-Sd]at hX;show q r xs H2 s2 hr UT hX
  rintro j v σ H2 hj ⟨xs,v3,v4,rfl,s2,UT,hX⟩;let(z,rfl,hz):=WQ hj;let(zF,z0,z1):=Ta z (Xr hz);let To:j<inc.f:=(Xy.E hz).1
  show nm ?_;dsimp only[List.set];exists _,Z,_,Z,x,n,ps,I,O,F,inc,ld,fu,z,Z,{dx,w,a,b,l,i,s2 _ _ hx,hW.Y s2,SqK.Y (k:=true) s2 hA,SqK.Y (k:=true) s2 Qx,s2 _ _ hl,s2 _ _ hi},hG,hF,zF,z0,z1,λtA ys H3 s3 ht0 Rv hY=>?_;show nm ?_;dsimp only[List.set];let Rx:=s3 _ _ UT
  let zf:F.f<=30:=by have:=hF.1.len;have:=hG.2.2.1;lia
  let xl:xs.f<=1000:=by
   rw[hX.1,Yv];let h1:=Zs9 n ps I F (inc.X j) asc
   let h2:(inc.X j).f*F.f<=30*30:=Kg (by rw[YB];lia) zf;lia
  let yl:ys.f<=30:=by rw[hY.1,Xz];show YE (YT ..) (YE (Gr n ps F z F) zf)
  let gB:Sx n ps I F (inc.X<|j+1) asc=Sx n ps I F (inc.X j) asc++Sy n ps I F (asc != (j%2 == 1)) z:=by
   let e:inc.X (j+1)=inc.X j++[z]:=by rw[YS,hz];rfl
   let el:(inc.X j).f=j:=by rw[YB];lia
   rw[e,Zj6,el]
  let flip:(!(asc != (j%2 == 1)))=(asc != ((j+1)%2 == 1)):=by rcases(by lia:j%2=0/\(j+1)%2=1\/j%2=1/\(j+1)%2=0) with ⟨a,b⟩|⟨a,b⟩<;>rw[a,b]<;>cases asc<;>rfl
  let fin:∀zs H4,Same H3 H4->zs.f=ys.f->Bears (Vd H4) zs (Sy n ps I F (asc != (j%2 == 1)) z)->Same H (upd H4 r<|.lst<|xs++zs)/\Bears (Vd<|upd H4 r<|.lst<|xs++zs) (xs++zs) (F::Sx n ps I F (inc.X<|j+1) asc):=λzs H4 s4 IS hZ=>by
   let Oq:=s4 _ _ Rx;exists Zu hr<|(s2.l s3).l s4,?_;rw[gB];let hX4:Bears (Vd H4) xs (F::Sx n ps I F (inc.X j) asc):=hX.imp λ_ _ h=>by let(c,e,hc):=h;exists c,e,(s3.l s4) _ _ hc
   show(ZR5 hX4 hZ).imp λ_ _ h=>by let(c,e,hc):=h;exists c,e,by rwa[XR (NV hc Oq tG)]
  exists _,Z,.inl {Z,_,SqL.of Rx},?_;cases hb:(asc != (j%2 == 1)) with
  |true=>
   rw[hb]at fin flip;exists _,Z,_,Z,?_;show UK ?_;exists _,Z,?_;let(f1,f2):=fin ys H3 (Same.refl _) Z hY;exists r,tA,xs,ys,Z,Z,Rx,Rv,Jp J,?_;exists _,Z,_,Z,?_;exists xs++ys,_,_,by rw[<-flip];rfl,f1,XS,f2
  |false=>
   rw[hb]at fin flip;exists _,Z,_,Z,?_;show Ts ?_;exists _,Z,tA,ys,Z,SqL.of Rv,λd hd=>?_;let s4:=XJ (o:=.lst ys.reverse) hd
   let(f1,f2):=fin ys.reverse _ s4 (YX) (ZQ5<|hY.imp λ_ _ h=>by let(c,e,hc):=h;exists c,e,s4 _ _ hc);exists r,d,xs,ys.reverse,Z,Z,s4 _ _ Rx,XS,Jp (by rw[YX];lia),?_;exists _,Z,_,Z,?_;exists xs++ys.reverse,_,_,by rw[<-flip];rfl,f1,XS,f2
inductive spZP(K:Ad)(CP C Pt:Addr)(d:Nat)(vs:List V)(H:Hp)(Q:VK)(_:XK):Prop
 |mk (x n ps I O F inc ld fu R size start stop:_) (_:vs=[.ref x,.int size,.int start,.int stop]) (_:PartAt K CP C H x n ps I O F inc ld fu) (_:PartOk n ps I O ld F inc fu) (_:Zt n ps) (_:WK H Pt) (_:RowR n ps d I O ld R) (_:size=R.f) (_:0<=start) (_:stop<=size) (_:stop-start<=100000) (_:∀r xs H',SameX Pt H H'->WK H' Pt->H r=none->H' r=some (.lst xs)->Bears (Vd H') xs ((R.drop start.j).X (stop-start).j)->Q ↑r H')
def ze(xs:List V){a b:Nat}(h2:b<=xs.f):Ws xs (some (a:Int)) (some (b:Int))=(xs.drop a).X (b-a):=by
 let e1:HT.SM xs.f 0 (some (a:Int))=min a xs.f:=rfl;let e2:HT.SM xs.f xs.f (some (b:Int))=min b xs.f:=rfl
 unfold Ws;rw[e1,e2,Fo h2];rcases Nat.le_total a xs.f with c|c
 .rw[Fo c]
 .rw[uo c,uK<|Ya _,uK c,JV,JV]
def Zl9{α:Type}{R:V->α->Prop}{xs:List V}{l:List α}(h:Bears R xs l)(a b:Nat):Bears R ((xs.drop a).X b) ((l.drop a).X b):=by
 show{by rw[YB,YB,Qq,Qq,h.1],λi x e=>?_};rw[Fw]at e;cases c:i<b
 .rw[if_pos c,Fv]at e;let(v,hv,r):=h.2 _ x e;exists v,by rw[Fw,if_pos c,Fv];show hv,r
 .rw[if_neg c]at e;cases e
def gz{α:Type}(A B:List α){a b:Nat}(h:b<=A.f):((A++B).drop a).X (b-a)=(A.drop a).X (b-a):=by
 rcases Nat.le_total a A.f with c|c
 .rw[Ke c,Kf (by rw[Qq];show Nat.sub_le_sub_right h a)]
 .rw[Nat.sub_eq_zero_of_le (YE h c),xU,xU]
def ZN7{α:Type}(B:List α){i k:Nat}(h:i+k<=B.f):((B.reverse).drop i).X k=((B.drop (B.f-i-k)).X k).reverse:=by rw[List.drop_reverse,List.take_reverse,YB,Fo<|Nat.sub_le _ _,List.drop_take,Nat.sub_sub_self (Nat.le_sub_of_add_le' h)]
def zd{α:Type}(A B:List α){a b c:Nat}(hc:(a<=A.f/\c=A.f)\/(A.f<=a/\c=a))(FR:c<=b)(hb:b<=A.f+B.f):((A++B.reverse).drop a).X (b-a)=A.drop a++((B.drop (A.f+B.f-b)).X (b-c)).reverse:=by
 rcases hc with ⟨h,rfl⟩|⟨h,rfl⟩
 .rw[Ke h,List.take_append,Vx (by rw[Qq];show Nat.sub_le_sub_right FR a),Qq,Nat.sub_sub_sub_cancel_right h]
  have:=ZN7 B (i:=0) (k:=b-A.f) tL
  rw[tV]at this;rw[this,show B.f-0-(b-A.f)=A.f+B.f-b by lia]
 .rw[List.drop_append,uK h,Uo,Uo,ZN7 B tL,show B.f-(c-A.f)-(b-c)=A.f+B.f-b by grind]
def gy{x y:Int}:∃m,(if x<y then x else y)=m/\m<=x/\m<=y/\(x<y->m=x)/\(¬x<y->m=y):=by
 cases c:x<y
 .exists x,if_pos c,PH _,GQ c,λ_=>rfl,λh=>absurd c h
 .exists y,if_neg c,GN.E c,PH _,λh=>absurd h c,λ_=>rfl
def ZP3{H H2:Hp}{Pt r:Addr}{pos:Pos}{qual:Str}(t:TabH H2 Pt pos qual)(s:SameX Pt H H2)(h:H2 r=none):H r=none:=by
 cases e:H r with
 |none=>rfl
 |some o=>
  let XM:r≠Pt:=λe'=>by let(p,h1,_):=t;rw[<-e',h]at h1;cases h1
  rw[s _ _ XM e]at h;cases h
def gx{Pt:Addr}(T:Txt K mg t)(hB:Mn K mg base t.dZI Pt)(d:Nat):Xg P w base Xo T.qZP (11+d) (spZP K t.A_Part t.A_Web Pt d):=by
 let key:∀d k sp,Xg P w base Xo T.qZP k sp->k<=10+d->(∀e,d=e+1->sp=spZP K t.A_Part t.A_Web Pt e)->Xg P w base Xo T.qZP (11+d) (spZP K t.A_Part t.A_Web Pt d):=by
  intro d k sp ih hk Ql;rw[show 11+d=10+d+1 by lia];show T.qZP.ok ["part","size","start","stop","first","middle","trees","turned"] tH (λvs H Q E h=>?_) (λXD A outer s H vs Q E hr h=>?_)
  .let⟨x,n,ps,I,O,F,inc,ld,fu,R,size,start,stop,rfl,_⟩:=h;rfl
  .let⟨x,n,ps,I,O,F,inc,ld,fu,R,size,start,stop,rfl,Kw,Qd,hG,hT,hR,hsz,Gw,Jr,Na,q⟩:=h;show⟨_,(XQ (Wk (Zl LG (pv 2) (pv 3)<|Zx _)
   (XI<|Zm<|Uz XX)
   Zp)
   (XQ (Wk (Zl EC (Zk K (pv 0) Z) xF<|Zx _)
   (XI<|Zm<|Rc (QX K) (JC (gC T) (hr.mono S) Z T.qZO.mm T.qZO.fn.kp T.qZO.bi .nil Zr<|XZ (pv 0) XX) (JA<|pv 2)<|JA<|pv 3)
   Zp)
   (XQ (Ze 4<|JC (gK T hB) (hr.mono S) Z T.qZK.mm T.qZK.fn.kp T.qZK.bi .nil Zr<|XZ (pv 0) XX)
   (XQ (Ze 5<|JC (gH T) (hr.mono S) Z T.qZM.mm T.qZM.fn.kp T.qZM.bi .nil Zr<|XZ (pv 4) XX)
   (XQ (Ze 6<|JC ih (hr.mono S) Z T.qZP.mm T.qZP.fn.kp T.qZP.bi .nil Zr<|XZ (pv 4)<|XZ (pv 5)<|XZ (pv 2)<|XZ (Zf (rY Z) tK T.n_min Boot.«min»<|XZ (pv 3)<|XZ (pv 5) XX) XX)
   (XQ (Wk (Zl Pq (pv 3) (pv 5)<|Zx _)
   (XQ (Ze 7<|JC ih (hr.mono S) Z T.qZP.mm T.qZP.fn.kp T.qZP.bi .nil Zr<|XZ (JC (gI T hB) (hr.mono S) Z T.qZL.mm T.qZL.fn.kp T.qZL.bi .nil Zr<|XZ (pv 0) XX)<|XZ (Zv VF (pv 1)<|pv 5)<|XZ (Zv VF (pv 1)<|pv 3)<|XZ (Zv VF (pv 1)<|Zf (dG Z) tK T.n_max Boot.«max»<|XZ (pv 2)<|XZ (pv 5) XX) XX)
   (XI<|ZS<|Sk K YU eT eV dj (pv 6)<|XZ (cQ K Z Z T.n_list Z T.n_reversed<|XZ (pv 7) XX) XX))
   Zp)
   (XI<|Zm<|pv 6))))))),?_⟩
   let(dx,w0,a,b,l,i,hx,hW,hA,Qx,hl,hi):=id Kw;exists _,Z,_,Z,_,_,Z,Z,_,Z,?_;show WA (λOI=>?_) (λXp=>?_)
   .exists Yk _,λr hr=>?_;let s1:=XJ (o:=.lst []) hr
    show q r [] _ (SameX.Y s1) (hT.Y s1) hr XS ?_;rw[show(stop-start).j=0 by lia,xU];exists Z,λi l e=>by simp at e
   show UH ?_;let(a0,rfl):=uP Gw;let(b0,rfl):=uP (show 0<=stop by lia);let VJ:a0<=b0:=J
   let gu:b0<=R.f:=by rw[hsz]at Jr;show Int.ofNat_le.E Jr
   let e0:((b0:Int)-(a0:Int)).j=b0-a0:=Int.toNat_sub _ _;rw[Yf,e0]at q;subst hsz;exists _,Z,x,_,dx,_,Xa fu,Z,hx,T.cl_Part,T.n_Part_further,Z,Z,_,Z,?_;cases hR with
   |und Sa VW hiz=>
    let(rfl,rfl,rfl):=Qd.uniq Sa;show UK ?_;exists _,Z,x,n,ps,I,O,F,inc,ld,none,Z,Kw,hG,Qd.tr.1,VW,hiz,λr xs H1 s1 VU Wj hX=>?_;let Sw:=hX.1
    exists _,Z,_,Z,_,Z,_,Z,r,xs,Z,SqL.of Wj,λq1 hq1=>?_;rw[ze xs (by rwa[Sw])];let s2:=XJ (o:=.lst<|(xs.drop a0).X (b0-a0)) hq1
    let Wy:=s1.l s2;show q q1 _ _ (SameX.Y Wy) (hT.Y Wy) (s1.free hq1) XS ?_;show(Zl9 hX _ _).imp λ_ _ h=>by let(c,e,hc):=h;exists c,e,s2 _ _ hc
   |div Sa hIn WX TY Nz gr gq y0 y1 hpc hRA hRB=>
    rename_i e F' VY z y A' B;let(rfl,rfl,rfl):=Qd.uniq Sa;let esp:=Ql e rfl
    subst esp;show Ts ?_;show UH ?_;let Vq:=YM.E hIn
    let za:I.Nodup:=Vq.1;let y9:∀v∈I,0<=v/\v<ps⁻¹:=λv hv=>WX v (Yj _ hv)
    let y8:∀v∈I,v∉O++[z]:=λv hv h=>(Xx.E h).elim (TY v<|Yj _ hv) λh=>Vq.2.2 v hv z tG (XF.E h);let Ox:O.f<=30:=by rw[XB,Yo]at Nz;lia
    rw[XB,YX]at gu;let Qz:(((A'++B.reverse).f:Nat):Int)=A'⁻¹+B.f:=by rw[XB,YX,t8]
    let(m,em,m1,m2,m3,m4):=gy (x:=A'⁻¹) (y:=(b0:Int));exists _,Z,x,n,ps,I,O,F,inc,z,y,Z,Kw,hG,hT,za,y9,y8,Nz,gq,y0,y1,λx1 F1 Mh vR H1 IF Ln FP Qw=>?_;show nm ?_;exists _,Z,x1,n,ps,I,O++[z],F1,Mh,some y,vR,Z,Ln,hG,za,y9,Nz,y8,λc H2 hc s2=>?_;let ec:=hc.uniq hpc
    subst ec;show nm ?_;let y7:SameX Pt H H2:=FP.l (SameX.Y s2)
    let Wl:=Qw.Y s2;exists _,Z,_,Z,_,Z,_,Z,_,Z,_,_,Z,?_;exists x1,n,ps,I,O++[z],F1,Mh,some y,vR,A',_,_,_,Z,Ln.samex Qw<|SameX.Y s2,IF,hG,Wl,hRA,Z,Gw,(by rwa[em]),(by rw[em];show GR (Int.sub_le_sub_right m2 _) Na),λr xs H3 gn UB VU Rx hX=>?_;show nm ?_;let Hn:=y7.l gn
    let gm:H r=none:=ZP3 Wl y7 VU;rw[Yf,em]at hX;exists _,Z,_,Z,_,_,Z,Z,_,Z,?_;show WA (λhgt=>?_) λhle=>?_;rotate_left
    .change(_:Prop);show UH ?_;exists _,Z,?_;let gk:¬A'⁻¹<(b0:Int):=hle
     rw[m4 gk,e0]at hX;rw[gz A' B.reverse J]at q;show q r xs H3 Hn UB gm Rx hX
    let y6:A'⁻¹<(b0:Int):=hgt;rw[m3 y6,Int.toNat_sub,Vx (by rw[Qq];show Ya _)]at hX;clear m1 m2 m3 m4 em m;exists _,Z,x,n,ps,I,O,F,inc,z,y,Z,Kw.samex hT Hn,hG,UB,hIn,WX,TY,Ox,gr,y0,y1,λx2 F2 Ig jG H4 Ie SG Oj Oe=>?_;exists _,Z,_,Z,_,_,Z,Z,_,Z,_,Z,_,_,Z,Z,_,Z,_,Z,_,Z,_,_,Z,_,_,Z,Z,?_;obtain⟨c0,ec,Ah,FR⟩:∃c0:Nat,(if A'⁻¹>(a0:Int) then A'⁻¹ else (a0:Int))=(c0:Int)/\((a0<=A'.f/\c0=A'.f)\/(A'.f<=a0/\c0=a0))/\c0<=b0:=by
     cases c:A'⁻¹>(a0:Int)
     .exists A'.f,if_pos c,.inl {Nl<|Int.ofNat_lt.E c,Z},Nl<|Int.ofNat_lt.E y6
     .exists a0,if_neg c,.inr {Int.ofNat_le.E<|GN.E c,Z},VJ
    rw[zd A' B Ah FR gu]at q;let hAc:A'.f<=c0:=by rcases Ah with h|h<;>lia
    let hac:a0<=c0:=by rcases Ah with h|h<;>lia
    clear Ah;exists x2,n,ps,I++[z],O,F2,Ig,some y,jG,B,_,_,_,Z,SG,Ie,hG,Oe,hRB,(by rw[Qz];lia),(by rw[Qz];lia),(by rw[ec,Qz];lia),(by rw[ec,Qz];lia),λr2 ys H5 zv gj hr20 vg hY=>?_;show nm ?_;let Oq:=Oj _ _ (UB.ne Rx tG) Rx
    let yZ:=zv _ _ (Oe.ne Oq tG) Oq;let gh:=(Hn.l Oj).l zv
    let e2:(A'⁻¹+B.f-(b0:Int)).j=A'.f+B.f-b0:=tL;let e3:(A'⁻¹+B.f-(c0:Int)-(A'⁻¹+B.f-(b0:Int))).j=b0-c0:=tL
    rw[ec,Qz,e2,e3]at hY;let Sw:xs.f<=100000:=by rw[hX.1,Qq];lia
    let Qa:ys.f<=100000:=by rw[hY.1,YB];omega
    exists _,Z,.inl {Z,_,SqL.of yZ},_,Z,r2,ys,Z,SqL.of vg,λdA hd=>?_;let s6:=XJ (o:=.lst ys.reverse) hd
    let Me:=s6 _ _ yZ;let z1:1000000<=sizeLine:=tI
    exists r,dA,xs,ys.reverse,Z,Z,Me,XS,(by rw[YX];lia),?_;exists _,Z,?_;show q r (xs++ys.reverse) _ (λb o hb e=>?_) ((gj.Y s6).put Me) gm XS ?_
    .rw[XR (Za e gm)];show s6 _ _ (gh _ _ hb e)
    .let f1:Bears (Vd<|upd H5 dA<|.lst ys.reverse) xs (A'.drop a0):=hX.imp λ_ _ h=>by
      let(c,e,hc):=h;let hc4:=Oj _ _ (UB.ne hc tG) hc
      exists c,e,s6 _ _<|zv _ _ (Oe.ne hc4 tG) hc4
     let f2:Bears (Vd<|upd H5 dA<|.lst ys.reverse) ys.reverse ((B.drop<|A'.f+B.f-b0).X (b0-c0)).reverse:=ZQ5 (hY.imp λ_ _ h=>by let(c,e,hc):=h;exists c,e,s6 _ _ hc)
     show(ZR5 f1 f2).imp λ_ _ h=>by let(c,e,hc):=h;exists c,e,by rwa[XR (NV hc Me tG)]
 induction d with
 |zero=>show key 0 0 _ jF J λe h=>(by cases h)
 |succ d ih=>show key (d+1) (11+d) _ ih J λe h=>(by cases h;rfl)
inductive spZQ(K:Ad)(CP C Pt:Addr)(vs:List V)(H:Hp)(Q:VK)(_:XK):Prop
 |mk (w:Addr) (n:Int) (ps:Aa) (num most:Int) (R:Ab) (_:vs=[.ref w,.int num,.int most]) (_:WebAt C H w n ps) (_:Zt n ps) (_:WK H Pt) (_:0<=num) (_:num<10^70) (_:0<=most) (_:most<=100000) (_:((∃U,Zn n ps U)->RowW n ps R)) (_:((∀U,¬Zn n ps U)->R=[])) (_:∀(r:Addr)(xs:List V)(H':Hp),SameX Pt H H'->WK H' Pt->H r=none->H' r=some (.lst xs)->Bears (Vd H') xs ((R.drop num.j).X most.j)->Q ↑r H')
def gf{Pt:Addr}(T:Txt K mg t)(hB:Mn K mg base t.dZI Pt):Xg P w base Xo T.qZQ 44 (spZQ K t.A_Part t.A_Web Pt):=by
 show T.qZQ.okI ["web","number","most","size"] tH λXD A outer s H vs Q E hr h=>?_
 .let⟨w,n,ps,num,most,R,rfl,hW,hG,hT,n0,n1,m0,m1,vf,hRn,q⟩:=h;show⟨_,(XQ (ZS<|Xv (gU T) hr T.qZF Zr<|XZ (pv 1) XX)
   (XQ (Ze 3<|Xv (Ol T) hr T.qZC Zr<|XZ (pv 0) XX)
   (XQ (Wk (Zl LG (pv 1) (pv 3)<|Zx _)
   (XI<|Zm<|Uz XX)
   Zp)
   (XI<|Zm<|Xv (gx T hB 31) hr T.qZP Zr<|XZ (Xv (gM T hB) hr T.qZJ Zr<|XZ (pv 0) XX)<|XZ (pv 3)<|XZ (pv 1)<|XZ (Zf (rY Z) tK T.n_min Boot.«min»<|XZ (Zv ZZ (pv 1)<|pv 2)<|XZ (pv 3) XX) XX)))),?_⟩
  let big:(0:Int)<10^70:=tI;exists _,Z,num,Z,J,n1,λ_=>?_,λh=>absurd h J;exists _,Z,w,n,ps,Z,hW,hG,λc H1 hc s1=>?_;show nm ?_;dsimp only[List.set];let Qz:R.f=c:=by
   cases hex:∃U,Zn n ps U
   .let⟨_,_,_,_,_,_,_,_,h⟩:=vf hex;show h.uniq hc
   .let RI:∀U,¬Zn n ps U:=λU hU=>hex ⟨U,hU⟩;rw[hRn RI,(ZU4 hc).H RI];rfl
  exists _,Z,_,Z,_,_,Z,Z,_,Z,?_;show WA (λOI=>?_) (λXp=>?_)
  .exists Yk _,λr hr=>?_;let s2:=XJ (o:=.lst []) hr
   let Wy:=s1.l s2;show q r [] _ (SameX.Y Wy) (hT.Y Wy) (s1.free hr) XS ?_;rw[Kt J,JV];exists Z,λi l e=>by simp at e
  change(_:Prop);show UH ?_;obtain⟨U0,FT⟩:∃U,Zn n ps U:=YC λno=>by
   have:=(ZU4 hc).H λU hU=>no ⟨U,hU⟩
   lia
  let(ld,F,inc,fu,Qd,hn,hs,hRR,_):=vf ⟨U0,FT⟩;let Qw:=hT.Y s1
  exists _,Z,w,n,ps,Z,hW.Y s1,hG,Qw,⟨U0,FT⟩,λx F' VY Ga Gb H2 Sa RQ Lw Kw y7 Wl=>?_;let eF:F'=F:=IZ (Qd.least F' Sa.tr) (Sa.least F Qd.tr)
  subst eF;let el:=jE RQ Lw hn hs
  subst el;exists _,rfl,_,rfl,_,rfl,_,rfl,_,_,rfl,rfl,_,rfl,_,_,rfl,?_;exists x,n,ps,[],[],F',VY,Ga,Gb,R,_,_,_,rfl,Kw,Sa,hG,Wl,hRR,J,n0,(by split<;>lia),(by split<;>lia),λr xs H3 gn UB VU Rx hX=>?_
  let e1:((R.drop num.j).X ((if (c:Int)<num+most then (c:Int) else num+most)-num).j)=(R.drop num.j).X most.j:=by rw[List.take_eq_take_iff,Qq];split<;>lia
  rw[e1]at hX;show q r xs H3 ((SameX.Y s1).l (y7.l gn)) UB (ZP3 Wl ((SameX.Y s1).l y7) VU) Rx hX
inductive spZR(K:Ad)(CP C Pt:Addr)(vs:List V)(H:Hp)(Q:VK)(_:XK):Prop
 |mk (w:Addr) (n:Int) (ps:Aa) (num:Int) (R:Ab) (_:vs=[.ref w,.int num]) (_:WebAt C H w n ps) (_:Zt n ps) (_:WK H Pt) (_:0<=num) (_:num<R.f) (_:RowW n ps R) (_:∀(r:Addr)(T:Ac)(H':Hp),R[num.j]?=some T->SameX Pt H H'->WK H' Pt->H' r=some (.tup<|IL T)->Q ↑r H')
def gd{R:Ab}{j:Nat}{T:Ac}(h:R[j]?=some T):(R.drop j).X 1=[T]:=by let hj:=(Xy.E h);rw[eX hj.1,hj.2];rfl
def gc{Pt:Addr}(T:Txt K mg t)(hB:Mn K mg base t.dZI Pt):Xg P w base Xo T.qZR 45 (spZR K t.A_Part t.A_Web Pt):=by
 show T.qZR.okI ["web","number","trees"] tH λXD A outer s H vs Q E hr h=>?_
 .let⟨w,n,ps,num,R,rfl,hW,hG,hT,n0,n1,hR,q⟩:=h;show⟨_,(XQ (Ze 2<|Xv (gf T hB) hr T.qZQ Zr<|XZ (pv 0)<|XZ (pv 1)<|XZ Zd XX)
   (XQ (Wk (Zl UL (Zf (Zh K) tK T.n_len Boot.«len»<|XZ (pv 2) XX) Zd<|Zx _)
   (XI Vv)
   Zp)
   (XI<|Zm<|ZH (Zj K) (pv 2) Zd λ_ _=>rfl))),?_⟩
  let(ld,F,inc,fu,Qd,_,_,_,hTC):=id hR;let c20:=lU hG hTC
  obtain⟨U,hU⟩:∃U,R[num.j]?=some U:={_,XH J};exists _,Z,_,Z,w,n,ps,num,1,R,Z,hW,hG,hT,n0,J,tI,tI,λ_=>hR,λno=>absurd Qd.tr.1<|no F,λr xs H1 FP Qw VU Wj hX=>?_;show nm ?_;dsimp only[List.set];rw[show(1:Int).j=1 from Z,gd hU]at hX;let(v,hv,c,rfl,hc):=hX.2 0 U rfl;let hl:xs.f=1:=hX.1
  exists _,Z,r,xs,Z,.inl<|SqL.of Wj,Z,_,Z,?_;rw[Zz];show WA (λh0=>J) λ_=>?_;change(_:Prop)
  show UH ?_;exists _,Z,r,xs,0,.ref c,Z,Z,SqL.of Wj,ZM (n:=0) Z hv,q c U H1 hU FP Qw hc
inductive spZS(K:Ad)(C:Addr)(vs:List V)(H:Hp)(Q:VK)(_:XK):Prop
 |mk (w a:Addr) (n:Int) (ps:Aa) (kd:Bool) (ns:Ac) (_:vs=[.ref w,.ref a]) (_:WebAt C H w n ps) (_:Zt n ps) (_:SqK kd K H a (IL ns)) (_:IsSet ps.f ns) (_:Th n ps) (_:∀(c d:Nat)(p q:Int)(r:Addr)(H':Hp),PC n ps ns [] c->TC n ps d->0<d->QK c d p q->Same H H'->H' r=some (.tup [.int p,.int q])->Q ↑r H')
def yY(T:Txt K mg t):Xg P w base Xo T.qZS 7 (spZS K t.A_Web):=by
 show T.qZS.okI ["web","ties"] tH λXD A outer s H vs Q E hr h=>?_
 .let⟨w,a,n,ps,kd,ns,rfl,hW,hG,hA,hI,hJ,q⟩:=h;show⟨_,(XQ (Ze 1<|Xv (AF T) hr T.qZ7 Zr<|XZ (pv 0)<|XZ (pv 1) XX)
   (XQ (ZS<|Xv (jd T) hr T.qZc Zr<|XZ (pv 0) XX)
   (XI<|Zm<|Xv (ie T) hr T.qZz Zr<|XZ (Xv (z7 T) hr T.qZD Zr<|XZ (pv 0)<|XZ (pv 1)<|XZ (Ui XX) XX)<|XZ (Xv (Ol T) hr T.qZC Zr<|XZ (pv 0) XX) XX))),?_⟩
  let(g1,g2,g3,g4):=id hG;exists _,Z,_,Z,w,a,n,ps,kd,ns,Z,hW,hA,hI,λr1 H1 s1 Wj=>?_;let l1:=hI.len
  show nm ?_;dsimp only;exists _,Z,w,n,ps,Z,hW.Y s1,hG,λ_ H2 s2=>?_,λRI=>absurd hJ RI;let Wy:=s1.l s2
  exists _,Z,_,Z,Yk _,λe he=>?_;let s3:=XJ (o:=.tup []) he
  let QA:=Wy.l s3;show{w,r1,e,n,ps,ns,[],Z,hW.Y QA,hG,MM (s2.l s3) Wj,SqT.of XS,(XW.E hI).2.imp λh e=>S,hI.all,by change 0<=_;omega,λz _ h=>(by cases h),λc H4 hc s4=>?_};exists _,Z,w,n,ps,Z,hW.Y<|QA.l s4,hG,λd H5 hd s5=>?_;let vi:=QA.l (s4.l s5)
  let dp:0<d:=by let(U,hU,_):=bX hG (NJ _) hJ;let(L,_,hm,rfl):=hd;show Ro ((hm U).H hU)
  let d20:=lU hG hd;let c20:c<=d:=ID hc hd
  let big:∀k:Nat,k<10^20->(k:Int).natAbs<2^9000:=λk hk=>Yu (by omega:(k:Int).natAbs<10^20) (YE (show 10^20<=2^80 by decide)<|Nk tI tI);exists (c:Int),(d:Int),Z,S,big c S,big d d20,λp q' hl r hr=>?_;show q c d p q' r _ hc hd dp hl (vi.l<|XJ hr) XS
inductive spZT(vs:List V)(H:Hp)(Q:VK)(_:XK):Prop
 |mk (c k:_) (_:vs=[.int c,.int k]) (_:∀r:Int,0<=r->r<2147483587->Q (.int r) H)
def Qu(T:Txt K mg t):Xg P w base Xo T.qZT 1 spZT:=by
 show T.qZT.okI ["cell","k","first","second"] tH λXD A outer s H vs Q E hr h=>?_
 .let⟨c,k,rfl,q⟩:=h;show⟨_,(XQ (Ze 2<|Zv SR (Zv RN (Zv ZZ (Zv ZZ (pv 0)<|Zv RN Zd<|pv 1) Zd) Zd) Zd)
   (XQ (Ze 3<|Zv SR (Zv ZZ (Zv ZZ (Zv RN (pv 2)<|pv 2)<|Zv RN Zd<|pv 1) Zd) Zd)
   (XI<|Zm<|Zv sd (Zv SR (Zv RN (pv 3)<|pv 3) Zd) Zd))),?_⟩
  exists _,Z,_,Z,_,_,Z,Z,.inl ⟨tI,tI⟩,_,_,Z,Z,_,_,Z,Z,_,_,Z,Z,.inr ⟨tI,tI⟩,_,_,Z,Z,(by change(0:Int)<2147483647;decide),?_;let f0:0<=((c+7919*k+1)*48271)%2147483647:=Kj _ tI
  let f1:((c+7919*k+1)*48271)%2147483647<2147483647:=Kr _ tI;exists _,Z,_,Z,_,_,Z,Z,.inl ⟨tL,tL⟩,_,Z,_,_,Z,Z,.inl ⟨tI,tI⟩,_,_,Z,Z,_,_,Z,Z,_,_,Z,Z,(by change(0:Int)<2147483629;decide),?_;generalize ((c+7919*k+1)*48271)%2147483647=u at *;let g0:0<=(u*u+40692*k+3)%2147483629:=Kj _ tI
  let g1:(u*u+40692*k+3)%2147483629<2147483629:=Kr _ tI;exists _,Z,_,Z,_,_,Z,Z,.inl ⟨tL,tL⟩,_,_,Z,Z,(by change(0:Int)<2147483587;decide),_,_,Z,Z,⟨tI,tI⟩,?_;generalize (u*u+40692*k+3)%2147483629=v at *;let h0:0<=(v*v)%2147483587:=Kj _ tI
  let h1:(v*v)%2147483587<2147483587:=Kr _ tI;generalize (v*v)%2147483587=x at *;show q _ J J
def Hm{ss:Ac}(h:∀x∈ss,1<=x/\x<=4):0<=ss.sum/\ss.sum<=4*ss.f:=by
 induction ss with
 |nil=>exists PH _,PH _
 |cons x ss ih=>
  have:=ih λy hy=>h y (Ye _ hy)
  have:=h x Yb
  rw[YV,Yv];omega
inductive spZU(K:Ad)(vs:List V)(H:Hp)(Q:VK)(_:XK):Prop
 |mk (c:Int) (_:vs=[.int c]) (_:∀(r:Addr)(ys:List V)(Bs:Ab)(H':Hp),Same H H'->H' r=some (.lst ys)->Bears (Xd H') ys Bs->3<=Bs.f->Bs.f<=7->(∀l∈Bs,1<=l.f/\l.f<=4)->Bs.D.Perm (Xh Bs.D.f)->Q ↑r H')
def f9:FnScope ["cell","places","sizes","left","bundles","k","bundle","j"] ["cell"] (Zc (top 79)):=RA tH
def f7(T:Txt K mg t):Xg P w base Xo T.qZU 2 (spZU K):=by
 show T.qZU.okI ["cell","places","sizes","left","bundles","k","bundle","j"] tH λXD A outer s H vs Q E hr h=>?_
 .let⟨c,rfl,q⟩:=h;show⟨_,(XQ (Ze 1<|Zv ZZ Zd<|Zv SR (Xv (Qu T) hr T.qZT Zr<|XZ (pv 0)<|XZ Zd XX) Zd)
   (XQ (Ph (i:=2) Z f9.nd Z Z (sc0:=Zc<|top 79) (N0:=["cell","places","sizes","left","bundles","k","bundle","j"]) (N':=["k","cell"]) (o:=1) (fr:=[0]) ⟨Z,tH,tH,tH,Z,tH⟩ (ZJ Z T.n_range<|XZ (pv 1) XX) (Zw tI) (λ_ _ _ _=>(Zb 0)) (λ_ _ _ _=>ZY) λ_ _ _ _=>(Zv ZZ Zd<|Zv SR (Xv (Qu T) hr T.qZT Zr<|XZ (pv 1)<|XZ (Zv ZZ Zd<|pv 0) XX) Zd))
   (XQ (Ze 3<|Zq (c5 Z) tK T.n_list Boot.«list»<|XZ (Zq qq tK T.n_range Boot.«range»<|XZ (Zf (p8 K Z) tK T.n_sum Boot.«sum»<|XZ (pv 2) XX) XX) XX)
   (XQ (Ze 4<|Uz XX)
   (XQ (WS YR Z (ZJ Z T.n_range<|XZ (pv 1) XX) (Zb 5)
   (XQ (Ze 6<|Uz XX)
   (XQ (WS YR Z (ZJ Z T.n_range<|XZ (ZH (Zj K) (pv 2) (pv 5) λ_ _=>rfl) XX) (Zb 7)
   (XI<|ZS<|Sk K YU Nw Nx Ue (pv 6)<|XZ (Sk K YU eE eJ di (pv 3)<|XZ (Zv SR (Xv (Qu T) hr T.qZT Zr<|XZ (pv 0)<|XZ (Zv ZZ (Zv ZZ Zd<|Zv RN Zd<|pv 5)<|pv 7) XX)<|Zf (Zh K) tK T.n_len Boot.«len»<|XZ (pv 3) XX) XX) XX))
   (XI<|ZS<|Sk K YU Nw Nx Ue (pv 4)<|XZ (pv 6) XX))))
   (XI<|Zm<|pv 4)))))),?_⟩
  exists _,Z,c,1,Z,λm m0 m1=>{_,_,Z,Z,(by change(0:Int)<5;decide),_,_,Z,Z,?_};show nm ?_;dsimp only;obtain⟨p,hp⟩:∃p:Nat,3+m%5=(p:Int):={(3+m%5).j,S};let p3:3<=p:=S
  let p7:p<=7:=S;rw[hp];exists _,Z,(p:Int),Z,S,S,DI (lo:=0) (n:=(p:Int).j) (λi zs H2=>H2=H/\∃ss:Ac,zs=IL ss/\ss.f=i/\∀x∈ss,1<=x/\x<=4) {Z,[],Z,Z,λ_ h=>(by cases h)} (Zi S) (λi zs H2 _ zz=>by let(_,ss,e,e2,_):=zz;rw[e,Xw,e2];show Ya _) ?_ ?_
  .rintro i zs H2 hi ⟨rfl,ss,rfl,rfl,h4⟩ AP Xj;show nm ?_;exists _,Z,_,Z,_,_,Z,Z,_,_,Z,λrr r0 r1=>{_,_,Z,Z,(by change(0:Int)<4;decide),_,_,Z,Z,?_};show Xj _ _ {Z,ss++[1+rr%4],(ZN _ _).U,by rw[XB];rfl,λx hx=>?_};rcases Xx.E hx with q|q
   .show h4 x q
   .rw[XF.E q];omega
  rintro zs H2 ⟨rfl,ss,rfl,NM,h4⟩ sA hsA;rw[Yf]at NM;let t1:=XJ (o:=.lst<|IL ss) hsA
  let k1:(upd H2 sA<|.lst<|IL ss) sA=some (.lst<|IL ss):=XS;show nm ?_;dsimp only;change Wo _ _ _ _ (upd H2 sA<|.lst<|IL ss);generalize upd H2 sA (.lst<|IL ss)=H3 at *;let(u0,u1):=Hm h4;obtain⟨M,hM⟩:∃M:Nat,ss.sum=(M:Int):=⟨ss.sum.j,S⟩;exists _,Z,sA,ss,Z,SqL.of k1,ss.sum,Z,λrA UX=>{rA,0,ss.sum,Z,XS,⟨tI,tI,S,S⟩,S,λlA HN=>?_};rw[hM]at HN ⊢;rw[cn];let t2:=XJ (o:=.rng 0 (M:Int)) UX
  let t3:=XJ (o:=.lst<|(Xh M).C V.int) HN;let k3:(upd (upd H3 rA<|.rng 0 (M:Int)) lA<|.lst<|(Xh M).C V.int) lA=some (.lst<|IL<|Xh M):=XS
  let NA:H3 lA=none:=t2.free HN;let s4:=t2.l t3
  show nm ?_;dsimp only;change Wo _ _ _ _ (upd (upd H3 rA<|.rng 0 (M:Int)) lA<|.lst<|(Xh M).C V.int);generalize upd (upd H3 rA<|.rng 0 (M:Int)) lA (.lst<|(Xh M).C V.int)=H4 at *;exists Yk _,λbA FO=>?_;let t5:=XJ (o:=.lst []) FO
  let hb3:H3 bA=none:=s4.free FO;let k5:=t5 _ _ k3
  let kb:(upd H4 bA<|.lst []) bA=some (.lst []):=XS;let nlb:lA≠bA:=Za k3 FO
  let s5:=s4.l t5;show nm ?_;dsimp only;change Wo _ _ _ _ (upd H4 bA<|.lst []);generalize upd H4 bA (.lst [])=H5 at *;exists _,Z,(p:Int),Z,S,S,JK (lo:=0) (n:=(p:Int).j) (λi σ Hx=>∃(v5 v6 v7:Option V)(ys:List V)(Bs:Ab)(rm:Ac),σ=[some (.int c),some<|.int p,some<|.ref sA,some<|.ref lA,some<|.ref bA,v5,v6,v7]/\Same H3 Hx/\Hx lA=some (.lst<|IL rm)/\JagAt H3 bA Hx ys Bs/\V.ref lA∉ys/\Bs.f=i/\(∀l∈Bs,1<=l.f/\l.f<=4)/\(Bs.D++rm).Perm (Xh M)/\rm⁻¹=(ss.drop i).sum) {none,none,none,[],[],Xh M,Z,s5,k5,JagAt.nil kb,(λh=>by cases h),Z,(λl h=>by cases h),List.Perm.refl _,by rw[ZB,tV];show hM.U} ?_ ?_
  .rintro i σ Hx hi ⟨v5,v6,v7,ys,Bs,rm,rfl,sx,kl,hJ,BG,fZ,HE,Wa,yX⟩;rw[Yf]at hi;obtain⟨z,hz⟩:∃z,ss[i]?=some z:={_,XH S};let(z1,z4):=h4 z (Xr hz);let hdr:(ss.drop i).sum=z+(ss.drop<|i+1).sum:=by let(Vf,e):=Xy.E hz;rw[eX Vf,e,YV]
   let dr4:=(Hm (ss:=ss.drop i) λx hx=>h4 x<|List.mem_of_mem_drop hx).2;rw[Qq]at dr4;let rest0:=(Hm (ss:=ss.drop<|i+1) λx hx=>h4 x<|List.mem_of_mem_drop hx).1
   show nm ?_;dsimp only;exists Yk _,λcA Oo=>?_;let w1:=XJ (o:=.lst []) Oo
   let hc3:H3 cA=none:=sx.free Oo;let fY:cA≠lA:=λe=>by rw[e,kl]at Oo;cases Oo
   let ncb:cA≠bA:=λe=>by rw[e,hJ.tab]at Oo;cases Oo
   let ncy:=hJ.fresh Oo;let kl1:=w1 _ _ kl
   let PY:=hJ.Y w1;let FP:=sx.l w1
   let kc1:(upd Hx cA<|.lst []) cA=some (.lst<|IL []):=XS;show nm ?_;dsimp only;change Wo _ _ _ _ (upd Hx cA<|.lst []);generalize upd Hx cA (.lst [])=Hc at *;let ks:=FP _ _ k1
   exists _,Z,_,Z,sA,_,_,.int z,Z,Z,SqL.of ks,ZM (n:=i) S<|Ud hz,z,Z,S,S,JK (lo:=0) (n:=z.j) (λj σ Hy=>∃(v7:Option V)(bd RZ:Ac),σ=[some (.int c),some<|.int p,some<|.ref sA,some<|.ref lA,some<|.ref bA,some<|.int<|0+(i:Int),some<|.ref cA,v7]/\Same H3 Hy/\Hy lA=some (.lst<|IL RZ)/\Hy cA=some (.lst<|IL bd)/\JagAt H3 bA Hy ys Bs/\bd.f=j/\(Bs.D++bd++RZ).Perm (Xh M)/\RZ⁻¹=(ss.drop i).sum-j) {v7,[],rm,Z,FP,kl1,kc1,PY,Z,by rw[Yy];show Wa,by rw[yX];omega} ?_ ?_
   .rintro j σ Hy hj ⟨v7,bd,RZ,rfl,sy,yW,ve,FN,hbl,fX,hry⟩;let yV:(0:Int)<((IL RZ).f:Int):=by rw[Xw];omega
    show nm ?_;dsimp only;exists _,Z,.inl {Z,_,SqL.of ve},_,Z,.inl {Z,_,SqL.of yW},_,Z,_,Z,_,_,Z,Z,.inl ⟨tI,tI⟩,_,_,Z,Z,_,Z,_,_,Z,Z,_,_,Z,λmm mm0 mm1=>{_,Z,lA,_,Z,.inl<|SqL.of yW,_,_,Z,Z,yV,?_};let a0:=Kj mm (show((IL RZ).f:Int)≠0 by omega)
    let a1:=Kr mm yV;obtain⟨at_,hat⟩:∃at_,mm%((IL RZ).f:Int)=at_:={_,Z};rw[hat]at a0 a1;obtain⟨y,hy⟩:∃y,RZ[at_.j]?=some y:={_,XH<|by rw[Xw]at a1;omega};show{lA,IL RZ,at_,at_.j,.int y,Z,by rw[<-hat],yW,S,by rw[Xw]at a1;omega,Si a0 a1,Ud hy,?_};rw[cN];let kc2:(upd Hy lA<|.lst<|IL<|RZ.eraseIdx at_.j) cA=some (.lst<|IL bd):=by rwa[XR fY]
    exists cA,_,_,Z,Z,kc2,?_,?_
    .rw[Xw];show Zi S
    let hle:(RZ.eraseIdx at_.j).f+1=RZ.f:=by
     have:=(Cn hy).length_eq
     rwa[Yv]at this
    exists _,bd++[y],RZ.eraseIdx at_.j,Z,Zu hc3<|Zu NA sy,?_,?_,(FN.off nlb BG).off ncb ncy,by rw[XB,hbl];rfl,?_,S
    .rw[XR (YY fY)];show XS
    .rw[XS];show XG some (XG HO.lst (ZN ..).U)
    .show List.Perm.l ?_ fX;rw[YG,YG,YG];show uJ _ (uJ _ ?_);show Cn hy
   .rintro σ Hy ⟨v7,bd,RZ,rfl,sy,yW,ve,FN,hbl,fX,hry⟩;exists _,Z,.inl {Z,_,SqL.of FN.tab},_,Z,bA,_,_,Z,Z,FN.tab,?_,?_
    .rw[FN.rows.1];show Zi S
    exists _,_,_,ys++[.ref cA],Bs++[bd],RZ,Z,Zu hb3 sy,by rw[XR nlb];show yW,FN.snoc ve hc3 ncb ncy,λh=>?_,by rw[XB,fZ];rfl,λl hl=>?_,?_,S
    .rcases Xx.E h with e|e
     .show BG e
     .have:lA=cA:=by simpa using e
      show fY this.U
    .rcases Xx.E hl with e|e
     .show HE l e
     .rw[XF.E e];omega
    .rw[PV,Fd];show fX
  .rintro σ Hx ⟨v5,v6,v7,ys,Bs,rm,rfl,sx,kl,hJ,BG,fZ,HE,Wa,yX⟩;rw[Yf]at fZ yX;let rm0:rm=[]:=by rw[Kt S]at yX;show Vy.E (by have:rm⁻¹=0:=yX;omega)
   subst rm0;rw[Yy]at Wa;let OZ:Bs.D.f=M:=by rw[Wa.length_eq,ZB]
   exists _,Z,q bA ys Bs _ (t1.l sx) hJ.tab hJ.lists S S HE<|by rwa[OZ]
inductive spZV(K:Ad)(vs:List V)(H:Hp)(Q:VK)(_:XK):Prop
 |mk (b:Addr) (xs:List V) (Bs:Ab) (_:vs=[.ref b]) (_:SqL K H b xs) (_:Bears (Xd H) xs Bs) (_:1<=Bs.f) (_:Bs.f<=7) (_:(∀l∈Bs,1<=l.f/\l.f<=4)) (_:Q (.int<|NF (UQ Bs)<|Bs.f-1) H)
def fW(T:Txt K mg t):Xg P w base Xo T.qZV 1 (spZV K):=by
 show T.qZV.okI ["bundles","told","k","ways","j"] tH λXD A outer s H vs Q E hr h=>?_
 .let⟨b,xs,Bs,rfl,hS,hB,l1,l7,h4,q⟩:=h;show⟨_,(XQ (Ze 1 Zd)
   (XQ (WS YR Z (ZJ Z T.n_range<|XZ (Zf (Zh K) tK T.n_len Boot.«len»<|XZ (pv 0) XX) XX) (Zb 2)
   (XQ (Ze 3 Zd)
   (XQ (WS YR Z (ZJ Z T.n_range<|XZ (Zf (Zh K) tK T.n_len Boot.«len»<|XZ (pv 0) XX) XX) (Zb 4)
   (XI (Wk (Zl SQ (pv 4) (pv 2)<|Zx _)
   (XI<|Ze 3<|Zv RN (pv 3)<|Zf (Zh K) tK T.n_len Boot.«len»<|XZ (ZH (Zj K) (pv 0) (pv 4) λ_ _=>rfl) XX)
   Zp)))
   (XI<|Ze 1<|Zv ZZ (pv 1)<|pv 3))))
   (XI<|Zm<|pv 1))),?_⟩
  let Sw:=hB.1;show Cb ?_;exists _,Z,b,xs,Z,.inl hS,_,Z,S,S,JK (lo:=0) (n:=(xs.f:Int).j) (λk σ H1=>∃v2 v3 v4:Option V,H1=H/\σ=[some ↑b,some<|.int<|sm k λi=>US (UQ Bs) i Bs.f,v2,v3,v4]) ⟨none,none,none,Z,Z⟩ ?_ ?_
  .rintro k σ H1 hk ⟨v2,v3,v4,rfl,rfl⟩;rw[Yf]at hk;show nm ?_;dsimp only;show Cb ?_;exists _,Z,b,xs,Z,.inl hS,_,Z,S,S,JK (lo:=0) (n:=(xs.f:Int).j) (λj σ H2=>∃v4:Option V,H2=H1/\σ=[some ↑b,some<|.int<|sm k λi=>US (UQ Bs) i Bs.f,some<|.int<|0+(k:Int),some<|.int<|US (UQ Bs) k j,v4]) ⟨v4,Z,Z⟩ ?_ ?_
   .rintro j σ H2 hj ⟨v4,rfl,rfl⟩;rw[Yf]at hj;obtain⟨l,hl⟩:∃l,Bs[j]?=some l:={_,XH S};let(v,hv,a',rfl,QW):=hB.2 j l hl;let l4:=h4 l (Xr hl)
    let es:UQ Bs j=l⁻¹:=by unfold UQ;rw[Xl,hl];rfl
    show nm ?_;dsimp only;exists _,Z,_,Z,Z,_,Z,?_;rw[Zz];show WI (λe=>?_) (λe=>?_)
    .exists some<|.int<|0+(j:Int),Z,?_;change _=[_,_,_,some<|V.int<|if j=k then US (UQ Bs) k j else US (UQ Bs) k j*UQ Bs j,_]
     rw[if_pos S];rfl
    .exists _,Z,_,Z,_,Z,b,_,_,.ref a',Z,Z,hS,ZM (n:=j) S hv,a',_,Z,.inl<|SqL.of QW,_,_,Z,Z,.inr {by rw[Xw];omega,by rw[Xw];omega},?_;exists some<|.int<|0+(j:Int),Z,?_;change _=[_,_,_,some<|V.int<|if j=k then US (UQ Bs) k j else US (UQ Bs) k j*UQ Bs j,_]
     rw[if_neg S,es,Xw];rfl
   .rintro σ H2 ⟨v4,rfl,rfl⟩;exists _,Z,_,Z,_,_,Z,Z,?_;exists some<|.int<|0+(k:Int),some<|.int<|US (UQ Bs) k (xs.f:Int).j,v4,Z,?_;rw[Yf,Sw];rfl
  .rintro σ H1 ⟨v2,v3,v4,rfl,rfl⟩;rw[Yf,Sw];exists _,Z,?_;let e:=BR (UQ Bs) (Bs.f-1)
   rw[show Bs.f-1+1=Bs.f by omega]at e;rwa[e]
def fV{n:Nat}{t:Int}(h0:0<=t)(h1:t<(n:Int)):Qk n t=some t.j:=by unfold Qk;rw[if_pos h0,if_pos S]
def vd(Bs:Ab):(Bs.C λl=>l⁻¹).sum=Bs.D⁻¹:=by
 induction Bs with
 |nil=>rfl
 |cons l Bs ih=>rw[YD,YV,ih,YZ,XB];omega
def ZT9(Bs:Ab)(h:∀l∈Bs,1<=l.f/\l.f<=4):Bs.D.f<=4*Bs.f:=by
 induction Bs with
 |nil=>show Ya _
 |cons l Bs ih=>
  have:=ih λm hm=>h m (Ye _ hm)
  have:=h l Yb
  rw[YZ,XB,Yv];omega
def FL(f:Int->Int)(n k:Nat)(t:Int):(Int×Int):=if f t=0 then ((k:Int),(WT n k:Int)) else ((WT n k:Int),(k:Int))
def fU{L:Ab}(h:L.D.Nodup){i j:Nat}{a b:Ac}(hi:L[i]?=some a)(hj:L[j]?=some b){t:Int}(ha:t∈a)(hb:t∈b):i=j:=by
 induction L generalizing i j with
 |nil=>cases hi
 |cons l L ih=>
  rw[YZ]at h;let(h1,h2,h3):=YM.E h;cases i with
  |zero=>
   cases j with
   |zero=>rfl
   |succ j=>
    let rfl:=Yc hi;show absurd Z (h3 t ha t<|Wq.H {b,Xr hj,hb})
  |succ i=>
   cases j with
   |zero=>
    let rfl:=Yc hj;show absurd Z (h3 t hb t<|Wq.H {a,Xr hi,ha})
   |succ j=>rw[ih h2 hi hj]
inductive spZW(K:Ad)(vs:List V)(H:Hp)(Q:VK)(_:XK):Prop
 |mk (b:Addr) (c:Int) (xs:List V) (Bs:Ab) (_:vs=[.ref b,.int c]) (_:SqL K H b xs) (_:Bears (Xd H) xs Bs) (_:3<=Bs.f) (_:Bs.f<=7) (_:(∀l∈Bs,1<=l.f/\l.f<=4)) (_:Bs.D.Perm (Xh Bs.D.f)) (_:∀(r l u:Addr)(ys zs:List V)(f:Int->Int)(ps:Aa)(H':Hp),Same H H'->H' r=some (.tup [.ref l,.ref u])->H' l=some (.lst ys)->PairsV H' ys ps->H' u=some (.lst zs)->Bears (Xd H') zs (VM f Bs)->RingB f Bs ps->Q ↑r H')
def Hl:FnScope ["bundles","cell","places","ties","turns","flips","k","tie","ends","onward","backward"] ["bundles","cell"] (Zc (top 80)):=RA tH
def fS(T:Txt K mg t):Xg P w base Xo T.qZW 2 (spZW K):=by
 show T.qZW.okI ["bundles","cell","places","ties","turns","flips","k","tie","ends","onward","backward"] tH λXD A outer s H vs Q E hr h=>?_
 .let⟨b,c,xs,Bs,rfl,hS,hB,l3,l7,h4,Wa,q⟩:=h;show⟨_,(XQ (Ze 2<|Zf (Zh K) tK T.n_len Boot.«len»<|XZ (pv 0) XX)
   (XQ (Ze 3<|Zv Jx (Uz<|XZ (Ui<|XZ Zd<|XZ Zd XX) XX)<|Zf (p8 K Z) tK T.n_sum Boot.«sum»<|XZ (SI Z (sc0:=Zc<|top 80) (N0:=["bundles","cell","places","ties","turns","flips","k","tie","ends","onward","backward"]) (N':=["bundle"]) (o:=1) (fr:=[]) ⟨Z,tH,tH,tH,Z,tH⟩ (ZQ K<|pv 0) (Zw tI) (λ_ _ _ _=>(Zb 0)) (λ_ _ _ _=>ZY) λ_ _ _ _=>(Zf (Zh K) tK T.n_len Boot.«len»<|XZ (pv 0) XX)) XX)
   (XQ (Ze 4<|Uz XX)
   (XQ (RO (i:=5) Hl.nd Z (Or.inr Z)<|SI Z (sc0:=Zc<|top 80) (N0:=["bundles","cell","places","ties","turns","flips","k","tie","ends","onward","backward"]) (N':=["tie","cell"]) (o:=1) (fr:=[1]) ⟨Z,tH,tH,tH,Z,tH⟩ (ZJ Z T.n_range<|XZ (Zf (Zh K) tK T.n_len Boot.«len»<|XZ (pv 3) XX) XX) (Zw tI) (λ_ _ _ _=>(Zb 0)) (λ_ _ _ _=>ZY) λ_ _ _ _=>(Zv SR (Xv (Qu T) hr T.qZT Zr<|XZ (pv 1)<|XZ (Zv ZZ Zd<|pv 0) XX) Zd))
   (XQ (WS YR Z (ZJ Z T.n_range<|XZ (pv 2) XX) (Zb 6)
   (XQ (WS YR Z (ZQ K<|ZH (Zj K) (pv 0) (pv 6) λ_ _=>rfl) (Zb 7)
   (XQ (Ze 8<|Ui<|XZ (pv 6)<|XZ (Zv SR (Zv ZZ (pv 6) Zd)<|pv 2) XX)
   (XI<|EN (Ui<|XZ (ZH (Zy K) (pv 8) (ZH (Zj K) (pv 5) (pv 7) λ_ _=>rfl) λ_ _=>rfl)<|XZ (ZH (Zy K) (pv 8) (Zv VF Zd<|ZH (Zj K) (pv 5) (pv 7) λ_ _=>rfl) λ_ _=>rfl) XX)<|sH (pv 3) (pv 7) Ek)))
   (XQ (Ph (i:=9) Z Hl.nd Z Z (sc0:=Zc<|top 80) (N0:=["bundles","cell","places","ties","turns","flips","k","tie","ends","onward","backward"]) (N':=["tie","flips"]) (o:=1) (fr:=[5]) ⟨Z,tH,tH,tH,Z,tH⟩ (ZQ K<|ZH (Zj K) (pv 0) (pv 6) λ_ _=>rfl) (Zw tI) (λ_ _ _ _=>(Zb 0)) (λ_ _ _ _=>ZY) λ_ _ _ _=>(Zv ZZ (Zv RN Zd<|pv 0)<|ZH (Zj K) (pv 1) (pv 0) λ_ _=>rfl))
   (XQ (Ph (i:=10) Z Hl.nd Z Z (sc0:=Zc<|top 80) (N0:=["bundles","cell","places","ties","turns","flips","k","tie","ends","onward","backward"]) (N':=["tie","flips"]) (o:=1) (fr:=[5]) ⟨Z,tH,tH,tH,Z,tH⟩ (oq K Z T.n_reversed<|XZ (ZH (Zj K) (pv 0) (Zv VF (pv 6) Zd) λ_ _=>rfl) XX) (Zw tI) (λ_ _ _ _=>(Zb 0)) (λ_ _ _ _=>ZY) λ_ _ _ _=>(Zv VF (Zv ZZ (Zv RN Zd<|pv 0) Zd)<|ZH (Zj K) (pv 1) (pv 0) λ_ _=>rfl))
   (XI<|ZS<|Sk K YU Nw Nx Ue (pv 4)<|XZ (Zv xr (pv 9)<|pv 10) XX)))))
   (XI<|Zm<|Ui<|XZ (pv 3)<|XZ (pv 4) XX)))))),?_⟩
  let Sw:=hB.1;let one:1<=sizeLine:=tI
  let two:2<=sizeLine:=tI;let m28:=ZT9 Bs h4
  exists _,Z,b,xs,Z,.inl hS,?_;show nm ?_;dsimp only;exists two,λta hta=>{one,λla Mg=>?_};let t1:=XJ (o:=.tup [.int 0,.int 0]) hta
  let t2:=XJ (o:=.lst [.ref ta]) Mg;let s2:=t1.l t2
  let kta:(upd (upd H ta<|.tup [.int 0,.int 0]) la<|.lst [.ref ta]) ta=some (.tup [.int 0,.int 0]):=t2 _ _ XS;let kla:(upd (upd H ta<|.tup [.int 0,.int 0]) la<|.lst [.ref ta]) la=some (.lst [.ref ta]):=XS
  generalize upd (upd H ta<|.tup [.int 0,.int 0]) la (.lst [.ref ta])=H2 at *;let Lo:=s2.seq hS
  let OY:Bears (Xd H2) xs Bs:=hB.imp λ_ _ zz=>by let(a,e,h):=zz;exists a,e,s2 _ _ h
  exists _,Z,b,Z,{_,Lo},NP (K:=K) (a:=b) (xs:=xs) (λi zs Hx=>Hx=H2/\zs=IL ((Bs.X i).C λl=>l⁻¹)/\i<=xs.f) {Z,Z,Yk _} (Zi S) (λi zs Hx hi zz=>by let(e,ew,Vs):=zz;show{e▸Lo,by rw[ew,Xw,Xz,YB];omega}) ?_ ?_
  .rintro i v zs Hx hi ⟨rfl,rfl,VW⟩ AP Xj;let(l,hl,a',rfl,QW):=OY.at hi;show nm ?_;exists _,Z,a',_,Z,.inl<|SqL.of QW,?_;show Xj _ _ {Z,?_,(Xy.E hi).1};rw[Xw,YS,hl,Yp];show(ZN _ _).U
  rintro zs Hx ⟨rfl,rfl,_⟩ mA vj;rw[Sw,YI];let t3:=XJ (o:=.lst<|IL<|Bs.C λl=>l⁻¹) vj
  exists mA,_,Z,SqL.of XS,la,_,[.ref ta],Z,Z,t3 _ _ kla,?_,?_,?_,λtA Rv=>?_
  .rw[vd];omega
  .rw[vd];omega
  .rw[vd,Yf];change 1*_<=_;have:100<=sizeLine:=(by decide);omega
  rw[vd,Yf,oP];let fR:=t3 _ _ kta
  let s3:=s2.l t3;generalize upd Hx mA (.lst<|IL<|Bs.C λl=>l⁻¹)=Hb at *;let t4:=XJ (o:=.lst<|List.M Bs.D.f<|.ref ta) Rv
  let k4:(upd Hb tA<|.lst<|List.M Bs.D.f<|.ref ta) tA=some (.lst<|List.M Bs.D.f<|.ref ta):=XS;let hP4:PairsV (upd Hb tA<|.lst<|List.M Bs.D.f<|.ref ta) (List.M Bs.D.f<|.ref ta) (List.M Bs.D.f (0,0)):=PairsV.rep {ta,Z,t4 _ _ fR} _
  show nm ?_;dsimp only;change Wo _ _ _ _ (upd Hb tA<|.lst<|List.M Bs.D.f<|.ref ta);generalize upd Hb tA (.lst<|List.M Bs.D.f<|.ref ta)=H4 at *;exists Yk _,λuA zt=>?_;let t5:=XJ (o:=.lst []) zt
  let hub:Hb uA=none:=t4.free zt;let k5:=t5 _ _ k4
  let hP5:=hP4.Y t5;let ku:(upd H4 uA<|.lst []) uA=some (.lst []):=XS
  let ntu:tA≠uA:=Za k4 zt;let FK:=t4.l t5
  show nm ?_;dsimp only;change Wo _ _ _ _ (upd H4 uA<|.lst []);generalize upd H4 uA (.lst [])=H5 at *;exists _,Z,tA,_,Z,.inl<|SqL.of k5,_,Z,S,by rw[Yw];omega,DI (lo:=0) (n:=((List.M Bs.D.f<|V.ref ta).f:Int).j) (λi zs Hx=>Hx=H5/\∃fs:Ac,zs=IL fs/\fs.f=i/\∀x∈fs,x=0\/x=1) {Z,[],Z,Z,λ_ h=>(by cases h)} (Zi<|by rw[Yw];omega) (λi zs Hx _ zz=>by let(_,fs,e,e2,_):=zz;rw[e,Xw,e2];show Ya _) ?_ ?_
  .rintro i zs Hx hi ⟨rfl,fs,rfl,rfl,fQ⟩ AP Xj;show nm ?_;exists _,Z,_,Z,_,_,Z,Z,_,_,Z,λrr r0 r1=>{_,_,Z,Z,(by change(0:Int)<2;decide),?_};show Xj _ _ {Z,fs++[rr%2],(ZN _ _).U,by rw[XB];rfl,λx hx=>?_};rcases Xx.E hx with q|q
   .show fQ x q
   .rw[XF.E q];omega
  rintro zs Hx ⟨rfl,fs,rfl,QZ,fQ⟩ fA HF;rw[Yw,Yf]at QZ;let t6:=XJ (o:=.lst<|IL fs) HF
  let k6:=t6 _ _ k5;let iG:=hP5.Y t6
  let ku6:=t6 _ _ ku;let kf:(upd Hx fA<|.lst<|IL fs) fA=some (.lst<|IL fs):=XS
  let nft:fA≠tA:=λe=>by rw[e,k5]at HF;cases HF
  let nfu:fA≠uA:=λe=>by rw[e,ku]at HF;cases HF
  let Kv:=FK.l t6;show nm ?_;dsimp only;change Wo _ _ _ _ (upd Hx fA<|.lst<|IL fs);generalize upd Hx fA (.lst<|IL fs)=H6 at *;obtain⟨f,hf⟩:∃f:Int->Int,∀t,f t=fs.t t.j 0:={_,λt=>rfl};let f01:∀t,f t=0\/f t=1:=λt=>by
   rw[hf,Xl];cases e:fs[t.j]? with
   |none=>show .inl rfl
   |some y=>show fQ y (Xr e)
  let rng:∀l∈Bs,∀t∈l,0<=t/\t<Bs.D⁻¹:=λl hl t ht=>XO.E (Wa.mem_iff.E<|Wq.H ⟨l,hl,ht⟩);let Vq:Bs.D.Nodup:=Wa.nodup_iff.H (QI<|NK _)
  let vc:∀t,0<=t->t<Bs.D⁻¹->Wg (IL fs) t=some (.int<|f t):=λt h0 h1=>by
   obtain⟨y,hy⟩:∃y,fs[t.j]?=some y:={_,XH S};let e:f t=y:=by rw[hf];show ZO hy
   rw[e];show ZM (n:=t.j) S (Ud hy)
  let tnl:(VM f Bs).f=Bs.f:=by unfold VM;rw[Xz,YO]
  exists _,Z,Bs⁻¹,Z,S,S,JK (lo:=0) (n:=(Bs.f:Int).j) (λk σ Hy=>∃(v6 v7 v8 v9 v10:Option V)(ys zs:List V)(ps:Aa),σ=[some ↑b,some<|.int c,some<|.int Bs.f,some<|.ref tA,some<|.ref uA,some<|.ref fA,v6,v7,v8,v9,v10]/\Same Hb Hy/\Hy fA=some (.lst<|IL fs)/\Hy tA=some (.lst ys)/\PairsV Hy ys ps/\ps.f=Bs.D.f/\JagAt Hb uA Hy zs ((VM f Bs).X k)/\V.ref tA∉zs/\∀(j:Nat)(l:Ac),j<k->Bs[j]?=some l->∀t∈l,ps[t.j]?=some (FL f Bs.f j t)) {none,none,none,none,none,_,[],_,Z,Kv,kf,k6,iG,Yw,JagAt.nil ku6,(λh=>by cases h),λj l hj=>absurd hj<|TH _} ?_ ?_;rotate_left
  .rintro σ Hy ⟨v6,v7,v8,v9,v10,ys,zs,ps,rfl,sy,kfy,fP,fO,Wc,hJ,fM,Ku⟩;rw[Yf]at hJ Ku;rw[<-tnl,YI]at hJ;exists _,Z,_,Z,two,λr hr=>?_;let w1:=XJ (o:=.tup [.ref tA,.ref uA]) hr
   let R:RingB f Bs ps:={S,f01,λl hl e=>by have:=h4 l hl;rw[e]at this;show absurd this.1 tI,by rw[Wc];show Wa,λk l hk t ht=>Ku k l (Xy.E hk).1 hk t ht};show q r tA uA ys zs f ps _ ((s3.l sy).l w1) XS (w1 _ _ fP) (fO.Y w1) (w1 _ _ hJ.tab) (hJ.Y w1).lists R
  rintro k σ Hy hk ⟨v6,v7,v8,v9,v10,ys,zs,ps,rfl,sy,kfy,fP,fO,Wc,hJ,fM,Ku⟩;rw[Yf]at hk;obtain⟨l,hl⟩:∃l,Bs[k]?=some l:={_,XH hk};let Gs:Bears (Xd Hb) xs Bs:=hB.imp λ_ _ zz=>by let(a,e,h):=zz;exists a,e,s3 _ _ h
  let(v,hv,a',rfl,QW):=Gs.2 k l hl;let fL:=s3.seq hS
  let atk:Wg xs (0+(k:Int))=some ↑a':=ZM (n:=k) S hv;show nm ?_;dsimp only;exists _,Z,_,Z,b,_,_,.ref a',Z,Z,sy.seq fL,atk,a',Z,{_,SqL.of<|sy _ _ QW},GH (K:=K) (a:=a') (xs:=IL l) (λj σ Hz=>∃(v7 v8:Option V)(ys:List V)(ps:Aa),σ=[some ↑b,some<|.int c,some<|.int Bs.f,some<|.ref tA,some<|.ref uA,some<|.ref fA,some<|.int<|0+(k:Int),v7,v8,v9,v10]/\Same Hb Hz/\Hz fA=some (.lst<|IL fs)/\Hz tA=some (.lst ys)/\PairsV Hz ys ps/\ps.f=Bs.D.f/\JagAt Hb uA Hz zs ((VM f Bs).X k)/\(∀(j':Nat)(l':Ac),j'<k->Bs[j']?=some l'->∀t∈l',ps[t.j]?=some (FL f Bs.f j' t))/\∀t∈l.X j,ps[t.j]?=some (FL f Bs.f k t)) {v7,v8,ys,ps,Z,sy,kfy,fP,fO,Wc,hJ,Ku,λt ht=>(by cases ht)} (λj σ Hz _ zz=>by let(_,_,_,_,_,sz,_):=zz;show SqL.of<|sz _ _ QW) ?_ ?_
  .rintro j v σ Hz hj ⟨v7,v8,ys,ps,rfl,sz,FJ,yU,va,Wc,fK,Ku,LS⟩;let(tt,rfl,VV):=WQ hj;let htm:tt∈l:=Xr VV
   let yT:=Xr hl;let(r0,r1):=rng l yT tt htm;show nm ?_;dsimp only;exists _,Z,_,Z,_,_,Z,Z,_,Z,_,_,Z,Z,(by omega:(0:Int)<Bs⁻¹),two,λea hea=>?_;let em:(0+(k:Int)+1)%Bs⁻¹=(WT Bs.f k:Int):=by unfold WT;rw[RR];show(Int.natCast_emod (k+1) Bs.f).U
   let w1:=XJ (o:=.tup [.int (0+(k:Int)),.int ((0+(k:Int)+1)%Bs⁻¹)]) hea;let kea:(upd Hz ea<|.tup [.int (0+(k:Int)),.int ((0+(k:Int)+1)%Bs⁻¹)]) ea=some (.tup [.int (0+(k:Int)),.int ((0+(k:Int)+1)%Bs⁻¹)]):=XS
   show nm ?_;dsimp only;obtain⟨e1,e2,Iy,QH,he⟩:∃e1 e2:Int,Wg ([.int (0+(k:Int)),.int ((0+(k:Int)+1)%Bs⁻¹)]:List V) (f tt)=some (.int e1)/\Wg ([.int (0+(k:Int)),.int ((0+(k:Int)+1)%Bs⁻¹)]:List V) (1-f tt)=some (.int e2)/\(e1,e2)=FL f Bs.f k tt:=by
    unfold FL;rcases f01 tt with a|a<;>rw[a]
    .exists _,_,Z,Z,by rw[if_pos Z,em,RR]
    .exists _,_,Z,Z,by rw[if_neg tI,em,RR]
   change Ri _ _ _ _ (upd Hz ea<|.tup [.int (0+(k:Int)),.int ((0+(k:Int)+1)%Bs⁻¹)]);generalize upd Hz ea (.tup [.int (0+(k:Int)),.int ((0+(k:Int)+1)%Bs⁻¹)])=Hv at *;let kfv:=w1 _ _ FJ
   exists _,Z,_,Z,_,Z,fA,_,_,.int<|f tt,Z,Z,SqL.of kfv,vc tt r0 r1,ea,_,_,.int e1,Z,Z,SqT.of kea,Iy,_,Z,_,Z,_,Z,fA,_,_,.int<|f tt,Z,Z,SqL.of kfv,vc tt r0 r1,_,_,Z,Z,ea,_,_,.int e2,Z,Z,SqT.of kea,QH,two,λna fJ=>?_;let w2:=XJ (o:=.tup [.int e1,.int e2]) fJ
   let yS:=w1.l w2;let kt2:=yS _ _ yU
   let kna:(upd Hv na<|.tup [.int e1,.int e2]) na=some (.tup [.int e1,.int e2]):=XS;let nat:na≠tA:=λe=>by rw[e,w1 _ _ yU]at fJ;cases fJ
   let Ie:=va.Y yS;let yl:=va.1
   exists _,Z,_,Z,tA,_,_,tt.j,Z,Z,kt2,fV r0 S,?_;let hP3:=(Ie.mut (l:=tA) (zs:=ys.set tt.j<|.ref na) kt2).set tt.j (v:=.ref na) (p:=(e1,e2)) {na,Z,by rwa[XR nat]}
   rw[he]at hP3;exists _,_,ys.set tt.j<|.ref na,ps.set tt.j<|FL f Bs.f k tt,Z,Zu Rv<|sz.l yS,?_,XS,hP3,by rw[PL];show Wc,(fK.Y yS).off ntu fM,λj' l' To Uk t ht=>?_,λt ht=>?_
   .rw[XR nft];show yS _ _ FJ
   .let hr:=rng l' (Xr Uk) t ht;rw[yj]
    .show Ku j' l' To Uk t ht
    .intro e
     have:tt=t:=S
     subst this
     have:=fU Vq Uk hl ht htm
     omega
   .rw[YS,VV]at ht;cases c:t=tt
    .subst c;rw[uM S]
    .let ht:t∈l.X j:=by
      rcases Xx.E ht with z|z
      .show z
      .show absurd (XF.E z) c
     let hr:=rng l yT t (FA ht);rw[yj S];show LS t ht
  rintro σ Hz ⟨v7,v8,ys,ps,rfl,sz,FJ,yU,va,Wc,fK,Ku,LS⟩;rw[Xw,YI]at LS;let yT:=Xr hl
  let l4:=h4 l yT;exists _,Z,_,Z,b,_,_,.ref a',Z,Z,sz.seq fL,atk,a',Z,{_,SqL.of<|sz _ _ QW},NP (K:=K) (a:=a') (xs:=IL l) (λi ws Hw=>Hw=Hz/\ws=IL ((l.X i).C (WZ f))/\i<=l.f) {Z,Z,Yk _} (Zi<|by rw[Xw];omega) (λi ws Hw hi zz=>by let(e,ew,Vs):=zz;show{e▸SqL.of (sz _ _ QW),by rw[ew,Xw,Xz,YB];omega}) ?_ ?_
  .rintro i v ws Hw hi ⟨rfl,rfl,VW⟩ AP Xj;let(tt,rfl,VV):=WQ hi;let(r0,r1):=rng l yT tt (Xr VV);show nm ?_;exists _,Z,_,_,Z,Z,.inl ⟨tI,tI⟩,_,Z,_,Z,fA,_,_,.int<|f tt,Z,Z,SqL.of FJ,vc tt r0 r1,_,_,Z,Z,?_;show Xj _ _ {Z,?_,(Xy.E VV).1};rw[YS,VV,Yp];show(ZN _ _).U
  rintro ws Hw ⟨rfl,rfl,_⟩ oA hoA;rw[Xw,YI];let x1:=XJ (o:=.lst<|IL<|l.C<|WZ f) hoA
  let ko:(upd Hw oA<|.lst<|IL<|l.C<|WZ f) oA=some (.lst<|IL<|l.C<|WZ f):=XS;show nm ?_;dsimp only;change Wo _ _ _ _ (upd Hw oA<|.lst<|IL<|l.C<|WZ f);generalize upd Hw oA (.lst<|IL<|l.C<|WZ f)=Ho at *;let hpk:WL Bs.f k<Bs.f:=vP S
  obtain⟨l',Uk⟩:∃l',Bs[WL Bs.f k]?=some l':={_,XH hpk};let(v',GG,c',rfl,WO):=Gs.2 _ l' Uk;let yR:=Xr Uk
  let l4':=h4 l' yR;let atp:Wg xs (0+(k:Int)-1)=some ↑c':=by
   let e:Qk xs.f (0+(k:Int)-1)=some (WL Bs.f k):=by
    rw[Sw];unfold Qk;cases z:k=0
    .subst z;rw[if_neg S,if_pos S,jt S];congr 1;omega
    .obtain⟨j,rfl⟩:∃j,k=j+1:={k-1,S};rw[if_pos S,if_pos S,ju hk];congr 1;omega
   unfold Wg;rwa[e]
  let so:=sz.l x1;let kfo:=x1 _ _ FJ
  exists _,Z,_,Z,_,_,Z,Z,b,_,_,.ref c',Z,Z,so.seq fL,atp,c',Z,.inl {IL l',SqL.of<|so _ _ WO,lX (K:=K) (a:=c') (xs:=IL l') (λi ws Hw=>Hw=Ho/\ws=IL ((l'.reverse.X i).C (Xe f))/\i<=l'.f) {Z,Z,Yk _} (Zi<|by rw[Xw];omega) (λi ws Hw hi zz=>by let(e,ew,Vs):=zz;show{e▸SqL.of (so _ _ WO),by rw[ew,Xw,Xz,YB];omega}) ?_ ?_}
  .rintro i v ws Hw VW hi ⟨rfl,rfl,_⟩ AP Xj;rw[Xw]at hi VW;let(tt,rfl,VV):=WQ hi;let(r0,r1):=rng l' yR tt (Xr VV);let hrv:l'.reverse[i]?=some tt:=by rwa[FC VW]
   show nm ?_;exists _,Z,_,_,Z,Z,.inl ⟨tI,tI⟩,_,_,Z,Z,_,Z,_,Z,fA,_,_,.int<|f tt,Z,Z,SqL.of kfo,vc tt r0 r1,_,_,Z,Z,?_;show Xj _ _ {Z,?_,VW};rw[YS,hrv,Yp];show(ZN _ _).U
  rintro ws Hw ⟨rfl,rfl,_⟩ dA gV;rw[Xw,Vx (by rw[YX];show Ya _)];let x2:=XJ (o:=.lst<|IL<|l'.reverse.C<|Xe f) gV
  let kd:(upd Hw dA<|.lst<|IL<|l'.reverse.C<|Xe f) dA=some (.lst<|IL<|l'.reverse.C<|Xe f):=XS;show nm ?_;dsimp only;let sw:=so.l x2
  let yQ:=x1.l x2;let ko2:=x2 _ _ ko
  change ET _ _ _ (upd Hw dA<|.lst<|IL<|l'.reverse.C<|Xe f);generalize upd Hw dA (.lst<|IL<|l'.reverse.C<|Xe f)=Hd at *;let yP:=fK.Y yQ
  exists _,Z,.inl {Z,_,SqL.of yP.tab},_,Z,_,Z,oA,dA,_,_,Z,Z,ko2,kd,?_,λrA UX=>?_
  .rw[Xw,Xw,Xz,Xz,YX]
   have:100<=sizeLine:=tI
   omega
  let er:IL (l.C<|WZ f)++IL (l'.reverse.C<|Xe f)=IL (Rz f l l'):=(Yp ..).U;rw[er];let x3:=XJ (o:=.lst<|IL<|Rz f l l') UX
  let nry:=yP.fresh UX;let nru:rA≠uA:=λe=>by rw[e,yP.tab]at UX;cases UX
  let nrt:rA≠tA:=λe=>by rw[e,yQ _ _ yU]at UX;cases UX
  let fI:=yP.Y x3;let zl:zs.f<=7:=by have:=yP.rows.1;rw[YB]at this;omega
  exists uA,_,_,Z,Z,fI.tab,Zi S,?_;let etn:(VM f Bs).X (k+1)=(VM f Bs).X k++[Rz f l l']:=by
   rw[YS,Ib hk];let g1:Bs.t k []=l:=by rw[Xl,hl];rfl
   let g2:Bs.t (WL Bs.f k) []=l':=by rw[Xl,Uk];rfl
   rw[g1,g2];rfl
  exists _,_,_,_,_,ys,zs++[.ref rA],ps,Z,Zu hub<|sw.l x3,?_,?_,(va.Y<|yQ.l x3).mut fI.tab,Wc,by rw[etn];show fI.snoc XS ((sw).free UX) nru nry,λh=>?_,λj' l2 To VL t ht=>?_
  .rw[XR nfu];show(yQ.l x3) _ _ FJ
  .rw[XR ntu];show(yQ.l x3) _ _ yU
  .rcases Xx.E h with e|e
   .show fM e
   .have:tA=rA:=by simpa using e
    show nrt this.U
  .cases c2:j'=k
   .subst c2;rw[hl]at VL;let rfl:=Yc VL;show LS t ht
   .show Ku j' l2 S VL t ht
inductive spZX(K:Ad)(CP C Pt:Addr)(vs:List V)(H:Hp)(Q:VK)(_:XK):Prop
 |mk (w a:Addr) (c:Int) (n many:Nat) (ps:Aa) (xs:List V) (ts R:Ab) (_:vs=[.ref w,.ref a,.int c,.int many]) (_:WebAt C H w n ps) (_:Zt n ps) (_:SqL K H a xs) (_:Bears (Xd H) xs ts) (_:ts.f<=1000) (_:(∀l∈ts,l.f<64)) (_:VT n ps ts) (_:RdW ps ts R) (_:Flat n ps R) (_:R.f<=14) (_:0<ps.f) (_:TC n ps many) (_:0<many) (_:WK H Pt) (_:∀H',Q (.bl true) H')
def fH{Pt:Addr}(T:Txt K mg t)(hB:Mn K mg base t.dZI Pt):Xg P w base Xo T.qZX 46 (spZX K t.A_Part t.A_Web Pt):=by
 show T.qZX.okI ["web","turns","cell","many","other","k","tree","rest","tie","one","two"] tH λXD A outer s H vs Q E hr h=>?_
 .let⟨w,a,c,n,many,ps,xs,ts,R,rfl,hW,hG,hA,hX,Us,VL,hV,hR,hF,wc,p0,hc,mp,fG,k⟩:=h;show⟨_,(XQ (Ze 4<|Xv (iI T) hr T.qZq Zr<|XZ (pv 0)<|XZ (pv 1) XX)
   (XQ (Wk (Zl SQ (Xv (Ol T) hr T.qZC Zr<|XZ (pv 4) XX) (pv 3)<|Zx _)
   (XI<|Zm UM)
   Zp)
   (XQ (WS YR Z (ZJ Z T.n_range<|XZ Zd XX) (Zb 5)
   (XQ (Ze 6<|Xv (gc T hB) hr T.qZR Zr<|XZ (pv 0)<|XZ (Zv SR (Xv (Qu T) hr T.qZT Zr<|XZ (pv 2)<|XZ (Zv ZZ Zd<|pv 5) XX)<|pv 3) XX)
   (XQ (Ze 7<|Xv (Al T) hr T.qZr Zr<|XZ (pv 0)<|XZ (pv 6) XX)
   (XQ (Wk (PW.pt<|Pz (Nf<|LK<|Xv (Az T) hr T.qZd Zr<|XZ (pv 4)<|XZ (pv 7) XX)<|EV<|Zl (qa K<|xj hr) (Xv (Al T) hr T.qZr Zr<|XZ (pv 4)<|XZ (pv 7) XX) (pv 6)<|Zx _)
   (XI<|Zm UM)
   Zp)
   (XQ (Ze 8<|Zv SR (Xv (Qu T) hr T.qZT Zr<|XZ (pv 2)<|XZ (Zv ZZ Zd<|pv 5) XX)<|Zf (Zh K) tK T.n_len Boot.«len»<|XZ (Zk K (pv 0) Z) XX)
   (XQ (Ze 9<|Xv (yY T) hr T.qZS Zr<|XZ (pv 0)<|XZ (Uz<|XZ (pv 8) XX) XX)
   (XQ (Ze 10<|Xv (yY T) hr T.qZS Zr<|XZ (pv 4)<|XZ (Uz<|XZ (pv 8) XX) XX)
   (XI (Wk (Zl SQ (Zv ZZ (Zv oW (ZH (Zy K) (pv 9) Zd λ_ _=>rfl)<|ZH (Zy K) (pv 10) Zd λ_ _=>rfl)<|Zv oW (ZH (Zy K) (pv 10) Zd λ_ _=>rfl)<|ZH (Zy K) (pv 9) Zd λ_ _=>rfl) (Zv oW (ZH (Zy K) (pv 9) Zd λ_ _=>rfl)<|ZH (Zy K) (pv 10) Zd λ_ _=>rfl)<|Zx _)
   (XI<|Zm UM)
   Zp)))))))))
   (XI<|Zm UM)))),?_⟩
  let one:1<=sizeLine:=tI;let(g1,g2,g3,g4):=id hG;let(Hk,u9):=kJ hV g4 g3 wc hR hF;let hJ:=hF.1
  let TN:(UY R ps.f).f=ps.f:=k9 R ps.f;let ho:=kP hV g4 hR
  let he:=hF.2;let WO:=kM hG Hk TN ho hJ u9 he hc
  let uZ:VT (n:Int).j ps ts:=by rwa[Yf]
  obtain⟨T1,hT1⟩:∃T,Zn n ps T:=by let(L,_,hm,hL):=id hc;let(T,hT):=List.exists_mem_of_length_pos (l:=L) S;exists T,(hm T).E hT
  let(Rw,vf,rnd,yN):=Bc hG ⟨T1,hT1⟩;let Qz:Rw.f=many:=TC.uniq ⟨Rw,rnd,yN,Z⟩ hc
  exists _,Z,_,Z,w,a,false,n,ps,xs,ts,Z,hW,hG,hA,hX.imp (λ_ _ zz=>by let(r,e,h):=zz;exists r,false,e,SqL.of h),Us,VL,λ_ R2 iH=>?_,λh=>absurd uZ h;let rfl:=iH.uniq hV hR;exists λ_ _ w' H1 s1 hW'=>?_,λ_ h=>absurd wc h,λh=>absurd hF h;show nm ?_;dsimp only;exists _,Z,w',_,_,Z,hW',Hk,λc2 H2 Vk s2=>?_;let rfl:=Vk.uniq WO;exists _,Z,Z,_,Z,?_;rw[Zz];show Lv Z ?_;change(_:Prop)
  show UH ?_;let hW2:=(hW.Y s1).Y s2
  let hO2:=hW'.Y s2;let Wl:=fG.Y (s1.l s2)
  exists 4,Z,tI,tI,JK (lo:=0) (n:=(4:Int).j) (λi σ H3=>∃(v5 v6 v7 v8 v9 v10:Option V),σ=[some ↑w,some<|.ref a,some<|.int c,some<|.int c2,some<|.ref w',v5,v6,v7,v8,v9,v10]/\WebAt t.A_Web H3 w n ps/\WebAt t.A_Web H3 w' R2.f (UY R2 ps.f)/\WK H3 Pt) ⟨none,none,none,none,none,none,Z,hW2,hO2,Wl⟩ ?_ ?_;rotate_left
  .rintro σ H3 ⟨v5,v6,v7,v8,v9,v10,rfl,_,_,_⟩;show k _
  rintro i σ H3 hi ⟨v5,v6,v7,v8,v9,v10,rfl,hW3,hO3,UB⟩;show nm ?_;dsimp only;exists _,Z,_,Z,_,Z,_,_,Z,Z,_,_,Z,λm m0 m1=>{_,Z,_,_,Z,Z,(by omega:(0:Int)<(c2:Int)),?_};let d0:=Kj m (show(c2:Int)≠0 by omega)
  let d1:=Kr m (show(0:Int)<(c2:Int) by omega);show{w,n,ps,_,Rw,Z,hW3,hG,UB,d0,by rw[Qz];show d1,vf,λr AP H4 mR Oj Oe Oq=>?_};let fF:=(yN AP).E (Xr mR)
  show nm ?_;dsimp only;let vm:=hW3.samex UB Oj
  let fE:=hO3.samex UB Oj;exists _,Z,_,Z,w,r,n,ps,true,AP,Z,vm,hG,SqT.of Oq,λ_ D r5 H5 FU hD s5 vg=>?_,λh=>absurd fF h;let rfl:=AK FU hD;show nm ?_;dsimp only;let hDt:=OD hG Hk TN ho u9 he fF
  exists _,Z,_,Z,w',r5,_,_,true,_,Z,fE.Y s5,Hk,SqT.of vg,λbb H6 s6 CY=>{_,Z,?_};let rfl:bb=true:=CY.H hDt;show Ts ?_;let s56:=s5.l s6
  exists _,Z,_,Z,w',r5,_,_,true,_,Z,fE.Y s56,Hk,SqT.of<|s6 _ _ vg,λ_ D2 r7 H7 fD hD2 s7 HH=>?_,λh=>absurd hDt h;rw[TN]at hD2;let rfl:=AK fD hD2;let Qy:=s56.l s7
  exists _,Z,1,_,r7,r,Z,Z,tI,pM (SqT.of HH)<|SqT.of<|Qy _ _ Oq,_,Z,?_;rw[YK (KN fF.1)];show Ts ?_;change(_:Prop)
  show UH ?_;let fC:=vm.Y Qy
  let hO7:=fE.Y Qy;let fB:=Oe.Y Qy
  let(dx,tl,ys,h1,h2,h3):=id fC;let yl:=h3.1
  let yp:(0:Int)<ys⁻¹:=S;exists _,Z,_,Z,_,_,Z,Z,_,_,Z,λm2 m20 m21=>{_,Z,w,_,dx,_,_,Z,h1,T.cl_Web,T.n_Web_ties,Wf _ _,tl,ys,Z,.inl<|SqL.of h2,_,_,Z,Z,yp,?_};let z0:=Kj m2 (show ys⁻¹≠0 by omega)
  let z1:=Kr m2 yp;show nm ?_;dsimp only;generalize m2%ys⁻¹=z at *;let yM:∀q:Nat,q=ps.f->IsSet q [z]:=λq hq=>XW.H {λw hw=>by rw[XF.E hw];omega,Hf _ _}
  exists _,Z,_,Z,one,λe1 IG=>?_;let u1:=XJ (o:=.lst<|IL [z]) IG
  exists w,e1,n,ps,false,[z],Z,fC.Y u1,hG,SqL.of XS,yM _ Z,hJ,λca da p q r8 H8 hca Sg dp Hj s8 hr8=>?_;let rfl:=Sg.uniq hc;show nm ?_;dsimp only;let uY:=u1.l s8
  exists _,Z,_,Z,one,λe2 Sl=>?_;let u2:=XJ (o:=.lst<|IL [z]) Sl
  exists w',e2,_,_,false,[z],Z,(hO7.Y uY).Y u2,Hk,SqL.of XS,yM _ TN,u9,λcb db p' q' r9 H9 FR Tv dp2 Od s9 fv=>?_;let rfl:=Tv.uniq WO;show nm ?_;dsimp only;let uX:=u2.l s9
  let Hi:=uX _ _ hr8;let ft:(ca:Int)+(cb:Int)=(db:Int):=by
   have:=(BZ.E<|lZ hca<|jm hG Hk TN ho hJ u9 he ⟨z0,S⟩ FR).uniq hc
   omega
  let HI:=Zm8 Hj Od ft S;let d20:=lU hG hc
  let l1:=ID hca hc;let l2:=ID FR WO
  let(b1,b2):=aH (W:=(db:Int)) S Hj;let(b3,b4):=aH (W:=(db:Int)) S Od;let q0:=Hj.1
  let q1:=Od.1;let big:∀x y:Int,-(10^21)<x->x<10^21->-(10^21)<y->y<10^21->Dm x y:=λx y a1 a2 a3 a4=>{{xN tI a1,xN a2 tI},xN tI a3,xN a4 tI}
  exists _,Z,r8,_,0,.int p,Z,Z,SqT.of Hi,Z,_,Z,r9,_,1,.int q',Z,Z,SqT.of fv,Z,_,_,Z,Z,big _ _ S S S S,_,Z,r9,_,0,.int p',Z,Z,SqT.of fv,Z,_,Z,r8,_,1,.int q,Z,Z,SqT.of Hi,Z,_,_,Z,Z,big _ _ S S S S,_,_,Z,Z,_,Z,r8,_,1,.int q,Z,Z,SqT.of Hi,Z,_,Z,r9,_,1,.int q',Z,Z,SqT.of fv,Z,_,_,Z,Z,big _ _ S S S S,Z,_,Z,?_;rw[Zz];show Lv HI ?_;exists _,_,_,_,_,_,Z,(fC.Y uY).Y uX,(hO7.Y uY).Y uX,(fB.Y uY).Y uX
def Zw8{f:Int->Int}{Bs:Ab}{ps:Aa}(R:RingB f Bs ps)(wc:Bs.f<=14)(kI:ps.f<=30):Zt Bs.f ps:=by
 let h2:=R.two;exists S,S,kI,λp hp=>?_;let(i,hi):=Yz hp;let VW:=(Xy.E hi).1
 let(k,l,hk,ht):=R.has (t:=(i:Int)) S;let e:=R.ends k l hk _ ht
 let kl:=(Xy.E hk).1;let nl:=AZ (p:=Bs.f) (k:=k) S
 rw[Yf,hi]at e;let rfl:=Yc e;cases c:f (i:Int)=0
 .rw[if_pos c];exists by change(0:Int)<=(k:Int);omega,by change(k:Int)<_;omega,by change(0:Int)<=(WT Bs.f k:Int);omega,by change(WT Bs.f k:Int)<_;omega
 .rw[if_neg c];exists by change(0:Int)<=(WT Bs.f k:Int);omega,by change(WT Bs.f k:Int)<_;omega,by change(0:Int)<=(k:Int);omega,by change(k:Int)<_;omega
inductive spZY(K:Ad)(Pt:Addr)(vs:List V)(H:Hp)(Q:VK)(_:XK):Prop
 |mk (a:Addr) (ns:Ac) (_:vs=[.ref a]) (_:SqL K H a (IL ns)) (_:ns.f<=63) (_:WK H Pt) (_:∀H',Q (.bl true) H')
def fq{Pt:Addr}(T:Txt K mg t)(hB:Mn K mg base t.dZI Pt):Xg P w base Xo T.qZY 47 (spZY K Pt):=by
 show T.qZY.okI ["script","cell","bundles","ties","turns","web","many","rounds"] tH λXD A outer s H vs Q E hr h=>?_
 .let⟨a,ns,rfl,hS,hn63,fG,k⟩:=h;show⟨_,(XQ (Ze 1<|Zv SR (Zf (p8 K Z) tK T.n_sum Boot.«sum»<|XZ (pv 0) XX)<|Zv r6 Zd Zd)
   (XQ (Ze 2<|Xv (f7 T) hr T.qZU Zr<|XZ (pv 1) XX)
   (XQ (EN (Xv (fS T) hr T.qZW Zr<|XZ (pv 2)<|XZ (pv 1) XX)<|Qi (n:=2) K Z<|Zs (Zb 3)<|Zs (Zb 4) Qn)
   (XQ (Ze 5<|GF T.k_Web (HZ T) (hr.mono tI) Z T.c_Web T.bZ2 .nil Zr<|XZ (Zf (Zh K) tK T.n_len Boot.«len»<|XZ (pv 2) XX)<|XZ (pv 3) XX)
   (XQ (Ze 6<|Xv (Ol T) hr T.qZC Zr<|XZ (pv 5) XX)
   (XQ (Wk (PW.pt<|Pz (Zl SQ (pv 6) (Xv (fW T) hr T.qZV Zr<|XZ (pv 2) XX)<|Zx _)<|EV<|Zl kY (Xv (Ao T) hr T.qZo Zr<|XZ (pv 5)<|XZ (pv 4) XX) UM<|Zx _)
   (XI<|Zm UM)
   Zp)
   (XQ (Ze 7<|Xv (HL T) hr T.qZn Zr<|XZ (pv 5)<|XZ (pv 4) XX)
   (XQ (Wk (Zl SQ (Zf (Zh K) tK T.n_len Boot.«len»<|XZ (pv 7) XX) (Zv ZZ (Zv VF (Zf (Zh K) tK T.n_len Boot.«len»<|XZ (pv 3) XX)<|Zf (Zh K) tK T.n_len Boot.«len»<|XZ (pv 2) XX) Zd)<|Zx _)
   (XI<|Zm UM)
   Zp)
   (XI<|Zm<|sS (Rg Pq (Zf (Zh K) tK T.n_len Boot.«len»<|XZ (pv 7) XX) Zd<|Zx _)<|JR<|Xv (fH T hB) hr T.qZX Zr<|XZ (pv 5)<|XZ (pv 4)<|XZ (pv 1)<|XZ (pv 6) XX))))))))),?_⟩
  exists _,Z,a,ns,Z,hS,_,_,Z,Z,⟨tI,tI⟩,_,_,Z,Z,(by change(0:Int)<10^Int.j 60;decide),?_;show nm ?_;dsimp only[List.set];generalize ns.sum%10^Int.j 60=cc at *;exists _,Z,cc,Z,λbA xs Bs H1 s1 FO fo b3 b7 h4 Wa=>?_;show nm ?_;dsimp only[List.set];exists _,Z,_,Z,bA,cc,xs,Bs,Z,SqL.of FO,fo,b3,b7,h4,Wa,λr l u ys zs f ps H2 s2 hr hl hP hu hZ R=>?_;exists r,_,Z,SqT.of hr,Z,_,_,Z,_,_,Z,Z,?_;dsimp only[List.set];let Wc:=R.len
  let Sw:=fo.1;let m28:Bs.D.f<=28:=by have:=ZT9 Bs h4;omega
  let mp:3<=Bs.D.f:=by
   have:=AR (f:=f) R.ne
   change 3<=_;let e:(Ia f Bs).f=(Bs.flatMap<|VX f).f+2:=rfl
   omega
  let hG:=Zw8 R S S;let hV:=jx R
  let hJ:=ZX2 R;let Se:=Zx8 R
  let yL:=s2 _ _ FO;exists _,Z,bA,xs,Z,.inl<|SqL.of yL,_,Z,λx dx nx Ru Ou=>?_;let v1:Same H2 (upd (upd H2 dx<|.own x) x<|.ins t.A_Web dx []):=ZD (XJ Ru) (by rwa[XR (YY Ou)])
  exists x,dx,Bs⁻¹,l,false,ys,ps,by rw[Sw];rfl,XS,λo=>?_,hP.Y v1,hG,λH3 hW k3=>{Z,?_}
  .show SqL.of (by rwa[XR (Za hl nx),XR<|Za hl nx,XR (Za hl Ru)])
  let s3:Same H2 H3:=λb o e=>k3 b o (v1 b o e) (Za e nx);let NA:=s3 _ _ hl
  let fk:=s3 _ _ hu;let HM:Bears (Xd H3) zs (VM f Bs):=hZ.imp λ_ _ zz=>by let(a,e,h):=zz;exists a,e,s3 _ _ h
  let yK:=s3 _ _ yL;let fj:Bears (Xd H3) xs Bs:=fo.imp λ_ _ zz=>by let(a,e,h):=zz;exists a,e,s3 _ _<|s2 _ _ h
  let Qa:=hP.1;let uZ:VT (Bs.f:Int).j ps (VM f Bs):=by rwa[Yf]
  let fi:(VM f Bs).f<=1000:=by rw[hV.1];omega
  let fh:∀r∈VM f Bs,r.f<64:=λr hr=>by
   let(j,hj):=Yz hr;rw[(hV.2 j r hj).length_eq]
   have:=lG (ps:=ps) (p:=(j:Int)) ps.f
   change(UR ps j ps.f).f<64;omega
  let fw:∀{Hx:Hp},Same H3 Hx->Bears (Xd Hx) zs (VM f Bs):=λ{Hx} s=>HM.imp λ_ _ zz=>by let(a,e,h):=zz;exists a,e,s _ _ h
  let fr:∀{Hx:Hp},Same H3 Hx->Bears (RowV K Hx) zs (VM f Bs):=λ{Hx} s=>HM.imp λ_ _ zz=>by let(a,e,h):=zz;exists a,false,e,SqL.of<|s _ _ h
  let gD:∀{Rd:Ab},RdW ps (VM f Bs) Rd->Flat Bs.f ps Rd:=λ{Rd} h=>Se.flat hV (λe=>by have:ps.f=0:=(XG List.f e);omega) h;show nm ?_;dsimp only[List.set];exists _,Z,x,_,ps,Z,hW,hG,λmany H4 hc s4=>?_;show nm ?_;dsimp only[List.set];let fg:0<many:=by let(U,hU,_):=bX hG (NJ _) hJ;let(L,_,hm,rfl):=id hc;show Ro ((hm U).H hU)
  exists _,Z,_,Z,bA,xs,Bs,Z,SqL.of<|s4 _ _ yK,fj.imp (λ_ _ zz=>by let(a,e,h):=zz;exists a,e,s4 _ _ h),S,b7,h4,?_;exists Z,_,Z,?_;rw[Zz];show Lv (jo hG R hc) ?_;exists _,Z,_,Z,x,u,false,Bs⁻¹,ps,zs,VM f Bs,Z,hW.Y s4,hG,SqL.of<|s4 _ _ fk,fr s4,fi,fh,λ_ bb Rd H5 s5 hRd hb=>?_,λh=>absurd uZ h;let rfl:bb=true:=hb.H (gD hRd);exists true,true,Z,Z,_,Z,?_;show Lv Z ?_;change(_:Prop)
  show UH ?_;let FK:=s4.l s5
  exists _,Z,_,Z,x,u,false,Bs⁻¹,ps,zs,VM f Bs,Z,hW.Y FK,hG,SqL.of<|FK _ _ fk,fr FK,fi,fh,λ_ rA ws Rd2 H6 s6 VU yJ ff=>?_,λh=>absurd uZ h;show nm ?_;dsimp only[List.set];let Kv:=FK.l s6
  let hF:=gD yJ;let GA:ws.f=Rd2.f:=ff.rows.1
  let he:=hF.2;exists _,Z,rA,ws,Z,.inl<|SqL.of ff.tab,_,Z,l,ys,Z,.inl<|SqL.of<|Kv _ _ NA,_,Z,bA,xs,Z,.inl<|SqL.of<|Kv _ _ yK,_,_,Z,Z,_,_,Z,Z,Z,_,Z,?_;rw[Zz];show Lv S ?_;change(_:Prop)
  show UH ?_;exists _,Z,rA,ws,Z,.inl<|SqL.of ff.tab,_,_,Z,Z,_,Z,?_;show WA (λh=>?_) (λh=>?_)
  .show k _
  .exists _,Z,_,Z,_,Z,_,Z,x,u,cc,Bs.f,many,ps,zs,VM f Bs,Rd2,Z,hW.Y Kv,hG,SqL.of<|Kv _ _ fk,fw Kv,fi,fh,hV,yJ,hF,S,S,hc,fg,fG.Y<|s1.l<|s2.l<|s3.l Kv,λH'=>k H'
end
end My
namespace My
open PySem L2
def Qt{K:Ad}{f:Addr}{fd:FuncData}(F:Fun K "law" "law" sZY f fd)(s:Shared)(u:Value):BindsTo s fd {[u],[]} [("script",u)]:=by let(oc,od,kV,doc,pm,an,XD,ct,TQ,rfl,lk,SS):=F.ex;show .of_eq rfl
end My
end
open PySem PySem.W PyProof.Rows
set_option maxRecDepth 100000 in
set_option maxHeartbeats 0 in
theorem PySem.Challenge.cw_spanrow_k97_whole_rings_of_bundles_holds : PySem.Challenge.rw_spanrow_k97_whole_rings_of_bundles.Holds := by
 w_on;o_law;k_head;(case hw=>w_witness2)
 k_fill
 refine L2.OB (l:=PySem.Challenge.rw_spanrow_k97_whole_rings_of_bundles) (n:=63) (k:=47) (x:="script") (CX:=L2.Xo) (sp:=λK=>My.spZY K 436) (c:=438) (Pt:=436) rfl (by decide) rfl ⟨rfl,by decide,by decide⟩ (λw h Y=>⟨PySem.W.km_in_of Y,PySem.W.km_tabs_of Y 436 (XF.mpr rfl)⟩) ?C ?P ?F (λ_ H a ns hl hO hS=>⟨a,ns,rfl,hS,hl,⟨#[],hO.1,trivial,.inl rfl⟩,λ_=>rfl⟩) (λ_ _ _ _ z=>z)
 case C=>intro w;kernel_rfl
 case P=>intro w;kernel_rfl
 case F =>
  intro w mg fa h KX G DX
  let f x n:=My.FQ (L2.Lz KX) mg x (My.top n)
  obtain⟨⟨aZ0,dZ0,qZ0⟩,⟨aZ1,dZ1,qZ1⟩,⟨aZ3,dZ3,qZ3⟩,⟨aZ4,dZ4,qZ4⟩,⟨aZ5,dZ5,qZ5⟩,⟨aZ6,dZ6,qZ6⟩,⟨aZ7,dZ7,qZ7⟩,⟨aZ8,dZ8,qZ8⟩,⟨aZ9,dZ9,qZ9⟩,⟨aZa,dZa,qZa⟩,⟨aZb,dZb,qZb⟩,⟨aZc,dZc,qZc⟩,⟨aZd,dZd,qZd⟩,⟨aZe,dZe,qZe⟩,⟨aZf,dZf,qZf⟩,⟨aZg,dZg,qZg⟩,⟨aZh,dZh,qZh⟩,⟨aZi,dZi,qZi⟩,⟨aZj,dZj,qZj⟩,⟨aZk,dZk,qZk⟩,⟨aZl,dZl,qZl⟩,⟨aZm,dZm,qZm⟩,⟨aZn,dZn,qZn⟩,⟨aZo,dZo,qZo⟩,⟨aZp,dZp,qZp⟩,⟨aZq,dZq,qZq⟩,⟨aZr,dZr,qZr⟩,⟨aZs,dZs,qZs⟩,⟨aZt,dZt,qZt⟩,⟨aZu,dZu,qZu⟩,⟨aZv,dZv,qZv⟩,⟨aZw,dZw,qZw⟩,⟨aZx,dZx,qZx⟩,⟨aZy,dZy,qZy⟩,⟨aZz,dZz,qZz⟩,⟨aZA,dZA,qZA⟩,⟨aZB,dZB,qZB⟩,⟨aZC,dZC,qZC⟩,⟨aZD,dZD,qZD⟩,⟨aZE,dZE,qZE⟩,⟨aZF,dZF,qZF⟩,⟨aZG,dZG,qZG⟩,⟨aZH,dZH,qZH⟩,⟨aZJ,dZJ,qZJ⟩,⟨aZK,dZK,qZK⟩,⟨aZL,dZL,qZL⟩,⟨aZM,dZM,qZM⟩,⟨aZN,dZN,qZN⟩,⟨aZO,dZO,qZO⟩,⟨aZP,dZP,qZP⟩,⟨aZQ,dZQ,qZQ⟩,⟨aZR,dZR,qZR⟩,⟨aZS,dZS,qZS⟩,⟨aZT,dZT,qZT⟩,⟨aZU,dZU,qZU⟩,⟨aZV,dZV,qZV⟩,⟨aZW,dZW,qZW⟩,⟨aZX,dZX,qZX⟩,⟨aZY,dZY,qZY⟩⟩:f "is_tie" 16 ["web","number"]/\f "refuse_bad_web" 15 ["places","ties"]/\f "all_ties" 17 ["web"]/\f "ties_beside" 18 ["web","ties"]/\f "ties_without" 19 ["ties","left_out"]/\f "is_set" 20 ["web","ties"]/\f "made_set" 21 ["web","ties"]/\f "merged_marks" 22 ["web","marks","ties"]/\f "piece_marks" 23 ["web","ties"]/\f "pieces_of" 24 ["web","ties"]/\f "is_joined" 25 ["web","ties"]/\f "refuse_parted" 26 ["web"]/\f "is_tree" 28 ["web","ties"]/\f "refuse_no_tree" 29 ["web","tree"]/\f "grown_tree" 30 ["web","inside","order"]/\f "tree_cut" 31 ["web","tree","tie"]/\f "ring_of" 32 ["web","tree","tie"]/\f "darts_away" 34 ["web"]/\f "refuse_bad_turns" 35 ["web","turns"]/\f "back_dart" 36 ["dart"]/\f "darts_behind" 37 ["turns"]/\f "round_from" 38 ["behind","start"]/\f "rounds_of" 39 ["web","turns"]/\f "lies_flat" 40 ["web","turns"]/\f "round_numbers" 41 ["rounds"]/\f "other_web" 42 ["web","turns"]/\f "left_of" 43 ["web","tree"]/\f "refuse_not_square" 45 ["table"]/\f "row_taken_off" 46 ["row","pivot","last"]/\f "first_with_some" 47 ["rows"]/\f "determinant" 48 ["table"]/\f "row_without" 49 ["row","number"]/\f "table_without" 50 ["table","number"]/\f "common_divisor" 51 ["one","other"]/\f "fraction" 52 ["top","bottom"]/\f "weighted_table" 54 ["web","weights"]/\f "pull_table" 55 ["web"]/\f "tree_count" 56 ["web"]/\f "part_count" 57 ["web","inside","outside"]/\f "least_in" 59 ["web","inside","outside"]/\f "refuse_below_nought" 60 ["number"]/\f "end_pieces" 62 ["web","marks","tie"]/\f "open_ties" 63 ["web","marks","gone"]/\f "whole_part" 65 ["web"]/\f "half_without" 66 ["part"]/\f "half_with" 67 ["part"]/\f "part_size" 68 ["part"]/\f "trees_with_tie" 69 ["part","into"]/\f "undivided_row" 70 ["part"]/\f "trees_between" 71 ["part","size","start","stop"]/\f "row_from" 72 ["web","number","most"]/\f "row_at" 73 ["web","number"]/\f "share_of" 75 ["web","ties"]/\f "_law_mixed" 78 ["cell","k"]/\f "_law_bundles" 79 ["cell"]/\f "_law_due" 81 ["bundles"]/\f "_law_made" 80 ["bundles","cell"]/\f "_law_other_good" 82 ["web","turns","cell","many"]/\My.FQ (L2.Lz KX) mg "law" My.sZY ["script"]:=by
   dsimp only [L2.Lz,f]
   and_intros
   all_goals (refine' My.Bb KX G ?a ?l ?c ?k ?b;(case a | l | c | k=>k_is);(case b=>first | exact λ_ _ _ _ _ _=>My.un1 λ_=>rfl | exact λ_ _ _ _ _ _=>My.qF λ_ _=>rfl | exact λ_ _ _ _ _ _=>My.un3 λ_ _ _=>rfl | exact λ_ _ _ _ _ _=>My.un4 λ_ _ _ _=>rfl))
  have yH:My.cY (L2.Lz KX) mg "Web" "Web.__init__" My.sZ2 ["places","ties"]:=by
   dsimp only [L2.Lz];refine' My.DK KX G ?aC ?a ?i ?l ?c ?k ?pg ?hd ?po ?sa ?mk ?kc ?na
   (case aC | a | i | l | c | k | pg | hd | po | sa | mk | kc=>k_is)
   (case na=>(intro f hf;simp only [Yg,um,or_false]at hf;rcases hf with rfl | rfl <;> k_is))
  have Hh:My.Bm (L2.Lz KX) mg "Part" "Part.__init__" My.sZI ["web","kept","shut","lead","least","incoming","further"] 436:=by
   dsimp only [L2.Lz];refine' My.Ij KX G ?aC ?a ?i ?l ?c ?k ?pg ?hd ?po ?sa ?mk ?kc ?na ?z
   (case aC | a | i | l | c | k | pg | hd | po | sa | mk | kc=>k_is)
   (case na=>(intro f hf;simp only [Yg,um,or_false]at hf;rcases hf with rfl | rfl | rfl | rfl | rfl | rfl | rfl <;> k_is))
   (case z=>kernel_rfl)
  have h_MOST_PLACES:∃ tk,mg "MOST_PLACES"=some (.int 14 tk):=by
   refine' My.Tp KX G ?a ?b
   (case a=>k_is);(case b=>exact⟨_,rfl⟩)
  have h_MOST_TIES:∃ tk,mg "MOST_TIES"=some (.int 30 tk):=by
   refine' My.Tp KX G ?a ?b
   (case a=>k_is);(case b=>exact⟨_,rfl⟩)
  obtain⟨yG,h_enumerate,yE,Hg,yD,yC,LR,h_reversed,yB,Oc,yA,LQ,yy⟩:mg "abs"=none/\mg "enumerate"=none/\mg "len"=none/\mg "list"=none/\mg "max"=none/\mg "min"=none/\mg "range"=none/\mg "reversed"=none/\mg "set"=none/\mg "sorted"=none/\mg "sum"=none/\mg "tuple"=none/\mg "zip"=none:=by and_intros <;> refine' PySem.W.mg_none_of KX G ?_ <;> k_is
  obtain⟨A_Web,aZ2,dZ2,c_Web,fZ2,cl_Web,k_Web,Ob⟩:=yH;obtain⟨A_Part,aZI,dZI,yx,c_Part,fZI,cl_Part,k_Part,Wv,yw,yt⟩:=Hh;have T:My.Txt (L2.Lz KX) mg ⟨aZ0,aZ1,aZ2,aZ3,aZ4,aZ5,aZ6,aZ7,aZ8,aZ9,aZa,aZb,aZc,aZd,aZe,aZf,aZg,aZh,aZi,aZj,aZk,aZl,aZm,aZn,aZo,aZp,aZq,aZr,aZs,aZt,aZu,aZv,aZw,aZx,aZy,aZz,aZA,aZB,aZC,aZD,aZE,aZF,aZG,aZH,aZI,aZJ,aZK,aZL,aZM,aZN,aZO,aZP,aZQ,aZR,aZS,aZT,aZU,aZV,aZW,aZX,aZY,A_Web,A_Part,dZ0,dZ1,dZ2,dZ3,dZ4,dZ5,dZ6,dZ7,dZ8,dZ9,dZa,dZb,dZc,dZd,dZe,dZf,dZg,dZh,dZi,dZj,dZk,dZl,dZm,dZn,dZo,dZp,dZq,dZr,dZs,dZt,dZu,dZv,dZw,dZx,dZy,dZz,dZA,dZB,dZC,dZD,dZE,dZF,dZG,dZH,dZI,dZJ,dZK,dZL,dZM,dZN,dZO,dZP,dZQ,dZR,dZS,dZT,dZU,dZV,dZW,dZX,dZY⟩:=⟨⟨⟨⟨⟨⟨⟨qZ0,qZ1⟩,fZ2⟩,⟨⟨fZ2.binds (λ_ _ _ _ _ _=>My.un3 λ_ _ _=>rfl),qZ3⟩,qZ4⟩⟩,⟨⟨⟨qZ5,qZ6⟩,qZ7⟩,⟨⟨qZ8,qZ9⟩,qZa⟩⟩⟩,⟨⟨⟨⟨qZb,qZc⟩,qZd⟩,⟨⟨qZe,qZf⟩,qZg⟩⟩,⟨⟨⟨qZh,qZi⟩,qZj⟩,⟨⟨qZk,qZl⟩,qZm⟩⟩⟩⟩,⟨⟨⟨⟨⟨qZn,qZo⟩,qZp⟩,⟨⟨qZq,qZr⟩,qZs⟩⟩,⟨⟨⟨qZt,qZu⟩,qZv⟩,⟨⟨qZw,qZx⟩,qZy⟩⟩⟩,⟨⟨⟨⟨qZz,qZA⟩,qZB⟩,⟨⟨qZC,qZD⟩,qZE⟩⟩,⟨⟨⟨qZF,qZG⟩,qZH⟩,⟨fZI,fZI.binds (λ_ _ _ _ _ _=>My.un5 λ_ _ _ _ _=>rfl)⟩⟩⟩⟩⟩,⟨⟨⟨⟨⟨⟨qZJ,qZK⟩,qZL⟩,⟨⟨qZM,qZN⟩,qZO⟩⟩,⟨⟨⟨qZP,qZQ⟩,qZR⟩,⟨⟨qZS,qZT⟩,qZU⟩⟩⟩,⟨⟨⟨⟨qZV,qZW⟩,qZX⟩,⟨⟨qZY,c_Web⟩,cl_Web⟩⟩,⟨⟨⟨k_Web,Ob _ (by simp)⟩,Ob _ (by simp)⟩,⟨c_Part,cl_Part⟩⟩⟩⟩,⟨⟨⟨⟨⟨k_Part,Wv _ (by simp)⟩,Wv _ (by simp)⟩,⟨⟨Wv _ (by simp),Wv _ (by simp)⟩,Wv _ (by simp)⟩⟩,⟨⟨⟨Wv _ (by simp),Wv _ (by simp)⟩,h_MOST_PLACES⟩,⟨⟨h_MOST_TIES,yG⟩,h_enumerate⟩⟩⟩,⟨⟨⟨⟨yE,Hg⟩,yD⟩,⟨⟨yC,LR⟩,h_reversed⟩⟩,⟨⟨⟨yB,Oc⟩,yA⟩,⟨LQ,yy⟩⟩⟩⟩⟩⟩
  have e0:=DX.symm.trans qZY.mm;cases e0;exact⟨dZY,λs u=>My.Qt qZY.fn s u,λbase _ _ HB=>My.fq T ⟨yx,yw,yt,HB,by decide⟩⟩
#print axioms PySem.Challenge.cw_spanrow_k97_whole_rings_of_bundles_holds
