import PyProof.Rows.All
import Wide.All
import OpenK.AllK
import Wide.FinOn
import Lean
import PyProof.EqAt
import PyProof.EqKinds
import PyProof.TupleCall
import PySem.Challenge.RW_spanrow_k87_the_row_at_a_desk
set_option Elab.async false
set_option linter.all false
set_option bootstrap.genMatcherCode false
set_option genSizeOf false
set_option compiler.extract_closed false
set_option compiler.reuse false
set_option maxRecDepth 100000
section
def zN(t:Bool)(k:Lean.Name)(a:Array Lean.Syntax):(Lean.Syntax):=.node .none ((if t then `Lean.Parser.Tactic else `Lean.Parser.Term)++k) a
def zU(a:Array Lean.Syntax):(Lean.Syntax):=.node .none `null a
def zC:(Nat→Lean.Syntax→Lean.Syntax)
|0,s=>s
|n+1,s=>zN true `rcasesPatMed #[zU #[if s.isIdent then zN true `rcasesPat.one #[s] else if s[1].isMissing then zN true `rcasesPat.ignore #[s[0]] else zN true `rcasesPat.tuple #[s[0],zU ((if s.isOfKind `Lean.Parser.Term.tuple then #[s[1][0],s[1][1]]++s[1][2].getArgs else s[1].getArgs).map λx=>if x.isAtom then x else zN true `rcasesPatLo #[zC n x,zU #[]]),s[2]]]]
def zL(s:Lean.Syntax):(Lean.MacroM Lean.Syntax):=
 let d:=s[2][0]
 let p:=if d[0].isOfKind `Lean.Parser.Term.letId then d[0][0] else d[0]
 if d[1].getNumArgs != 0 then Lean.Macro.throwUnsupported else if p.isIdent&&p.getId != `rfl then pure (zN true `tacticHave__ #[s[0],s[1],s[2]]) else pure (zN true `obtain #[s[0],zU #[zC 9 p],zU d[2][0].getArgs,zU #[d[3],zU #[d[4]]]])
local macro_rules(kind:=Lean.Parser.Tactic.tacticLet__)|s=>zL s
local macro_rules(kind:=Lean.Parser.Tactic.show)|s=>pure (zN true `refine #[s[0],s[1]])
local macro_rules(kind:=Lean.Parser.Tactic.«tacticExists_,,»)|s=>pure (zN true `refine #[s[0],zN false `anonymousCtor #[s[0],s[1],s[0]]])
local macro_rules(kind:=Lean.Parser.Tactic.cases)|s=>if s[3].getNumArgs==0&&s[1][0][0].getNumArgs==2 then pure (.node .none `«tacticBy_cases_:_» #[s[0],zU #[s[1][0][0][0][0],s[1][0][0][1]],s[1][0][1]]) else Lean.Macro.throwUnsupported
local macro_rules(kind:=«term~~~_»)|s=>pure (zN false `proj #[s[1],s[0],Lean.mkIdent `heap.objs.size])
local macro_rules(kind:=coeNotation)|s=>pure (zN false `app #[zN false `dotIdent #[s[0],Lean.mkIdent `ref],zU #[s[1]]])
local macro_rules
|`($x⁻¹)=>`((($x).length:Int))
def zG:List (String×String):=[("f","length"),("j","toNat"),("l","trans"),("m","toList"),("o","size"),("r","toArray"),("C","heap"),("E","get?"),("G","map"),("H","Pairwise"),("M","ofString"),("Q","take"),("R","getD"),("S","mp"),("U","lookup"),("X","env"),("Y","same")]
def zF(s:String):(Option String):=zG.lookup s
def zJ:Lean.Name→Lean.Name
|.str p s=>.str (zJ p) ((zF s).getD s)
|n=>n
def zI:Lean.Name→Lean.Name
|.str p s=>if p.isAnonymous then .str p (([("A0","Int"),("A5","Nat"),("A6","List"),("A7","Addr"),("A8","none"),("A9","true"),("B0","false"),("B1","Value"),("B2","String"),("B3","Bool"),("B4","Array"),("B5","Expr"),("B6","Shared"),("B8","Stmt"),("B9","FuncData"),("C0","Str"),("C1","Scope")].lookup s).getD s) else .str (zI p) ((zF s).getD s)
|n=>n
def zR:Nat→Lean.Syntax→Option Lean.Syntax
|_,.ident i r n p=>if n.hasMacroScopes then none else let m:=zI n;if m==n then none else some (.ident i r m p)
|e+1,.node i k a=>if k== `Lean.Parser.Term.app then (zR e a[0]!).map λx=>.node i k (a.set! 0 x) else if k== `Lean.Parser.Term.proj then let f:Option Lean.Syntax:=if a[2]!.isIdent then let n:=a[2]!.getId;let m:=zJ n;if m==n then none else some (Lean.mkIdent m) else none
 match zR e a[0]!,f with
 |none,none=>none
 |x,f=>some (.node i k #[x.getD a[0]!,a[1]!,f.getD a[2]!])
 else none
|_,_=>none
def zS(s:Lean.Syntax):Lean.MacroM Lean.Syntax:=(zR 20 s).elim Lean.Macro.throwUnsupported pure
local macro_rules(kind:=ident)|s=>zS s
local macro_rules(kind:=Lean.Parser.Term.proj)|s=>zS s
local macro_rules(kind:=Lean.Parser.Term.app)|s=>zS s
local macro_rules(kind:=«term{_}»)|s=>pure (zN false `anonymousCtor #[s[0],s[1],s[2]])
local macro_rules|`(tactic|ext)=>`(tactic|simp_all)
set_option hygiene false in
local macro_rules|`(⋯)=>`(λXI A outer s H vs Q E hr h=>?_)
local macro_rules(kind:=coeFunNotation)|s=>pure (zN false `app #[Lean.mkIdent `some,zU #[s[1]]])
def zE(s:Lean.Syntax)(x:List Char):Lean.Syntax:=s.setArg 1 (s[1].setArg 1 (s[1][1].setArg 0 (Lean.mkIdent (.mkSimple ("tw"++(x.foldl (λn c=>n*57+c.toNat-if c<'a' then 48 else 54) 0).repr)))))
def zK(s:Lean.Syntax):Nat→List Char→Array Lean.Syntax→Array Lean.Syntax
|0,_,a=>a
|n+1,l,a=>zK s n (l.drop 11) (if l.isEmpty then a else a.push (zE s (l.take 11)))
def zH(s:Lean.Syntax)(k:Lean.Name):Bool:=s.isOfKind (`Lean.Parser.Command++k)
def zB(s:Lean.Syntax):Option Lean.Syntax:=
 let d:=s[1]
 if s.getPos?.isNone||zH d `theorem then none else
 let t:=d[2][1][0][1]
 let q:=zH d `definition
 let s:=if q&&!(t.isMissing||t.isOfKind `Lean.Parser.Term.paren) then s.setArg 1 (.node .none `Lean.Parser.Command.theorem #[d[0],d[1],.node .none `Lean.Parser.Command.declSig #[d[2][0],d[2][1][0]],d[3]]) else if q||zH d `abbrev||zH d `instance then s.setArg 0 (s[0].setArg 4 (zU #[.node .none `Lean.Parser.Command.noncomputable #[s[0]]])) else s
 let s:=s.rewriteBottomUp (·.setInfo .none)
 some (if d[1][0].getId==`twz then zU (zK s 999 (d[3][1].isStrLit?.getD "").toList #[]) else s)
set_option hygiene false in
def zD(s:Lean.Syntax):Lean.MacroM Lean.Syntax:=do
 let q<-`(def x(vs:List V)(H:Hp)(Q:VK)(_:XK):Prop:=0)
 let q:=q.raw[1][2]
 let d:=s[1]
 let s:=if d[2][1][0][1].isOfKind `Lean.Parser.Term.hole then s.setArg 1 (d.setArg 2 (q.setArg 0 (zU (d[2][0].getArgs++q[0].getArgs)))) else s
 (zB s).elim Lean.Macro.throwUnsupported pure
local macro_rules(kind:=Lean.Parser.Command.declaration)|s=>zD s
namespace PySem.W.Fast
def twz:="Qh3icI3HOEIAS>52LCh5iTI0fU:;MdA054XNKCHGP<YINCfO?YEK@jjDf32FVi=iX5O:C4?YjWT6VGOKcjbLKPm@4eQiTYE03EZgUj6?L2AL<HYU;G@a8G5kdQ5HQPkZb1iEHILVEj:cFnQ3b=Z><l90MMcSCQ:aDD5LIOA?BI;1a86=2Pg:Gd882Dl4i2KV3ZXMH=AL;KXOIUF98=nJ4jVB3Og??LcEE>QYUJCKRKDIIb1@HD09Q;HG8cO8c:3PY3FOCHSdf>7a1nJb;CBIX3KcjPh026:XG<fMH7DKJMVnDeP@e5H<Oe?LdQCEgmfA6dj;CWXil?GQRIH7jE5UhGdfV3Be<PTTePDHPNBTO2HXG9Ag=QkJZ@Pf5UXdFWV3F168PlZ0FEfV08DX6DALm0A??m@S?3n411JF>6kaF8QYBdMkRW?J8>@V:BMmeL7<D8m6@FfF?>7@i3LZmARf;kThU;dL=U@NZ?RH9han;j5@RA4?0U8TTI8b6@?7U9N@gIFHEXh4FgEUgH5he0=QLRIdITBR<@O12e8RlW@Fk8AHCiHO@bh5RK:DT204MjDT05K17M2gK1DHg>a4jT5UMVHmQW8PPZjZ>Hf5COilbRm15:<hMXj<eGVc@74ERN1kVCbdNOAfEXfQ>k<4H>QHKR87Tn0TM2cWbSFbMTUcP3gKnQYOkf=GE=:dR5hajWX2U73eWW5F4AXL<<l90AiDRDhb;a7C?K22kL=P@B7@5cDfHH;hFTD>6NB@;:kQGmORV3b8UdjJ9a?3CCCSh59IgHL6<kkiFEZZC=YD3C;c5GkSSjDChadYOEGTNgn@@n@;eY0@PQGkLRXjLmMACWc0kiZdC:8QiRQnT8WR6Nn>3JNG6kdb7Lml9XLET>a55CN<BE@dGhHORMSKXbcbn3hW2ca0J8Uf7lROGmhfP@3>mC7DE9A4X=IN5@FbRYP8g:1CD45RPCkQX<JMdBNPG0bKJi6KV2i6H@JN=EHIW126CZDD;;9SgM9@dB;>7RLn=TbO5HdUJ>gChGC4<SeTSlTjeTn3ad8iYTaD=TVX1>85iF7MI286jVmAmOGD0D<DR6JTGAnEl5;Nf76E0ihOUSlHARX4fSa>;Lk2Cdb6OYCZP5DP7Z@T@Zl?GDdLBNG5ZiL7gOfh3CHYU6;RnTgKF?dYZBGIG;j9b@MNTOaiD=R0j=?9R?<OEci7S699e5dEF6hEEekjjJaH10SYiJ0ZPLen=dPfSg52?BUQB?h5=65NUWHS0fhYZTM1Zk>:<RWnJF9SM=;?EOEIcAJ@6N@c5Se1WdKl?dF>KJ9FH=M2E64TITn@A4=TbZf><:GmjN>R11N2T4dMeb0DSR<Y7TPl6;JM>PJXGX4m2dC?HcJ6e;7mDC59UYlHTW3HY7WRWQGc?COICZj1CJNk?EXfD3J26@YLX>bd7J>7YB7<Bbl=E4=<@4JT5BW7men@1ZcAY0ZYPW:i=aMikLJiOjKZ<B1BJ79ja=W@UW63;j2P1MG0Kag?jGBFS93<Akh=0D;KT9@=?c@f6Akf94l@5D<>UMi?SDkgjXd<1UFSZa;h3;DJDE1aUi>b4Pj;7ICFPK0KEaDQ1mT<eO1jAFPLnaBhlL?F?5PV9VJma:KBf5IK:DUORj@GWY9HNYX27Vcn@M6mWmPQeRR7GWNTLe:lcIJC<h4VX:=YDYK066UdHDNnKVHYDQHVXZnL92FJD9R9hN8JA>RjTPIcNX@jRE<c4g=j<h<e4k<Q3HXZ1k=k87bS:>UTZC?S;XW14nd:a0@FgCPYHG8iT80eOCAFiQ5Pl6?9B87Rc3b82kgXMl7e88cVJJ::HZJ43GR?K8bGNkh8jBc9BgV=46ZkS0A5gW??M9R4@RZe8FPi60bfKFUZkB=;kmBVY>Fa6aA8U;9MliU=Y6GUaVOD0f34j186:PV5QkCf6<2BA?hGFWQiSEgFCEL7n2XnXif6lmSe76PcV1eNPTV<dVPE=1@:N7KBfYAU@bI>fGhMfib06FE4cIe3?RhQJaLQ9<=gNJLnd6W6TgiId>V568ljQabnc@VMNMNYU;K<<jjkHAIJMQ<S82B?QYCbNjMhBbHIn5OE@XjmnV<TVMnI8la6W?OAEM0k0gnb3klMf9gManB0T4e;5:6d<bXOgc3d?3>bk;Y<KZAbDJmAJORB:2YYX<ZN;jL:ja8eiUYMPY<SLFNSKLbMMWAcPb@H4@FKVCea?MnFhbHd;W00jJ5nnY7nkZ>72?jRF3i>G6EDVZ3IP28gGI5m3H@KHKZ0Q9IScfS44Ecld>7TeN3?fTA9A76E@h8FacPEhaaNWURfJeQ707gaTlcX@a46cISk3EiJ603GE50Bl;KaJ?b:RQCi7f?3ecfNe4A5cY@ZIHUOgdGKW=AGkI2<P1Y<fi8fKU:SkVQdZcJJXch5aIS?>>VHKUN1M5Y;@cF62a@KQgSdZY8B81TYDdJkeV;i0lNH8=3TP8UNUn=1PXbLlWA8dJ3?KVNak7jFAUk6AkeNGSiPa0R09;>8d>CQUlaWKL=9X:8GhIB@HYV?b3bUUAYckCbkJD1cI2iCUUICSmENYZCHY>d14;8UeVB70Qeh;<06QCTZFQ9PAfMkBdnO@TDjXSdiTgDR9mFYb?;ZKIXUId2CInle=:UKJ@UNflITmeZ;Kd=bLMfk?8ignQb90S<:RQ8bAf4Z3=3gE>JdPX3COYSWQLBl7c3C03aBIjOZMJ4UXlfVNGj3?QMII<mgEJJ8:SJl4PNK480DMN5Da?WGP3=AHj9:HAXiaEX7n5gfPnMG65ECHd@TOT>MJ@aJQ7UVaUU08UB<HhK5T3OLVP=1UOgF6K:=Ojc2j1NSfHe?i8:Il<DifOKLK8=j=l>4=U30E9a=D1LSIJ;4lJCIk4FEJAcLV:lA?Cfn5BU92ddk<D5mB4:E?mILdJ2O64bWO:=nC;ZEcP9iKKdH3Tf7E3:4d=CUTQ1IR2XQa4g9VBC<7K=Ej>4?L;d5X3Qb<;41Cad7KQEUQZb2@6Z1bSRZ90?I9dT=OH?MR=7IY@DFMmZ5=4HYK7;=49L;ca7TN5>JE@ZFNmX=QZ14kTmSOCW4?<Nm=QACe9:mCbM5DgN8Kj>n7bG:S:kWVg<dBZVJOmR3am=CX:L7dj?THX;>>f:7Qf<67Y9A08R8X4f<F=h8KXXeB01TM<emZ0ZW3=jMOgOlKDZ6=e8GY;HQa5:Sb0QLd?C4AV;0CJ@;>;1gVaUEW7RCSD?N1cAGIAYii;LTNA1F39defVM@N=FidYPlZPM:L@EkWGh68B3Z25G=SgbWSB?d>>64:e@66Q2W1hZ9e7=@dV?5hB@7Li9nG4;ffd;3OCZlleaIc4DT82hST0ZFIVBOmPTC@HEVXmRAAH4iLW34l6dTQmaehUbLA>3W?JcN9W4GbWJf:h1>33Oj6fdm4E@XiKQMQgGTK7?QTV5HFQDBVGAEgKcSRgU51iNgWl5G@XD4e30UHlAKXBmZBlnc8=kQj0>0TgH76ZUd9bX>F?hlVX5DKUiCHQ?T<K>L?F6S1CZ@>YCdKUadb@H8Vm6NXAg0?L0G5E4L?h0JhW10N4hQKnTXbCQ94G896Dam@ZdD7j65LVa5l@OecBLAdD@;0fF4iBUack=cVC41AiYXGU:5nKDhPP7XlC1F7:3>KSUKUNMe1JQgKbQ3d@=dF00IcmNGS>kBVU1HJ?DcRmAVQePLCijedEmk1=FdEPgK=ON1nPbQQHeh983N8hUjU==A7c9N2m;g4WTM5FQLF9@E17l60jJNUAKdDTTjC2R;HL3GIMbe6LL<mO5mLVKf<93UQ8cOaN=1Fb3khaKkRJTD:NiFi3S??DhHQKKRbnG:h7Pdnb5aOVbA9YjZ@dbV2WlBUb>QLL:?EB31G2CGIB@YaCmPKRPhg4WINRK4JRLhBHiIQF7C4UJk?84;AC2:NR9>01LGH7TQaP9g:>PWP2TSiR9;XFiM4b>2K4fX@LXY3LYhUTO;e4llh3>PmSfBCB@M@ea7L9CePjS=Ndd7Wgn0J8>=mJR5JNO;=a=WgmS3BZcU>6RInnJFFFc4XOkRfnOQc3kRgmUE3?0cDOF7cU;ChIffT6lL0S@?QZHVTV;9hLJ<?IPNgkbG>CKm;6@4?X55clKLa0nh;;BOQGGR:EAKaa712hna6em=lFQWVhVjA6eS@0eL4?l>4GcRc0L0Tj5m:i5P>MeFW2@@?S<BIO=:;jEkfIUDJ;gJ20Y8PaHiWURIWjdVc8HFLJd@H41G80@<CnFVgY=@j;MQI1O0<Km0b3KeL5jLd4@QS>mNOYJ7;B@f35XFYn:>F9X6iGd1ICiG4g20bMkBXMbB5UkH7?f<Yc1>h20:ibT:=gi83BMkAgfEeN1PhTIgh7UF91Jgk:VSW:EFXMKdV5bfCMRF;JMMhPT2eaO1Z:1N8RVRbehNRakYPNQicaOi=191m3E5c6YfXCnQUg:eQTD4K2Z>dQl?T?UNCh@AYJ6=2J4;4Jf8dlF:>W<md76D9iOY04LOWOnaHJNKCB6R7eaFeODZ:5LaOf<C4>C2P2e:OHl0aUg4WQ8=c@gJ<4YAZV:CFSFD0=?5m4lNnXNUYle7446HaWDOQ7L@5:Pa;TdF2nVNY1T2DI;SYnjLQ=0iJQk6H;CfHf2En<lELT@Jb5:XWkn<3N@mKY2nh>XMcEKVEjaYDg;FP@fXmh4;1@?7mGHlnmhHf3Q8HBlcUFeN5933em2WK11:?G@71?IIN>NG5kDh?AO0bMl9GeV@;jVVEfmdFAblebNmbO8<X2hUKkNG>c;gd6f=kWE39OJ3BA20ONKLF1S1eK1M=IiDmI42i4;68D1G?63GD4BkBc9YHdU:>EOgTA7eDRHY:KV1hlkJAkeSYEQeX16C?DXRcZME;dBRKQeRLLF=BJ1Y20aK5X5OOjMMgTbUWlK9bN3j4f6IR5OK4cULae=NS;:W<be78:E3flE5b4En7V8eBBHLUfm0Za51Zdh55OW:T3GmSHEhQgmcE5VUALE;YhDR0WKnfeaAkUab>fW4T?1YhmYJdj;OD4EOlJbJd@WImRBSj3c<GBACSb7TmNNJ:T1M<O6iefcNSRDUe:F=EM:9dlV76n9llQLI5?1HPS0YQ;<40=m<<=IUldSf:jcel6fT7Y1eOiBZPfU25Z:ge7lJU=hKdBFTJmcTnnf;BlJS<mM@43kNa1fd9LdA2J6d0YVS;@50:<Z<chJ3c5Zgh?LROCB6<8E0ZV0Zb:j?X>:nNJ6NWIQXSILnk462lXDf3R=gITAkP42:HdMJJ9:OiS08IaJDdB0:Pd:39Yc4S<DH7fVj?d4=FGGl0g?<SWIf3LM1LI5XSJCEeL73XFdQaUceRIFa=4PWV?J:?cmLDaFKIIegVd1AO2M70GKITLnPm@K@ka27RdFjgA7<d;j7mA?SJF;ieI5SJj=Qd=W;ZNbIHhG6Y<OODKFhFSXmL7dDa;8dMg?i?93N4YQ0O@15NhTM8kPV?ZUd>T=FcNHbENFG5fYTKbmM;UZXFh8LX=kNO=>EETiVjDQg<O5j2CXKPN3HD:g2IEb6ch7cT::31fMALUkFb:ijSY8AUQEE=Q=G390MnD1gHUEKL>:g@IB;KPjeT1E@E>TM1T6fj5?4X3HeFZT;58C4SefD>IOQeCeb05QZNNHcPSEBGh?he@YLRi0U2B5>WUFcOk3f97OaP5AiV1RR2haHl=lTbZY6C;E9UNNa:GS8D12;>Rcg>O<ea:h0ZCAeleSZd1<H3VjFCKg4mGh0<MABYGK:1mEj7RaKFKbZL@XZdbEF9On65ek285F4k0ggSJMk0=PB0@IfI4KQ=2fJFdgdJHG9aETLfEm44:e:>gcX>iXJB4Q>c:R<<Jk@3bK@gedTkTURg2TXXTQKIIP=Qn:6Pl3MhP1jkBNk=AVZGc<QIRRfKPOFTIRLPFhWYaCG3PP9ahTLL=IK6JKXlkZl<9X@H20YUbn:YHLNm0J0Y;8RScBAO@a;b7iU@3:<OYQE6kmWPJdE4m0Zke5C:3S0B1Y4LN?4enD3PVXRWDe0emeFMgRXEakCiGYL1iXN?eZISLS=Bi:9gR:bEJ6J;ZE>:hn6IDe:hlk:c4YClG>1MVM6mK<RlffaR5gH<f0ekmDPQ1=@e2BACU4HRmhXadd2TO<Lfg3j6gg2nnS20O6IJFnmChZW2T?df;<@QEMIKdI2XQ6;ENCi6TnnbH:>JCLXZ:D6G9P9?k50WX:lZHW7=U=Ghle3Znfmb6QWb@7>IdJ9V7;aG9Aacl4:VcN:Eneb3SJQUS8N99Zb>YT7lemESLnE7=FHJnB:LJn8c0c4JW="
end PySem.W.Fast
def Z{α:Sort _}{a:α}:a=a:=rfl
abbrev Aa:=A6 (A0×A0)
abbrev Ab:=A6 (A6 A0)
abbrev Ac:=A6 A0
abbrev Ad:=PySem.W.Frag
abbrev Ae:=PySem.Value->PySem.Shared->Prop
abbrev Af:=PySem.Str->Option PySem.Value
abbrev Ag:=A6 PySem.Value
def J{p:Prop}(h:p:=by lia):p:=h
def B{p:Prop}(h:p:=by decide +kernel):p:=h
def Ep{p:Prop}(h:p:=by decide):p:=h
def Eo{p:Prop}(h:p:=by simp):p:=h
def rF{p:Prop}(h:p:=by omega):p:=h
def D{p:Prop}(h:p:=by grind):p:=h
def rC{p:Prop}(h:p:=by rfl):p:=h
def rG{p:Prop}(h:p:=by kernel_rfl):p:=h
def Xx:=@List.getElem?_eq_some_iff
def Xv:=@List.getElem?_eq_getElem
def XU:=@PySem.wpAny_bind
def Xo:=@List.mem_of_getElem?
def Xf:=@PySem.Heap.get?_push_of_some
def Xd:=@List.mem_singleton
def Xr:=@List.length_map
def XG:=@Nat.le_refl
def Xa:=@List.length_append
def Xn:=@List.mem_append
def Ya:=@List.mem_cons_self
def Yb:=@List.getD_eq_getElem?_getD
def Yc:=@List.mem_append_right
def Qd:=@Nat.zero_le
def Ye:=@List.mem_filter
def Yf:=@List.mem_cons_of_mem
def Yg:=@PySem.wpAny_pure
def Yh:=@if_neg
def Yi:=@List.getElem?_map
def Yj:=@PySem.Heap.get?_push_size
def Yk:=@if_pos
def Yl:=@List.mem_append_left
def Ym:=@PySem.Heap.lt_size
def Yn:=@Option.some.inj
def Yo:=@List.mem_cons
def Yp:=@Nat.lt_of_lt_of_le
def Yq:=@Nat.le_trans
def Yr:=@Array.toList_append
def Ys:=@List.getElem?_append_right
def Yt:=@PyProof.Rows.wpS_bind
def Yu:=@List.getElem?_append_left
def Yv:=@List.take_length
def Yw:=@List.length_take
def Yx:=@Nat.ne_of_lt
def Yy:=@Classical.byContradiction
def Yz:=@of_decide_eq_true
def YA:=@decide_eq_true
def YB:=@List.take_succ
def YC:=@List.mem_map
def YD:=@Bool.false_ne_true
def YE:=@List.map_append
def YF:=@List.take_of_length_le
def YG:=@List.getElem?_of_mem
def YH:=@List.length_singleton
def YI:=@congrArg
def YJ:=@List.size_toArray
def YK:=@PySem.Heap.get?_update_other
def YL:=@PySem.F.plainAttrs_list
def YM:=@List.length_cons
def YN:=@Array.getElem?_toList
def YO:=@List.append_nil
def QP:=@Array.getD_eq_getD_getElem?
def YQ:=@PyProof.Rows.wpS_pure
def YR:=@PySem.PassesOwn.never
def YS:=@List.pairwise_cons
def YT:=@List.append_assoc
def YU:=@Array.length_toList
def YV:=@List.length_eq_zero_iff
def YW:=@List.length_filter_le
def YX:=@List.mem_range
def YY:=@List.length_reverse
def YZ:=@Ne.symm
def VR:=@decide_eq_true_iff
def VQ:=@List.nodup_append
def VP:=@Int.toNat_natCast
def TK:=@Array.getElem?_eq_getElem
def Vp:=@List.map_congr_left
def UZ:=@PySem.Heap.get?_update_self
def Ta:=@PyProof.Rows.callWith_type1
def VW:=@Nat.not_lt_zero
def SY:=@List.perm_ext_iff_of_nodup
def Vo:=@List.filter_append
def Lw:=@Array.perm_iff_toList_perm
def NP:=@List.length_replicate
def QV:=@List.length_drop
def SE:=@PySem.wpAny_holding
def Np:=@List.pairwise_append
def Lv:=@PySem.F.plainAttrs_str
def JZ:=@List.pairwise_iff_getElem
def Pn:=@PySem.wpAny_truthy_bool
def Qb:=@List.nodup_cons
def NO:=@PySem.wpAny_Call_Name_kw
def JY:=@PySem.F.type_list_append
def JX:=@PySem.F.slot_list_append
def NN:=@PySem.Obj.data_mapFields
def Pm:=@List.all_eq_true
def RB:=@Int.mul_assoc
def NM:=@Array.toList_push
def Qa:=@PySem.codeAny_builtin
def SX:=@Nat.le_succ
def Pl:=@Int.emod_nonneg
def GD:=@List.extract_eq_take_drop
def GC:=@List.drop_eq_getElem_cons
def Nn:=@List.pairwise_map
def Nm:=@List.length_range
def RA:=@Int.mul_zero
def JW:=@List.getElem?_zipWith
def Lu:=@PySem.Heap.SameBut.update
def Sm:=@Int.one_mul
def QU:=@getElem?_pos
def QT:=@Nat.zero_add
def QS:=@Nat.ne_of_gt
def Nl:=@List.mem_reverse
def QR:=@Int.add_zero
def NL:=@PyProof.Rows.KeyOrd.kle_trans
def Ls:=@List.filter_congr
def Nk:=@PySem.wpAny_call_entry
def JV:=@PySem.mem_of_lookup
def GB:=@PySem.F.slot_str_split
def Pk:=@Nat.lt_irrefl
def Pj:=@List.map_cons
def GA:=@List.drop_eq_nil_of_le
def Nj:=@Bool.eq_iff_iff
def Lr:=@PySem.wpAny_newObj_type
def Rz:=@PySem.sizeLine_eq
def Gz:=@List.take_append_drop
def Gy:=@List.getElem?_reverse
def SD:=@PySem.wpAny_mono
def JU:=@List.getElem?_drop
def JT:=@Int.emod_lt_of_pos
def QQ:=@PyProof.Rows.wpS_forRange
def Ni:=@Nat.mul_le_mul
def Gx:=@List.mem_of_mem_take
def Ph:=@Int.mul_comm
def QO:=@Array.toList_extract
def Sl:=@List.ext_getElem?
def Nh:=@List.eq_nil_iff_forall_not_mem
def SW:=@List.range_succ
def QN:=@List.length_zipWith
def QM:=@List.getElem_of_mem
def TJ:=@PyProof.Rows.KeyOrd.kle_refl
def Sk:=@decide_eq_decide
def Uz:=@Nat.sub_self
def Uy:=@Nat.le_of_lt
def ES:=@List.pairwise_lt_range
def JS:=@List.getElem_mem
def JR:=@List.cons_append
def NK:=@PyProof.Rows.listUpdate_at
def Ng:=@PySem.plainId_quiet
def JQ:=@decide_eq_false
def Gw:=@List.getElem?_inj
def Nf:=@Nat.succ.inj
def ER:=@List.mem_of_getLast?
def Nd:=@List.map_map
def Lq:=@PySem.Heap.size_push
def wL:=@List.getElem?_eq_none_iff
def PZ:=@PySem.wpAny_rule
def JP:=@PySem.wpAny_passesOwn
def Gv:=@Nat.lt_succ_self
def Gu:=@PySem.wpAny_setState_of
def Lp:=@PySem.wpAny_newList
def wK:=@List.pairwise_singleton
def EO:=@Nat.lt_of_le_of_lt
def EN:=@List.getElem?_take
def Lo:=@Int.zero_add
def EM:=@Bool.false_eq_true
def Gs:=@List.nil_append
def EL:=@PySem.wpAny_setEntries_of
def JO:=@PySem.wpAny_seqItems
def Gr:=@PySem.wpAny_askSetting
def Pg:=@PySem.call_meets
def JN:=@PySem.W.mg_of
def wJ:=@Option.map_eq_some_iff
def JM:=@List.cons.inj
def Gq:=@PySem.F.plain_min_loop
def EK:=@List.reverse_perm
def EJ:=@List.getElem?_set
def Gp:=@PyProof.Rows.KeyOrd.kle_of_klt
def wI:=@PySem.wpAny_callSpecial?_slot
def wH:=@PySem.F.type_str_join
def wG:=@PySem.F.slot_str_join
def wF:=@List.getElem?_eq_none
def Nc:=@PySem.wpAny_of_eq
def Ln:=@PySem.F.called_set
def EI:=@beq_self_eq_true
def wD:=@Nat.pow_le_pow_right
def EH:=@List.lookup_cons
def EG:=@List.any_eq_true
def JL:=@Int.pow_zero
def wC:=@PySem.Obj.isFreed_of_fields
def wB:=@List.map_eq_nil_iff
def wA:=@List.length_pos_iff
def Gn:=@PySem.wpAny_setField
def sW:=@List.exists_cons_of_ne_nil
def EF:=@Array.Perm.refl
def Sj:=@PyProof.Rows.wpS_mono
def Si:=@PySem.codeAny_mono
def Sh:=@Int.mul_add
def JK:=@PySem.F.type_list_extend
def JJ:=@PySem.F.slot_list_extend
def JI:=@PySem.F.args_tuple_add_2
def JH:=@PySem.F.args_str_split_2
def JG:=@Option.isSome_iff_exists
def Pf:=@List.drop_zero
def JF:=@List.Pairwise.imp_of_mem
def QL:=@Int.le_of_lt
def Gm:=@PySem.wpAny_attempt
def wz:=@Int.mul_left_comm
def sV:=@PySem.F.type_list_index
def sU:=@PySem.F.slot_list_index
def sT:=@PySem.F.entry_tuple_add
def sS:=@PySem.F.entry_str_split
def sR:=@Int.eq_ofNat_of_zero_le
def sQ:=@PySem.F.type_str_split
def sP:=@PySem.F.slot_tuple_add
def wy:=@Nat.le_of_not_lt
def EE:=@List.sum_cons
def wx:=@List.not_mem_nil
def sO:=@List.getElem?_eraseIdx
def sN:=@PySem.Calls.call_function_entry
def wu:=@Bool.and_eq_true
def Gk:=@Int.mul_one
def Gj:=@Int.le_refl
def ED:=@PySem.wpAny_tryCatch
def sM:=@List.pairwise_reverse
def wq:=@PySem.wpAny_pyIter_list
def wm:=@List.foldl_cons
def wk:=@List.find?_cons
def EC:=@Nat.mul_comm
def sL:=@List.length_eraseIdx
def EB:=@Int.zero_mul
def EA:=@Int.pow_succ
def Ez:=@Int.le_trans
def sJ:=@Array.toList_reverse
def Ey:=@PyProof.Rows.get?_update_seq
def wj:=@PySem.wpAny_isInstance
def sI:=@PySem.W.plainGet_of
def sH:=@PySem.NumText.digitsVal_snoc
def sG:=@List.reverse_append
def sF:=@List.length_take_le
def sE:=@List.filter_eq_self
def wg:=@List.drop_drop
def we:=@List.Perm.refl
def Gi:=@Int.not_lt
def wd:=@PySem.F.entry_min_loop
def Lm:=@PyProof.Rows.wpS_modify
def Gh:=@PySem.wpAny_letGo
def sD:=@PySem.W.callWith_K
def sC:=@Array.size_extract
def wc:=@PySem.wpAny_updateSeq
def wb:=@PySem.wpAny_execs_nil
def wa:=@List.map_take
def sv:=@bne_self_eq_false
def cP:=@PyProof.Rows.callWith_builtin1
def sr:=@Bool.eq_false_iff
def cO:=@List.drop_append_of_le_length
def vZ:=@PySem.wpAny_fieldsOf
def Gg:=@PySem.typeIs_str
def Pe:=@beq_iff_eq
def Ex:=@PySem.F.slot_dict_setdefault
def JE:=@Nat.succ_lt_succ
def Nb:=@Nat.sub_zero
def Ew:=@List.dropLast_concat_getLast
def Na:=@List.all_map
def JD:=@PySem.F.args_list_index_2
def JC:=@Array.toList_inj
def Pd:=@PyProof.Rows.firstMet_succ
def JB:=@beq_false_of_ne
def so:=@PySem.SeqAt.list_indexAt
def sj:=@PySem.SeqAt.EqAt.of_refs
def si:=@Nat.min_eq_left
def sf:=@Nat.le_antisymm
def r9:=@List.of_mem_zip
def r6:=@Int.min_eq_left
def rZ:=@PySem.F.entry_list_index
def rY:=@PySem.Code.quiet_builtin
def rX:=@PySem.Calls.spliced_cons
def cN:=@PySem.F.plain_extend_loop
def vY:=@Int.neg_mul
def cM:=@Int.eq_of_mul_eq_mul_left
def vX:=@Int.add_mul
def cL:=@Decidable.byContradiction
def vW:=@PyProof.Rows.entry_list_sort
def cK:=@PySem.F.slot_dict_values
def rW:=@PySem.Obj.cls_mapFields
def rV:=@List.take_zero
def cJ:=@List.mem_of_mem_eraseIdx
def cI:=@List.getElem?_take_of_lt
def rT:=@List.drop_take
def cH:=@List.Perm.eq_of_pairwise
def rS:=@Int.natAbs_mul
def rR:=@PySem.F.slot_list_index
def rQ:=@PySem.Calls.spliced_nil
def Eu:=@PyProof.Rows.listItems_at
def cG:=@PySem.F.plainAttrs_dict
def cF:=@Nat.add_sub_cancel_left
def cE:=@List.pairwise_mergeSort
def vV:=@PySem.wpAny_typeOf
def Et:=@PySem.wpAny_call
def rP:=@PySem.noFill_tuple_add
def vU:=@PySem.concat_meets
def cD:=@PySem.W.cellsFrom_some
def cC:=@List.merge_perm_append
def cB:=@List.length_pos_of_mem
def cz:=@List.length_eq_one_iff
def cy:=@List.getElem?_set_self
def rO:=@List.any_cons
def rN:=@PySem.Heap.size_update
def cx:=@Array.getElem?_eq_none
def Pc:=@PyProof.Rows.wpS_get
def vT:=@PyProof.Rows.slot_list_sort
def rM:=@PyProof.Rows.getElem?_mirror_all
def cv:=@PySem.W.methodCall_KW
def cu:=@List.set_append_right
def cq:=@List.getElem?_toArray
def cn:=@List.eq_nil_or_concat
def cm:=@List.concat_eq_append
def cg:=@List.Perm.append_left
def cf:=@List.Pairwise.sublist
/-! THE HAND cb,for ints,bools,texts,own classes,b9 and tuples (index,rL,in,append,pop ..),calls,loops. b8 it whole ahead of rK own text;what rK proof does not reach may be deleted. -/
namespace L2
open PySem PySem.Spec PyProof.Rows
abbrev Key:=Sum A0 C0
def QK:(Key->B1->B3)
 | .inl k,v=>Value.isInt k v
 | .inr x,v=>Value.isStrOf x v
def Zab(w:World):(Key->A0)
 | .inl k=>hashInt k
 | .inr x=>hashStr w x
def ZN:∀{k:Key}{v:B1},QK k v=A9->(∃i t,k=Sum.inl i/\v=Value.int i t)\/(∃x t,k=Sum.inr x/\v=Value.str x t)
 | .inl i,v,h=>by let(t,e):=Value.isInt_shape (k:=i) (v:=v) h;show .inl ⟨i,t,Z,e⟩
 | .inr x,v,h=>by let(t,e):=Value.isStrOf_shape (x:=x) (v:=v) h;show .inr ⟨x,t,Z,e⟩
def ZR9(i:A0)(t:Tok):QK (.inl i) (.int i t)=A9:=by simp[QK,Value.isInt]
def ZQ9(x:C0)(t:Tok):QK (.inr x) (.str x t)=A9:=by simp[QK,Value.isStrOf]
def Zac(a b:A0):decide ((Sum.inl a:Key)=Sum.inl b)=(a == b):=by lia
def Zad(a b:C0):decide ((Sum.inr a:Key)=Sum.inr b)=decide (a=b):=by
 ext
def QJ(prog:Program)(w:World):(PySem.KeyKind prog w Key) where
 is:=QK
 hash:=Zab w
 inj:=λv a b ha hb=>by
  rcases ZN ha with ⟨i,t,rfl,rfl⟩|⟨x,t,rfl,rfl⟩
  .rcases ZN hb with ⟨j,u,rfl,e⟩|⟨y,u,rfl,e⟩
   .ext
   ext
  .rcases ZN hb with ⟨j,u,rfl,e⟩|⟨y,u,rfl,e⟩
   .ext
   ext
 byValue:=λk v h=>by rcases ZN h with ⟨i,t,rfl,rfl⟩|⟨x,t,rfl,rfl⟩<;>rfl
 pyHash:=λhv h=>by
  rcases ZN hv with ⟨i,t,rfl,rfl⟩|⟨x,t,rfl,rfl⟩
  .show wpAny_pyHash_int h
  .show wpAny_pyHash_str h
 eqBool:=λhu hv h=>by
  rcases ZN hu with ⟨i,t,rfl,rfl⟩|⟨x,t,rfl,rfl⟩
  .rcases ZN hv with ⟨j,u,rfl,rfl⟩|⟨y,u,rfl,rfl⟩
   .rw[Zac]at h;show wpAny_eqBool_int h
   .show SeqAt.EqAt.int_str i t y u _ _ _ _ h
  .rcases ZN hv with ⟨j,u,rfl,rfl⟩|⟨y,u,rfl,rfl⟩
   .show SeqAt.EqAt.str_int x t j u _ _ _ _ h
   .rw[Zad]at h;show wpAny_eqBool_str h
 «strs»:=λk x t v h=>by
  rcases ZN h with ⟨i,u,rfl,e⟩|⟨y,u,rfl,e⟩
  .ext
  .injection e with e1 _;subst e1;cases v<;>rfl
def Zae(prog:Program)(w:World)(i:A0)(t:Tok):(QJ prog w).is (.inl i) (.int i t)=A9:=ZR9 i t
def ZZ6(prog:Program)(w:World)(x:C0)(t:Tok):(QJ prog w).is (.inr x) (.str x t)=A9:=ZQ9 x t
inductive V where
 |non|bl (b:B3)|int (i:A0)|str (x:C0)|byt (b:B4 UInt8)|flt (b:UInt64)|ref (a:A7)|ty (n:B2)
 deriving DecidableEq
def RelV:(V->B1->Prop)
 | .non,u=>u=Value.none
 | .bl b,u=>u=Value.bool b
 | .int i,u=>∃t,u=Value.int i t
 | .str x,u=>∃t,u=Value.str x t
 | .byt b,u=>∃t,u=Value.bytes b t
 | .flt b,u=>∃t,u=Value.float b t
 | .ref a,u=>u=Value.ref a
 | .ty n,u=>u=Value.type n
abbrev Vals:A6 V->A6 B1->Prop:=Paired RelV
def Vals.length{xs:A6 V}{us:Ag}(r:Vals xs us):xs.f=us.f:=Paired.f r
def Vals.get{xs:A6 V}{us:Ag}{i:A5}{x:V}(h:Vals xs us)(e:xs[i]?=⇑x):∃u,us[i]?=⇑u/\RelV x u:=by
 induction h generalizing i with
 |nil=>simp at e
 |cons r t ih=>
  cases i with
  |zero=>simp at e;subst e;exists _,Z,r
  |succ i=>
   let(u,h1,h2):=ih (i:=i) (by simpa using e);exists u,by simpa using h1,h2
def Vals.set(r:RelV x u){xs:A6 V}{us:Ag}(i:A5)(h:Vals xs us):Vals (xs.set i x) (us.set i u):=by
 induction h generalizing i with
 |nil=>show .nil
 |cons q t ih=>
  cases i with
  |zero=>show .cons r t
  |succ i=>show .cons q (ih i)
def Vals.append{xs ys:A6 V}{us ws:Ag}(h:Vals xs us)(s:Vals ys ws):Vals (xs++ys) (us++ws):=by
 induction h with
 |nil=>show s
 |cons r t ih=>show .cons r ih
def Vals.take{xs:A6 V}{us:Ag}(n:A5)(h:Vals xs us):Vals (xs.Q n) (us.Q n):=by
 induction h generalizing n with
 |nil=>cases n<;>show .nil
 |cons r t ih=>
  cases n with
  |zero=>show .nil
  |succ n=>show .cons r (ih n)
def Vals.drop{xs:A6 V}{us:Ag}(n:A5)(h:Vals xs us):Vals (xs.drop n) (us.drop n):=by
 induction h generalizing n with
 |nil=>cases n<;>show .nil
 |cons r t ih=>
  cases n with
  |zero=>show .cons r t
  |succ n=>show ih n
def RelO:(Option V->Option B1->Prop)
 |some v,⇑u=>RelV v u
 |none,none=>True
 |_,_=>False
def KV{κ:Type}:(A6 (κ×V)->A6 (κ×B1)->Prop):=Paired λ(p:κ×V) (q:κ×B1)=>p.1=q.1/\RelV p.2 q.2
def kV:(Key->V)
 | .inl i=>.int i
 | .inr x=>.str x
inductive HO where
 |lst (xs:A6 V)
 |tup (xs:A6 V)
 |dK (kvs:A6 (Key×V))|dT (kvs:A6 (A6 Key×V))
 |set (S:A0->B3) (n:A5)
 |ins (C dx:A7) (fs:A6 (C0×V))
 |own (x:A7)
 |xd (fs:A6 (C0×V))
 |met (f x:A7)
 |rng (lo hi:A0)
 |frz (o:Obj) (u:HO)
 |tbl (ps:B4 B1)
 |ext (φ:Heap->Prop)
abbrev Hp:=A7->Option HO
def upd(H:Hp)(a:A7)(o:HO):(Hp):=λb=>if b=a then some o else H b
def XT:upd H a o a=⇑o:=by unfold upd;ext
def Zd(h:b≠a):upd H a o b=H b:=by unfold upd;ext
def Ux{H:Hp}{a b:A7}{o u:HO}(h:H a=⇑o)(h':H b=⇑u)(d:o≠u):a≠b:=by lia
def Ze{H:Hp}{a b:A7}{o:HO}(h:H a=⇑o)(h':H b=A8):a≠b:=by lia
section
variable(P:Program)(w:World)
def ObjOk(H:Hp)(h:Heap)(a:A7):(HO->Prop)
 | .lst xs=>xs.f<=sizeLine/\∃(XX:Ag)(n:A5),Vals xs XX/\h.E a=⇑{cls:=.type "list",data:=.seq XX.r n}
 | .tup xs=>xs.f<=sizeLine/\∃XX:Ag,Vals xs XX/\IsTup h a XX.r
 | .dK kvs=>kvs.f<=sizeLine/\(a == sysModules)=B0/\∃vs,KV kvs vs/\h.DictOf (QJ P w) a vs
 | .dT kvs=>kvs.f<=sizeLine/\(a == sysModules)=B0/\∃xs:A6 (A6 Key×A7×B1),
   Paired (λ(p:A6 Key×V) (q:A6 Key×A7×B1)=>p.1=q.1/\H q.2.1=⇑(.tup<|p.1.G kV)/\RelV p.2 q.2.2) kvs xs/\
   ∃o es ep,h.E a=⇑o/\o.ExactDict/\o.data=.dict es ep/\es.m=xs.G (entryOfKey<|tupleKind<|QJ P w)/\(xs.G (·.1)).Nodup
 | .set S n=>h.SetOf (intKind P w) a S n
 | .ins C dx fs=>H dx=⇑(.own a)/\fs.f<=1000/\dx≠a/\h.E a=⇑(PySem.W.instObj C dx)/\
   ∃mA,h.Ns1 dx mA/\(∀f,RelO (fs.U f)<|mA f)/\PySem.Within mA (fs.G (·.1))
 | .own _=>∃o,h.E a=⇑o
 | .xd fs=>∃mA,h.Ns1 a mA/\∀f,RelO (fs.U f) (mA f)
 | .rng lo hi=>∃t u v,h.E a=⇑{cls:=.type "range",data:=.fields #[.int lo t,.int hi u,.int 1 v]}
 | .frz o u=>h.E a=⇑o/\ObjOk H h a u
 | .tbl ps=>h.E a=⇑{cls:=.none,data:=.fields ps}
 | .met f x=>h.E a=⇑(PySem.W.methodObj ↑f<|.ref x)
 | .ext φ=>φ h/\(∃o,h.E a=⇑o)/\∀h1 h2:Heap,φ h1->(∀o,h1.E a=⇑o->h2.E a=⇑o)->φ h2
def HOk(H:Hp)(h:Heap):(Prop):=∀a o,H a=⇑o->ObjOk P w H h a o
end
section
variable{P:Program}{w:World}{H H':Hp}{h h':Heap}{a:A7}{o:HO}
def ObjOk.lt(x:ObjOk P w H h a o):a<h.objs.o:=by
 cases o with
 |lst xs=>let(_,_,_,_,e):=x;show Ym e
 |tup xs=>let(_,_,_,p):=x;show p.lt
 |dK kvs=>let(_,_,_,_,o,_,_,e,_):=x;show Ym e
 |dT kvs=>let(_,_,_,_,o,_,_,e,_):=x;show Ym e
 |set S n=>let(o,_,_,_,e,_):=x;show Ym e
 |ins C dx fs=>let(_,_,_,e,_):=x;show Ym e
 |own y=>let(_,e):=x;show Ym e
 |xd fs=>let(_,(_,_,_,e,_),_):=x;show Ym e
 |rng lo hi=>let(_,_,_,e):=x;show Ym e
 |frz ob u=>let(e,_):=x;show Ym e
 |tbl ps=>show Ym (show h.E a=⇑_ from x)
 |met f y=>show Ym (show h.E a=⇑_ from x)
 |ext φ=>let(_,(_,e),_):=x;show Ym e
def Paired.mapP{α β:Type}{F G:α->β->Prop}{l₁:A6 α}{l₂:A6 β}(h:Paired F l₁ l₂)(f:∀a b,F a b->G a b):Paired G l₁ l₂:=by
 induction h with
 |nil=>show .nil
 |cons r t ih=>show .cons (f _ _ r) ih
def ObjOk.stay(x:ObjOk P w H h a o)(k:∀b u,(b=a\/H b=⇑(.own a))->h.E b=⇑u->h'.E b=⇑u)
  (ho:∀b,H b=⇑(.own a)->H' b=⇑(.own a))(ht:∀b xs,H b=⇑(.tup xs)->H' b=⇑(.tup xs)):ObjOk P w H' h' a o:=by
 induction o with
 |lst xs=>let(z,XX,n,r,e):=x;exists z,XX,n,r,k _ _ (.inl Z) e
 |tup xs=>let(z,XX,r,ob,e,c):=x;exists z,XX,r,ob,k _ _ (.inl Z) e,c
 |dK kvs=>let(z,y,vs,r,ob,es,ep,e,c):=x;exists z,y,vs,r,ob,es,ep,k _ _ (.inl Z) e,c
 |dT kvs=>
  let(z,y,xs,r,ob,es,ep,e,c):=x;exists z,y,xs,Paired.mapP r λp q z=>{z.1,ht _ _ z.2.1,z.2.2},ob,es,ep,k _ _ (.inl Z) e,c
 |set S n=>let(ob,es,ep,t,e,c):=x;exists ob,es,ep,t,k _ _ (.inl Z) e,c
 |ins C dx fs=>
  let(d,z,ne,e,mA,(od,es,ep,e2,c),r):=x;exists ho _ d,z,ne,k _ _ (.inl Z) e,mA,{od,es,ep,k _ _ (.inr d) e2,c},r
 |own y=>let(ob,e):=x;exists ob,k _ _ (.inl Z) e
 |xd fs=>let(mA,(od,es,ep,e,c),r):=x;exists mA,{od,es,ep,k _ _ (.inl Z) e,c},r
 |rng lo hi=>let(t,u,v,e):=x;exists t,u,v,k _ _ (.inl Z) e
 |frz ob u ih=>let(e,q):=x;exists k _ _ (.inl Z) e,ih q
 |tbl ps=>
  let e:h.E a=⇑{cls:=.none,data:=.fields ps}:=x;show k a _ (.inl Z) e
 |met f y=>
  let e:h.E a=⇑(PySem.W.methodObj ↑f<|.ref y):=x;show k a _ (.inl Z) e
 |ext φ=>let(p,(o,e),st):=x;exists st _ _ p λo q=>k _ _ (.inl Z) q,{o,k _ _ (.inl Z) e},st
def HOk.lt(x:HOk P w H h)(e:H a=⇑o):a<h.objs.o:=(x a o e).lt
def HOk.fresh(x:HOk P w H h)(e:h.objs.o<=a):H a=A8:=by
 cases q:H a with
 |none=>rfl
 |some u=>show absurd (Yp (x.lt q) e) (Pk _)
def HOk.kept(x:HOk P w H h)(k:∀b u,h.E b=⇑u->h'.E b=⇑u):HOk P w H h':=λa o e=>
 (x a o e).stay (λb u _ q=>k b u q) (λ_ q=>q) λ_ _ q=>q
def HOk.laid(x:HOk P w H h)(k:∀b u,h.E b=⇑u->h'.E b=⇑u)(hp:h.objs.o<=a)(new:ObjOk P w (upd H a o) h' a o):HOk P w (upd H a o) h':=λb u e=>by
 let hn:=x.fresh hp;cases hb:b=a
 .subst hb;rw[XT]at e;ext
 .rw[Zd hb]at e;show(x b u e).stay (λc v _ q=>k c v q) (λc q=>by rwa[Zd (Ze q hn)]) λc xs q=>by rwa[Zd (Ze q hn)]
end
def Rd(H:Hp)(a:A7)(u:HO):(Prop):=H a=⇑u\/∃o,H a=⇑(.frz o u)
def Rd.ok(r:Rd H a u)(x:HOk P w H h):ObjOk P w H h a u:=by
 rcases r with r|⟨o,r⟩
 .show x a u r
 .let⟨_,q⟩:=x a _ r;show q
def Es:(Option HO->Prop)
 |some (.lst _)=>True
 |some (.dK _)=>True
 |some (.dT _)=>True
 |some (.set _ _)=>True
 |some (.ins _ _ _)=>True
 |some (.ext _)=>True
 |_=>False
section
variable{P:Program}{w:World}{H:Hp}{h h':Heap}{x e:A7}{o':HO}
def HOk.write(ok:HOk P w H h)(mu:Es (H x))(he:e=x\/H e=⇑(.own x))(k:∀b u,b≠e->h.E b=⇑u->h'.E b=⇑u)(Er:∃u,h'.E e=⇑u)
  (new:ObjOk P w (upd H x o') h' x o'):HOk P w (upd H x o') h':=λb u q=>by
 let rE:∀c y,H c=⇑(.own y)->c≠x:=λc y r z=>by subst z;rwa[r]at mu
 let rD:∀c xs,H c=⇑(.tup xs)->c≠x:=λc xs r z=>by subst z;rwa[r]at mu
 cases hb:b=x
 .subst hb;rw[XT]at q;lia
 .rw[Zd hb]at q;cases hbe:b=e
  .let q':H b=⇑(.own x):=by
    rcases he with z|z
    .lia
    .lia
   rw[q]at q';cases q';let(v,hv):=Er;exists v,by ext
  .show(ok b u q).stay (λc v hc r=>k c v ?_ r) (λc r=>by rwa[Zd (rE c b r)]) λc xs r=>by rwa[Zd (rD c xs r)]
   grind
end
structure Un(fs ex:A6 A7)(H H':Hp)(h h':Heap):Prop where
 keep:∀b o,h.E b=⇑o->H b=A8->b∉fs->b∉ex->h'.E b=⇑o
 slot:∀b o,h.E b=⇑o->H b=A8->b∈fs->b∉ex->∃sl,h'.E b=⇑{o with slots:=sl}
 free:∀b o,h.E b=⇑o->H b=A8->b∉ex->H' b=A8
 there:∀b o,h.E b=⇑o->b∉ex->∃o',h'.E b=⇑o'
 tups:∀b xs,H b=⇑(.tup xs)->H' b=⇑(.tup xs)
 frzs:∀b o u,H b=⇑(.frz o u)->H' b=⇑(.frz o u)
 tbls:∀b ps,H b=⇑(.tbl ps)->∃more,H' b=⇑(.tbl<|ps++more)
section
variable{fs ex:A6 A7}{H H1:Hp}{h h1 h':Heap}{a x e:A7}{o:HO}
def Un.any(u:Un fs ex H H1 h h1){ob:Obj}(q:h.E b=⇑ob)(n:H b=A8)(hx:b∉ex):∃sl,h1.E b=⇑{ob with slots:=sl}:=by
 cases hb:b∈fs
 .show u.slot b ob q n hb hx
 .exists ob.slots,u.keep b ob q n hb hx
def Un.kept(k:∀b u,h.E b=⇑u->h'.E b=⇑u):Un fs ex H H h h':=
 {λb ob q _ _ _=>k b ob q,λb ob q _ _ _=>{ob.slots,k b ob q},λ_ _ _ n _=>n,λb ob q _=>{ob,k b ob q},λ_ _ q=>q,λ_ _ _ q=>q,λ_ ps q=>{#[],by rw[q];simp}}
def Un.refl:Un fs ex H H h h:=Un.kept λ_ _ q=>q
def Un.laid(k:∀b u,h.E b=⇑u->h'.E b=⇑u)(hp:h.objs.o<=a)(hn:H a=A8):Un fs ex H (upd H a o) h h' where
 keep:=λb u q _ _ _=>k b u q
 slot:=λb u q _ _ _=>{u.slots,k b u q}
 free:=λb u q n _=>by rwa[Zd (Yx<|Yp (Ym q) hp)]
 there:=λb u q _=>{u,k b u q}
 tups:=λb xs q=>by rwa[Zd (Ze q hn)]
 frzs:=λb u xs q=>by rwa[Zd (Ze q hn)]
 tbls:=λb ps q=>{#[],by rw[Zd (Ze q hn),q];simp}
def Un.write(mu:Es (H x))(he:e=x\/H e=⇑(.own x))(k:∀b u,b≠e->h.E b=⇑u->h'.E b=⇑u)(Er:∃u,h'.E e=⇑u):Un fs ex H (upd H x o) h h':=by
 let hx:∀b,H b=A8->b≠x:=λb n z=>by subst z;rwa[n]at mu
 let hb:∀b,H b=A8->b≠e:=λb n z=>by
  ext
 let hm:∀b u,H b=⇑u->¬Es ⇑u->b≠x:=λb u q nm z=>by ext
 show⟨λb u q n _ _=>k b u (hb b n) q,λb u q n _ _=>{u.slots,k b u (hb b n) q},λb u q n _=>by rw[Zd (hx b n)];show n,λb u q _=>?_,
  λb xs q=>by rw[Zd (hm b _ q λz=>z)];show q,λb u xs q=>by rw[Zd (hm b _ q λz=>z)];show q,λb ps q=>{#[],by rw[Zd (hm b _ q λz=>z),q];simp}⟩
 grind
end
def vS(h:Heap)(H:Hp):(A6 A7):=(List.range h.objs.o).filter λa=>(H a).isSome
def Uw(h:Heap)(H:Hp):(Heap):=PySem.W.hideAll h (vS h H)
def ZW9(h:Heap)(H:Hp):(Uw h H).objs.o=h.objs.o:=PySem.W.hideAll_size _ _
def Zaf{b:A7}{o:Obj}(e:h.E b=⇑o)(n:H b=A8):(Uw h H).E b=⇑o:=
 PySem.W.hideAll_get _ e λhm=>by
  let q:(H b).isSome=A9:=(Ye.S hm).2
  ext
def Zag{b:A7}{o:Obj}(e:(Uw h H).E b=⇑o):h.E b=⇑o/\H b=A8:=by
 let e':h.E b=⇑o:=PySem.W.of_hideAll (vS h H) e;exists e',?_;cases q:H b with
 |none=>rfl
 |some x=>
  let hm:b∈vS h H:=Ye.mpr {YX.mpr<|Ym e',by simp[q]};let z:(Uw h H).E b=A8:=PySem.W.hideAll_none (vS h H) hm
  ext
def Zah(g h:Heap)(L:A7):(A6 (A7×Obj)):=(List.range h.objs.o).filterMap λa=>if a=L\/(g.E a).isSome=A9 then none else (h.E a).G λo=>(a,o)
def rest(g h:Heap)(L d:A7):(A6 (A7×Obj)):=(Zah g h L).filter λp=>decide (p.1≠d)
structure Mod(K:Ad)(mg:Af)(base:Heap):Prop where
 kin:K.In base
 glob:base.Ns mainGlobals mg
 blt:∃mb,base.Ns builtinsNs mb/\∀x:C0,x≠"__name__"->mb x=bootBuiltins x
 nolimit:base.NoLimit
structure Cx where
 prog:Program
 w:World
 K:Ad
 mg:Af
 base:Heap
 A:Around
 N:A6 C0
 s₀:B6
 H₀:Hp
 env:Env
 outer:A6 Env
 stack:A6 Env
 ex:A6 A7
 fn:C0->B3
 calm:B3
 pn:A6 (A7×Obj)
 xe:Ae
def Th(l:A6 Env):(A6 A7):=l.filterMap (·.frame)
abbrev Cx.fs(X:Cx):A6 A7:=Th X.outer
def rB(sc:C1)(x:C0):(Prop):=sc.names.U x=some .local\/sc.names.U x=some .cell\/sc.names.U x=some .free
def Loc(sc:C1)(x:C0):(Prop):=sc.names.U x=some .local\/sc.names.U x=some .cell
def Look(env:Env)(h:Heap)(m:Af)(x:C0)(u:B1):(Prop):=
 (env.kindOf x=some .local/\m x=⇑u)\/((env.kindOf x=some .cell\/env.kindOf x=some .free)/\∃c,env.cells.U x=⇑c/\h.IsCell c ⇑u)
structure Cx.Ok(X:Cx):Prop where
 mod:Mod X.K X.mg X.base
 kind:X.X.scope.kind=.function
 glob:X.X.globals=mainGlobals
 blt:X.X.builtins=builtinsNs
 above:(~~~X.s₀)<=X.X.locals
 inj:∀x y c,X.X.cells.U x=⇑c->X.X.cells.U y=⇑c->x=y
 has:∀x,(X.X.kindOf x=some .cell\/X.X.kindOf x=some .free)->∃c,X.X.cells.U x=⇑c
 cab:∀x c,X.fn x=A9->X.X.cells.U x=⇑c->(~~~X.s₀)<=c
 hd:X.calm=A9->X.A.handled=A8
 frames:X.A.frames=⇑X.stack
 stk:X.stack=X.outer\/(X.stack=X.X::X.outer/\X.X.frame=⇑X.X.locals)
 exf:∀b∈X.ex,b≠X.X.locals/\∀x c,X.X.cells.U x=⇑c->c≠b
 bs:∀b o,X.base.E b=⇑o->X.s₀.C.E b=⇑o/\X.H₀ b=A8
 bsz:X.base.objs.o<=(~~~X.s₀)
 noex:∀b o,X.base.E b=⇑o->b∉X.ex
 exfs:∀b∈X.ex,b∉X.fs
 funs:X.s₀.C.FunFrames X.base X.outer
 frf:∀b∈X.fs,X.H₀ b=A8
structure Inv(X:Cx)(pins:A6 (A7×Obj))(σ:A6 (Option V))(H:Hp)(s:B6):Prop where
 ok:X.Ok
 os:s.os=X.s₀.os
 bare:AllBare s.gens
 base:Un X.fs X.ex X.H₀ H X.s₀.C s.C
 loc:∃m,s.C.Ns X.X.locals m/\∀(i:A5)(x:C0)(v:V),X.N[i]?=⇑x->σ[i]?=⇑(⇑v)->rB X.X.scope x->∃u,RelV v u/\Look X.X s.C m x u
 cell:∀x c,X.X.cells.U x=⇑c->∃v,s.C.IsCell c v
 free:H X.X.locals=A8
 freeC:∀x c,X.X.cells.U x=⇑c->H c=A8
 pin:∀p∈X.pn++pins,s.C.E p.1=some p.2/\H p.1=A8/\p.1≠X.X.locals/\p.1∉X.fs/\∀v,p.2.data≠.cell v
 hok:HOk X.prog X.w H s.C
 len:σ.f=X.N.f
section
variable{X:Cx}{pins:A6 (A7×Obj)}{σ:A6 (Option V)}{H H':Hp}{s:B6}{h':Heap}
def Cx.Ok.nofr(ok:X.Ok){b:A7}{o:Obj}(e:X.base.E b=⇑o):b∉X.fs:=λhb=>by
 have:=(ok.funs.mem hb).1
 lia
def Inv.bs(I:Inv X pins σ H s):∀b o,X.base.E b=⇑o->s.C.E b=⇑o/\H b=A8:=λb o e=>
 {I.base.keep b o (I.ok.bs b o e).1 (I.ok.bs b o e).2 (I.ok.nofr e) (I.ok.noex b o e),I.base.free b o (I.ok.bs b o e).1 (I.ok.bs b o e).2 (I.ok.noex b o e)}
def Inv.bk(I:Inv X pins σ H s):∀b o,X.base.E b=⇑o->s.C.E b=⇑o:=λb o e=>(I.bs b o e).1
def Inv.mod(I:Inv X pins σ H s):Mod X.K X.mg X.base:=I.ok.mod
def Inv.kIn(I:Inv X pins σ H s):X.K.In s.C:=I.ok.mod.kin.keeps I.bk
def Inv.lt(I:Inv X pins σ H s):X.X.locals<(~~~s):=by let(_,hn,_):=I.loc;show hn.lt
def Inv.sz(I:Inv X pins σ H s):(~~~X.s₀)<=(~~~s):=Yq I.ok.above (Uy I.lt)
def Inv.nofs(I:Inv X pins σ H s){a:A7}(h:(~~~s)<=a):a∉X.fs:=λhb=>by let(_,o,ho,_):=I.ok.funs.mem hb;show absurd (Yp (Ym ho)<|Yq I.sz h) (Pk _)
def Inv.cne(I:Inv X pins σ H s):∀x c,X.X.cells.U x=⇑c->c≠X.X.locals:=λx c e z=>by
 let(v,o,ho,hd):=I.cell x c e;let(m,(o',es,ep,UY,En,_),_):=I.loc
 ext
def Inv.funs(I:Inv X pins σ H s):s.C.FunFrames X.base X.outer:=by
 let all:∀(l:A6 Env),(∀b∈Th l,b∈X.fs)->X.s₀.C.FunFrames X.base l->s.C.FunFrames X.base l:=by
  intro l
  induction l with
  |nil=>intro _ _;trivial
  |cons env r ih=>
   intro hs hl;let(hk,(L,o,hf,hn,ho,hd),hr):=hl;let hL:L∈X.fs:=hs L (by unfold Th;ext)
   let(sl,e):=I.base.slot L o ho (I.ok.frf L hL) hL λz=>I.ok.exfs L z hL;exists hk,{L,_,hf,hn,e,hd},ih (λb hb=>hs b<|by unfold Th;rw[List.filterMap_cons,hf];show Yf _ hb) hr
 show all X.outer (λ_ hb=>hb) I.ok.funs
def Inv.stack(I:Inv X pins σ H s):s.C.FunFrames X.base X.stack:=by
 rcases I.ok.stk with e|⟨e,hf⟩
 .rw[e];show I.funs
 .rw[e];let(m,hn,_):=I.loc;show .cons (by rw[I.ok.kind];decide) hf hn ?_ I.funs;show Heap.get?_none_of_le (Yq I.ok.bsz I.ok.above)
def Inv.stkSub(I:Inv X pins σ H s):∀b∈Th X.stack,b∈X.X.locals::X.fs:=λb hb=>by
 rcases I.ok.stk with e|⟨e,hf⟩
 .ext
 .rw[e]at hb;unfold Th at hb;rwa[List.filterMap_cons,hf]at hb
def Inv.stkFree(I:Inv X pins σ H s):∀b∈Th X.stack,H b=A8:=λb hb=>by
 rcases Yo.S (I.stkSub b hb) with e|hb
 .rw[e];show I.free
 .let⟨_,o,ho,_⟩:=I.ok.funs.mem hb;show I.base.free b o ho (I.ok.frf b hb) λz=>I.ok.exfs b z hb
def Inv.step{g':B4 GenState}{t':A5}{d':Drawn}{ch:A6 A7}(I:Inv X pins σ H s)
  (MZ:∀b∈ch,(b∈X.ex\/(~~~X.s₀)<=b)/\b≠X.X.locals/\(∀x c,X.X.cells.U x=⇑c->c≠b)/\∀p∈X.pn++pins,p.1≠b)
  (keep:∀b o,b≠X.X.locals->b∉X.fs->b∉ch->s.C.E b=⇑o->H b=A8->h'.E b=⇑o)
  (slot:∀b o,b≠X.X.locals->b∈X.fs->b∉ch->s.C.E b=⇑o->H b=A8->∃sl,h'.E b=⇑{o with slots:=sl})(free:∀b o,b∉ch->s.C.E b=⇑o->H b=A8->H' b=A8)
  (there:∀b o,b∉ch->s.C.E b=⇑o->∃o',h'.E b=⇑o')
  (tups:∀b xs,H b=⇑(.tup xs)->H' b=⇑(.tup xs))(frzs:∀b o u,H b=⇑(.frz o u)->H' b=⇑(.frz o u))(tbls:∀b ps,H b=⇑(.tbl ps)->∃more,H' b=⇑(.tbl<|ps++more))
  (ns:∀m,s.C.Ns X.X.locals m->h'.Ns X.X.locals m)(hok:HOk X.prog X.w H' h')(hg:AllBare g'):
  Inv X pins σ H' {s with heap:=h',gens:=g',drawn:=d',toks:=t'}:=by
 let b7:∀b o,X.s₀.C.E b=⇑o->b≠X.X.locals:=λb o e=>Yx (Yp (Ym e) I.ok.above);let vR:∀b o,X.s₀.C.E b=⇑o->b∉X.ex->b∉ch:=λb o e hx hb=>by
  rcases(MZ b hb).1 with z|z
  .show hx z
  .show absurd (Yp (Ym e) z) (Pk _)
 let cellK:∀x c,X.X.cells.U x=⇑c->∀v,s.C.IsCell c v->h'.IsCell c v:=λx c e v ⟨o,ho,hd⟩=>by
  let bZ:c∉ch:=λz=>(MZ c z).2.2.1 x c e rfl;cases hc:c∈X.fs
  .let⟨sl,q⟩:=slot c o (I.cne x c e) hc bZ ho (I.freeC x c e);exists _,q,hd
  .exists o,keep c o (I.cne x c e) hc bZ ho<|I.freeC x c e,hd
 exists I.ok,I.os,hg,{λb o e n hb hx=>?_,λb o e n hb hx=>?_,λb o e n hx=>?_,λb o e hx=>?_,λb xs e=>tups b xs<|I.base.tups b xs e,λb o xs e=>frzs b o xs<|I.base.frzs b o xs e,λb ps e=>?_},?_,λx c e=>?_,?_,λx c e=>?_,λp hp=>?_,hok,I.len
 .show keep b o (b7 b o e) hb (vR b o e hx) (I.base.keep b o e n hb hx) (I.base.free b o e n hx)
 .let⟨sl,e1⟩:=I.base.slot b o e n hb hx;let(sl',e2):=slot b _ (b7 b o e) hb (vR b o e hx) e1 (I.base.free b o e n hx);exists sl',e2
 .let⟨o',e1⟩:=I.base.there b o e hx;show free b o' (vR b o e hx) e1 (I.base.free b o e n hx)
 .let⟨o',e1⟩:=I.base.there b o e hx;show there b o' (vR b o e hx) e1
 .let⟨m1,e1⟩:=I.base.tbls b ps e;grind
 .let⟨m,hn,hl⟩:=I.loc;exists m,ns m hn,λi x v e1 e2 e3=>?_;let(u,r,l):=hl i x v e1 e2 e3;exists u,r,?_;rcases l with l|⟨k,c,e,z⟩
  .show .inl l
  .show .inr {k,c,e,cellK x c e _ z}
 .let⟨v,z⟩:=I.cell x c e;exists v,cellK x c e v z
 .let⟨m,⟨o,_,_,ho,_⟩,_⟩:=I.loc;show free _ o (λz=>(MZ _ z).2.1 Z) ho I.free
 .let⟨v,o,ho,hd⟩:=I.cell x c e;show free c o (λz=>(MZ c z).2.2.1 x c e Z) ho (I.freeC x c e)
 .let⟨e,n,ne,nf,d⟩:=I.pin p hp;grind
def Inv.un{t':A5}(I:Inv X pins σ H s)(u:Un X.fs [] H H' s.C h')(hok:HOk X.prog X.w H' h'):Inv X pins σ H' {s with heap:=h',toks:=t'}:=by
 let(m,(o,es,ep,ho,r),_):=id I.loc;let(sl,hL):=u.any ho I.free Eo;show I.step (g':=s.gens) (d':=s.drawn) (ch:=[]) (λ_ z=>nomatch z) (λb o _ hb _ e n=>u.keep b o e n hb Eo) (λb o _ hb _ e n=>u.slot b o e n hb Eo) (λb o _ e n=>u.free b o e n Eo) (λb o _ e=>u.there b o e Eo) u.tups u.frzs u.tbls (λm' hm=>by let(o',rz,rq,UY,r'):=hm;rw[ho]at UY;cases UY;exists _,rz,rq,hL,r') hok I.bare
def Inv.call{t':A5}{d':Drawn}(I:Inv X pins σ H s)(u:Un (Th X.stack) ch H H' s.C h')(hok:HOk X.prog X.w H' h')(hg:AllBare g')
  (MZ:∀b∈ch,(b∈X.ex\/(~~~X.s₀)<=b)/\b≠X.X.locals/\(∀x c,X.X.cells.U x=⇑c->c≠b)/\∀p∈X.pn++pins,p.1≠b):
  Inv X pins σ H' {s with heap:=h',gens:=g',drawn:=d',toks:=t'}:=by
 let(m,(o,es,ep,ho,r),_):=id I.loc;let(sl,hL):=u.any ho I.free λz=>(MZ _ z).2.1 rfl;show I.step (ch:=ch) MZ (λb o hL hb hc e n=>u.keep b o e n (λz=>(Yo.S<|I.stkSub b z).elim hL hb) hc) (λb o _ _ hc e n=>u.any e n hc) (λb o hc e n=>u.free b o e n hc) (λb o hc e=>u.there b o e hc) u.tups u.frzs u.tbls (λm' hm=>by let(o',rz,rq,UY,r'):=hm;rw[ho]at UY;cases UY;exists _,rz,rq,hL,r') hok hg
def Inv.turned{t':A5}(I:Inv X pins σ H s)(k:∀b o,b≠it->s.C.E b=⇑o->h'.E b=⇑o)(hn:H it=A8)(hL:it≠X.X.locals)
  (h1:it∈X.ex\/(~~~X.s₀)<=it)(h2:∀x c,X.X.cells.U x=⇑c->c≠it)(h3:∀p∈X.pn++pins,p.1≠it):Inv X pins σ H {s with heap:=h',toks:=t'}:=by
 show I.step (g':=s.gens) (d':=s.drawn) (ch:=[it]) (λb hb=>?_) (λb o _ _ hc e _=>k b o (λz=>hc<|by simp[z]) e) (λb o _ _ hc e _=>{o.slots,k b o (λz=>hc<|by simp[z]) e}) (λ_ _ _ _ n=>n)
  (λb o hc e=>{o,k b o (λz=>hc<|by simp[z]) e}) (λ_ _ e=>e) (λ_ _ _ e=>e) (λb ps e=>{#[],by rw[e];simp}) (λm hm=>?_) (λb u e=>?_) I.bare
 .let e:b=it:=by simpa using hb
  subst e;exists h1,hL,h2,h3
 .let⟨o,es,ep,ho,r⟩:=hm;exists o,es,ep,k _ o (YZ hL) ho,r
 .show(I.hok b u e).stay (λc v hc q=>k c v ?_ q) (λ_ q=>q) λ_ _ q=>q;lia
def Inv.tok(I:Inv X pins σ H s)(t:A5):Inv X pins σ H {s with toks:=t}:=I.un (h':=s.C) (t':=t) Un.refl I.hok
def Inv.kept{t':A5}(I:Inv X pins σ H s)(k:∀b u,s.C.E b=⇑u->h'.E b=⇑u):Inv X pins σ H {s with heap:=h',toks:=t'}:=I.un (Un.kept k) (I.hok.kept k)
def Inv.laid{t':A5}(I:Inv X pins σ H s)(k:∀b u,s.C.E b=⇑u->h'.E b=⇑u)(hp:(~~~s)<=a)(new:ObjOk X.prog X.w (upd H a o) h' a o):
  Inv X pins σ (upd H a o) {s with heap:=h',toks:=t'}:=I.un (Un.laid k hp<|I.hok.fresh hp) (I.hok.laid k hp new)
def Inv.write{t':A5}(I:Inv X pins σ H s)(mu:Es (H x))(he:e=x\/H e=⇑(.own x))(k:∀b u,b≠e->s.C.E b=⇑u->h'.E b=⇑u)(Er:∃u,h'.E e=⇑u)
  (new:ObjOk X.prog X.w (upd H x o) h' x o):Inv X pins σ (upd H x o) {s with heap:=h',toks:=t'}:=I.un (Un.write mu he k Er) (I.hok.write mu he k Er new)
def Inv.weak(I:Inv X pins σ H s)(hl:σ'.f=σ.f)(w:∀(i:A5) v,σ'[i]?=⇑(⇑v)->σ[i]?=⇑(⇑v)):Inv X pins σ' H s:=
 {I.ok,I.os,I.bare,I.base,by let(m,hn,Pb):=I.loc;show{m,hn,λi x v e1 e2 e3=>Pb i x v e1 (w i v e2) e3},I.cell,I.free,I.freeC,I.pin,I.hok,hl.l I.len}
def Inv.pins_of(I:Inv X pins σ H s)(h:∀p∈pins',s.C.E p.1=some p.2/\H p.1=A8/\p.1≠X.X.locals/\p.1∉X.fs/\∀v,p.2.data≠.cell v):Inv X pins' σ H s:=
 {I.ok,I.os,I.bare,I.base,I.loc,I.cell,I.free,I.freeC,λp hp=>(Xn.S hp).elim (λz=>I.pin p<|Yl _ z) (h p),I.hok,I.len}
def Em{N:A6 C0}(hN:N.Nodup){i j:A5}{x:C0}(a:N[i]?=⇑x)(b:N[j]?=⇑x):i=j:=by let(h1,e1):=Xx.S a;let(h2,e2):=Xx.S b;show(List.getElem_inj hN).S (e1.l e2.symm)
def Zj9{E:Ae}{i:A5}{x:C0}{Q:Unit->B6->Prop}(I:Inv X pins σ H s)(hN:X.N.Nodup)(hi:X.N[i]?=⇑x)(hx:Loc X.X.scope x)(r:RelV v u)
  (h:∀s',Inv X pins (σ.set i<|some v) H s'->(∃a,Heap.SameBut a s.C s'.C/\(a=X.X.locals\/X.X.cells.U x=⇑a))->Q () s')(hf:X.fn x=A9\/X.X.scope.names.U x=some .local:=by first|show .inl rfl|show .inr rfl|assumption):wpAny M A (storeName X.X x u) Q E s:=by
 let(m,hn,hl):=id I.loc;let rp:(X.X.scope.kind == .class||(X.X.scope.kind == .module&&X.X.locals != X.X.globals))=B0:=by rw[I.ok.kind];rfl
 let El:i<σ.f:=by rw[I.len];show(Xx.S hi).1
 let cne:=I.cne;let tracked:∀{a:A7}{h':Heap},(∃o,s.C.E a=⇑o/\H a=A8)->Heap.SameBut a s.C h'->HOk X.prog X.w H h':=λ{a h'} ha hs b ob e=>by show(I.hok b ob e).stay (λc w' hc q=>(hs.2 c ?_).l q) (λ_ q=>q) λ_ _ q=>q;lia
 rcases hx with hk|hk
 .show wpAny_storeName_local hk hn (λh' PY hs=>?_) rp;let(oL,_,_,NJ,_):=id hn;show h _ {I.ok,I.os,I.bare,{λb o e n hb hx=>?_,λb o e n hb hx=>?_,I.base.free,λb o e hx=>?_,I.base.tups,I.base.frzs,I.base.tbls},{_,PY,λj y v' e1 e2 e3=>?_},λy c e=>?_,I.free,I.freeC,λp hp=>?_,tracked ⟨oL,NJ,I.free⟩ hs,by simpa using I.len} {_,hs,.inl Z}
  .show(hs.2 b<|Yx<|Yp (Ym e) I.ok.above).l (I.base.keep b o e n hb hx)
  .let⟨sl,e1⟩:=I.base.slot b o e n hb hx;exists sl,(hs.2 b<|Yx<|Yp (Ym e) I.ok.above).l e1
  .let⟨o',e1⟩:=I.base.there b o e hx;exists o',(hs.2 b<|Yx<|Yp (Ym e) I.ok.above).l e1
  .cases hj:j=i
   .subst hj;rw[hi]at e1;cases e1;rw[cy El]at e2;cases e2;exists u,r,.inl ⟨hk,Eo⟩
   .rw[List.getElem?_set_ne (YZ hj)]at e2;let(u',r',q):=hl j y v' e1 e2 e3;exists u',r',?_;rcases q with ⟨k,e⟩|⟨k,c,e,z⟩
    .show .inl {k,?_}
     have:y≠x:=λe=>hj (Em hN e1<|e▸hi)
     ext
    .show .inr {k,c,e,z.sameBut hs<|cne y c e}
  .let⟨w',z⟩:=I.cell y c e;exists w',z.sameBut hs<|cne y c e
  .let⟨e,n,ne,nf,d⟩:=I.pin p hp;exists (hs.2 p.1 ne).l e,n,ne,nf,d
 .let Gf:X.fn x=A9:=by
   rcases hf with z|z
   .show z
   .ext
  let(c,hc):=I.ok.has x (.inl hk);let(w',z):=I.cell x c hc;show wpAny_storeName_cell I.ok.kind hk hc z λh' Wi hs=>?_;let(oc,rm,hocd):=id z;show h {s with heap:=h'} {I.ok,I.os,I.bare,{λb o e n hb hx=>?_,λb o e n hb hx=>?_,I.base.free,λb o e hx=>?_,I.base.tups,I.base.frzs,I.base.tbls},{m,hn.sameBut hs<|YZ<|cne x c hc,λj y v' e1 e2 e3=>?_},λy c' e=>?_,I.free,I.freeC,λp hp=>?_,tracked {oc,rm,I.freeC x c hc} hs,by simpa using I.len} {c,hs,.inr hc}
  .show(hs.2 b<|Yx<|Yp (Ym e)<|I.ok.cab x c Gf hc).l (I.base.keep b o e n hb hx)
  .let⟨sl,e1⟩:=I.base.slot b o e n hb hx;exists sl,(hs.2 b<|Yx<|Yp (Ym e)<|I.ok.cab x c Gf hc).l e1
  .let⟨o',e1⟩:=I.base.there b o e hx;exists o',(hs.2 b<|Yx<|Yp (Ym e)<|I.ok.cab x c Gf hc).l e1
  .cases hj:j=i
   .subst hj;rw[hi]at e1;cases e1;rw[cy El]at e2;cases e2;exists u,r,.inr {.inl hk,c,hc,Wi}
   .rw[List.getElem?_set_ne (YZ hj)]at e2;let(u',r',q):=hl j y v' e1 e2 e3;exists u',r',?_;rcases q with q|⟨k,c',e,z'⟩
    .show .inl q
    .show .inr {k,c',e,z'.sameBut hs ?_};rintro rfl;show hj (Em hN e1<|I.ok.inj _ _ _ e hc▸hi)
  .cases bY:c'=c
   .grind
   .let⟨w2,z2⟩:=I.cell y c' e;exists w2,z2.sameBut hs bY
  .let⟨e,n,ne,nf,d⟩:=I.pin p hp;exists (hs.2 p.1 ?_).l e,n,ne,nf,d;grind
def JA{E:Ae}{i:A5}{x:C0}{Q:Unit->B6->Prop}(I:Inv X pins σ H s)(hN:X.N.Nodup)(hi:X.N[i]?=⇑x)(hx:Loc X.X.scope x)(r:RelV v u)
  (h:∀s',Inv X pins (σ.set i<|some v) H s'->Q () s')(hf:X.fn x=A9\/X.X.scope.names.U x=some .local:=by first|show .inl rfl|show .inr rfl|assumption):wpAny M A (storeName X.X x u) Q E s:=
 Zj9 I hN hi hx r (λs' I' _=>h s' I') hf
def Inv.call'(I:Inv X pins σ H s)(ho:s'.os=s.os)(u:Un (Th X.stack) ch H H' s.C s'.C)(hok:HOk X.prog X.w H' s'.C)(hg:AllBare s'.gens)
  (MZ:∀b∈ch,(b∈X.ex\/(~~~X.s₀)<=b)/\b≠X.X.locals/\(∀x c,X.X.cells.U x=⇑c->c≠b)/\∀p∈X.pn++pins,p.1≠b):Inv X pins σ H' s':=by
 let(h',g',d',t',o'):=s';let e:o'=s.os:=ho
 subst e;show I.call (g':=g') (t':=t') (d':=d') u hok hg MZ
end
abbrev XK:=B1->Option A7->Hp->Prop
abbrev St:=A6 (Option V)
abbrev VK:=V->Hp->Prop
abbrev TE:=St->Hp->VK->Prop
abbrev TT:=St->Hp->(B3->Hp->Prop)->Prop
abbrev TA:=St->Hp->(A6 V->Hp->Prop)->Prop
structure Ends where
 nx:St->Hp->Prop
 rt:VK
 bk:St->Hp->Prop:=λ_ _=>False
 ct:St->Hp->Prop:=λ_ _=>False
abbrev TS:=Ends->St->Hp->Prop
def EP(X:Cx)(pins:A6 (A7×Obj))(σ:St)(Q:VK)(u:B1)(s':B6):(Prop):=∃v H',Inv X pins σ H' s'/\RelV v u/\Q v H'
def TP(X:Cx)(pins:A6 (A7×Obj))(σ:St)(Q:B3->Hp->Prop)(b:B3)(s':B6):(Prop):=∃H',Inv X pins σ H' s'/\Q b H'
def Zai(X:Cx)(pins:A6 (A7×Obj))(σ:St)(Q:A6 V->Hp->Prop)(us:Ag)(s':B6):(Prop):=∃vs H',Inv X pins σ H' s'/\Vals vs us/\Q vs H'
def SP(X:Cx)(pins:A6 (A7×Obj))(rj:Ends)(f:Flow)(s':B6):(Prop):=
 match f with
 | .next=>∃σ' H',Inv X pins σ' H' s'/\rj.nx σ' H'
 | .brk=>∃σ' H',Inv X pins σ' H' s'/\rj.bk σ' H'
 | .cont=>∃σ' H',Inv X pins σ' H' s'/\rj.ct σ' H'
 | .ret u=>∃v σ' H',Inv X pins σ' H' s'/\RelV v u/\rj.rt v H'
def PE(X:Cx)(e:B5)(t:TE):(Prop):=
 ∀(pins:A6 (A7×Obj))(s:B6)(σ:St)(H:Hp)(Q:VK),Inv X pins σ H s->t σ H Q->wpAny (model X.prog X.w) X.A (eval e X.X) (EP X pins σ Q) X.xe s
def PT(X:Cx)(e:B5)(t:TT):(Prop):=
 ∀(pins:A6 (A7×Obj))(s:B6)(σ:St)(H:Hp)(Q:B3->Hp->Prop),Inv X pins σ H s->t σ H Q->wpAny (model X.prog X.w) X.A (isTrue e X.X<|eval e X.X) (TP X pins σ Q) X.xe s
def PW(X:Cx)(e:B5)(t:TT):(Prop):=
 ∀(whole:Sem B1)(pins:A6 (A7×Obj))(s:B6)(σ:St)(H:Hp)(Q:B3->Hp->Prop),Inv X pins σ H s->t σ H Q->wpAny (model X.prog X.w) X.A (isTrue e X.X whole) (TP X pins σ Q) X.xe s
def PW.pt(h:PW X e t):PT X e t:=h _
def PA(X:Cx)(es:A6 B5)(t:TA):(Prop):=
 ∀(pos:Pos)(pins:A6 (A7×Obj))(s:B6)(σ:St)(H:Hp)(Q:A6 V->Hp->Prop),Inv X pins σ H s->t σ H Q->wpAny (model X.prog X.w) X.A (spliced<|backTo pos<|starEach es X.X) (Zai X pins σ Q) X.xe s
def PS(X:Cx)(st:B8)(t:TS):(Prop):=
 ∀(pins:A6 (A7×Obj))(s:B6)(σ:St)(H:Hp)(rj:Ends),Inv X pins σ H s->t rj σ H->wpAny (model X.prog X.w) X.A (exec st X.X) (SP X pins rj) X.xe s
def PSs(X:Cx)(st:A6 B8)(t:TS):(Prop):=
 ∀(pins:A6 (A7×Obj))(s:B6)(σ:St)(H:Hp)(rj:Ends),Inv X pins σ H s->t rj σ H->wpAny (model X.prog X.w) X.A (execs st X.X) (SP X pins rj) X.xe s
def thn{α:Type}{t:Sem α}{Q Q':α->B6->Prop}{M:Model}{A:Around}{E:Ae}{s:B6}(h:wpAny M A t Q E s)(hQ:∀a s,Q a s->Q' a s):wpAny M A t Q' E s:=SD h hQ λ_ _ x=>x
section
variable{X:Cx}
inductive isB(x:V)(H:Hp)(Q:B3->Hp->Prop):Prop
 |mk (k:B3) (_:x=.bl k) (_:Q k H)
inductive tVar(i:A5)(σ:St)(H:Hp)(Q:VK):Prop
 |mk (v:_) (_:σ[i]?=⇑(⇑v)) (_:Q v H)
def tC(v:V):(TE):=λ_ H Q=>Q v H
def Zaj{x:C0}{pos:Pos}(hN:X.N[i]?=⇑x)(hv:rB X.X.scope x)(hd:(x == ("__debug__":C0))=B0:=by decide)(SA:(x == ("__classdict__":C0))=B0:=by decide):PE X (.Name x pos) (tVar i):=by
 intro pins s σ H Q I h;let(v,e,h):=h;let(m,hn,hl):=I.loc;let(u,r,l):=hl i x v hN e hv;let fin:EP X pins σ Q u s:=⟨v,H,I,r,h⟩
 rcases l with ⟨hk,hm⟩|⟨hk,c,hc,Ry⟩
 .show wpAny_Name (wpAny_loadName_local I.ok.kind hk hn hm fin) hd
 .rcases hk with hk|hk
  .show wpAny_Name (wpAny_loadName_cell I.ok.kind hk hc Ry fin) hd
  .show wpAny_Name (wpAny_loadName_free I.ok.kind hk hc Ry fin SA) hd
def XQ{i j pos}:PE X (.Constant (.int i) j pos) (tC (.int i)):=λ_ _ _ H _ I h=>wpAny_Constant_int {.int i,H,I.tok _,{_,Z},h}
def Sg{b j pos}:PE X (.Constant (.bool b) j pos) (tC (.bl b)):=λ_ _ _ H _ I h=>Constant_bool {.bl b,H,I,Z,h}
def Sf{j pos}:PE X (.Constant .none j pos) (tC .non):=λ_ _ _ H _ I h=>Constant_none ⟨.non,H,I,Z,h⟩
def ZW{x j pos}:PE X (.Constant (.str x) j pos) (tC (.str x)):=λ_ _ _ H _ I h=>Calls.Constant_str {.str x,H,I.tok _,{_,Z},h}
def Gl(X:Cx)(x:C0):(Prop):=X.X.kindOf x=some .globalImplicit
def rh{E:Ae}{u:B1}{pos:Pos}{Q:Ae}(I:Inv X pins σ H s)(hg:Gl X x)(hm:X.mg x=⇑u)(h:Q u s)
  (hd:(x == ("__debug__":C0))=B0:=by decide):wpAny (model X.prog X.w) X.A (eval (.Name x pos) X.X) Q E s:=
 Calls.Name_function_global I.ok.kind hg (Calls.loadGlobal_global (by rw[I.ok.glob];show I.mod.glob.keeps I.bk) hm h) hd
def PX{E:Ae}{u:B1}{pos:Pos}{Q:Ae}(I:Inv X pins σ H s)(hg:Gl X x)(hm:X.mg x=A8)(hv:bootBuiltins x=⇑u)(h:Q u s)
  (hn:x≠"__name__":=by decide)(hd:(x == ("__debug__":C0))=B0:=by decide):wpAny (model X.prog X.w) X.A (eval (.Name x pos) X.X) Q E s:=by let(mb,h1,h2):=I.mod.blt;show Calls.Name_function_global I.ok.kind hg (Calls.loadGlobal_builtin (by rw[I.ok.glob];show I.mod.glob.keeps I.bk) hm (by rw[I.ok.blt];show h1.keeps I.bk) ((h2 x hn).l hv) h) hd
def Se{u:B1}{pos:Pos}(hg:Gl X x)(hm:X.mg x=⇑u)(r:RelV v u)(hd:(x == ("__debug__":C0))=B0:=by decide):PE X (.Name x pos) (tC v):=
 λ_ _ _ H _ I h=>rh I hg hm ⟨v,H,I,r,h⟩ hd
variable{a b:B5}{ta tb:TE}{pos:Pos}
def PC(X:Cx)(op:CmpOp)(a b:B5)(t:TE):(Prop):=
 ∀(pins:A6 (A7×Obj))(s:B6)(σ:St)(H:Hp)(Q:VK),Inv X pins σ H s->t σ H Q->
  wpAny (model X.prog X.w) X.A (eval a X.X) (λv s₁=>wpAny (model X.prog X.w) X.A (eval b X.X) (λu s₂=>wpAny (model X.prog X.w) X.A (compareOp op v u) (EP X pins σ Q) X.xe s₂) X.xe s₁) X.xe s
def Zak(t:TE):(TT):=λσ H Q=>t σ H λx H1=>isB x H1 Q
def MY{e:B5}{t:TE}(h:PE X e t)(he:∀whole,isTrue e X.X whole=(do let v <-whole;standAt e.pos;holding [v] (truthy v)):=by intro _;rfl):PT X e (Zak t):=by intro pins s σ H Q I hw;show isTrue_plain (thn (h pins s σ H _ I hw) λv s1 zz=>?_) (he _);let(x,H1,I1,r1,q1):=zz;let(d,rfl,q):=q1;cases r1;show Pn ⟨H1,I1,q⟩
variable{tA vQ:TT}{rest:A6 B5}
def Ek(t u:TT):(TT):=λσ H Q=>t σ H λc H1=>if c=A9 then u σ H1 Q else Q false H1
def tOr(t u:TT):(TT):=λσ H Q=>t σ H λc H1=>if c=A9 then Q true H1 else u σ H1 Q
def Zal(t:TT):(TT):=λσ H Q=>t σ H λc H1=>Q (!c) H1
def Ll(ha:PT X a tA):PW X (.BoolOp .And [a] pos) tA:=by
 intro wh pins s σ H Q I h;show isTrue_and (thn (ha pins s σ H Q I h) λc s1 e=>?_);cases c with
 |true=>show isTrue_and_nil e
 |false=>show e
def Ge(ha:PT X a tA):PW X (.BoolOp .Or [a] pos) tA:=by
 intro wh pins s σ H Q I h;show isTrue_or (thn (ha pins s σ H Q I h) λc s1 e=>?_);cases c with
 |false=>show isTrue_or_nil e
 |true=>show e
def Lk(ha:PT X a tA)(hb:PW X (.BoolOp .And (b::rest) pos) vQ):PW X (.BoolOp .And (a::b::rest) pos) (Ek tA vQ):=by
 intro wh pins s σ H Q I h;show isTrue_and (thn (ha pins s σ H _ I h) λc s1 XB=>?_);let(H1,I1,q1):=XB;cases c with
 |true=>show hb wh pins s1 σ H1 Q I1 q1
 |false=>exists H1,I1,q1
def QI(ha:PT X a tA)(hb:PW X (.BoolOp .Or (b::rest) pos) vQ):PW X (.BoolOp .Or (a::b::rest) pos) (tOr tA vQ):=by
 intro wh pins s σ H Q I h;show isTrue_or (thn (ha pins s σ H _ I h) λc s1 XB=>?_);let(H1,I1,q1):=XB;cases c with
 |true=>exists H1,I1,q1
 |false=>show hb wh pins s1 σ H1 Q I1 q1
def Lj(ha:PT X a tA):PT X (.UnaryOp .Not a pos) (Zal tA):=by intro pins s σ H Q I h;show isTrue_not (ha pins s σ H (λc H1=>Q (!c) H1) I h)
def rf(ta tb:TE):(TE):=λσ H Q=>ta σ H λx H1=>∃c,x=.bl c/\if c=A9 then tb σ H1 Q else Q (.bl false) H1
def rd(ta tb:TE):(TE):=λσ H Q=>ta σ H λx H1=>∃c,x=.bl c/\if c=A9 then Q (.bl true) H1 else tb σ H1 Q
def q9(ta:TE):(TE):=λσ H Q=>ta σ H λx H1=>∃c,x=.bl c/\Q (.bl<|!c) H1
def Jz{op}(h:PE X a t):PE X (.BoolOp op [a] pos) t:=λpins s σ H Q I hw=>BoolOp_one (h pins s σ H Q I hw)
def Ej(ha:PE X a ta)(hb:PE X (.BoolOp .And (b::rest) pos) tb):PE X (.BoolOp .And (a::b::rest) pos) (rf ta tb):=by
 intro pins s σ H Q I h;show BoolOp_and (thn (ha pins s σ H _ I h) λv s1 XB=>?_);let(x,H1,I1,r1,q1):=XB;let(c,rfl,q1):=q1;cases r1;show Pn ?_;cases c with
 |true=>show hb pins s1 σ H1 Q I1 q1
 |false=>exists .bl false,H1,I1,Z,q1
def Ei(ha:PE X a ta)(hb:PE X (.BoolOp .Or (b::rest) pos) tb):PE X (.BoolOp .Or (a::b::rest) pos) (rd ta tb):=by
 intro pins s σ H Q I h;show BoolOp_or (thn (ha pins s σ H _ I h) λv s1 XB=>?_);let(x,H1,I1,r1,q1):=XB;let(c,rfl,q1):=q1;cases r1;show Pn ?_;cases c with
 |false=>show hb pins s1 σ H1 Q I1 q1
 |true=>exists .bl true,H1,I1,Z,q1
def q8(ha:PE X a ta):PE X (.UnaryOp .Not a pos) (q9 ta):=by intro pins s σ H Q I h;show UnaryOp_ (thn (ha pins s σ H _ I h) λv s1 XB=>?_);let(x,H1,I1,r1,q1):=XB;let(c,rfl,q1):=q1;cases r1;show not_of (Pn {.bl<|!c,H1,I1,Z,q1})
def tIf(t:TT)(ta tb:TE):(TE):=λσ H Q=>t σ H λc H1=>if c=A9 then ta σ H1 Q else tb σ H1 Q
def Gd{c:B5}(hc:PT X c tA)(ha:PE X a ta)(hb:PE X b tb):PE X (.IfExp c a b pos) (tIf tA ta tb):=by
 intro pins s σ H Q I h;show wpAny_IfExp (thn (hc pins s σ H _ I h) λd s1 XB=>?_);let(H1,I1,q1):=XB;cases d with
 |true=>show ha pins s1 σ H1 Q I1 q1
 |false=>show hb pins s1 σ H1 Q I1 q1
end
def SqL(K:Ad)(H:Hp)(a:A7)(xs:A6 V):(Prop):=
 Rd H a (.lst xs)\/
  ∃(o:Obj)(XX:B4 B1)(n:A5),K.U a=⇑o/\o.cls=.type "list"/\o.dict=A8/\o.data=.seq XX n/\XX.o<=sizeLine/\Vals xs XX.m
def SqT(K:Ad)(H:Hp)(a:A7)(xs:A6 V):(Prop):=
 Rd H a (.tup xs)\/
  ∃(o:Obj)(XX:B4 B1)(n:A5),K.U a=⇑o/\o.cls=.type "tuple"/\o.data=.seq XX n/\XX.o<=sizeLine/\Vals xs XX.m
def qZ:(B1->Option V)
 | .none=>some .non
 | .bool b=>⇑(.bl b)
 | .int i _=>⇑(.int i)
 | .str x _=>⇑(.str x)
 | .bytes b _=>⇑(.byt b)
 | .float b _=>⇑(.flt b)
 | .ref a=>some ↑a
 | .type n=>⇑(.ty n)
 |_=>none
def RelV.abs(r:RelV x u):qZ u=⇑x:=by
 cases x with
 |non=>cases r;rfl
 |bl _=>cases r;rfl
 |int _=>let(t,rfl):=r;rfl
 |str _=>let(t,rfl):=r;rfl
 |byt _=>let(t,rfl):=r;rfl
 |flt _=>let(t,rfl):=r;rfl
 |ref _=>cases r;rfl
 |ty _=>cases r;rfl
def RelV.inj(r:RelV x u)(q:RelV y u):x=y:=Yn (r.abs.symm.l q.abs)
def Vals.inj{xs ys:A6 V}{us:Ag}(h:Vals xs us)(h':Vals ys us):xs=ys:=by
 induction h generalizing ys with
 |nil=>cases h';rfl
 |cons r t ih=>cases h' with
  |cons r' t'=>rw[r.inj r',ih t']
section
variable{X:Cx}{pins:A6 (A7×Obj)}{σ:St}{H:Hp}{s:B6}{a:A7}{xs ys:A6 V}
def SqL.of{K:Ad}(h:H a=⇑(.lst xs)):SqL K H a xs:=.inl (.inl h)
def SqT.of{K:Ad}(h:H a=⇑(.tup xs)):SqT K H a xs:=.inl (.inl h)
def Inv.list(I:Inv X pins σ H s)(h:SqL X.K H a xs):∃XX:Ag,Vals xs XX/\PlainL s.C a XX.r/\xs.f<=sizeLine:=by
 rcases h with h|⟨o,XX,n,hk,hc,hd,hs,hz,r⟩
 .let⟨z,XX,n,r,e⟩:=h.ok I.hok;exists XX,r,{_,n,e,Z,Z,Z},z
 .exists XX.m,r,{o,n,I.kIn a o hk,hc,hd,rF},?_;let e:=r.f
  ext
def Inv.tuple(I:Inv X pins σ H s)(h:SqT X.K H a xs):∃XX:Ag,Vals xs XX/\IsTup s.C a XX.r/\xs.f<=sizeLine:=by
 rcases h with h|⟨o,XX,n,hk,hc,hs,hz,r⟩
 .let⟨z,XX,r,p⟩:=h.ok I.hok;exists XX,r,p,z
 .exists XX.m,r,{o,I.kIn a o hk,hc,n,rF},?_;let e:=r.f
  ext
def Inv.list_inj(I:Inv X pins σ H s)(h:SqL X.K H a xs)(h':SqL X.K H a ys):xs=ys:=by
 let(XX,r,(o,n,e,_,_,d),_):=I.list h;let(its',r',(o',n',e',_,_,d'),_):=I.list h';rw[e]at e';cases e';rw[d]at d';injection d' with d1 _
 have:XX=its':=by simpa using YI Array.toList d1
 subst this;show r.inj r'
def Inv.tuple_inj(I:Inv X pins σ H s)(h:SqT X.K H a xs)(h':SqT X.K H a ys):xs=ys:=by
 let(XX,r,(o,e,_,n,d),_):=I.tuple h;let(its',r',(o',e',_,n',d'),_):=I.tuple h';rw[e]at e';cases e';rw[d]at d';injection d' with d1 _
 have:XX=its':=by simpa using YI Array.toList d1
 subst this;show r.inj r'
end
abbrev Cx.wish(X:Cx)(E:Ae):Cx:={X with xe:=E}
abbrev Cx.nox(X:Cx):Cx:=X.wish λ_ _=>False
def Cx.Ok.wish{X:Cx}(ok:X.Ok)(E:Ae):(X.wish E).Ok:=
 ⟨ok.mod,ok.kind,ok.glob,ok.blt,ok.above,ok.inj,ok.has,ok.cab,ok.hd,ok.frames,ok.stk,ok.exf,ok.bs,ok.bsz,ok.noex,ok.exfs,ok.funs,ok.frf⟩
def Cx.Ok.unwish{X:Cx}{E:Ae}(ok:(X.wish E).Ok):X.Ok:=
 ⟨ok.mod,ok.kind,ok.glob,ok.blt,ok.above,ok.inj,ok.has,ok.cab,ok.hd,ok.frames,ok.stk,ok.exf,ok.bs,ok.bsz,ok.noex,ok.exfs,ok.funs,ok.frf⟩
section
variable{X:Cx}{pins:A6 (A7×Obj)}{σ:St}{H:Hp}{s:B6}{E:Ae}
def Inv.wish(I:Inv X pins σ H s)(E:Ae):Inv (X.wish E) pins σ H s:={I.ok.wish E,I.os,I.bare,I.base,I.loc,I.cell,I.free,I.freeC,I.pin,I.hok,I.len}
def Inv.unwish(I:Inv (X.wish E) pins σ H s):Inv X pins σ H s:=⟨I.ok.unwish,I.os,I.bare,I.base,I.loc,I.cell,I.free,I.freeC,I.pin,I.hok,I.len⟩
def SP.unwish(h:SP (X.wish E) pins rj f s'):SP X pins rj f s':=by
 cases f with
 |next=>let(σ',H',I,q):=h;exists σ',H',I.unwish,q
 |brk=>let(σ',H',I,q):=h;exists σ',H',I.unwish,q
 |cont=>let(σ',H',I,q):=h;exists σ',H',I.unwish,q
 |ret u=>let(v,σ',H',I,r,q):=h;exists v,σ',H',I.unwish,r,q
def PSs.nox{st:A6 B8}{t:TS}(h:PSs X.nox st t):PSs X st t:=λpins s σ H rj I hw=>
 SD (h pins s σ H rj (I.wish _) hw) (λ_ _ q=>q.unwish) λ_ _ z=>False.elim z
end
section
variable{X:Cx}{st:B8}{rest:A6 B8}{t u:TS}{e:B5}{te:TE}{pos:Pos}
def qY:(TS):=λrj σ H=>rj.nx σ H
def MX(t u:TS):(TS):=λrj σ H=>t {rj with nx:=u rj} σ H
def Zm:PSs X [] qY:=λ_ _ σ H _ I h=>wb ⟨σ,H,I,h⟩
def XN(h1:PS X st t)(h2:PSs X rest u):PSs X (st::rest) (MX t u):=by
 intro pins s σ H rj I h;show wpAny_execs_cons (thn (h1 pins s σ H {rj with nx:=u rj} I h) λf s1 q=>?_);cases f with
 |next=>
  let(σ',H',I',q):=q;show h2 pins s1 σ' H' rj I' q
 |ret v=>show q
 |brk=>show q
 |cont=>show q
def XM(h1:PS X st t):PSs X [st] t:=by
 intro pins s σ H rj I h;show wpAny_execs_cons (thn (h1 pins s σ H rj I h) λf s1 q=>?_);cases f with
 |next=>show wb q
 |ret v=>show q
 |brk=>show q
 |cont=>show q
def Inv.quiet(I:Inv X pins σ H s):interactive X.X=B0:=by simp[interactive,I.ok.kind]
def qX(te:TE):(TS):=λrj σ H=>te σ H λ_ H1=>rj.nx σ H1
def Sd(he:PE X e te)(hs:swapsWith e none pos.line X.X=pure false:=by rfl):PS X (.Expr e pos) (qX te):=by intro pins s σ H rj I h;show wpAny_Expr_any (thn (he pins s σ H _ I h) λv s1 zz=>by let(x,H1,I1,r1,q1):=zz;exists σ,H1,I1,q1) I.quiet hs
def qW(te:TE):(TS):=λrj σ H=>te σ H rj.rt
def Zj(he:PE X e te):PS X (.Return ⇑e pos) (qW te):=by intro pins s σ H rj I h;show wpAny_Return_some (thn (he pins s σ H _ I h) λv s1 zz=>by let(x,H1,I1,r1,q1):=zz;exists x,σ,H1,I1,r1,q1)
def Eh(c:TT)(t u:TS):(TS):=λrj σ H=>c σ H λb H1=>if b=A9 then t rj σ H1 else u rj σ H1
def XD{c:B5}{a b:A6 B8}{tc:TT}(hc:PT X c tc)(ha:PSs X a t)(hb:PSs X b u):PS X (.If c a b pos) (Eh tc t u):=by
 intro pins s σ H rj I h;show wpAny_If (thn (hc pins s σ H _ I h) λd s1 XB=>?_);let(H1,I1,q1):=XB;cases d with
 |true=>show ha pins s1 σ H1 rj I1 q1
 |false=>show hb pins s1 σ H1 rj I1 q1
def qV:(TS):=λ_ _ _=>False
def Vn:PS X st qV:=λ_ _ _ _ _ _ h=>h.elim
end
abbrev TG:=V->St->Hp->(St->Hp->Prop)->Prop
abbrev Jy:=A6 V->St->Hp->(St->Hp->Prop)->Prop
def PG(X:Cx)(target:B5)(t:TG):(Prop):=
 ∀(pins:A6 (A7×Obj))(s:B6)(σ:St)(H:Hp)(v:V)(u:B1)(Q:St->Hp->Prop),Inv X pins σ H s->RelV v u->t v σ H Q->
  wpAny (model X.prog X.w) X.A (assign target X.X u) (λ_ s'=>∃σ' H',Inv X pins σ' H' s'/\Q σ' H') X.xe s
def Eg(X:Cx)(ts:A6 B5)(t:Jy):(Prop):=
 ∀(pins:A6 (A7×Obj))(s:B6)(σ:St)(H:Hp)(vs:A6 V)(us:Ag)(Q:St->Hp->Prop),Inv X pins σ H s->Vals vs us->t vs σ H Q->
  wpAny (model X.prog X.w) X.A (assignInOrder ((assignEach ts X.X).G (·.2)) us) (λ_ s'=>∃σ' H',Inv X pins σ' H' s'/\Q σ' H') X.xe s
abbrev Pa:=V->V->V->Hp->(Hp->Prop)->Prop
def Jx(X:Cx)(t:Pa):(Prop):=
 ∀(pins:A6 (A7×Obj))(s:B6)(σ:St)(H:Hp)(o i v:V)(ov iv u:B1)(Q:Hp->Prop),Inv X pins σ H s->RelV o ov->RelV i iv->RelV v u->t o i v H Q->
  wpAny (model X.prog X.w) X.A (setItem ov iv u) (λ_ s'=>∃H',Inv X pins σ H' s'/\Q H') X.xe s
abbrev vP:=V->V->Hp->VK->Prop
def qU(X:Cx)(op:Operator)(t:vP):(Prop):=
 ∀(pins:A6 (A7×Obj))(s:B6)(σ:St)(H:Hp)(x y:V)(v u:B1)(Q:VK),Inv X pins σ H s->RelV x v->RelV y u->t x y H Q->
  wpAny (model X.prog X.w) X.A (inplaceOp op v u) (EP X pins σ Q) X.xe s
section
variable{X:Cx}{pos:Pos}
def MW(i:A5):(TG):=λv σ H Q=>Q (σ.set i<|some v) H
def Ef{x:C0}(hN:X.N.Nodup)(hi:X.N[i]?=⇑x)(hx:Loc X.X.scope x)(hf:X.fn x=A9\/X.X.scope.names.U x=some .local:=by first|show .inl rfl|show .inr rfl|assumption):PG X (.Name x pos) (MW i):=by intro pins s σ H v u Q I r h;show wpAny_assign_Name (JA I hN hi hx r (λs' I'=>{_,H,I',h}) hf)
def Zb(i:A5){x:C0}(hN:decide X.N.Nodup=A9:=by kernel_rfl)(hi:X.N[i]?=⇑x:=by rfl)(hx:Loc X.X.scope x:=by show .inl rfl)(hf:X.fn x=A9\/X.X.scope.names.U x=some .local:=by first|show .inl rfl|show .inr rfl|assumption):PG X (.Name x pos) (MW i):=Ef (Yz hN) hi hx hf
inductive gNil(vs:A6 V)(σ:St)(H:Hp)(Q:St->Hp->Prop):Prop
 |mk  (_:vs=[]) (_:Q σ H)
inductive gCons(t:TG)(u:Jy)(vs:A6 V)(σ:St)(H:Hp)(Q:St->Hp->Prop):Prop
 |mk (v r:_) (_:vs=v::r) (_:t v σ H λσ' H'=>u r σ' H' Q)
def Uv:Eg X [] gNil:=by intro pins s σ H vs us Q I r h;let(e,h):=h;show assignInOrder_nil ⟨σ,H,I,h⟩
def ZC{e:B5}{es:A6 B5}{t:TG}{u:Jy}(h1:PG X e t)(h2:Eg X es u)
  (hs:(assignEach (e::es) X.X).G (·.2)=assign e X.X::(assignEach es X.X).G (·.2):=by rfl):Eg X (e::es) (gCons t u):=by
 intro pins s σ H vs us Q I r h;let(v,vr,e1,h):=h;subst e1;cases r with
 |cons r rr=>
  rw[hs];show assignInOrder_cons (thn (h1 pins s σ H _ _ _ I r h) λ_ s1 XB=>?_);let(σ1,H1,I1,q1):=XB;show h2 pins s1 σ1 H1 _ _ Q I1 rr q1
inductive gTup(K:Ad)(n:A5)(t:Jy)(v:V)(σ:St)(H:Hp)(Q:St->Hp->Prop):Prop
 |mk (a xs:_) (_:v=.ref a) (_:SqT K H a xs) (_:xs.f=n) (_:t xs σ H Q)
def qT{k:A5}(hc:X.calm=A9)(h:Eg X es t)
  (hn:(assignEach es X.X).f=n:=by rfl)(WE:(assignEach es X.X).findIdx? (·.1)=A8:=by rfl):PG X (.Tuple es k pos) (gTup X.K n t):=by
 intro pins s σ H v u Q I r hw;let(a,xs,e1,hq,hl,hw):=hw;subst e1;cases r;let(XX,rv,ht,hz):=I.tuple hq;show assign_Tuple_tuple (I.ok.hd hc) ht (by simp[hn,<-hl,rv.length]) WE λh' hx=>?_;let I1:Inv X pins σ H {s with heap:=h'}:=I.kept (t':=s.toks) λb o e=>hx b o (Yx<|Ym e) e
 show h pins _ σ H xs _ Q I1 rF hw
def qS(to ti:TE)(t:Pa):(TG):=λv σ H Q=>to σ H λo H1=>ti σ H1 λi H2=>t o i v H2 λH3=>Q σ H3
def Jw{o i:B5}{to ti:TE}{t:Pa}(ho:PE X o to)(hi:PE X i ti)(hs:Jx X t)
  (ha:∀v,assign (.Subscript o i pos) X.X v=(do
   let ov <-holding [v] (eval o X.X)
   let iv <-holding [v,ov] (eval i X.X)
   standAt pos
   holding [v,ov,iv] (setItem ov iv v)
   release [v,ov,iv] []):=by intro _;rfl):PG X (.Subscript o i pos) (qS to ti t):=by intro pins s σ H v u Q I r h;rw[ha];show XU (SE<|thn (ho pins s σ H _ I h) λov s1 XB=>?_);let(x,H1,I1,r1,q1):=XB;show XU (SE<|thn (hi pins s1 σ H1 _ I1 q1) λiv s2 XB=>?_);let(y,H2,I2,r2,q2):=XB;show XU (wpAny_standAt<|XU<|SE<|thn (hs pins s2 σ H2 x y v ov iv u _ I2 r1 r2 r q2) λ_ s3 XB=>?_);let(H3,I3,q3):=XB;show wpAny_release ⟨σ,H3,I3,q3⟩
def MV(te:TE)(g:TG):(TS):=λrj σ H=>te σ H λx H1=>g x σ H1 rj.nx
def Ee{tg e:B5}{te:TE}{g:TG}(he:PE X e te)(hg:PG X tg g)(hs:swapsWithSole [tg] e pos.line X.X=pure false:=by rfl)(hw:swappedStores [tg] e X.X=pure none:=by rfl)
  (h1:(assignEach [tg] X.X).G (·.2)=[assign tg X.X]:=by rfl):PS X (.Assign [tg] e pos) (MV te g):=by intro pins s σ H rj I h;show wpAny_Assign_stores (thn (he pins s σ H _ I h) λv s1 XB=>?_) hs hw;let(x,H1,I1,r1,q1):=XB;rw[h1];show thn (hg pins s1 σ H1 x v _ I1 r1 q1) λ_ s2 q=>q
def Sb{i:A5}{x:C0}{e:B5}{te:TE}{pos':Pos}(hN:X.N.Nodup)(hi:X.N[i]?=⇑x)(hx:Loc X.X.scope x)(he:PE X e te)(hs:swapsWith e ⇑(.Name x pos') pos.line X.X=pure false:=by rfl)(hf:X.fn x=A9\/X.X.scope.names.U x=some .local:=by first|show .inl rfl|show .inr rfl|assumption):
  PS X (.Assign [.Name x pos'] e pos) (MV te<|MW i):=by intro pins s σ H rj I h;show wpAny_Assign_Name (thn (he pins s σ H _ I h) λv s1 XB=>?_) hs;let(y,H1,I1,r1,q1):=XB;show JA I1 hN hi hx r1 (λs2 I2=>{_,H1,I2,q1}) hf
def Zh(i:A5){x:C0}{e:B5}{te:TE}{pos':Pos}(he:PE X e te)(hN:decide X.N.Nodup=A9:=by kernel_rfl)(hi:X.N[i]?=⇑x:=by rfl)(hx:Loc X.X.scope x:=by show .inl rfl)(hs:swapsWith e (some<|.Name x pos') pos.line X.X=pure false:=by rfl)(hf:X.fn x=A9\/X.X.scope.names.U x=some .local:=by first|show .inl rfl|show .inr rfl|assumption):PS X (.Assign [.Name x pos'] e pos) (MV te<|MW i):=Sb (Yz hN) hi hx he hs hf
def qR(to ti te:TE)(tget:V->V->Hp->VK->Prop)(vN:vP)(tset:Pa):(TS):=λrj σ H=>to σ H λo H1=>ti σ H1 λi H2=>tget o i H2 λx H3=>te σ H3 λy H4=>vN x y H4 λz H5=>tset o i z H5 λH6=>rj.nx σ H6
def Ec(X:Cx)(t:V->V->Hp->VK->Prop):(Prop):=
 ∀(pins:A6 (A7×Obj))(s:B6)(σ:St)(H:Hp)(o i:V)(ov iv:B1)(Q:VK),Inv X pins σ H s->RelV o ov->RelV i iv->t o i H Q->
  wpAny (model X.prog X.w) X.A (getItem ov iv) (EP X pins σ Q) X.xe s
def vM{o i e:B5}{to ti te:TE}{tget:V->V->Hp->VK->Prop}{vN:vP}{tset:Pa}{op:Operator}{Sa:Pos}(ho:PE X o to)(hi:PE X i ti)(hg:Ec X tget)(he:PE X e te)(hp:qU X op vN)(hs:Jx X tset)
  (ha:∀ov iv new,augStore i ov iv new=(do holding [new,ov,iv] (setItem ov iv new);release [new,ov,iv] [];pure .next):=by intros;rfl):PS X (.AugAssign (.Subscript o i Sa) op e pos) (qR to ti te tget vN tset):=by intro pins s σ H rj I h;show wpAny_AugAssign_SubscriptAny (thn (ho pins s σ H _ I h) λov s1 XB=>?_) ha;let(x1,H1,I1,r1,q1):=XB;show thn (hi pins s1 σ H1 _ I1 q1) λiv s2 XB=>?_;let(x2,H2,I2,r2,q2):=XB;show thn (hg pins s2 σ H2 x1 x2 ov iv _ I2 r1 r2 q2) λold s3 XB=>?_;let(x3,H3,I3,r3,q3):=XB;show thn (he pins s3 σ H3 _ I3 q3) λv s4 XB=>?_;let(x4,H4,I4,r4,q4):=XB;show thn (hp pins s4 σ H4 x3 x4 old v _ I4 r3 r4 q4) λnew s5 XB=>?_;let(x5,H5,I5,r5,q5):=XB;show thn (hs pins s5 σ H5 x1 x2 x5 ov iv new _ I5 r1 r2 r5 q5) λ_ s6 zz=>by let(H6,I6,q6):=zz;exists σ,H6,I6,q6
def bX(f:A0->A0->A0):(vP):=λx y H Q=>∃i j,x=.int i/\y=.int j/\Q (.int<|f i j) H
def Eb:qU X .Add (bX λi j=>i+j):=by intro pins s σ H x y v u Q I r1 r2 h;let(i,j,e1,e2,q):=h;subst e1;subst e2;let(t,rfl):=r1;let(t',rfl):=r2;show iadd_int {.int _,H,I.tok _,{_,Z},q}
def Ea:qU X .Sub (bX λi j=>i-j):=by intro pins s σ H x y v u Q I r1 r2 h;let(i,j,e1,e2,q):=h;subst e1;subst e2;let(t,rfl):=r1;let(t',rfl):=r2;show isub_int {.int _,H,I.tok _,{_,Z},q}
def qQ(c:TT)(tb:TS):(TS):=λrj σ H=>∃W:A5->St->Hp->Prop,(∃m,W m σ H)/\∀m σ H,W m σ H->
 c σ H λb H1=>if b=A9 then ∃N:St->Hp->Prop,(∀σ' H',N σ' H'->∃m',m'<m/\W m' σ' H')/\tb {rj with nx:=N,ct:=N,bk:=rj.nx} σ H1 else rj.nx σ H1
def qP{c:B5}{body:A6 B8}{tc:TT}{tb:TS}(hp:PassesOwn (model X.prog X.w) X.A X.X X.xe)(hc:PT X c tc)(hb:PSs X body tb):PS X (.While c body [] pos) (qQ tc tb):=by
 intro pins s σ H rj I h;let(W,(m0,w0),turn):=h;show wpAny_While (codeAny_whileLoop (λn s'=>∃σ' H',Inv X pins σ' H' s'/\W n σ' H') ?_ m0 ⟨σ,H,I,w0⟩);rintro n s1 ⟨σ1,H1,I1,w1⟩;show JP hp (thn (hc pins s1 σ1 H1 _ I1<|turn n σ1 H1 w1) λb s2 XB=>?_);let(H2,I2,q2):=XB;cases b with
 |true=>
  let(N,hN,q2):=q2;show JP hp (thn (hb pins s2 σ1 H2 _ I2 q2) λf s3 q3=>?_);cases f with
  |next=>
   let(σ3,H3,I3,n3):=q3;let(m',hm,w3):=hN σ3 H3 n3;exists m',hm,σ3,H3,I3,w3
  |cont=>
   let(σ3,H3,I3,n3):=q3;let(m',hm,w3):=hN σ3 H3 n3;exists m',hm,σ3,H3,I3,w3
  |brk=>show q3
  |ret v=>show q3
 |false=>
  show wb ⟨σ1,H2,I2,q2⟩
end
structure It where
 go:A5->Hp->Prop
 yld:A5->Hp->V->Hp->Prop
 stop:A5->Hp->Prop
def FpOk(X:Cx)(pins:A6 (A7×Obj))(H:Hp)(b:A7):(Prop):=
 H b=A8/\b≠X.X.locals/\b∉X.fs/\(b∈X.ex\/(~~~X.s₀)<=b)/\(∀x c,X.X.cells.U x=⇑c->c≠b)/\∀p∈X.pn++pins,p.1≠b
def Inv.fpOk{b:A7}(I:Inv X pins σ H s)(hb:(~~~s)<=b)(hn:H' b=A8):FpOk X pins H' b:=by
 exists hn,QS<|Yp I.lt hb,I.nofs hb,.inr<|Yq I.sz hb,λx c e z=>?_,λp hp z=>?_
 .let⟨v,q⟩:=I.cell x c e;show absurd (Yp q.lt<|by rwa[z]) (Pk _)
 .show absurd (Yp (Ym (I.pin p hp).1)<|by rwa[z]) (Pk _)
structure Turn(P:Program)(w:World)(K:Ad)(tg:B5)(tB:It)(fp:A6 A7)(it:A7)(tn:A5->Heap->Prop):Prop where
 mem:it∈fp
 obj:∀i h,tn i h->∀b∈fp,∃o,h.E b=⇑o/\∀v,o.data≠.cell v
 keep:∀i h h',tn i h->(∀b∈fp,∀o,h.E b=⇑o->h'.E b=⇑o)->tn i h'
 item:∀(X:Cx),X.prog=P->X.w=w->X.K=K->X.calm=A9->∀(i:A5)(pins:A6 (A7×Obj))(s:B6)(σ:St)(H:Hp)(E:Ae),Inv X pins σ H s->(∀b∈fp,FpOk X pins H b)->tn i s.C->tB.go i H->
  wpAny (model P w) X.A (pyNext<|.ref it) (λr s1=>∃u,r=⇑u/\
   wpAny (model P w) X.A (letOwnedTupleGo tg ↑it u) (λ_ s2=>∃x H',Inv X pins σ H' s2/\RelV x u/\tB.yld i H x H'/\tn (i+1) s2.C/\∀b∈fp,H' b=A8) E s1) E s
 done:∀(X:Cx),X.prog=P->X.w=w->X.K=K->X.calm=A9->∀(i:A5)(pins:A6 (A7×Obj))(s:B6)(σ:St)(H:Hp)(E:Ae),Inv X pins σ H s->(∀b∈fp,FpOk X pins H b)->tn i s.C->tB.stop i H->
  wpAny (model P w) X.A (pyNext<|.ref it) (λr s1=>r=A8/\Inv X pins σ H s1) E s
 self:∀(A:Around)(i:A5)(s:B6)(Q:Ae)(E:Ae),tn i s.C->Q ↑it s->wpAny (model P w) A (pyIter<|.ref it) Q E s
abbrev TI:=St->Hp->(It->Hp->Prop)->Prop
def bW(X:Cx)(pins:A6 (A7×Obj))(σ:St)(tg:B5)(R:It->Hp->Prop)(qO:B1)(s2:B6):(Prop):=
 ∃(it:A7)(fp:A6 A7)(tn:A5->Heap->Prop)(tB:It)(H':Hp),qO=.ref it/\Inv X pins σ H' s2/\Turn X.prog X.w X.K tg tB fp it tn/\tn 0 s2.C/\(∀b∈fp,FpOk X pins H' b)/\R tB H'
def PI(X:Cx)(tg iter:B5)(wi:TI):(Prop):=
 ∀(pins:A6 (A7×Obj))(s:B6)(σ:St)(H:Hp)(R:It->Hp->Prop),Inv X pins σ H s->wi σ H R->
  wpAny (model X.prog X.w) X.A (eval iter X.X) (λv s1=>wpAny (model X.prog X.w) X.A (pyIter v) (bW X pins σ tg R) X.xe s1) X.xe s
def Rx{E:Ae}{s:B6}{it:A7}{o:Obj}{n:B2}{vs:B4 B1}{Q:Unit->B6->Prop}(ho:s.C.E it=⇑o)(hc:o.cls=.type n)(hd:o.data=.fields vs)
  (hn:["enumerate","zip","dict_itemiterator","dict_reverseitemiterator","odict_iterator","itertools.zip_longest","itertools.pairwise"].contains n=B0)(hQ:Q () s):wpAny M A (letOwnedTupleGo tg ↑it u) Q E s:=by
 cases tg<;>first
  |show Yg hQ
  | (cases u<;>first
    |show Yg hQ
    | (show XU (wpAny_load ho ?_)
       rw[hc,hd];change wpAny M A (if (["enumerate","zip","dict_itemiterator","dict_reverseitemiterator","odict_iterator","itertools.zip_longest","itertools.pairwise"].contains n&&vs[0]? == some (rawInt _))=A9 then _ else _) Q E s
       rw[Yh J];show Yg hQ))
def OZ(K:Ad)(a:A7):(It):=
 {λi H=>∃xs x,SqL K H a xs/\xs[i]?=⇑x,λi H x H'=>H'=H/\∀xs,SqL K H a xs->xs[i]?=⇑x,λi H=>∃xs,SqL K H a xs/\xs.f<=i}
def OY(K:Ad)(a:A7):(It):=
 {λi H=>∃xs x,SqT K H a xs/\xs[i]?=⇑x,λi H x H'=>H'=H/\∀xs,SqT K H a xs->xs[i]?=⇑x,λi H=>∃xs,SqT K H a xs/\xs.f<=i}
def Li(lo:A0)(n:A5):(It):={λi _=>i<n,λi H x H'=>H'=H/\x=.int (lo+i),λi _=>n<=i}
def bV{P:Program}{w:World}{K:Ad}{tg:B5}(a it:A7):Turn P w K tg (OZ K a) [it] it (λi h=>h.IsListIter it a i) where
 mem:=Eo
 obj:=λi h st b hb=>by
  let e:b=it:=by simpa using hb
  subst e;let(o,e,c,d):=st;exists o,e,λv z=>by ext
 keep:=λi h h' st k=>st.at λo e=>k it Eo o e
 item:=by
  intro X hP hw hK hc i pins s σ H E I hf st hg;subst hP hw hK;let(xs,x,hq,hx):=hg;let(XX,rv,p,hz):=I.list hq;let(u,hu,ru):=rv.get hx;let(f0,f1,f2,f3,f4,f5):=hf it Eo;show wpAny_pyNext_list_item st p.isList (x:=u) (by simpa using hu) λh' XS sb=>?_;let I1:Inv X pins σ H {s with heap:=h'}:=I.turned (t':=s.toks) (λb o hb e=>(sb.2 b hb).l e) f0 f1 f3 f4 f5
  let(o,e,c,d):=id XS;exists u,Z,Rx (s:={s with heap:=h'}) e c d Ep {x,H,I1,ru,{Z,λys hy=>by rwa[I.list_inj hy hq]},XS,λb hb=>(hf b hb).1}
 done:=by
  intro X hP hw hK hc i pins s σ H E I hf st hg;subst hP hw hK;let(xs,hq,hx):=hg;let(XX,rv,p,hz):=I.list hq;let(f0,f1,f2,f3,f4,f5):=hf it Eo;let hl:=rv.f
  show wpAny_pyNext_list_end (I.ok.hd hc) st p.isList (by simp;ext) λh' eb=>{Z,I.turned (t':=s.toks) (λb o hb e=>eb b o hb e) f0 f1 f3 f4 f5}
 self:=λ_ _ _ _ _ st h=>wpAny_pyIter_listiter st h
def bU{P:Program}{w:World}{K:Ad}{tg:B5}(a it:A7):Turn P w K tg (OY K a) [it] it (λi h=>h.IsTupleIter it a i) where
 mem:=Eo
 obj:=λi h st b hb=>by
  let e:b=it:=by simpa using hb
  subst e;let(o,e,c,d):=st;exists o,e,λv z=>by ext
 keep:=λi h h' st k=>st.at λo e=>k it Eo o e
 item:=by
  intro X hP hw hK hc i pins s σ H E I hf st hg;subst hP hw hK;let(xs,x,hq,hx):=hg;let(XX,rv,p,hz):=I.tuple hq;let(u,hu,ru):=rv.get hx;let(f0,f1,f2,f3,f4,f5):=hf it Eo;show wpAny_pyNext_tuple_item st (show s.C.IsTuple a XX.r from p) (x:=u) (by simpa using hu) λh' XS sb=>?_;let I1:Inv X pins σ H {s with heap:=h'}:=I.turned (t':=s.toks) (λb o hb e=>(sb.2 b hb).l e) f0 f1 f3 f4 f5
  let(o,e,c,d):=id XS;exists u,Z,Rx (s:={s with heap:=h'}) e c d Ep {x,H,I1,ru,{Z,λys hy=>by rwa[I.tuple_inj hy hq]},XS,λb hb=>(hf b hb).1}
 done:=by
  intro X hP hw hK hc i pins s σ H E I hf st hg;subst hP hw hK;let(xs,hq,hx):=hg;let(XX,rv,p,hz):=I.tuple hq;let(f0,f1,f2,f3,f4,f5):=hf it Eo;let hl:=rv.f
  show wpAny_pyNext_tuple_end (I.ok.hd hc) st (show s.C.IsTuple a XX.r from p) (by ext) λh' eb=>{Z,I.turned (t':=s.toks) (λb o hb e=>eb b o hb e) f0 f1 f3 f4 f5}
 self:=λ_ _ _ _ _ st h=>wpAny_pyIter_tupleiter st h
def Zt7{P:Program}{w:World}{K:Ad}{tg:B5}(it:A7)(lo:A0)(n:A5):Turn P w K tg (Li lo n) [it] it (λi h=>IsRangeIter h it (lo+(i:A5)*1) ((n:A0)-(i:A5)) 1) where
 mem:=Eo
 obj:=λi h st b hb=>by
  ext
 keep:=λi h h' st k=>k it Eo _ st
 item:=by
  intro X hP hw hK hc i pins s σ H E I hf st hg;subst hP hw hK;let(f0,f1,f2,f3,f4,f5):=hf it Eo;let W:=Walks.range (prog:=X.prog) (w:=X.w) (I.ok.hd hc) it lo 1 n
  show W.item i s _ _ hg st λv h' tk hv XS kk=>?_;let(t,rfl):=hv;let I1:Inv X pins σ H {s with heap:=h',toks:=tk}:=I.turned (λb o hb e=>kk b o (by ext) e) f0 f1 f3 f4 f5
  exists _,Z,Rx (s:={s with heap:=h',toks:=tk}) (n:="range_iterator") XS Z Z Ep {.int<|lo+i,H,I1,{t,?_},⟨Z,Z⟩,XS,λb hb=>(hf b hb).1}
  ext
 done:=by intro X hP hw hK hc i pins s σ H E I hf st hg;let(f0,f1,f2,f3,f4,f5):=hf it Eo;show wpAny_pyNext_range_end (I.ok.hd hc) st (by have:n<=i:=hg;lia) λh' eb=>{Z,I.turned (t':=s.toks) (λb o hb e=>eb b o hb e) f0 f1 f3 f4 f5}
 self:=λ_ _ _ _ _ st h=>wpAny_pyIter_rangeiter st h
section
variable{X:Cx}{tg:B5}
inductive xList(K:Ad)(x:V)(H1:Hp)(R:It->Hp->Prop):Prop
 |mk (a:_) (_:x=.ref a) (_:∃xs,SqL K H1 a xs) (_:R (OZ K a) H1)
def DZ(K:Ad)(tl:TE):(TI):=λσ H R=>tl σ H λx H1=>xList K x H1 R
inductive xTpl(K:Ad)(x:V)(H1:Hp)(R:It->Hp->Prop):Prop
 |mk (a:_) (_:x=.ref a) (_:∃xs,SqT K H1 a xs) (_:R (OY K a) H1)
def DY(K:Ad)(tl:TE):(TI):=λσ H R=>tl σ H λx H1=>xTpl K x H1 R
def qN{l:B5}{tl:TE}(hl:PE X l tl):PI X tg l (DZ X.K tl):=by
 intro pins s σ H R I h;show thn (hl pins s σ H _ I h) λv s1 XB=>?_;let(x,H1,I1,r1,q1):=XB;let(a,e,(xs,hq),q):=q1;subst e;cases r1;let(XX,rv,p,hz):=I1.list hq;show wq p.isList ?_;exists (~~~s1),[(~~~s1)],_,_,H1,Z,I1.kept (t':=s1.toks) λb o e=>Xf _ e,bV a _,{_,Yj _ Z,Z,Z},λb hb=>?_,q;let e:b=(~~~s1):=by simpa using hb
 subst e;show I1.fpOk (XG _) (I1.hok.fresh<|XG _)
def qM{l:B5}{tl:TE}(hl:PE X l tl):PI X tg l (DY X.K tl):=by
 intro pins s σ H R I h;show thn (hl pins s σ H _ I h) λv s1 XB=>?_;let(x,H1,I1,r1,q1):=XB;let(a,e,(xs,hq),q):=q1;subst e;cases r1;let(XX,rv,p,hz):=I1.tuple hq;show wpAny_pyIter_tuple (show s1.C.IsTuple a XX.r from p) ?_;exists (~~~s1),[(~~~s1)],_,_,H1,Z,I1.kept (t':=s1.toks) λb o e=>Xf _ e,bU a _,{_,Yj _ Z,Z,Z},λb hb=>?_,q;let e:b=(~~~s1):=by simpa using hb
 subst e;show I1.fpOk (XG _) (I1.hok.fresh<|XG _)
def bT{R:It->Hp->Prop}{E:Ae}{lo hi:A0}{t u v:Tok}{tk:A5}(I:Inv X pins σ H s)(h1:-(2^62)<=lo)(h2:lo<2^62)(h3:-(2^62)<=hi)(h4:hi<2^62)
  (q:R (Li lo (hi-lo).j) H):wpAny (model X.prog X.w) X.A (pyIter<|.ref (~~~s)) (bW X pins σ tg R) E {s with heap:=s.C.push {cls:=.type "range",data:=.fields #[.int lo t,.int hi u,.int 1 v]},toks:=tk}:=by
 show wpAny_pyIter_range (IsRange.new ..) (small_one h1 h2 h3 h4) ?_;let I1:Inv X pins σ H {s with heap:=s.C.push {cls:=.type "range",data:=.fields #[.int lo t,.int hi u,.int 1 v]},toks:=tk}:=I.kept λb o e=>Xf _ e
 show⟨(s.C.push {cls:=.type "range",data:=.fields #[.int lo t,.int hi u,.int 1 v]}).objs.o,[(s.C.push {cls:=.type "range",data:=.fields #[.int lo t,.int hi u,.int 1 v]}).objs.o],_,_,H,Z,
  I1.kept (t':=tk) λb o e=>Xf _ e,Zt7 _ lo (hi-lo).j,?_,λb hb=>?_,q⟩
 .let e1:lo+((0:A5):A0)*1=lo:=Eo;let e2:(((hi-lo).j:A5):A0)-((0:A5):A0)=Builtin.Range.rangeSize lo hi 1:=by rw[rangeSize_one];split<;>grind
  rw[e1,e2];show Yj _ rfl
 .let e:b=(s.C.push {cls:=.type "range",data:=.fields #[.int lo t,.int hi u,.int 1 v]}).objs.o:=by simpa using hb
  subst e;show I1.fpOk (XG _) (I1.hok.fresh<|XG _)
inductive xRng(vs:A6 V)(H1:Hp)(R:It->Hp->Prop):Prop
 |mk (j:A0) (_:vs=[.int j]) (_:-(2^62)<=j) (_:j<2^62) (_:R (Li 0 j.j) H1)
def qL(ta:TA):(TI):=λσ H R=>ta σ H λvs H1=>xRng vs H1 R
def qK(ta:TA):(TI):=λσ H R=>ta σ H λvs H1=>∃i j:A0,vs=[.int i,.int j]/\(-(2^62)<=i/\i<2^62/\-(2^62)<=j/\j<2^62)/\R (Li i (j-i).j) H1
def ZM{a:B5}{ta:TA}{p pos:Pos}(hg:Gl X "range")(hm:X.mg "range"=A8)(ha:PA X [a] ta)(hs:starEach [a] X.X=[(false,eval a X.X)]:=by rfl):PI X tg (.Call (.Name "range" p) [a] [] pos) (qL ta):=by
 intro pins s σ H R I h;show Call_ (PX I hg hm boot_range<|Ta (thn (ha pos pins s σ H _ I h) λus s1 XB=>?_) hs Z);let(vs,H1,I1,r1,q1):=XB;let(j,e,q1,q2,q):=q1;subst e;cases r1 with
 |cons r rr=>
  cases rr;let(t,rfl):=r;show call_range_1 (bT I1 (by ext) (by ext) q1 q2<|by simpa using q)
def bS{a b:B5}{ta:TA}{p pos:Pos}(hg:Gl X "range")(hm:X.mg "range"=A8)(ha:PA X [a,b] ta)(hs:starEach [a,b] X.X=[(false,eval a X.X),(false,eval b X.X)]:=by rfl)(TZ:starEach [b] X.X=[(false,eval b X.X)]:=by rfl):
  PI X tg (.Call (.Name "range" p) [a,b] [] pos) (qK ta):=by
 intro pins s σ H R I h;show Call_ (PX I hg hm boot_range<|Ta (thn (ha pos pins s σ H _ I h) λus s1 zz=>?_) (by rw[hs,TZ])<|by rw[TZ];rfl);let(vs,H1,I1,r1,q1):=zz;let(i,j,e,(q1,q2,q3,q4),q):=q1;subst e;cases r1 with
 |cons r rr=>
  cases rr with
  |cons r' rr=>
   cases rr;let(t,rfl):=r;let(t',rfl):=r';show call_range_2 (bT I1 q1 q2 q3 q4 q)
def qJ(wi:TI)(g:TG)(tb:TS):(TS):=λrj σ H=>wi σ H λtB H1=>∃W:A5->A5->St->Hp->Prop,(∃m,W 0 m σ H1)/\∀i m σ H,W i m σ H->
 (tB.stop i H/\rj.nx σ H)\/(tB.go i H/\∃N:St->Hp->Prop,(∀σ' H',N σ' H'->∃m',m'<m/\W (i+1) m' σ' H')/\∀x H',tB.yld i H x H'->g x σ H' λσ2 H2=>tb {rj with nx:=N,ct:=N,bk:=rj.nx} σ2 H2)
def MU(fp:A6 A7)(h:Heap):(A6 (A7×Obj)):=fp.filterMap λb=>(h.E b).G λo=>(b,o)
def vL{b:A7}{o:Obj}(hb:b∈fp)(e:h.E b=⇑o):(b,o)∈MU fp h:=List.mem_filterMap.mpr {b,hb,by rw[e];rfl}
def bR{p:A7×Obj}(hp:p∈MU fp h):p.1∈fp/\h.E p.1=some p.2:=by
 let(b,hb,e):=List.mem_filterMap.S hp;cases q:h.E b with
 |none=>ext
 |some o=>
  grind
def Inv.pinned(I:Inv X pins σ H s)(hf:∀b∈fp,FpOk X pins H b)(ho:∀b∈fp,∃o,s.C.E b=⇑o/\∀v,o.data≠.cell v):Inv X (pins++MU fp s.C) σ H s:=
 I.pins_of λp hp=>(Xn.S hp).elim (λz=>I.pin p<|Yc _ z) λz=>by let(hb,e):=bR z;let(f0,f1,f2,_):=hf p.1 hb;grind
def Inv.unpinned{pins pl:A6 (A7×Obj)}(I:Inv X (pins++pl) σ H s):Inv X pins σ H s:=I.pins_of λp hp=>I.pin p (Yc _<|Yl _ hp)
def Uu{iter:B5}{body:A6 B8}{wi:TI}{g:TG}{tb:TS}{pos:Pos}(hp:PassesOwn (model X.prog X.w) X.A X.X X.xe)(hc:X.calm=A9)(hi:PI X tg iter wi)(hg:PG X tg g)(hb:PSs X body tb)
  (hs:∀x,foldedSetIterable iter X.X x=pure x:=by intro _;rfl):PS X (.For tg iter body [] pos) (qJ wi g tb):=by
 intro pins s σ H rj I h;show wpAny_For (thn (hi pins s σ H _ I h) λv s1 h1=>thn h1 λqO s2 h2=>?_) hs;let(it,fp,tn,tB,H2,e,I2,T,WU,f2,W,(m0,w0),turn):=h2;subst e;let Jv:∀{H':Hp},(∀b∈fp,H' b=A8)->∀b∈fp,FpOk X pins H' b:=λhn b hb=>{hn b hb,(f2 b hb).2}
 show codeAny_forLoop_any (λn s'=>∃i σ' H',Inv X pins σ' H' s'/\tn i s'.C/\(∀b∈fp,H' b=A8)/\W i n σ' H') ?_ m0 {0,σ,H2,I2,WU,λb hb=>(f2 b hb).1,w0};rintro n s3 ⟨i,σ3,H3,I3,VV,bQ,w3⟩;rcases turn i n σ3 H3 w3 with ⟨stop,qn⟩|⟨go,N,hN,step⟩
 .show JP hp (thn (T.done X Z Z Z hc i pins s3 σ3 H3 X.xe I3 (Jv bQ) VV stop) λr s4 zz=>?_);let(hr,I4):=zz;subst hr;show wb ⟨σ3,H3,I4,qn⟩
 .show JP hp (thn (T.item X Z Z Z hc i pins s3 σ3 H3 X.xe I3 (Jv bQ) VV go) λr s4 XB=>?_);let(u,hr,h4):=XB;subst hr;show JP hp (thn h4 λ_ s5 XB=>?_);let(x,H5,I5,r5,y5,UI,qI):=XB;let qH:=I5.pinned (Jv qI) (T.obj _ _ UI)
  show JP hp (thn (hg _ s5 σ3 H5 x u _ qH r5<|step x H5 y5) λ_ s6 XB=>?_);let(σ6,H6,I6,q6):=XB;show JP hp (thn (hb _ s6 σ6 H6 _ I6 q6) λf s7 q7=>?_);let again:∀{σ7:St}{H7:Hp},Inv X (pins++MU fp s5.C) σ7 H7 s7->N σ7 H7->∃m,m<n/\∃i σ' H',Inv X pins σ' H' s7/\tn i s7.C/\(∀b∈fp,H' b=A8)/\W i m σ' H':=λ{σ7 H7} I7 n7=>by let(m',hm,w7):=hN σ7 H7 n7;exists m',hm,i+1,σ7,H7,I7.unpinned,T.keep _ _ _ UI λb hb o e=>(I7.pin (b,o)<|Yc _<|Yc _<|vL hb e).1,λb hb=>?_,w7;let(o,e,d):=T.obj _ _ UI b hb;show(I7.pin (b,o)<|Yc _<|Yc _<|vL hb e).2.1
  cases f with
  |next=>let(σ7,H7,I7,n7):=q7;show again I7 n7
  |cont=>let(σ7,H7,I7,n7):=q7;show again I7 n7
  |brk=>let(σ7,H7,I7,q7):=q7;exists σ7,H7,I7.unpinned,q7
  |ret v=>let(x7,σ7,H7,I7,r7,q7):=q7;exists x7,σ7,H7,I7.unpinned,r7,q7
end
def MT{K:Ad}{a:A7}{xs:A6 V}{g:TG}{tb:TS}{rj:Ends}{σ:St}{H:Hp}(Pv:A5->St->Hp->Prop)(h0:Pv 0 σ H)(hl:∀i σ H,i<=xs.f->Pv i σ H->SqL K H a xs)
  (hs:∀i x σ H,xs[i]?=⇑x->Pv i σ H->g x σ H λσ2 H2=>tb {rj with nx:=Pv<|i+1,ct:=Pv<|i+1,bk:=rj.nx} σ2 H2)(hd:∀σ H,Pv xs.f σ H->rj.nx σ H):
  ∃W:A5->A5->St->Hp->Prop,(∃m,W 0 m σ H)/\∀i m σ H,W i m σ H->
   ((OZ K a).stop i H/\rj.nx σ H)\/((OZ K a).go i H/\∃N:St->Hp->Prop,(∀σ' H',N σ' H'->∃m',m'<m/\W (i+1) m' σ' H')/\∀x H',(OZ K a).yld i H x H'->g x σ H' λσ2 H2=>tb {rj with nx:=N,ct:=N,bk:=rj.nx} σ2 H2):=by
 exists λi m σ H=>m=xs.f-i/\i<=xs.f/\Pv i σ H,{xs.f,Eo,Qd _,h0},?_;rintro i m σ H ⟨rfl,hi,p⟩;let q:=hl i σ H hi p
 cases Xj:i<xs.f
 .show .inr {{xs,xs[i],q,by simp[Xj]},Pv<|i+1,λσ' H' p'=>{xs.f-(i+1),D,Z,Xj,p'},λx H' y=>?_};let(e,y):=y;subst e;show hs i x σ _ (y xs q) p
 .let e:i=xs.f:=J;subst e;show .inl {{xs,q,XG _},hd σ H p}
def DX{K:Ad}{a:A7}{xs:A6 V}{g:TG}{tb:TS}{rj:Ends}{σ:St}{H:Hp}(Pv:A5->St->Hp->Prop)(h0:Pv 0 σ H)(hl:∀i σ H,i<=xs.f->Pv i σ H->SqT K H a xs)
  (hs:∀i x σ H,xs[i]?=⇑x->Pv i σ H->g x σ H λσ2 H2=>tb {rj with nx:=Pv<|i+1,ct:=Pv<|i+1,bk:=rj.nx} σ2 H2)(hd:∀σ H,Pv xs.f σ H->rj.nx σ H):
  ∃W:A5->A5->St->Hp->Prop,(∃m,W 0 m σ H)/\∀i m σ H,W i m σ H->
   ((OY K a).stop i H/\rj.nx σ H)\/((OY K a).go i H/\∃N:St->Hp->Prop,(∀σ' H',N σ' H'->∃m',m'<m/\W (i+1) m' σ' H')/\∀x H',(OY K a).yld i H x H'->g x σ H' λσ2 H2=>tb {rj with nx:=N,ct:=N,bk:=rj.nx} σ2 H2):=by
 exists λi m σ H=>m=xs.f-i/\i<=xs.f/\Pv i σ H,{xs.f,Eo,Qd _,h0},?_;rintro i m σ H ⟨rfl,hi,p⟩;let q:=hl i σ H hi p
 cases Xj:i<xs.f
 .show .inr {{xs,xs[i],q,by simp[Xj]},Pv<|i+1,λσ' H' p'=>{xs.f-(i+1),D,Z,Xj,p'},λx H' y=>?_};let(e,y):=y;subst e;show hs i x σ _ (y xs q) p
 .let e:i=xs.f:=D;subst e;show .inl {{xs,q,XG _},hd σ H p}
def MS{lo:A0}{n:A5}{g:TG}{tb:TS}{rj:Ends}{σ:St}{H:Hp}(Pv:A5->St->Hp->Prop)(h0:Pv 0 σ H)
  (hs:∀i σ H,i<n->Pv i σ H->g (.int<|lo+i) σ H λσ2 H2=>tb {rj with nx:=Pv<|i+1,ct:=Pv<|i+1,bk:=rj.nx} σ2 H2)(hd:∀σ H,Pv n σ H->rj.nx σ H):
  ∃W:A5->A5->St->Hp->Prop,(∃m,W 0 m σ H)/\∀i m σ H,W i m σ H->
   ((Li lo n).stop i H/\rj.nx σ H)\/((Li lo n).go i H/\∃N:St->Hp->Prop,(∀σ' H',N σ' H'->∃m',m'<m/\W (i+1) m' σ' H')/\∀x H',(Li lo n).yld i H x H'->g x σ H' λσ2 H2=>tb {rj with nx:=N,ct:=N,bk:=rj.nx} σ2 H2):=by
 exists λi m σ H=>m=n-i/\i<=n/\Pv i σ H,{n,Eo,Qd _,h0},?_;rintro i m σ H ⟨rfl,hi,p⟩;cases Xj:i<n
 .show .inr {Xj,Pv<|i+1,λσ' H' p'=>{n-(i+1),D,Z,Xj,p'},λx H' y=>?_};let(e,y):=y;subst e y;show hs i σ _ Xj p
 .let e:i=n:=J;subst e;show .inl {XG _,hd σ H p}
abbrev R2:=V->V->Hp->VK->Prop
def WD(X:Cx)(f:B1->B1->Sem B1)(r:R2):(Prop):=
 ∀(pins:A6 (A7×Obj))(s:B6)(σ:St)(H:Hp)(x y:V)(v u:B1)(Q:VK),Inv X pins σ H s->RelV x v->RelV y u->r x y H Q->
  wpAny (model X.prog X.w) X.A (f v u) (EP X pins σ Q) X.xe s
def qG(X:Cx)(f:B1->Sem B1)(r:V->Hp->VK->Prop):(Prop):=
 ∀(pins:A6 (A7×Obj))(s:B6)(σ:St)(H:Hp)(x:V)(v:B1)(Q:VK),Inv X pins σ H s->RelV x v->r x H Q->
  wpAny (model X.prog X.w) X.A (f v) (EP X pins σ Q) X.xe s
def Vv(X:Cx)(f:B1)(r:A6 V->Hp->VK->Prop):(Prop):=
 ∀(pins:A6 (A7×Obj))(s:B6)(σ:St)(H:Hp)(xs:A6 V)(us:Ag)(Q:VK),Inv X pins σ H s->Vals xs us->r xs H Q->
  wpAny (model X.prog X.w) X.A (call f us) (EP X pins σ Q) X.xe s
def vK(r:R2)(ta tb:TE):(TE):=λσ H Q=>ta σ H λx H1=>tb σ H1 λy H2=>r x y H2 Q
def tUn(r:V->Hp->VK->Prop)(ta:TE):(TE):=λσ H Q=>ta σ H λx H1=>r x H1 Q
inductive rI(C:A0->A0->Prop)(g:A0->A0->V)(x:V)(y:V)(H:Hp)(Q:VK):Prop
 |mk (i j:_) (_:x=.int i) (_:y=.int j) (_:C i j) (_:Q (g i j) H)
inductive rI0(g:A0->A0->V)(x:V)(y:V)(H:Hp)(Q:VK):Prop
 |mk (i j:_) (_:x=.int i) (_:y=.int j) (_:Q (g i j) H)
inductive rU(g:A0->V)(x:V)(H:Hp)(Q:VK):Prop
 |mk (i:_) (_:x=.int i) (_:Q (g i) H)
section
variable{X:Cx}{a b:B5}{ta tb:TE}{pos:Pos}
def Ju(ha:PE X a ta)(hb:PE X b tb){pins:A6 (A7×Obj)}{s:B6}{σ:St}{H:Hp}{R:V->V->Hp->Prop}(I:Inv X pins σ H s)
  (h:ta σ H λx H1=>tb σ H1 λy H2=>R x y H2){Q:Ae}{f:B1->B1->Sem B1}
  (hf:∀v u s2 x y H2,Inv X pins σ H2 s2->RelV x v->RelV y u->R x y H2->wpAny (model X.prog X.w) X.A (f v u) Q X.xe s2):
  wpAny (model X.prog X.w) X.A (eval a X.X) (λv s₁=>wpAny (model X.prog X.w) X.A (eval b X.X) (λu s₂=>wpAny (model X.prog X.w) X.A (f v u) Q X.xe s₂) X.xe s₁) X.xe s:=by show thn (ha pins s σ H _ I h) λv s1 XB=>?_;let(x,H1,I1,r1,q1):=XB;show thn (hb pins s1 σ H1 _ I1 q1) λu s2 XB=>?_;let(y,H2,I2,r2,q2):=XB;show hf v u s2 x y H2 I2 r1 r2 q2
def Zt(ho:WD X (binaryOp op) r)(ha:PE X a ta)(hb:PE X b tb):PE X (.BinOp a op b pos) (vK r ta tb):=by intro pins s σ H Q I h;show wpAny_BinOp (Ju ha hb I h λv u s2 x y H2 I2 rx ry q=>ho pins s2 σ H2 x y v u Q I2 rx ry q)
def Jt{op:UnaryOp}{r:V->Hp->VK->Prop}(ho:qG X (unaryOp op) r)(ha:PE X a ta):PE X (.UnaryOp op a pos) (tUn r ta):=by intro pins s σ H Q I h;show UnaryOp_ (thn (ha pins s σ H _ I h) λv s1 zz=>by let(x,H1,I1,r1,q1):=zz;show ho pins s1 σ H1 x v Q I1 r1 q1)
def Gb{f:B1->B1->Sem B1}{C:A0->A0->Prop}{g:A0->A0->A0}
  (rule:∀(i j:A0)(t u:Tok)(s:B6)(Q:Ae)(E:Ae),C i j->Q (.int (g i j) s.toks) {s with toks:=s.toks+1}->wpAny (model X.prog X.w) X.A (f (.int i t)<|.int j u) Q E s):
  WD X f (rI C λi j=>.int<|g i j):=by intro pins s σ H x y v u Q I rx ry h;let(i,j,rfl,rfl,hc,q):=h;let(t,rfl):=rx;let(t',rfl):=ry;show rule i j t t' s _ _ hc {.int<|g i j,H,I.tok _,{_,Z},q}
def DW{f:B1->B1->Sem B1}{g:A0->A0->A0}
  (rule:∀(i j:A0)(t u:Tok)(s:B6)(Q:Ae)(E:Ae),Q (.int (g i j) s.toks) {s with toks:=s.toks+1}->wpAny (model X.prog X.w) X.A (f (.int i t)<|.int j u) Q E s):
  WD X f (rI0 λi j=>.int<|g i j):=by intro pins s σ H x y v u Q I rx ry h;let(i,j,rfl,rfl,q):=h;let(t,rfl):=rx;let(t',rfl):=ry;show rule i j t t' s _ _ {.int<|g i j,H,I.tok _,{_,Z},q}
def MR{f:B1->B1->Sem B1}{g:A0->A0->B3}
  (rule:∀(i j:A0)(t u:Tok)(s:B6)(Q:Ae)(E:Ae),Q (.bool<|g i j) s->wpAny (model X.prog X.w) X.A (f (.int i t)<|.int j u) Q E s):
  WD X f (rI0 λi j=>.bl<|g i j):=by intro pins s σ H x y v u Q I rx ry h;let(i,j,rfl,rfl,q):=h;let(t,rfl):=rx;let(t',rfl):=ry;show rule i j t t' s _ _ {.bl<|g i j,H,I,Z,q}
def DV(i j:A0):(Prop):=0<j/\j<1073741824
def qF(i j:A0):(Prop):=0<=j/\j<=1000000/\i.natAbs<2^64
def CMul(i j:A0):(Prop):=(-(2^64)<i/\i<2^64)\/(-(2^64)<j/\j<2^64)
def CMul.ok(h:CMul i j):IntMulOk i j:=by
 rcases h with ⟨h1,h2⟩|⟨h1,h2⟩
 .show .of_left (intBits_le_64 h1 h2)
 .show .of_right (intBits_le_64 h1 h2)
def Ut:WD X (binaryOp .Add) (rI0 λi j=>.int (i+j)):=DW λ_ _ _ _ _ _ _ q=>add_int q
def TH:WD X (binaryOp .Sub) (rI0 λi j=>.int (i-j)):=DW λ_ _ _ _ _ _ _ q=>sub_int q
def UX:WD X (binaryOp .Mult) (rI CMul λi j=>.int (i*j)):=Gb λ_ _ _ _ _ _ _ hc q=>mul_int q hc.ok
def OX:WD X (binaryOp .FloorDiv) (rI DV λi j=>.int (i/j)):=Gb λi j _ _ _ _ _ hc q=>by
 let h1:(0:A0)<j:=hc.1;let h2:j<1073741824:=hc.2
 show floordiv_int J (by rwa[Int.fdiv_eq_ediv_of_nonneg i J]) (.inl<|PyProof.noPylong_small D)
def ZU:WD X (binaryOp .Mod) (rI (λ_ j=>0<j) λi j=>.int (i%j)):=Gb λi j _ _ _ _ _ hc q=>by show mod_int' D (by rwa[Int.fmod_eq_emod_of_nonneg i J])
def RZ:WD X (binaryOp .Pow) (rI qF λi j=>.int (i^j.j)):=Gb λ_ _ _ _ _ _ _ hc q=>pow_int_small hc.1 hc.2.1 hc.2.2 q
def unI{f:B1->Sem B1}{g:A0->A0}
  (rule:∀(i:A0)(t:Tok)(s:B6)(Q:Ae)(E:Ae),Q (.int (g i) s.toks) {s with toks:=s.toks+1}->wpAny (model X.prog X.w) X.A (f<|.int i t) Q E s):
  qG X f (rU λi=>.int<|g i):=by intro pins s σ H x v Q I rx h;let(i,rfl,q):=h;let(t,rfl):=rx;show rule i t s _ _ {.int<|g i,H,I.tok _,{_,Z},q}
def Jr:qG X (unaryOp .USub) (rU λi=>.int (-i)):=unI λ_ _ _ _ _ q=>neg_int q
end
def DU:(V->V->B3)
 | .non,.non=>true | .non,.int _=>true | .int _,.non=>true | .non,.bl _=>true | .bl _,.non=>true | .non,.str _=>true | .str _,.non=>true
 | .int _,.int _=>true | .bl _,.bl _=>true | .str _,.str _=>true | .byt _,.byt _=>true
 | .int _,.str _=>true | .str _,.int _=>true | .bl _,.str _=>true | .str _,.bl _=>true
 |_,_=>false
inductive rEq(x:V)(y:V)(H:Hp)(Q:VK):Prop
 |mk  (_:DU x y=A9) (_:Q (.bl<|decide<|x=y) H)
inductive rNe(x:V)(y:V)(H:Hp)(Q:VK):Prop
 |mk  (_:DU x y=A9) (_:Q (.bl<|!decide (x=y)) H)
def ZO:decide (V.int i=V.int j)=(i == j):=by lia
def DT:decide (V.bl i=V.bl j)=(i == j):=by lia
def Lh:decide (V.str i=V.str j)=(i == j):=by lia
def Lg:decide (V.byt i=V.byt j)=(i.m == j.m):=by
 rw[Nj]
 ext
section
variable{X:Cx}{a b c:B5}{ta tb tc:TE}{pos:Pos}
def ZP{k k':B3}(I:Inv X pins σ H s)(q:Q (.bl k) H)(e:k=k'):EP X pins σ Q (.bool k') s:=by subst e;exists .bl k,H,I,Z,q
def TY:WD X (compareOp .Eq) rEq:=by
 intro pins s σ H x y v u Q I rx ry h;let(hs,q):=h;cases x with
 |non=>
  cases rx;cases y with
  |non=>cases ry;show PySem.EqNone.eq_none_none (ZP I q Eo)
  |bl j=>cases ry;show PySem.EqNone.eq_none_bool (ZP I q Eo)
  |int j=>let(t',rfl):=ry;show PySem.EqNone.eq_none_int (ZP I q Eo)
  |str j=>let(t',rfl):=ry;show PySem.EqNone.eq_none_str (ZP I q Eo)
  |_=>show absurd (show false=A9 from hs) YD
 |bl i=>
  cases rx;cases y with
  |non=>cases ry;show PySem.EqNone.eq_bool_none (ZP I q Eo)
  |bl j=>cases ry;show eq_bool (ZP I q DT)
  |str j=>let(t',rfl):=ry;show PySem.EqMixed.eq_bool_str (ZP I q Eo)
  |_=>show absurd (show false=A9 from hs) YD
 |int i=>
  let(t,rfl):=rx;cases y with
  |non=>cases ry;show PySem.EqNone.eq_int_none (ZP I q Eo)
  |int j=>let(t',rfl):=ry;show eq_int (ZP I q ZO)
  |str j=>let(t',rfl):=ry;show PySem.EqMixed.eq_int_str (ZP I q Eo)
  |_=>show absurd (show false=A9 from hs) YD
 |str i=>
  let(t,rfl):=rx;cases y with
  |non=>cases ry;show PySem.EqNone.eq_str_none (ZP I q Eo)
  |bl j=>cases ry;show PySem.EqMixed.eq_str_bool (ZP I q Eo)
  |int j=>let(t',rfl):=ry;show PySem.EqMixed.eq_str_int (ZP I q Eo)
  |str j=>let(t',rfl):=ry;show eq_str (ZP I q Lh)
  |_=>show absurd (show false=A9 from hs) YD
 |byt i=>
  let(t,rfl):=rx;cases y with
  |byt j=>let(t',rfl):=ry;show PySem.W.eq_bytes (ZP I q Lg)
  |_=>show absurd (show false=A9 from hs) YD
 |_=>cases y<;>show absurd (show false=A9 from hs) YD
def Sz:WD X (compareOp .NotEq) rNe:=by
 intro pins s σ H x y v u Q I rx ry h;let(hs,q):=h;cases x with
 |non=>
  cases rx;cases y with
  |non=>cases ry;show PySem.EqNone.ne_none_none (ZP I q Eo)
  |bl j=>cases ry;show PySem.EqNone.ne_none_bool (ZP I q Eo)
  |int j=>let(t',rfl):=ry;show PySem.EqNone.ne_none_int (ZP I q Eo)
  |str j=>let(t',rfl):=ry;show PySem.EqNone.ne_none_str (ZP I q Eo)
  |_=>show absurd (show false=A9 from hs) YD
 |bl i=>
  cases rx;cases y with
  |non=>cases ry;show PySem.EqNone.ne_bool_none (ZP I q Eo)
  |bl j=>cases ry;show ne_bool (ZP I q<|YI not DT)
  |str j=>let(t',rfl):=ry;show PySem.EqMixed.ne_bool_str (ZP I q Eo)
  |_=>show absurd (show false=A9 from hs) YD
 |int i=>
  let(t,rfl):=rx;cases y with
  |non=>cases ry;show PySem.EqNone.ne_int_none (ZP I q Eo)
  |int j=>let(t',rfl):=ry;show ne_int (ZP I q<|YI not ZO)
  |str j=>let(t',rfl):=ry;show PySem.EqMixed.ne_int_str (ZP I q Eo)
  |_=>show absurd (show false=A9 from hs) YD
 |str i=>
  let(t,rfl):=rx;cases y with
  |non=>cases ry;show PySem.EqNone.ne_str_none (ZP I q Eo)
  |bl j=>cases ry;show PySem.EqMixed.ne_str_bool (ZP I q Eo)
  |int j=>let(t',rfl):=ry;show PySem.EqMixed.ne_str_int (ZP I q Eo)
  |str j=>let(t',rfl):=ry;show ne_str (ZP I q<|YI not Lh)
  |_=>show absurd (show false=A9 from hs) YD
 |byt i=>
  let(t,rfl):=rx;cases y with
  |byt j=>let(t',rfl):=ry;show PySem.W.ne_bytes (ZP I q<|YI not Lg)
  |_=>show absurd (show false=A9 from hs) YD
 |_=>cases y<;>show absurd (show false=A9 from hs) YD
def SV:WD X (compareOp .Lt) (rI0 λi j=>.bl (decide (i<j))):=MR λ_ _ _ _ _ _ _ q=>lt_int q
def RY:WD X (compareOp .LtE) (rI0 λi j=>.bl (decide (i<=j))):=MR λ_ _ _ _ _ _ _ q=>le_int q
def PV:WD X (compareOp .Gt) (rI0 λi j=>.bl (decide (j<i))):=MR λ_ _ _ _ _ _ _ q=>gt_int q
def DS:WD X (compareOp .GtE) (rI0 λi j=>.bl (decide (j<=i))):=MR λ_ _ _ _ _ _ _ q=>ge_int q
def vJ:WD X (compareOp .Is) (λx y H Q=>y=.non/\Q (.bl (decide (x=.non))) H):=by
 intro pins s σ H x y v u Q I rx ry h;let(rfl,q):=h;cases ry;show is_none_gen (ZP I q ?_);cases x<;>first
  | (cases rx;rfl)
  | (let(t,rfl):=rx;rfl)
def Za5:WD X (compareOp .NotIn) (λx y H Q=>∃i j,x=.str i/\y=.str j/\Q (.bl (!(!(Builtin.Str.occurrences j i 0 j.f 1).isEmpty))) H):=by intro pins s σ H x y v u Q I rx ry h;let(i,j,rfl,rfl,q):=h;let(t,rfl):=rx;let(t',rfl):=ry;show notIn_str (ZP I q Z)
def Zp(b:B5)(h:op≠.In:=by decide)(h2:op≠.NotIn:=by decide):behindInMarks op b=B0:=by
 let e1:(op == CmpOp.In)=B0:=by cases op<;>first|rfl|lia
 let e2:(op == CmpOp.NotIn)=B0:=by cases op<;>first|rfl|lia
 cases b<;>simp[behindInMarks,e1,e2]
def Us(ho:WD X (compareOp op) r)(ha:PE X a ta)(hb:PE X b tb)(hm:behindInMarks op b=B0):PE X (.Compare a [op] [b] pos) (vK r ta tb):=by intro pins s σ H Q I h;show wpAny_Compare1 (Ju ha hb I h λv u s2 x y H2 I2 rx ry q=>ho pins s2 σ H2 x y v u Q I2 rx ry q) hm
def DR(t:TE):(TT):=λσ H Q=>t σ H λx H'=>isB x H' Q
def Zg{op:CmpOp}{r:R2}(ho:WD X (compareOp op) r)(ha:PE X a ta)(hb:PE X b tb)(hm:behindInMarks op b=B0):PT X (.Compare a [op] [b] pos) (DR (vK r ta tb)):=by
 intro pins s σ H Q I h;show wpAny_isTrue_Compare1 (thn (ha pins s σ H _ I h) λv s1 ⟨x,H1,I1,r1,q1⟩=>thn (hb pins s1 σ H1 _ I1 q1) λu s2 ⟨y,H2,I2,r2,q2⟩=>
  thn (ho pins s2 σ H2 x y v u _ I2 r1 r2 q2) λc s3 ⟨z,H3,I3,r3,k,e,q3⟩=>?_) hm
 subst e;cases r3;show Pn ⟨H3,I3,q3⟩
def DQ(r r':R2)(ta tb tc:TE):(TE):=λσ H Q=>ta σ H λx H1=>tb σ H1 λy H2=>r x y H2 λz H3=>∃k,z=.bl k/\
 (if k=A9 then tc σ H3 λw' H4=>r' y w' H4 Q else Q (.bl false) H3)
def qE{op Jq:CmpOp}{r r':R2}(ho:WD X (compareOp op) r)(UY:WD X (compareOp Jq) r')(ha:PE X a ta)(hb:PE X b tb)(hc:PE X c tc)
  (hm:lastMarks [op,Jq] [b,c]=B0:=by with_unfolding_all rfl):PE X (.Compare a [op,Jq] [b,c] pos) (DQ r r' ta tb tc):=by
 intro pins s σ H Q I h;show Compare_chain (thn (ha pins s σ H _ I h) λv s1 ⟨x,H1,I1,r1,q1⟩=>chain_link (thn (hb pins s1 σ H1 _ I1 q1) λu s2 ⟨y,H2,I2,r2,q2⟩=>
  thn (ho pins s2 σ H2 x y v u _ I2 r1 r2 q2) λd s3 ⟨z,H3,I3,r3,k,e,q3⟩=>?_)) hm
 subst e;cases r3;show Pn ?_;cases k with
 |false=>show ite_ff {.bl false,H3,I3,Z,q3}
 |true=>show ite_tt (chain_last<|thn (hc pins s3 σ H3 _ I3 q3) λw' s4 zz=>by let(z',H4,I4,r4,q4):=zz;show UY pins s4 σ H4 y z' u w' Q I4 r2 r4 q4)
def Jp{op Jq:CmpOp}{r r':R2}(ho:WD X (compareOp op) r)(UY:WD X (compareOp Jq) r')(ha:PE X a ta)(hb:PE X b tb)(hc:PE X c tc)
  (hm:lastMarks [op,Jq] [b,c]=B0:=by with_unfolding_all rfl):PT X (.Compare a [op,Jq] [b,c] pos) (DR<|DQ r r' ta tb tc):=by
 intro pins s σ H Q I h;show isTrue_chain (thn (ha pins s σ H _ I h) λv s1 ⟨x,H1,I1,r1,q1⟩=>test_link (thn (hb pins s1 σ H1 _ I1 q1) λu s2 ⟨y,H2,I2,r2,q2⟩=>
  thn (ho pins s2 σ H2 x y v u _ I2 r1 r2 q2) λd s3 ⟨z,H3,I3,r3,k,e,q3⟩=>?_)) hm
 subst e;cases r3;show Pn ?_;cases k with
 |false=>
  let(k',e',q'):=q3;cases e';show ite_ff ⟨H3,I3,q'⟩
 |true=>
  show ite_tt (test_last<|thn (hc pins s3 σ H3 _ I3 q3) λw' s4 zz=>?_);let(z',H4,I4,r4,q4):=zz;show thn (UY pins s4 σ H4 y z' u w' _ I4 r2 r4 q4) λd' s5 XB=>?_;let(z2,H5,I5,r5,k2,e2,q5):=XB;subst e2;cases r5;show Pn ⟨H5,I5,q5⟩
def Jo:(sizeLine:A5)<2^63:=by decide
def vH:WD X (binaryOp .Add) (λx y H Q=>∃i j,x=.str i/\y=.str j/\i.f+j.f<=sizeLine/\Q (.str (i++j)) H):=by intro pins s σ H x y v u Q I rx ry h;let(i,j,rfl,rfl,hz,q):=h;let(t,rfl):=rx;let(t',rfl):=ry;show add_str (λt' tk=>{.str<|i++j,H,I.tok _,{_,Z},q}) hz
def Ur{us:Ag}(r:Vals [x] us):∃u,us=[u]/\RelV x u:=by
 cases r with
 |cons r1 r2=>cases r2;ext
def Jn{us:Ag}(r:Vals [x,y] us):∃u w',us=[u,w']/\RelV x u/\RelV y w':=by
 cases r with
 |cons r1 r2=>
  cases r2 with
  |cons r3 r4=>cases r4;exists _,_,Z,r1,r3
def vG(hc:X.calm=A9):Vv X (.builtin "max") (λxs H Q=>∃i j,xs=[.int i,.int j]/\Q (.int (if j>i then j else i)) H):=by
 intro pins s σ H xs us Q I r h;let(i,j,rfl,q):=h;let(u,w',rfl,(t,rfl),(t',rfl)):=Jn r;show max_two_ints (I.ok.hd hc) λh' tk k=>{_,H,I.kept k,?_,q};cases hj:j>i
 .rw[Yk hj,Yk hj];exists _,Z
 .rw[Yh hj,Yh hj];exists _,Z
def vE(hc:X.calm=A9):Vv X (.builtin "min") (λxs H Q=>∃i j,xs=[.int i,.int j]/\Q (.int (if j<i then j else i)) H):=by
 intro pins s σ H xs us Q I r h;let(i,j,rfl,q):=h;let(u,w',rfl,(t,rfl),(t',rfl)):=Jn r;show min_two_ints (I.ok.hd hc) λh' tk k=>{_,H,I.kept k,?_,q};cases hj:j<i
 .rw[Yk hj,Yk hj];exists _,Z
 .rw[Yh hj,Yh hj];exists _,Z
def Zt5:Vv X (.type "str") (λxs H Q=>∃i,xs=[.int i]/\i.natAbs.log2<1920/\Q (.str (toString i)) H):=by intro pins s σ H xs us Q I r h;let(i,rfl,hz,q):=h;let(u,rfl,t,rfl):=Ur r;show PySem.P.str_of_int hz {.str _,H,I.tok _,{_,Z},q}
end
structure ObjM(h:Heap)(x dx C:A7)(mA:Af):Prop where
 obj:h.E x=⇑(PySem.W.instObj C dx)
 ns:h.Ns1 dx mA
 ne:dx≠x
def ZH9{h:Heap}{mA:Af}(n:h.Ns1 dx mA):∃od,h.E dx=⇑od/\∀name,PySem.W.lookIn name od=⇑(mA name):=by
 let(o,es,ep,ho,hd,hk,_,hm):=n;exists o,ho,λname=>?_;let e:=hm name
 unfold nsFind findBy at e;rw[<-Array.find?_toList]at e;unfold PySem.W.lookIn;rw[hd];dsimp only;split
 .ext
 .rename_i q;rw[q]at e;let a:es.m.any (·.refKey)=B0:=by rw[List.any_eq_false];intro y hy;let(z,t,qD):=hk y (Array.mem_toList_iff.S hy);simp[DictEntry.refKey,qD]
  grind
def ObjM.look{mA:Af}(I:ObjM h x dx C mA):∃od,PySem.W.InstAt h x (PySem.W.instObj C dx) C ⇑od/\∀name,PySem.W.lookIn name od=⇑(mA name):=
 let ⟨od,ho,hl⟩:=ZH9 I.ns
 {od,⟨I.obj,Z,Z,ho⟩,hl}
section
variable{prog:Program}{w:World}{A:Around}{E:Ae}{s:B6}{K:Ad}{x dx C f:A7}{mA:Af}{name:C0}{v:B1}
def qC{Q:Ae}(X:K.In s.C)(I:ObjM s.C x dx C mA)(hg:PySem.W.plainGet K C name=A9)(hh:PySem.W.hasDictIn K C=A9)
  (ha:PySem.W.findIn K ↑C name=⇑none)(hv:mA name=⇑v)(Lf:PySem.W.handedIn v=A9)(h:Q v {s with toks:=s.toks+1}):
  wpAny (model prog w) A (getAttr ↑x name expr) Q E s:=by let(od,tB,hl):=I.look;show PySem.W.get_value X tB (sI hg).1 (PySem.W.findObj_own hh ha Z<|by rw[hl,hv]) Lf h
def qB{Q:B1×A6 B1->B6->Prop}(X:K.In s.C)(I:ObjM s.C x dx C mA)(hg:PySem.W.plainGet K C name=A9)
  (hf:PySem.W.findIn K ↑C name=⇑(some<|.ref f))(ht:PySem.W.isFn K ↑f=A9)(hv:mA name=A8)(h:Q (.ref f,[.ref x]) s):
  wpAny (model prog w) A (getMethod ↑x name pl) Q E s:=by let(od,tB,hl):=I.look;show PySem.W.method_fn X tB (sI hg).1 (sI hg).2 hf (Pe.S ht) (by change(PySem.W.lookIn name od).G (·.isSome)=⇑false;rw[hl,hv];rfl) h
def qA{Q:Unit->B6->Prop}(X:K.In s.C)(I:ObjM s.C x dx C mA)
  (hs:PySem.W.findIn K ↑C "__setattr__"=⇑(some<|.builtin "object.__setattr__"))(hp:PySem.W.plainOver K C=A9)(ht:PySem.W.takerIn K C name=⇑none)(hh:PySem.W.hasDictIn K C=A9)
  (hw:PySem.Within mA ns)(hsz:ns.f<=sizeLine)
  (h:∀h',ObjM h' x dx C (λy=>if y=name then some v else mA y)->Heap.SameBut dx s.C h'->Q () {s with heap:=h',toks:=s.toks+2}):
  wpAny (model prog w) A (setAttr ↑x name v) Q E s:=by
 let(od,tB,hl):=I.look;show PySem.W.set_plain X tB hs (PySem.W.osa_open (s:={s with toks:=s.toks+1}) (r:=A8) X tB hp ht λb=>?_);let(cd,hc,En):=PySem.W.any_some hh;let hx:s.C.E x=⇑⟨.ref C,⇑dx,.plain,#[]⟩:=I.obj
 show XU (Yg<|XU<|XU<|wpAny_loadPart hx<|XU<|PySem.W.Looks.here (s:={s with toks:=s.toks+1}) (PySem.W.looks_clsIn X hc) ?_);rw[En];show Yg (a:=⇑dx) (XU<|Yg<|XU ?_);show wpAny_nsSet1 (s:={s with toks:=s.toks+1}) I.ns λh' Rw TZ=>?_;let(oD,esD,epD,bP,bO,hcD):=Rw.count (PySem.Within.cons name v hw);show XU (wpAny_lookBehind bP (by rw[bO];show pastItsLine_dict<|Yq hcD<|by ext) ?_);show Yg (h _ {(TZ.2 _<|YZ I.ne).l I.obj,Rw,I.ne} TZ)
def DP{R:Result->B6->Prop}{vs:Ag}{kw:A6 (C0×B1)}(X:K.In s.C)(hm:PySem.W.makesIn K C=A9)
  (hi:PySem.W.findIn K ↑C "__init__"=⇑(some<|.ref f))(hf:PySem.W.typeIn K ↑f=⇑(.type "function"))
  (h:codeAny (model prog w) (A.under<|.builtin "type.__call__" {.ref C::vs,kw}) (.call ↑f {.ref ((~~~s)+1)::vs,kw}) (PySem.W.InitBack ((~~~s)+1) R)
   {s with heap:=(s.C.push PySem.W.emptyDict).push (PySem.W.instObj C (~~~s))}):
  codeAny (model prog w) A (.call ↑C ⟨vs,kw⟩) R s:=by show PySem.W.make_core (PySem.W.makes_of X hm) (PySem.W.looks_findIn X hi) (λself=>PySem.W.bind_fn X self hf) (.inl Z) h
end
def XC(f:C0)(v:V):(A6 (C0×V)->A6 (C0×V))
 |[]=>[(f,v)]
 | (g,x)::r=>if g=f then (g,v)::r else (g,x)::XC f v r
def Ga(f g:C0)(v:V):∀fs:A6 (C0×V),(XC f v fs).U g=if g=f then some v else fs.U g
 |[]=>by change List.U g [(f,v)]=_;grind
 | (k,x)::r=>by let ih:=Ga f g v r;rw[show XC f v ((k,x)::r)=(if k=f then (k,v)::r else (k,x)::XC f v r) from Z];grind
def qz(f:C0)(v:V):∀fs:A6 (C0×V),f∈(XC f v fs).G (·.1)/\∀g,g∈fs.G (·.1)->g∈(XC f v fs).G (·.1)
 |[]=>{by simp[XC],λg h=>by simp at h}
 | (k,x)::r=>by let(i1,i2):=qz f v r;rw[show XC f v ((k,x)::r)=(if k=f then (k,v)::r else (k,x)::XC f v r) from Z];grind
def bN(f:C0)(v:V):∀fs:A6 (C0×V),(XC f v fs).f<=fs.f+1
 |[]=>by simp[XC]
 | (k,x)::r=>by let ih:=bN f v r;rw[show XC f v ((k,x)::r)=(if k=f then (k,v)::r else (k,x)::XC f v r) from Z];grind
def RelO.some_of{v:V}(r:RelO ⇑v o):∃u,o=⇑u/\RelV v u:=by
 cases o with
 |none=>show(show False from r).elim
 |some u=>exists u,Z,r
def RelO.none_of(r:RelO none o):o=A8:=by
 cases o with
 |none=>rfl
 |some u=>show(show False from r).elim
def ZX9(r:RelV v u):PySem.W.handedIn u=A9:=by
 cases v with
 |non=>cases (show u=Value.none from r);rfl
 |bl b=>cases (show u=Value.bool b from r);rfl
 |int i=>let(t,e):=(show ∃t,u=Value.int i t from r);cases e;rfl
 |str x=>let(t,e):=(show ∃t,u=Value.str x t from r);cases e;rfl
 |byt b=>let(t,e):=(show ∃t,u=Value.bytes b t from r);cases e;rfl
 |flt b=>let(t,e):=(show ∃t,u=Value.float b t from r);cases e;rfl
 |ref a=>cases (show u=Value.ref a from r);rfl
 |ty n=>cases (show u=Value.type n from r);rfl
section
variable{P:Program}{w:World}{H:Hp}{h:Heap}{a C dx:A7}{fs:A6 (C0×V)}
def qy(hok:HOk P w H h)(e:H a=⇑(.ins C dx fs)):∃mA,ObjM h a dx C mA/\(∀f,RelO (fs.U f) (mA f))/\PySem.Within mA (fs.G (·.1))/\fs.f<=1000/\H dx=⇑(.own a):=by let(d,z,ne,ob,mA,n,r,q):=(show ObjOk P w H h a (.ins C dx fs) from hok a _ e);exists mA,⟨ob,n,ne⟩,r,q,z,d
end
structure Cls(K:Ad)(C:A7):Prop where
 pg:PySem.W.plainGet K C Str.empty=A9
 hd:PySem.W.hasDictIn K C=A9
 po:PySem.W.plainOver K C=A9
 sa:PySem.W.findIn K ↑C "__setattr__"=⇑(some<|.builtin "object.__setattr__")
def Cls.get{K:Ad}{C:A7}(c:Cls K C)(f:C0):PySem.W.plainGet K C f=A9:=c.pg
def NoAttr(K:Ad)(C:A7)(f:C0):(Prop):=PySem.W.findIn K ↑C f=⇑none
def NoAttr.taker{K:Ad}{C:A7}{f:C0}(n:NoAttr K C f):PySem.W.takerIn K C f=⇑none:=by unfold PySem.W.takerIn;rw[show PySem.W.findIn K ↑C f=⇑none from n];rfl
structure Meth(K:Ad)(C:A7)(m:C0)(f:A7):Prop where
 at_:PySem.W.findIn K ↑C m=⇑(some<|.ref f)
 fn:PySem.W.isFn K ↑f=A9
 kp:PySem.W.keepIn K ↑f=A9
section
variable{X:Cx}{pins:A6 (A7×Obj)}{σ:St}{H:Hp}{s:B6}{a C dx:A7}{fs:A6 (C0×V)}{f:C0}{v:V}{A:Around}{E:Ae}
def Zu8{Q:Ae}(I:Inv X pins σ H s)(e:H a=⇑(.ins C dx fs))(c:Cls X.K C)(n:NoAttr X.K C f)(l:fs.U f=⇑v)
  (h:∀u s',Inv X pins σ H s'->RelV v u->Q u s'):wpAny (model X.prog X.w) A (getAttr ↑a f b) Q E s:=by let(mA,O,r,_,_,_):=qy I.hok e;let(u,hu,ru):=RelO.some_of (v:=v) (o:=mA f) D;show qC I.kIn O (c.get f) c.hd n hu (ZX9 ru) (h u _ (I.tok _) ru)
def bM{Q:B1×A6 B1->B6->Prop}(I:Inv X pins σ H s)(e:H a=⇑(.ins C dx fs))(c:Cls X.K C)(k:Meth X.K C m g)(l:fs.U m=A8)
  (h:Q (.ref g,[.ref a]) s):wpAny (model X.prog X.w) A (getMethod ↑a m pl) Q E s:=by
 let(mA,O,r,_,_,_):=qy I.hok e;let hn:mA m=A8:=RelO.none_of D
 show qB I.kIn O (c.get m) k.at_ k.fn hn h
def ZI7{Q:Unit->B6->Prop}(I:Inv X pins σ H s)(e:H a=⇑(.ins C dx fs))(c:Cls X.K C)(n:NoAttr X.K C f)(hl:fs.f<1000)(ry:RelV y u)
  (h:∀s',Inv X pins σ (upd H a<|.ins C dx<|XC f y fs) s'->Q () s'):wpAny (model X.prog X.w) A (setAttr ↑a f u) Q E s:=by
 let(mA,O,r,wi,_,ho):=qy I.hok e;let hz:(fs.G (·.1)).f<=sizeLine:=by rw[Xr,Rz];lia
 show qA I.kIn O c.sa c.po n.taker c.hd wi hz λh' O' sb=>h _ ?_;let hd:∃o,h'.E dx=⇑o:=by let(o,_,_,e',_):=O'.ns;exists o,e'
 show I.write (x:=a) (e:=dx) (by rw[e];show True.intro) (.inr ho) (λb q hb z=>(sb.2 b hb).l z) hd ?_;exists by rw[Zd O.ne];show ho,?_,O.ne,O'.obj,_,O'.ns,λg=>?_,λg hg=>?_
 .have:=bN f y fs;lia
 .rw[Ga];cases q:g=f
  .rw[Yk q,Yk q];show ry
  ext
 .cases q:g=f
  .rw[q];show(qz f y fs).1
  .show(qz f y fs).2 g (wi g λz=>hg ?_)
   ext
def Inv.made(I:Inv X pins σ H s):Inv X pins σ (upd (upd H (~~~s) (.own ((~~~s)+1))) ((~~~s)+1) (.ins C (~~~s) []))
  {s with heap:=(s.C.push PySem.W.emptyDict).push (PySem.W.instObj C (~~~s))}:=by
 let e1:(s.C.push PySem.W.emptyDict).E (~~~s)=⇑PySem.W.emptyDict:=Yj s.C rfl;let e2:((s.C.push PySem.W.emptyDict).push (PySem.W.instObj C (~~~s))).E ((~~~s)+1)=⇑(PySem.W.instObj C (~~~s)):=by
  have:=Yj (s.C.push PySem.W.emptyDict) (o:=PySem.W.instObj C (~~~s)) rfl
  rwa[Lq]at this
 let e3:(s.C.push PySem.W.emptyDict).Ns (~~~s) (λ_=>none):={PySem.W.emptyDict,#[],_,e1,Z,λe he=>absurd he Eo,λ_=>rfl};let I1:=I.laid (a:=(~~~s)) (o:=.own<|(~~~s)+1) (h':=s.C.push PySem.W.emptyDict) (t':=s.toks) (λb u q=>Xf _ q) (XG _) {_,e1}
 show I1.laid (a:=(~~~s)+1) (o:=.ins C (~~~s) []) (t':=s.toks) (λb u q=>Xf _ q) (Nat.le_of_eq<|Lq _ _) ?_;let ne:(~~~s)≠(~~~s)+1:=Yx (Gv _)
 exists by rw[Zd ne,XT],Qd _,ne,e2,λ_=>none,(Heap.Ns1.of_empty e3).at λo q=>Xf _ q,λ_=>True.intro,λy hy=>absurd Z hy
def DO{pos:Pos}{Q:Ae}(hb:attributeBase e f env (eval e env)=eval e env)
  (h:wpAny (model prog w) A (eval e env) (λo s₁=>wpAny (model prog w) A (getAttr o f true) Q E s₁) E s):wpAny (model prog w) A (eval (.Attribute e f pos) env) Q E s:=
 Attribute_any_ h (by rw[arm_eval_Attribute,hb])
end
inductive xFld(K:Ad)(f:C0)(x:V)(H1:Hp)(Q:VK):Prop
 |mk (a C dx fs v:_) (_:x=.ref a) (_:H1 a=⇑(.ins C dx fs)) (_:Cls K C) (_:NoAttr K C f) (_:fs.U f=⇑v) (_:Q v H1)
def DN(K:Ad)(ta:TE)(f:C0):(TE):=λσ H Q=>ta σ H λx H1=>xFld K f x H1 Q
def qx(K:Ad)(ta tv:TE)(f:C0):(TS):=λrj σ H=>tv σ H λy H1=>ta σ H1 λx H2=>∃a C dx fs,x=.ref a/\H2 a=⇑(.ins C dx fs)/\Cls K C/\NoAttr K C f/\fs.f<1000/\
 rj.nx σ (upd H2 a<|.ins C dx<|XC f y fs)
section
variable{X:Cx}{o e value:B5}{f:C0}{pos pos':Pos}{ta tv:TE}
def qw(he:PE X e ta)(hb:attributeBase e f X.X (eval e X.X)=eval e X.X):PE X (.Attribute e f pos) (DN X.K ta f):=by intro pins s σ H Q I h;show DO hb (thn (he pins s σ H _ I h) λu s1 XB=>?_);let(x,H1,I1,rx,a,C,dx,fs,v,ex,ea,c,n,l,q):=XB;subst ex;let rfl:u=Value.ref a:=rx;show Zu8 I1 ea c n l λu' s2 I2 ru=>⟨v,H1,I2,ru,q⟩
def NI(ha:PE X o ta)(hv:PE X value tv)(hs:swapsWith value ⇑(.Attribute o f pos') pos.line X.X=pure false):PS X (.Assign [.Attribute o f pos'] value pos) (qx X.K ta tv f):=by intro pins s σ H rj I h;show plainObj_wpAny_Assign_Attribute (thn (hv pins s σ H _ I h) λu s1 zz=>?_) hs;let(y,H1,I1,ry,q):=zz;show thn (ha pins s1 σ H1 _ I1 q) λov s2 XB=>?_;let(x,H2,I2,rx,a,C,dx,fs,ex,ea,c,n,l,q2):=XB;subst ex;let rfl:ov=Value.ref a:=rx;show ZI7 I2 ea c n l ry λs3 I3=>{σ,_,I3,q2}
end
structure Room(k:A5)(A:Around):Prop where
 hd:A.handled=A8
 dp:A.depth+3*k+5<recursionLimit
 un:A.units+16*k+200<cLine
def Room.mono(r:Room k A)(h:j<=k):Room j A:={r.hd,by have:=r.dp;lia,by have:=r.un;lia}
def Room.deeper(r:Room (k+1) A)(env:Env):Room k (A.deeper env):=
 {r.hd,by have:=r.dp;change A.depth+1+3*k+5<_;lia,by have:=r.un;change A.units+3+16*k+200<_;lia}
def Room.in1(r:Room (k+1) A):Room k A.in1:=
 {r.hd,by have:=r.dp;lia,by have:=r.un;lia}
def qv{A:Around}{C:A7}{us:Ag}{kw:A6 (C0×B1)}:(A.under (.builtin "type.__call__" {.ref C::us,kw})).depth=A.depth+1:=by
 first|rfl|simp[Around.under,Code.weight,Code.isCreation,Code.isGuard,Code.isCaller,Code.frames,Code.isFrame,guardIds]
def qu{A:Around}{C:A7}{us:Ag}{kw:A6 (C0×B1)}:(A.under (.builtin "type.__call__" {.ref C::us,kw})).units=A.units+1:=by
 first|rfl|simp[Around.under,Code.cUnits,Code.frames,Code.isFrame]
def Room.make(r:Room (k+1) A)(C:A7)(us:Ag)(kw:A6 (C0×B1)):Room k (A.under (.builtin "type.__call__" {.ref C::us,kw})):=
 {r.hd,by have:=r.dp;rw[qv];lia,by have:=r.un;rw[qu];lia}
def Room.depth(r:Room k A):A.depth<recursionLimit:=by have:=r.dp;lia
def Room.units(r:Room k A):A.units+64<cLine:=by have:=r.un;lia
def MQ:(TA):=λ_ H Q=>Q [] H
def Jm(ta:TE)(tr:TA):(TA):=λσ H Q=>ta σ H λx H1=>tr σ H1 λxs H2=>Q (x::xs) H2
section
variable{X:Cx}{e:B5}{es:A6 B5}{te:TE}{t:TA}{pos:Pos}
def XY:PA X [] MQ:=λ_ _ _ _ H Q I h=>rQ {[],H,I,.nil,h}
def XZ(ha:PE X e te)(hr:PA X es t)(hs:starEach (e::es) X.X=(false,eval e X.X)::starEach es X.X:=by rfl):PA X (e::es) (Jm te t):=by intro pos pins s σ H Q I h;rw[hs];show rX (thn (ha pins s σ H _ I h) λu s1 XB=>?_);let(x,H1,I1,r1,q1):=XB;show thn (hr pos pins s1 σ H1 _ I1 q1) λus s2 zz=>by let(xs,H2,I2,r2,q2):=zz;exists x::xs,H2,I2,.cons r1 r2,q2
inductive xTup(xs:A6 V)(H1:Hp)(Q:VK):Prop
 |mk (_:xs.f<=sizeLine) (_:∀p,H1 p=A8->Q ↑p (upd H1 p<|.tup xs))
def qt(t:TA):(TE):=λσ H Q=>t σ H λxs H1=>xTup xs H1 Q
inductive xLst(xs:A6 V)(H1:Hp)(Q:VK):Prop
 |mk (_:xs.f<=sizeLine) (_:∀p,H1 p=A8->Q ↑p (upd H1 p<|.lst xs))
def qr(t:TA):(TE):=λσ H Q=>t σ H λxs H1=>xLst xs H1 Q
def TX{x1}(h:PA X es t):PE X (.Tuple es x1 pos) (qt t):=by
 intro pins s σ H Q I hq;show wpAny_Tuple_spliced (thn (h pos pins s σ H _ I hq) λus s1 ⟨xs,H1,I1,r,z,q⟩=>{by rw[<-r.f];show z,?_});let hf:H1 (~~~s1)=A8:=I1.hok.fresh (XG _)
 exists .ref (~~~s1),upd H1 (~~~s1)<|.tup xs,I1.laid (t':=s1.toks) (λb u e=>Xf _ e) (XG _) ?_,Z,q _ hf;exists z,us,r,{_,Yj _ Z,Z,_,Z}
def UH(h:PA X es t):PE X (.List es pos) (qr t):=by
 intro pins s σ H Q I hq;show wpAny_List_spliced (thn (h pos pins s σ H _ I hq) λus s1 ⟨xs,H1,I1,r,z,q⟩=>{by rw[<-r.f];show z,?_});let hf:H1 (~~~s1)=A8:=I1.hok.fresh (XG _)
 exists .ref (~~~s1),upd H1 (~~~s1)<|.lst xs,I1.laid (t':=s1.toks) (λb u e=>Xf _ e) (XG _) ?_,Z,q _ hf;exists z,us,0,r,Yj _ Z
end
abbrev Sp:=A6 V->Hp->VK->XK->Prop
abbrev PU:=A6 Env->Hp->B6->XK->Ae
structure Env0(P:Program)(w:World)(K:Ad)(mg:Af)(base:Heap)(A:Around)(outer:A6 Env)(s:B6)(H:Hp):Prop where
 frames:A.frames=⇑outer
 mod:Mod K mg base
 bs:∀b o,base.E b=⇑o->s.C.E b=⇑o/\H b=A8
 bsz:base.objs.o<=(~~~s)
 funs:s.C.FunFrames base outer
 frf:∀b∈Th outer,H b=A8
 hok:HOk P w H s.C
 bare:AllBare s.gens
def CE(outer:A6 Env)(P:Program)(w:World)(H:Hp)(s:B6)(Q:VK)(u:B1)(s':B6):(Prop):=
 ∃v H',s'.os=s.os/\AllBare s'.gens/\Un (Th outer) [] H H' s.C s'.C/\HOk P w H' s'.C/\RelV v u/\Q v H'
def CR(CX:PU)(outer:A6 Env)(P:Program)(w:World)(H:Hp)(s:B6)(Q:VK)(E:XK)(r:Result)(s':B6):(Prop):=
 match r with
 | .ok (.ret u)=>CE outer P w H s Q u s'
 | .ok _=>False
 | .error e=>CX outer H s E e s'
structure FnOk(P:Program)(w:World)(K:Ad)(mg:Af)(base:Heap)(CX:PU)(k:A5)(f:A7)(fd:B9)(ps:A6 C0)(sp:Sp):Prop where
 len:∀vs H Q E,sp vs H Q E->vs.f=ps.f
 run:∀(A:Around)(outer:A6 Env)(s:B6)(H:Hp)(args:Args)(us:Ag)(vs:A6 V)(Q:VK)(E:XK),Room k A->Env0 P w K mg base A outer s H->BindsTo s fd args (ps.zip us)->Vals vs us->sp vs H Q E->
  codeAny (model P w) A (.call ↑f args) (CR CX outer P w H s Q E) s
def Env0.make{P:Program}{w:World}{K:Ad}{mg:Af}{base:Heap}{A:Around}{outer:A6 Env}{s:B6}{H:Hp}(e:Env0 P w K mg base A outer s H)(C:A7)(us:Ag)(kw:A6 (C0×B1)):
  Env0 P w K mg base (A.under<|.builtin "type.__call__" {.ref C::us,kw}) outer s H:={by first|show e.frames|(simpa[Around.under,Code.envs,Code.isFrame,pushEnvs] using e.frames),e.mod,e.bs,e.bsz,e.funs,e.frf,e.hok,e.bare}
def Env0.in1{P:Program}{w:World}{K:Ad}{mg:Af}{base:Heap}{A:Around}{outer:A6 Env}{s:B6}{H:Hp}(e:Env0 P w K mg base A outer s H):
  Env0 P w K mg base A.in1 outer s H:=⟨e.frames,e.mod,e.bs,e.bsz,e.funs,e.frf,e.hok,e.bare⟩
section
variable{X:Cx}{pins:A6 (A7×Obj)}{σ:St}{H:Hp}{s s':B6}
def Inv.env0(I:Inv X pins σ H s):Env0 X.prog X.w X.K X.mg X.base X.A X.stack s H:=
 {I.ok.frames,I.ok.mod,I.bs,Yq I.ok.bsz I.sz,I.stack,I.stkFree,I.hok,I.bare}
def Inv.after(I:Inv X pins σ H s)(h:CE X.stack X.prog X.w H s Q u s'):EP X pins σ Q u s':=by let(v,H',os,bare,un,hok,r,q):=h;let(hh,g,d,t,qq):=s';let rfl:qq=s.os:=os;exists v,H',I.call (h':=hh) (g':=g) (d':=d) (t':=t) (ch:=[]) un hok bare λb z=>absurd z Eo,r,q
end
def DM(sp:Sp)(Uq:A6 V)(E:XK)(t:TA):(TE):=λσ H Q=>t σ H λvs H1=>sp (vs++Uq) H1 Q E
def DL(C:A7)(m:C0)(sp:Sp)(Uq:A6 V)(E:XK)(ta:TE)(t:TA):(TE):=λσ H Q=>ta σ H λx H1=>∃a dx fs,x=.ref a/\H1 a=⇑(.ins C dx fs)/\fs.U m=A8/\
 t σ H1 λvs H2=>sp (x::(vs++Uq)) H2 Q E
def qp(C:A7)(sp:Sp)(Uq:A6 V)(E:XK)(t:TA):(TE):=λσ H Q=>t σ H λvs H1=>∀x dx,H1 x=A8->H1 dx=A8->dx≠x->
 sp (.ref x::(vs++Uq)) (upd (upd H1 dx<|.own x) x<|.ins C dx []) (λv H2=>v=.non/\Q ↑x H2) E
def Binds(K:Ad)(fd:B9)(ps:A6 C0)(ds:Ag):(Prop):=
 ∀(s:B6)(us:Ag),K.In s.C->(us++ds).f=ps.f->BindsTo s fd {us,[]} (ps.zip<|us++ds)
def Binds.all{K:Ad}{fd:B9}{ps:A6 C0}(h:∀us:Ag,us.f=ps.f->bindArgs fd {us,[]}=pure (ps.zip us)):Binds K fd ps []:=λs us _ hl=>by rw[YO]at hl ⊢;show .of_eq (h us hl)
def Le(CX:PU)(X:Cx)(E:XK):(Prop):=∀(pins:A6 (A7×Obj))(σ:St)(H:Hp)(s:B6)(e:B1)(s':B6),Inv X pins σ H s->CX X.stack H s E e s'->X.xe e s'
section
variable{X:Cx}{CX:PU}{k:A5}{f C:A7}{fd:B9}{ps:A6 C0}{sp:Sp}{Uq:A6 V}{ds:Ag}{E:XK}{x m:C0}{p pos apos:Pos}{e o:B5}{es:A6 B5}{ta:TE}{t:TA}
def Jl(F:FnOk X.prog X.w X.K X.mg X.base CX k f fd ps sp)(hr:Room k X.A)(hb:Binds X.K fd ps ds)(hd:Vals Uq ds)(hx:Le CX X E)
  (I:Inv X pins σ H s)(r:Vals vs us)(h:sp (vs++Uq) H Q E):wpAny (model X.prog X.w) X.A (call ↑f us) (EP X pins σ Q) X.xe s:=by
 let r2:Vals (vs++Uq) (us++ds):=r.append hd;let hl:(us++ds).f=ps.f:=by rw[<-r2.f];show F.len _ _ _ _ h
 show Et (Si (F.run X.A X.stack s H {us,[]} (us++ds) (vs++Uq) Q E hr I.env0 (hb s us I.kIn hl) r2 h) λr s' hq=>?_);cases r with
 |error e=>show hx pins σ H s e s' I hq
 |ok fl=>
  cases fl with
  |ret u=>show I.after hq
  |next=>show False.elim hq
  |brk=>show False.elim hq
  |cont=>show False.elim hq
def QH(F:FnOk X.prog X.w X.K X.mg X.base CX k f fd ps sp)(hr:Room k X.A)(hg:Gl X x)(hm:X.mg x=some ↑f)(hk:PySem.W.keepIn X.K ↑f=A9)(hb:Binds X.K fd ps ds)(hd:Vals Uq ds)(hx:Le CX X E)
  (ha:PA X (e::es) t)(RX:(x == ("__debug__":C0))=B0:=by decide)(he:starEach (e::es) X.X=(false,eval e X.X)::starEach es X.X:=by rfl)(UG:(backTo pos<|starEach es X.X).any (·.1)=B0:=by rfl):
  PE X (.Call (.Name x p) (e::es) [] pos) (DM sp Uq E t):=by intro pins s σ H Q I h;show NO (rh I hg hm ?_ RX);show sD (h₀:=X.base) I.ok.mod.kin hk (thn (ha pos pins s σ H _ I h) λus s1 ⟨vs,H1,I1,r,q⟩=>{I1.kIn,?_}) he UG;show Jl F hr hb hd hx I1 r q
def qo(he:PE X o ta)(c:Cls X.K C)(hm:Meth X.K C m f)(F:FnOk X.prog X.w X.K X.mg X.base CX k f fd ps sp)(hr:Room k X.A)(hb:Binds X.K fd ps ds)(hd:Vals Uq ds)(hx:Le CX X E)(ha:PA X (e::es) t)
  (WE:starEach (e::es) X.X=(false,eval e X.X)::starEach es X.X:=by rfl)(UG:(backTo pos<|starEach es X.X).any (·.1)=B0:=by rfl)
  (ht:eval (.Call (.Attribute o m apos) (e::es) [] pos) X.X=(do
   let ov <-eval o X.X
   standAt apos.atName
   let (f,first) <-holding [ov] (getMethod ov m pl)
   callWith pos f first (backTo pos<|starEach (e::es) X.X) (backToKw pos<|keywordEach [] X.X)):=by rfl):
  PE X (.Call (.Attribute o m apos) (e::es) [] pos) (DL C m sp Uq E ta t):=by intro pins s σ H Q I h;show cv (pl:=pl) (thn (he pins s σ H _ I h) λu s1 XB=>?_) ht;let(x,H1,I1,rx,a,dx,fs,ex,ea,l,q):=XB;subst ex;let rfl:u=Value.ref a:=rx;show bM I1 ea c hm l ?_;show sD (first:=[.ref a]) (h₀:=X.base) I.ok.mod.kin hm.kp (thn (ha pos pins s1 σ H1 _ I1 q) λus s2 ⟨vs,H2,I2,r,q2⟩=>{I2.kIn,?_}) WE UG;show Jl (us:=.ref a::us) (vs:=.ref a::vs) F hr hb hd hx I2 (.cons rfl r) q2
def bL(he:PE X o ta)(c:Cls X.K C)(hm:Meth X.K C m f)(F:FnOk X.prog X.w X.K X.mg X.base CX k f fd ps sp)(hr:Room k X.A)(hb:Binds X.K fd ps ds)(hd:Vals Uq ds)(hx:Le CX X E)
  (ht:eval (.Call (.Attribute o m apos) [] [] pos) X.X=(do
   let ov <-eval o X.X
   standAt apos.atName
   let (f,first) <-holding [ov] (getMethod ov m pl)
   callWith pos f first (backTo pos<|starEach [] X.X) (backToKw pos<|keywordEach [] X.X)):=by rfl):
  PE X (.Call (.Attribute o m apos) [] [] pos) (DL C m sp Uq E ta MQ):=by intro pins s σ H Q I h;show cv (pl:=pl) (thn (he pins s σ H _ I h) λu s1 XB=>?_) ht;let(x,H1,I1,rx,a,dx,fs,ex,ea,l,q):=XB;subst ex;let rfl:u=Value.ref a:=rx;show bM I1 ea c hm l ?_;show PySem.W.callWith_K0 (first:=[.ref a]) I1.kIn hm.kp (Jl (us:=[.ref a]) (vs:=[.ref a]) F hr hb hd hx I1 (.cons rfl .nil) q)
structure Mk(K:Ad)(C f:A7):Prop where
 makes:PySem.W.makesIn K C=A9
 init:PySem.W.findIn K ↑C "__init__"=⇑(some<|.ref f)
 fn:PySem.W.isFn K ↑f=A9
 kp:PySem.W.keepIn K ↑C=A9
def qm(M:Mk X.K C f)(F:FnOk X.prog X.w X.K X.mg X.base CX k f fd ps sp)(hr:Room (k+1) X.A)(hb:Binds X.K fd ps ds)(hd:Vals Uq ds)
  (hx:Le CX X E)(I:Inv X pins σ H s)(r:Vals vs us)
  (h:∀x dx,H x=A8->H dx=A8->dx≠x->sp (.ref x::(vs++Uq)) (upd (upd H dx<|.own x) x<|.ins C dx []) (λv H2=>v=.non/\Q ↑x H2) E):
  wpAny (model X.prog X.w) X.A (call ↑C us) (EP X pins σ Q) X.xe s:=by
 let hq:=h ((~~~s)+1) (~~~s) (I.hok.fresh<|SX _) (I.hok.fresh<|XG _) (Yx<|Gv _);let I2:=Inv.made (C:=C) I
 let r2:Vals (V.ref ((~~~s)+1)::(vs++Uq)) (Value.ref ((~~~s)+1)::(us++ds)):=.cons Z (r.append hd);let hl:(Value.ref ((~~~s)+1)::us++ds).f=ps.f:=by let e:=r2.f;rw[F.len _ _ _ _ hq]at e;show e.symm
 show Et (DP (f:=f) I.kIn M.makes M.init (Pe.S M.fn) (Si (F.run _ X.stack _ _ {Value.ref ((~~~s)+1)::us,[]} (Value.ref ((~~~s)+1)::(us++ds)) _ _ E (hr.make C us [])
  (I2.env0.make C us []) (hb _ (Value.ref ((~~~s)+1)::us) I2.kIn hl) r2 hq) λr s' DK=>?_))
 cases r with
 |error e=>show hx pins σ _ _ e s' I2 DK
 |ok fl=>
  cases fl with
  |ret u=>
   let(v,H',I3,rv,ev,q3):=I2.after DK;subst ev;exists rv,{V.ref<|(~~~s)+1,H',I3,Z,q3}
  |next=>show False.elim DK
  |brk=>show False.elim DK
  |cont=>show False.elim DK
def FZ(M:Mk X.K C f)(F:FnOk X.prog X.w X.K X.mg X.base CX k f fd ps sp)(hr:Room (k+1) X.A)(hg:Gl X x)(hm:X.mg x=some ↑C)(hb:Binds X.K fd ps ds)(hd:Vals Uq ds)(hx:Le CX X E)
  (ha:PA X (e::es) t)(RX:(x == ("__debug__":C0))=B0:=by decide)(he:starEach (e::es) X.X=(false,eval e X.X)::starEach es X.X:=by rfl)(UG:(backTo pos<|starEach es X.X).any (·.1)=B0:=by rfl):
  PE X (.Call (.Name x p) (e::es) [] pos) (qp C sp Uq E t):=by intro pins s σ H Q I h;show NO (rh I hg hm ?_ RX);show sD (h₀:=X.base) I.ok.mod.kin M.kp (thn (ha pos pins s σ H _ I h) λus s1 ⟨vs,H1,I1,r,q⟩=>{I1.kIn,?_}) he UG;show qm M F hr hb hd hx I1 r q
end
structure FnScope(N P:A6 C0)(sc:C1):Prop where
 kind:sc.kind=.function
 co:sc.isCoroutine=B0
 gen:sc.isGenerator=B0
 nd:N.Nodup
 pre:N.Q P.f=P
 par:∀x∈P,sc.names.U x=some .local\/sc.names.U x=some .cell
 nofree:∀y∈sc.names,y.2≠.free
def bK{kindOf:C0->Option NameKind}:∀{binds:A6 (C0×B1)}{m:Af},(∀v,(x,v)∉binds)->bindL kindOf binds m x=m x
 |[],_,_=>rfl
 | (n,v)::r,m,h=>by
  unfold bindL;rw[bK λw hw=>h w (Yf _ hw)];split
  .grind
  .rfl
def bJ{kindOf:C0->Option NameKind}:∀{binds:A6 (C0×B1)}{m:Af},(∀v,(x,v)∉binds)->bindC kindOf binds m x=m x
 |[],_,_=>rfl
 | (n,v)::r,m,h=>by
  unfold bindC;rw[bJ λw hw=>h w (Yf _ hw)];split
  .rfl
  grind
def bI{kindOf:C0->Option NameKind}{x:C0}{v:B1}:∀{P:A6 C0}{vs:Ag}{i:A5}{m:Af},P.Nodup->P[i]?=⇑x->vs[i]?=⇑v->kindOf x=some .local->
  bindL kindOf (P.zip vs) m x=⇑v
 |[],_,_,_,_,h,_,_=>by simp at h
 |_::_,[],_,_,_,_,h,_=>by simp at h
 |p::P,w::vs,0,m,nd,h1,h2,hk=>by
  simp at h1 h2;subst h1;subst h2;change bindL kindOf ((p,w)::P.zip vs) m p=_
  unfold bindL;rw[bK λv hv=>(Qb.S nd).1 (r9 hv).1,Yk hk];simp
 |p::P,w::vs,i+1,m,nd,h1,h2,hk=>by change bindL kindOf ((p,w)::P.zip vs) m x=_;show bI (i:=i) (Qb.S nd).2 (by simpa using h1) (by simpa using h2) hk
def bH{kindOf:C0->Option NameKind}{x:C0}{v:B1}:∀{P:A6 C0}{vs:Ag}{i:A5}{m:Af},P.Nodup->P[i]?=⇑x->vs[i]?=⇑v->kindOf x≠some .local->
  bindC kindOf (P.zip vs) m x=⇑v
 |[],_,_,_,_,h,_,_=>by simp at h
 |_::_,[],_,_,_,_,h,_=>by simp at h
 |p::P,w::vs,0,m,nd,h1,h2,hk=>by
  simp at h1 h2;subst h1;subst h2;change bindC kindOf ((p,w)::P.zip vs) m p=_
  unfold bindC;rw[bJ λv hv=>(Qb.S nd).1 (r9 hv).1,Yh hk];simp
 |p::P,w::vs,i+1,m,nd,h1,h2,hk=>by change bindC kindOf ((p,w)::P.zip vs) m x=_;show bH (i:=i) (Qb.S nd).2 (by simpa using h1) (by simpa using h2) hk
def start(N:A6 C0)(vs:A6 V):(St):=vs.G some++List.replicate (N.f-vs.f) none
def TF(CX:PU)(P:Program)(w:World)(K:Ad)(mg:Af)(base:Heap)(N:A6 C0)(qual:C0)(scope:C1)(f:A7)(cd:B1)(A:Around)(outer:A6 Env)(s:B6)(H:Hp)(E:XK):(Cx) where
 prog:=P
 w:=w
 K:=K
 mg:=mg
 base:=base
 A:=A.deeper (envOfC qual scope (~~~s) f cd)
 N:=N
 s₀:=s
 H₀:=H
 env:=envOfC qual scope (~~~s) f cd
 outer:=outer
 stack:=envOfC qual scope (~~~s) f cd::outer
 ex:=[]
 calm:=A9
 fn:=λ_=>true
 pn:=[]
 xe:=λe s'=>wpAny (model P w) (A.deeper<|envOfC qual scope (~~~s) f cd) (leaving (envOfC qual scope (~~~s) f cd) e) (λ_ Sy=>CX outer H s E e Sy) (λe' Sy=>CX outer H s E e' Sy) s'
def DJ{sc:C1}(h:sc.names.U x=some .cell):∃c,(cellsFrom n sc.names []).U x=⇑c:=by let q:=cD sc.names n [] (.inl h);show JG.S q
def ZU9{CX:PU}{P:Program}{w:World}{K:Ad}{mg:Af}{base:Heap}{N ps:A6 C0}{qual:C0}{scope:C1}{f:A7}{cd:B1}{A:Around}{outer:A6 Env}{s s1:B6}{H:Hp}{E:XK}{us:Ag}{vs:A6 V}
  (S:FnScope N ps scope)(hd:A.handled=A8)(e0:Env0 P w K mg base A outer s H)(hl:vs.f=ps.f)(r:Vals vs us)
  (x:InCallC s (~~~s) (bindL (envOfC qual scope (~~~s) f cd).kindOf (ps.zip us) λ_=>none) (cellsFrom ((~~~s)+1) scope.names []) (bindC (envOfC qual scope (~~~s) f cd).kindOf (ps.zip us) λ_=>none) s1):
  Inv (TF CX P w K mg base N qual scope f cd A outer s H E) [] (start N vs) H s1:=by
 let UG:ps.f<=N.f:=by have:=YI List.f S.pre;rw[Yw]at this;lia
 let(h1,tk,rfl,hk):=x.done;let Jk:∀b:A7,b∉(TF CX P w K mg base N qual scope f cd A outer s H E).ex:=λb z=>absurd (show b∈([]:A6 A7) from z) Eo
 show⟨{e0.mod,S.kind,Z,Z,XG _,λy z c h1 h2=>?_,λy hy=>?_,λy c _ h=>?_,λ_=>hd,Around.frames_deeper e0.frames,.inr ⟨Z,Z⟩,λb z=>absurd z<|Jk b,e0.bs,e0.bsz,λb _ _=>Jk b,λb z=>absurd z<|Jk b,e0.funs,e0.frf},
  rfl,e0.bare,Un.kept hk,{_,x.toInCall.ns,λi y v h1 h2 h3=>?_},λy c h=>{_,x.cell y c h},e0.hok.fresh<|XG _,λy c h=>?_,λp hp=>absurd (show p∈([]:A6 (A7×Obj)) from hp) Eo,e0.hok.kept hk,?_⟩
 .show name_of_addr x.apart (JV h1) (JV h2)
 .rcases hy with hy|hy
  .show DJ hy
  .show absurd Z (S.nofree _<|JV hy)
 .show Uy (x.above y c<|JV h)
 .let hi:i<vs.f:=by
   unfold start at h2;cases hi:i<vs.f
   .show hi
   .grind
  let ha:vs[i]?=⇑v:=by
   unfold start at h2;rw[Yu (by simpa using hi),Yi]at h2;cases e:vs[i]? with
   |none=>ext
   |some a=>ext
  let(u,hu,rv):=r.get ha;let hp:ps[i]?=⇑y:=by rwa[<-S.pre,cI (by ext)]
  let bG:ps.Nodup:=by rw[<-S.pre];show S.nd.sublist (List.take_sublist _ _)
  exists u,rv,?_;rcases S.par y (Xo hp) with k|k
  .show .inl {k,bI bG hp hu k}
  .let⟨c,e⟩:=DJ (n:=(~~~s)+1) k;show .inr {.inl k,c,e,?_};let q:=x.cell y c e
   rwa[bH bG hp hu (by change scope.names.U y≠_;lia)]at q
 .show e0.hok.fresh (Uy<|x.above y c<|JV h)
 .unfold start;change _=N.f
  ext
def DI{CX:PU}{P:Program}{w:World}{K:Ad}{mg:Af}{base:Heap}{k:A5}{f:A7}{name qual:C0}{params:Arguments}{body:A6 B8}{scope:C1}{dV kV doc pm XI ct oc:B1}{an od:Option A7}
  {Vf:B4 (Option B1)}{N ps:A6 C0}{sp:Sp}(lk:K.U f=⇑{oc,od,.func<|PySem.W.fnOf name qual params body scope dV kV doc pm an XI ct,Vf})(SA:PySem.W.codeIn K XI qual=A9)(S:FnScope N ps scope)
  (len:∀vs H Q E,sp vs H Q E->vs.f=ps.f)
  (VO:∀(A:Around)(outer:A6 Env)(s:B6)(H:Hp)(vs:A6 V)(Q:VK)(E:XK),Room k (A.deeper<|envOfC qual scope (~~~s) f XI)->sp vs H Q E->
   ∃t,PSs (TF CX P w K mg base N qual scope f XI A outer s H E) body t/\t {nx:=λ_ H'=>Q .non H',rt:=Q} (start N vs) H):
  FnOk P w K mg base CX (k+1) f (PySem.W.fnOf name qual params body scope dV kV doc pm an XI ct) ps sp:=by
 exists len,λA outer s H args us vs Q E hr e0 hb r Tg=>?_;let hl:=len _ _ _ _ Tg
 let KX:K.In s.C:=e0.mod.kin.keeps λb o e=>(e0.bs b o e).1;let lim:s.C.NoLimit:=e0.mod.nolimit.keeps λb o e=>(e0.bs b o e).1
 let DH:∀y∈ps.zip us,scope.names.U y.1=some .local\/(scope.names.U y.1=some .cell/\((cellsFrom ((~~~s)+1) scope.names []).U y.1).isSome=A9):=λ⟨n,v⟩ hy=>by
  rcases S.par n (r9 hy).1 with q|q
  .show .inl q
  .show .inr {q,cD _ _ _<|.inl q}
 show codeAny_call_function hr.depth (KX _ _ lk) Z S.co S.gen Z (PySem.W.codeRec_of KX SA) (hb _ _ _ _ ?_);show wpAny_newFunctionEnv_cells S.kind DH λenv he s1 x=>?_;subst he;exists lim.keeps x.toInCall.keep,codeAny_func ?_;let(t,ht,hq):=VO A outer s H vs Q E (hr.deeper _) Tg;let I:Inv (TF CX P w K mg base N qual scope f XI A outer s H E) [] (start N vs) H s1:=ZU9 S hr.hd e0 hl r x
 show SD (ht [] s1 (start N vs) H _ I hq) (λfl s' hs=>?_) λe s' hs=>hs;let fin:∀{σ':St}{H':Hp}{v:V}{u:B1},Inv (TF CX P w K mg base N qual scope f XI A outer s H E) [] σ' H' s'->RelV v u->Q v H'->CE outer P w H s Q u s':=
  λ{σ' H' v u} tB rv q=>⟨v,H',tB.os,tB.bare,tB.base,tB.hok,rv,q⟩
 cases fl with
 |ret u=>
  let(v,σ',H',tB,rv,q):=hs;show fin tB rv q
 |next=>
  let(σ',H',tB,q):=hs;show fin (v:=V.non) (u:=Value.none) tB Z q
 |brk=>
  let(_,_,_,q):=hs;show False.elim q
 |cont=>
  let(_,_,_,q):=hs;show False.elim q
section
variable{X:Cx}{x:C0}{p pos:Pos}{e:B5}{es:A6 B5}{t:TA}{id T:B2}{r:A6 V->Hp->VK->Prop}
def bF(r:A6 V->Hp->VK->Prop)(t:TA):(TE):=λσ H Q=>t σ H λvs H1=>r vs H1 Q
def Zf(hc:Vv X (.builtin id) r)(hg:Gl X x)(hm:X.mg x=A8)(hv:bootBuiltins x=⇑(.builtin id))(ha:PA X (e::es) t)(hn:x≠"__name__":=by decide)(RX:(x == ("__debug__":C0))=B0:=by decide)
  (he:starEach (e::es) X.X=(false,eval e X.X)::starEach es X.X:=by rfl)(UG:(backTo pos<|starEach es X.X).any (·.1)=B0:=by rfl):PE X (.Call (.Name x p) (e::es) [] pos) (bF r t):=by intro pins s σ H Q I h;show NO (PX I hg hm hv ?_ hn RX);show cP (thn (ha pos pins s σ H _ I h) λus s1 zz=>by let(vs,H1,I1,r1,q1):=zz;show hc pins s1 σ H1 vs us Q I1 r1 q1) he UG
def Zl(hc:Vv X (.type T) r)(hg:Gl X x)(hm:X.mg x=A8)(hv:bootBuiltins x=⇑(.type T))(ha:PA X (e::es) t)(hn:x≠"__name__":=by decide)(RX:(x == ("__debug__":C0))=B0:=by decide)
  (he:starEach (e::es) X.X=(false,eval e X.X)::starEach es X.X:=by rfl)(UG:(backTo pos<|starEach es X.X).any (·.1)=B0:=by rfl):PE X (.Call (.Name x p) (e::es) [] pos) (bF r t):=by intro pins s σ H Q I h;show NO (PX I hg hm hv ?_ hn RX);show Ta (thn (ha pos pins s σ H _ I h) λus s1 zz=>by let(vs,H1,I1,r1,q1):=zz;show hc pins s1 σ H1 vs us Q I1 r1 q1) he UG
end
end L2
namespace HT
open PySem PyProof.Rows
def lexLt:(Ac->Ac->B3)
 |[],[]=>false
 |[],_::_=>true
 |_::_,[]=>false
 |x::xs,y::ys=>if x=y then lexLt xs ys else decide (x<y)
def Xm(x y:A0)(xs ys:Ac):lexLt (x::xs) (y::ys)=if x=y then lexLt xs ys else decide (x<y):=rfl
section
variable{prog:Program}{w:World}{A:Around}{E:Ae}{s:B6}
def MP{vs ws:Ag}{Q:Ae}(ht:IsTup s.C t vs.r)(hb:IsTup s.C b ws.r)(hv:vs≠[])
  (h1:ws=[]->Q ↑t s)(h2:ws≠[]->Q (.ref (~~~s)) {s with heap:=s.C.push {cls:=.type "tuple",data:=.seq (vs++ws).r} })
  (hsz:vs.f+ws.f<=sizeLine):wpAny (model prog w) A (binaryOp .Add ↑t<|.ref b) Q E s:=by
 let((cls,dd,data,sl),ho,hc,n,hd):=id ht;let((DG,FY,data2,FX),Tf,Vm,n2,hd2):=id hb;subst hc hd Vm hd2;let e:vs.r++ws.r=(vs++ws).r:=Eo
 cases hw:ws=[]
 .show vU {_,ho,Z} {_,Tf,Z} rP seq_tuple_add sP sT (JI _ _)
   (tuple_addW1 t b vs.r ws.r n n2 dd FY sl FX (by simpa using hv)<|by simp[hw]) {ho,Tf,h1 hw}
 .show vU {_,ho,Z} {_,Tf,Z} rP seq_tuple_add sP sT (JI _ _)
   (tuple_addW2 t b vs.r ws.r n n2 dd FY sl FX (by ext) (by ext)<|by show hsz) ⟨ho,Tf,?_⟩
  rw[e];show h2 hw
def Up(n d:A5):(Option A0->A5)
 |none=>d
 |some v=>if v<0 then (v+(n:A0)).j else min v.j n
def VN(n d:A5):Up n d none=d:=rfl
end
end HT
namespace L2
open PySem PySem.Spec PyProof.Rows
abbrev TO:=St->Hp->(Option A0->Hp->Prop)->Prop
def PO(X:Cx)(e:Option B5)(t:TO):(Prop):=
 ∀(pins:A6 (A7×Obj))(s:B6)(σ:St)(H:Hp)(Q:Option A0->Hp->Prop),Inv X pins σ H s->t σ H Q->
  wpAny (model X.prog X.w) X.A (evalPart e X.X) (λu s'=>∃o H',Inv X pins σ H' s'/\IsPart u o/\Q o H') X.xe s
def ql:(TO):=λ_ H Q=>Q none H
inductive xPart(x:V)(H1:Hp)(Q:Option A0->Hp->Prop):Prop
 |mk (i:A0) (_:x=.int i) (_:Q ⇑i H1)
def qk(t:TE):(TO):=λσ H Q=>t σ H λx H1=>xPart x H1 Q
section
variable{X:Cx}{e:B5}{te:TE}{lo hi:Option B5}{tl th:TO}{pos p2:Pos}
def Rv:PO X none ql:=by intro pins s σ H Q I h;show Yg ⟨none,H,I,.none,h⟩
def Wh(h:PE X e te):PO X ⇑e (qk te):=by intro pins s σ H Q I hw;show thn (h pins s σ H _ I hw) λu s1 XB=>?_;let(x,H1,I1,r1,q1):=XB;let(i,rfl,q):=q1;let(t,rfl):=r1;exists some i,H1,I1,.int i t,q
def vD(X:Cx)(r:V->Option A0->Option A0->Hp->VK->Prop):(Prop):=
 ∀(pins:A6 (A7×Obj))(s:B6)(σ:St)(H:Hp)(x:V)(v vl vu:B1)(lo hi:Option A0)(sl:A7)(Q:VK),Inv X pins σ H s->RelV x v->s.C.IsSliceOf sl vl vu .none->IsPart vl lo->IsPart vu hi->r x lo hi H Q->
  ∃T id,typeLookup (.type T) "__getitem__"=pure (some<|.builtin id)/\s.TypeIs v T/\wpAny (model X.prog X.w) X.A (getItem v<|.ref sl) (EP X pins σ Q) X.xe s
def tSl(r:V->Option A0->Option A0->Hp->VK->Prop)(te:TE)(tl th:TO):(TE):=λσ H Q=>te σ H λx H1=>tl σ H1 λl H2=>th σ H2 λu H3=>r x l u H3 Q
def ZR{r:V->Option A0->Option A0->Hp->VK->Prop}(hr:vD X r)(he:PE X e te)(hl:PO X lo tl)(hu:PO X hi th):PE X (.Subscript e (.Slice lo hi none p2) pos) (tSl r te tl th):=by
 intro pins s σ H Q I h;show Subscript_ (thn (he pins s σ H _ I h) λv s1 XB=>?_);let(x,H1,I1,r1,q1):=XB;show wpAny_Slice (thn (hl pins s1 σ H1 _ I1 q1) λvl s2 zz=>?_);let(l,H2,I2,pl,q2):=zz;show thn (hu pins s2 σ H2 _ I2 q2) λvu s3 XB=>?_;let(u,H3,I3,pu,q3):=XB;show Yg ?_;let I4:Inv X pins σ H3 {s3 with heap:=s3.C.push {cls:=.type "slice",data:=.fields #[vl,vu,.none]} }:=I3.kept (t':=s3.toks) λb ob q=>Xf _ q
 let(T,id,hT,ht,hg):=hr pins {s3 with heap:=s3.C.push {cls:=.type "slice",data:=.fields #[vl,vu,.none]} } σ H3 x v vl vu l u (~~~s3) Q I4 r1 (Heap.IsSliceOf.new ..) pl pu q3;show tail_any (ops:=[.ref (~~~s3),v]) ht hT hg (by with_unfolding_all rfl)
def Xi(xs:A6 V)(lo hi:Option A0):(A6 V):=(xs.drop<|HT.Up xs.f 0 lo).Q (HT.Up xs.f xs.f hi-HT.Up xs.f 0 lo)
def qj(xs:A6 V)(lo hi:Option A0):(Xi xs lo hi).f<=xs.f:=by unfold Xi;rw[Yw,QV];lia
def DF(K:Ad):(R2):=λx y H Q=>∃a b xs ys,x=.ref a/\y=.ref b/\SqT K H a xs/\SqT K H b ys/\xs≠[]/\xs.f+ys.f<=sizeLine/\
 (ys=[]->Q ↑a H)/\(ys≠[]->∀p,H p=A8->Q ↑p (upd H p<|.tup<|xs++ys))
def Vals.nil_iff(r:Vals xs us):us=[]↔xs=[]:=by
 cases r with
 |nil=>simp
 |cons _ _=>simp
def qi:WD X (binaryOp .Add) (DF X.K):=by intro pins s σ H x y v u Q I rx ry h;let(a,b,xs,ys,rfl,rfl,ha,hb,hx,hz,q1,q2):=h;cases rx;cases ry;let(XX,r1,p1,_):=I.tuple ha;let(Wm,r2,p2,_):=I.tuple hb;show HT.MP p1 p2 (λz=>hx<|r1.nil_iff.S z) (λz=>{.ref a,H,I,Z,q1<|r2.nil_iff.S z}) (λz=>?_) (by rwa[<-r1.f,<-r2.f]);exists .ref (~~~s),_,I.laid (t':=s.toks) (o:=.tup<|xs++ys) (λb ob q=>Xf _ q) (XG _) ?_,Z,q2 (λw=>z<|r2.nil_iff.mpr w) _<|I.hok.fresh<|XG _;exists by ext,_,r1.append r2,IsTup.new _ _
end
def PR(n:A5)(i:A0):(Option A5):=if 0<=i then (if i<n then some i.j else none) else if -(n:A0)<=i then some (i+n).j else none
def Wy{α:Type}(xs:A6 α)(i:A0):(Option α):=(PR xs.f i).bind λj=>xs[j]?
def DE{j:A5}(h:PR n i=⇑j):seqIndex? i n=⇑j/\j<n/\-(n:A0)<=i/\i<n:=by
 unfold PR at h;cases h0:0<=i
 .rw[Yk h0]at h;cases h1:i<n
  .rw[Yk h1]at h;let e:i.j=j:=Yn h
   exists by rw[seqIndex_of h0 h1,e],J,J,h1
  ext
 .rw[Yh h0]at h;cases h1:-(n:A0)<=i
  .rw[Yk h1]at h;let e:(i+n).j=j:=Yn h
   exists by rw[seqIndex_neg (by ext) h1,e],J,h1,J
  ext
def Jj{α:Type}{xs:A6 α}{i:A0}{v:α}(h:Wy xs i=⇑v):∃j,seqIndex? i xs.f=⇑j/\xs[j]?=⇑v/\j<xs.f/\-xs⁻¹<=i/\i<xs.f:=by
 unfold Wy at h;cases e:PR xs.f i with
 |none=>ext
 |some j=>
  rw[e]at h;let(h1,h2,h3,h4):=DE e;exists j,h1,h,h2,h3,h4
def DD(b:B5):(Prop):=∀o i,subscripted b false o i=operate [o,i] (getItem o i)
def FW(X:Cx)(r:R2):(Prop):=
 ∀(value slice:B5)(pins:A6 (A7×Obj))(s:B6)(σ:St)(H:Hp)(x y:V)(v u:B1)(Q:VK),Inv X pins σ H s->RelV x v->RelV y u->r x y H Q->
  subscripted slice false v u=operate [v,u] (getItem v u)->wpAny (model X.prog X.w) X.A (subscriptTail value slice v u) (EP X pins σ Q) X.xe s
def vC(X:Cx)(id:B2)(r:V->A6 V->Hp->VK->Prop):(Prop):=
 ∀(pins:A6 (A7×Obj))(s:B6)(σ:St)(H:Hp)(x:V)(xs:A6 V)(v:B1)(us:Ag)(Q:VK),Inv X pins σ H s->RelV x v->Vals xs us->r x xs H Q->
  wpAny (model X.prog X.w) X.A (call (.builtin id)<|v::us) (EP X pins σ Q) X.xe s
section
variable{X:Cx}{a b:B5}{ta tb:TE}{pos:Pos}
def Zz(hr:FW X r)(ha:PE X a ta)(hb:PE X b tb)(hs:DD b):PE X (.Subscript a b pos) (vK r ta tb):=by intro pins s σ H Q I h;show Subscript_ (Ju ha hb I h λv u s2 x y H2 I2 rx ry q=>hr a b pins s2 σ H2 x y v u Q I2 rx ry q<|hs _ _)
inductive rIxL(K:Ad)(x:V)(y:V)(H:Hp)(Q:VK):Prop
 |mk (p xs i v:_) (_:x=.ref p) (_:y=.int i) (_:SqL K H p xs) (_:Wy xs i=⇑v) (_:Q v H)
inductive rIxT(K:Ad)(x:V)(y:V)(H:Hp)(Q:VK):Prop
 |mk (p xs i v:_) (_:x=.ref p) (_:y=.int i) (_:SqT K H p xs) (_:Wy xs i=⇑v) (_:Q v H)
def qh:(R2):=λx y H Q=>∃z i c,x=.str z/\y=.int i/\z.f<=sizeLine/\Wy z.cps.m i=⇑c/\Q (.str {#[c]}) H
def qg:FW X (rIxL X.K):=by
 intro value slice pins s σ H x y v u Q I rx ry h hs;let(p,xs,i,z,rfl,rfl,hq,he,q):=h;cases rx;let(t,rfl):=ry;let(XX,r,pl,hz):=I.list hq;let(j,h1,h2,h3,h4,h5):=Jj he;let(w,ew,MO):=r.get h2;let hl:=r.f
 let hn:=Jo;let fin:EP X pins σ Q w s:=⟨z,H,I,MO,q⟩
 cases h0:0<=i
 .let hj:i.j=j:=by rw[seqIndex_of h0 h5]at h1;show Yn h1
  show item_listR pl.isList h0 J D fin hs
 .let hj:(i+(XX.r.o:A0)).j=j:=by rw[seqIndex_neg (by ext) h4]at h1;rw[YJ,<-hl];show Yn h1
  show subscriptTail_builtinR (x:=w) pl.isList.typeIs slot_list_getitem.U
   (wpAny_getItem_list_neg (Q:=λr s'=>r=w/\EP X pins σ Q r s') pl.isList D (by ext) J (by rw[hj];simpa using ew) ⟨Z,fin⟩) hs
def qf:FW X (rIxT X.K):=by
 intro value slice pins s σ H x y v u Q I rx ry h hs;let(p,xs,i,z,rfl,rfl,hq,he,q):=h;cases rx;let(t,rfl):=ry;let(XX,r,pl,hz):=I.tuple hq;let(j,h1,h2,h3,h4,h5):=Jj he;let(w,ew,MO):=r.get h2;let hl:=r.f
 let hn:=Jo;let fin:EP X pins σ Q w s:=⟨z,H,I,MO,q⟩
 show subscriptTail_builtinR (x:=w) pl.typeIs slot_tuple_getitem.U
  (getItem_tuple (j:=j) (Q:=λr s'=>r=w/\EP X pins σ Q r s') pl J J (by ext) (by simpa using ew) ⟨Z,fin⟩) hs
def qd:FW X qh:=by
 intro value slice pins s σ H x y v u Q I rx ry h hs;let(z,i,c,rfl,rfl,hz,he,q):=h;let(t,rfl):=rx;let(t',rfl):=ry;let(j,h1,h2,h3,h4,h5):=Jj he;let hl:z.cps.m.f=z.f:=by simp[Str.length]
 rw[hl]at h1 h4 h5;let hn:=Jo
 show tail_any (Gg s z t) slot_str_getitem.U (getItem_str (c:=c) (by
  lia) D {.str {#[c]},H,I.tok _,{_,Z},q}) hs
def qc(XX:Ag)(n j:A5)(u:B1):Obj.mapSeq (·.setIfInBounds j u) {cls:=.type "list",data:=.seq XX.r n}={cls:=.type "list",data:=.seq (XX.set j u).r n}:=by simp[Obj.mapSeq]
def Inv.lst{pins:A6 (A7×Obj)}{σ:St}{H:Hp}{s:B6}{p:A7}{xs:A6 V}(I:Inv X pins σ H s)(h:H p=⇑(.lst xs)):
  ∃(XX:Ag)(n:A5),Vals xs XX/\s.C.E p=⇑{cls:=.type "list",data:=.seq XX.r n}/\xs.f<=sizeLine:=by let(z,XX,n,r,e):=I.hok p _ h;exists XX,n,r,e,z
def Inv.lstUpd{p:A7}{xs ys:A6 V}{XX its':Ag}{f:Obj->Obj}(I:Inv X pins σ H s)(h:H p=⇑(.lst xs))
  (ho:s.C.E p=⇑{cls:=.type "list",data:=.seq XX.r n})(hf:f {cls:=.type "list",data:=.seq XX.r n}={cls:=.type "list",data:=.seq its'.r n'})(r:Vals ys its')(hz:ys.f<=sizeLine)(t:A5):
  Inv X pins σ (upd H p<|.lst ys) {s with heap:=s.C.update p f,toks:=t}:=by
 let e:(s.C.update p f).E p=⇑{cls:=.type "list",data:=.seq its'.r n'}:=by rw[UZ f ho (by rw[hf]<;>rfl),hf]
 show I.write (x:=p) (e:=p) (by rw[h];trivial) (.inl Z) (λb u hb q=>(YK _ _<|YZ hb).l q) {_,e} ?_;exists hz,its',n',r,e
inductive rSetL(o:V)(i:V)(v:V)(H:Hp)(Q:Hp->Prop):Prop
 |mk (p xs k j:_) (_:o=.ref p) (_:i=.int k) (_:H p=⇑(.lst xs)) (_:PR xs.f k=⇑j) (_:Q (upd H p<|.lst<|xs.set j v))
def Ji:Jx X rSetL:=by
 intro pins s σ H o i v ov iv u Q I ro ri rv h;let(p,xs,k,j,rfl,rfl,hp,hj,q):=h;cases ro;let(t,rfl):=ri;let(XX,n,r,ho,hz):=I.lst hp;let(h1,h2,h3,h4):=DE hj;let hl:=r.f
 let hn:=Jo;let I':Inv X pins σ (upd H p<|.lst<|xs.set j v) {s with heap:=s.C.update p (Obj.mapSeq (·.setIfInBounds j u))}:=
  I.lstUpd hp ho (qc XX n j u) (r.set rv j) (by ext) s.toks
 cases h0:0<=k
 .let hk:k.j=j:=by rw[seqIndex_of h0 h4]at h1;show Yn h1
  show PySem.W.ki_setAt ho h0 J (by ext) (by rw[hk];exists _,I',q)
 .let hk:(k+(XX.r.o:A0)).j=j:=by rw[seqIndex_neg J h3]at h1;rw[YJ,<-hl];show Yn h1
  show PySem.W.ki_setBack ho D (by ext) J (by rw[hk];exists _,I',q)
def DC(i:A0)(n:A5):max 0 (min (if i<0 then i+n else i) n)=((if i<0 then (i+n).j else min i.j n:A5):A0):=by
 cases h:i<0
 .rw[Yk h,Yk h,r6 J,Int.ofNat_toNat,Int.max_comm]
 .let⟨m,rfl⟩:=sR (Gi.S h);rw[Yh h,Yh h,VP];grind
def qb(lo hi:Option A0)(n:A5):(sliceBounds lo hi none n).1=((HT.Up n 0 lo:A5):A0)/\(sliceBounds lo hi none n).2.1=((HT.Up n n hi:A5):A0)/\(sliceBounds lo hi none n).2.2=1:=by exists by cases lo<;>first|rfl|show DC _ n,by cases hi<;>first|rfl|show DC _ n,rfl
def Zk4(XX:Ag)(lo hi:Option A0):slicePick XX.r lo hi none=((XX.drop (HT.Up XX.f 0 lo)).Q (HT.Up XX.f XX.f hi-HT.Up XX.f 0 lo)).r:=by let(h1,h2,h3):=qb lo hi XX.r.o;unfold slicePick;rw[h1,h2,h3];simp only[sliceRange_one,pick_run,YJ]<;>rfl
inductive rSlL(K:Ad)(x:V)(lo:Option A0)(hi:Option A0)(H:Hp)(Q:VK):Prop
 |mk (a xs:_) (_:x=.ref a) (_:SqL K H a xs) (_:∀p,H p=A8->Q ↑p (upd H p<|.lst<|Xi xs lo hi))
def qa:vD X (rSlL X.K):=by
 intro pins s σ H x v vl vu lo hi sl Q I rx hs pl pu h;let(a,xs,rfl,hx,q):=h;cases rx;let(XX,r,ht,hz):=I.list hx;let hlen:=r.f
 exists "list",_,slot_list_getitem.U,ht.isList.typeIs,?_;show wpAny_getItem_list_slice ht.isList hs pl pu .none Eo ?_ (by ext);rw[Zk4,<-hlen];exists .ref (~~~s),_,I.laid (t':=s.toks) (o:=.lst<|Xi xs lo hi) (λb ob q=>Xf _ q) (XG _) ?_,Z,q _<|I.hok.fresh<|XG _;exists Yq (qj xs lo hi) hz,_,0,(r.drop<|HT.Up xs.f 0 lo).Q (HT.Up xs.f xs.f hi-HT.Up xs.f 0 lo),Yj _ Z
def SU:(V->B3)
 | .non=>true
 | .bl _=>true
 | .int _=>true
 | .str _=>true
 |_=>false
def PQ:(V->V->B3)
 | .non,.non=>true
 | .bl a,.bl b=>a == b
 | .bl a,.int b=>(if a then 1 else 0) == b
 | .int a,.bl b=>a == (if b then 1 else 0)
 | .int a,.int b=>a == b
 | .str a,.str b=>a == b
 |_,_=>false
def DB(ry:RelV y u)(rx:RelV x v)(fy:SU y=A9)(fx:SU x=A9):SeqAt.EqAt A s u v (PQ y x):=by
 cases y with
 |non=>
  cases ry;cases x with
  |non=>cases rx;show SeqAt.EqAt.Y _
  |bl b=>cases rx;show SeqAt.EqAt.none_bool b
  |int b=>let(t,rfl):=rx;show SeqAt.EqAt.none_int b t
  |str b=>let(t,rfl):=rx;show SeqAt.EqAt.none_str b t
  |_=>show absurd (show false=A9 from fx) YD
 |bl a=>
  cases ry;cases x with
  |non=>cases rx;show SeqAt.EqAt.bool_none a
  |bl b=>cases rx;show SeqAt.EqAt.bool_bool a b
  |int b=>let(t,rfl):=rx;show SeqAt.EqAt.bool_int a b t
  |str b=>let(t,rfl):=rx;show SeqAt.EqAt.bool_str a b t
  |_=>show absurd (show false=A9 from fx) YD
 |int a=>
  let(t',rfl):=ry;cases x with
  |non=>cases rx;show SeqAt.EqAt.int_none a t'
  |bl b=>cases rx;show SeqAt.EqAt.int_bool a t' b
  |int b=>let(t,rfl):=rx;show SeqAt.EqAt.int_int a t' b t
  |str b=>let(t,rfl):=rx;show SeqAt.EqAt.int_str a t' b t
  |_=>show absurd (show false=A9 from fx) YD
 |str a=>
  let(t',rfl):=ry;cases x with
  |non=>cases rx;show SeqAt.EqAt.str_none a t'
  |bl b=>cases rx;show SeqAt.EqAt.str_bool a t' b
  |int b=>let(t,rfl):=rx;show SeqAt.EqAt.str_int a t' b t
  |str b=>let(t,rfl):=rx;show SeqAt.EqAt.str_str a t' b t
  |_=>show absurd (show false=A9 from fx) YD
 |_=>show absurd (show false=A9 from fy) YD
def SS(x:V)(u:B1):(B3):=match u with
 | .none=>PQ .non x
 | .bool b=>PQ (.bl b) x
 | .int i _=>PQ (.int i) x
 | .str z _=>PQ (.str z) x
 |_=>false
def DA(r:RelV y u)(f:SU y=A9):SS x u=PQ y x:=by
 cases y with
 |non=>cases r;rfl
 |bl b=>cases r;rfl
 |int i=>let(t,rfl):=r;rfl
 |str z=>let(t,rfl):=r;rfl
 |_=>show absurd (show false=A9 from f) YD
def vB{xs:A6 V}{us:Ag}(h:Vals xs us)(f:xs.all SU=A9):us.any (SS x)=xs.any λy=>PQ y x:=by
 induction h with
 |nil=>rfl
 |cons r t ih=>
  rw[List.all_cons,wu]at f;rw[rO,rO,DA r f.1,ih f.2]
def FV(rx:RelV x v)(fx:SU x=A9){xs:A6 V}{us:Ag}(h:Vals xs us)(f:xs.all SU=A9):∀u∈us,SeqAt.EqAt A s u v (SS x u):=by
 induction h with
 |nil=>intro u hu;cases hu
 |cons r t ih=>
  intro u' hu;rw[List.all_cons,wu]at f;rcases Yo.S hu with rfl|hu
  .rw[DA r f.1];show DB r rx f.1 fx
  .show ih f.2 u' hu
def Ld(x:V)(xs:A6 V):(B3):=xs.any λy=>PQ y x
def bE(K:Ad)(neg:B3):(R2):=λx y H Q=>∃p xs,y=.ref p/\(SqL K H p xs\/SqT K H p xs)/\SU x=A9/\xs.all SU=A9/\Q (.bl<|if neg then !Ld x xs else Ld x xs) H
def Zv9:WD X (compareOp .In) (bE X.K false):=by
 intro pins s σ H x y v u Q I rx ry h;let(p,xs,rfl,hq,fx,fs,q):=h;cases ry;rcases hq with hq|hq
 .let⟨XX,r,pl,hz⟩:=I.list hq;show SeqAt.in_listAt (SS x) pl.isList (λw hw=>FV rx fx r fs w<|by simpa using hw) ⟨.bl _,H,I,Z,?_⟩;rwa[show XX.r.any (SS x)=XX.any (SS x) by simp,vB r fs]
 .let⟨XX,r,pl,hz⟩:=I.tuple hq;show SeqAt.in_tupleAt (SS x) pl (λw hw=>FV rx fx r fs w<|by simpa using hw) ⟨.bl _,H,I,Z,?_⟩;rwa[show XX.r.any (SS x)=XX.any (SS x) by simp,vB r fs]
def Zb5:WD X (compareOp .NotIn) (bE X.K true):=by
 intro pins s σ H x y v u Q I rx ry h;let(p,xs,rfl,hq,fx,fs,q):=h;cases ry;rcases hq with hq|hq
 .let⟨XX,r,pl,hz⟩:=I.list hq;show SeqAt.notIn_listAt (SS x) pl.isList (λw hw=>FV rx fx r fs w<|by simpa using hw) ⟨.bl _,H,I,Z,?_⟩;rwa[show XX.r.any (SS x)=XX.any (SS x) by simp,vB r fs]
 .let⟨XX,r,pl,hz⟩:=I.tuple hq;show SeqAt.notIn_tupleAt (SS x) pl (λw hw=>FV rx fx r fs w<|by simpa using hw) ⟨.bl _,H,I,Z,?_⟩;rwa[show XX.r.any (SS x)=XX.any (SS x) by simp,vB r fs]
inductive yR0(K:Ad)(xs:A6 V)(H:Hp)(Q:VK):Prop
 |mk (p ys:_) (_:xs=[.ref p]) (_:(SqL K H p ys\/SqT K H p ys)) (_:Q (.int ys.f) H)
def Zx5:Vv X (.builtin "len") (yR0 X.K):=by
 intro pins s σ H xs us Q I r h;let(p,ys,rfl,hq,q):=h;let(u,rfl,rx):=Ur r;cases rx;let hn:=Jo
 rcases hq with hq|hq
 .let⟨XX,r',pl,hz⟩:=I.list hq;let hlen:=r'.f
  show Calls.call_len_list pl.isList D {.int ys.f,H,I.tok _,{s.toks+1,by ext},q}
 .let⟨XX,r',pl,hz⟩:=I.tuple hq;let hlen:=r'.f
  show len_tuple pl D {.int ys.f,H,I.tok _,{s.toks+1,by ext},q}
def Zw5:Vv X (.builtin "len") (λxs H Q=>∃z,xs=[.str z]/\z.f<=sizeLine/\Q (.int z.f) H):=by
 intro pins s σ H xs us Q I r h;let(z,rfl,hz,q):=h;let(u,rfl,t,rfl):=Ur r;let hn:=Jo
 show len_str J {.int z.f,H,I.tok _,{_,Z},q}
def Zv5:Vv X (.type "list") (λxs H Q=>∃p ys,xs=[.ref p]/\(SqL X.K H p ys\/SqT X.K H p ys)/\∀l,H l=A8->Q ↑l (upd H l (.lst ys))):=by
 intro pins s σ H xs us Q I r h;let(p,ys,rfl,hq,q):=h;let(u,rfl,rx):=Ur r;cases rx;let fin:∀(XX:Ag),Vals ys XX->ys.f<=sizeLine->∀(h':Heap)(c':A5),(∀b o',s.C.E b=⇑o'->h'.E b=⇑o')->
   h'.E (~~~s)=⇑{cls:=.type "list",dict:=A8,data:=.seq XX.r c',slots:=#[]}->EP X pins σ Q (.ref (~~~s)) {s with heap:=h'}:=λXX r' hz h' c' kp e=>
  {.ref (~~~s),_,I.laid (t':=s.toks) kp (XG _)<|show ObjOk X.prog X.w _ h' _ (.lst ys) from⟨hz,XX,c',r',e⟩,Z,q _<|I.hok.fresh<|XG _}
 rcases hq with hq|hq
 .let⟨XX,r',pl,hz⟩:=I.list hq;let hlen:=r'.f
  let(o,ho,hc,n,hd):=pl.isList;show call_list_seq p (.inl Z) ho hc hd (λh' c' kp e=>fin XX r' hz h' c' kp e) (by ext)
 .let⟨XX,r',pl,hz⟩:=I.tuple hq;let hlen:=r'.f
  let(o,ho,hc,n,hd):=pl;show call_list_seq p (.inr Z) ho hc hd (λh' c' kp e=>fin XX r' hz h' c' kp e) D
def ZL4:Vv X (.type "tuple") (λxs H Q=>∃p ys,xs=[.ref p]/\((SqL X.K H p ys/\∀l,H l=A8->Q ↑l (upd H l (.tup ys)))\/(SqT X.K H p ys/\Q ↑p H))):=by
 intro pins s σ H xs us Q I r h;let(p,ys,rfl,h):=h;let(u,rfl,rx):=Ur r;cases rx;rcases h with ⟨hq,q⟩|⟨hq,q⟩
 .let⟨XX,r',pl,hz⟩:=I.list hq;let hlen:=r'.f
  show call_tuple_list pl.isList (λh' kp=>?_) D;let I1:Inv X pins σ H {s with heap:=h'}:=I.kept (t':=s.toks) kp
  let I2:Inv X pins σ (upd H h'.objs.o<|.tup ys) {s with heap:=h'.push {cls:=.type "tuple",data:=.seq XX.r} }:=
   I1.laid (t':=s.toks) (λb o e=>Xf _ e) (XG _) (show ObjOk X.prog X.w _ _ _ (.tup ys) from{hz,XX,r',IsTup.new _ _})
  exists .ref h'.objs.o,_,I2,Z,q _<|I1.hok.fresh<|XG _
 .let⟨XX,r',pl,hz⟩:=I.tuple hq;show call_tuple_same pl {.ref p,H,I,Z,q}
def p8(K:Ad)(T:B2)(x:V)(H:Hp):(Prop):=match x with
 | .str _=>T="str"
 | .int _=>T="int"
 | .ref p=>(T="list"/\∃xs,SqL K H p xs)\/(T="tuple"/\∃o,K.U p=⇑o/\o.cls=.type "tuple"/\o.dict=A8)\/
   (T="dict"/\((∃kvs,H p=⇑(.dK kvs))\/∃kvs,H p=⇑(.dT kvs)))\/(T="set"/\∃S n,H p=⇑(.set S n))
 |_=>False
def Dz(I:Inv X pins σ H s)(r:RelV x v)(ty:p8 X.K T x H):
  s.TypeIs v T/\∀a,v=.ref a->∃ob,s.C.E a=⇑ob/\ob.dict=A8:=by
 cases x with
 |str z=>
  let(t,rfl):=r;cases (show T="str" from ty);exists Gg s z t,λ_ e=>nomatch e
 |int i=>
  let(t,rfl):=r;cases (show T="int" from ty);exists typeIs_int s i t,λ_ e=>nomatch e
 |ref p=>
  cases r;rcases ty with ⟨rfl,xs,hq⟩|⟨rfl,o,hk,hc,hd⟩|⟨rfl,hk⟩|⟨rfl,S,n,hk⟩
  .let⟨XX,_,pl,_⟩:=I.list hq;exists pl.isList.typeIs,λa e=>?_;cases e;let(o,n,e,c,hd,_):=pl;exists o,e,hd
  .exists {o,I.kIn p o hk,hc},λa e=>?_;cases e;exists o,I.kIn _ o hk,hd
  .let z:∃o,s.C.E p=⇑o/\o.ExactDict:=by
    rcases hk with ⟨kvs,hk⟩|⟨kvs,hk⟩
    .let⟨_,_,_,_,o,_,_,e,ex,_⟩:=I.hok p _ hk;exists o,e,ex
    .let⟨_,_,_,_,o,_,_,e,ex,_⟩:=I.hok p _ hk;exists o,e,ex
   let(o,e,ex):=z;exists ⟨o,e,ex.1⟩,λa e2=>?_;cases e2;exists o,e,ex.2.1
  .let⟨o,_,_,_,e,ex,_⟩:=I.hok p _ hk;exists ⟨o,e,ex.1⟩,λa e2=>?_;cases e2;exists o,e,ex.2.1
 |_=>show False.elim ty
def Dy(K:Ad)(T:B2)(r:V->A6 V->Hp->VK->Prop)(to:TE):(TE):=λσ H Q=>to σ H λx H1=>p8 K T x H1/\r x [] H1 Q
def bD(K:Ad)(T:B2)(r:V->A6 V->Hp->VK->Prop)(to:TE)(t:TA):(TE):=λσ H Q=>to σ H λx H1=>p8 K T x H1/\t σ H1 λxs H2=>r x xs H2 Q
variable{o e:B5}{es:A6 B5}{to:TE}{t:TA}{name:C0}{apos WZ:Pos}{T id:B2}{r:V->A6 V->Hp->VK->Prop}
def p7(pa:PlainAttrs T)(slot:Slot T name id)(Jh:typeOf (.builtin id)=pure (.type "method_descriptor"))(hm:vC X id r)(ho:PE X o to)
  (UW:attributeBase o name X.X (eval o X.X)=eval o X.X:=by rfl)(UU:(apos.endLine == WZ.line)=A9:=by rfl):PE X (.Call (.Attribute o name apos) [] [] WZ) (Dy X.K T r to):=by intro pins s σ H Q I h;show wpAny_Call_method0_late UW UU (thn (ho pins s σ H _ I h) λv s1 XB=>?_);let(x,H1,I1,r1,ty,q1):=XB;let(h1,h2):=Dz I1 r1 ty;exists T,id,pa,slot,Jh,h1,h2,Calls.callWith_builtin Z<|PySem.evalArgs_none<|hm pins s1 σ H1 x [] v [] Q I1 r1 .nil q1
def p6(pa:PlainAttrs T)(slot:Slot T name id)(Jh:typeOf (.builtin id)=pure (.type "method_descriptor"))(hm:vC X id r)(ho:PE X o to)(ha:PA X (e::es) t)
  (UW:attributeBase o name X.X (eval o X.X)=eval o X.X:=by rfl)
  (Jg:((backTo WZ<|starEach (e::es) X.X).all (λx=>!x.1)&&(backToKw WZ<|keywordEach [] X.X).all (λx=>x.1.isSome)
   && decide ((e::es).f+([]:A6 Keyword).f+(if ([]:A6 Keyword).isEmpty then 0 else 1)<30))=A9:=by rfl)
  (UU:(apos.endLine == WZ.line)=A9:=by rfl)(hs:starEach (e::es) X.X=(false,eval e X.X)::starEach es X.X:=by rfl)(OW:(backTo WZ<|starEach es X.X).any (·.1)=B0:=by rfl):
  PE X (.Call (.Attribute o name apos) (e::es) [] WZ) (bD X.K T r to t):=by
 intro pins s σ H Q I h;show wpAny_Call_method_late UW Jg UU Z (thn (ho pins s σ H _ I h) λv s1 XB=>?_);let(x,H1,I1,r1,ty,q1):=XB;let(h1,h2):=Dz I1 r1 ty;exists T,id,pa,slot,Jh,h1,h2,?_;let hA:=ha WZ pins s1 σ H1 _ I1 q1
 rw[hs]at hA ⊢;show Calls.callWith_builtin D (Calls.evalArgs_plain ?_);show thn hA λus s2 zz=>by let(vs,H2,I2,r2,q2):=zz;show hm pins s2 σ H2 x vs v us Q I2 r1 r2 q2
end
def OV(X:Cx)(id:B2)(r:V->A6 V->Hp->VK->Prop):(Prop):=
 ∀(pins:A6 (A7×Obj))(s:B6)(σ:St)(H:Hp)(x:V)(xs:A6 V)(v:B1)(us:Ag)(Q:VK),Inv X pins σ H s->RelV x v->Vals xs us->r x xs H Q->
  wpAny (model X.prog X.w) X.A (call (.builtin id)<|v::us) (EP X pins σ Q) X.xe s
def Vals.one{x:V}{us:Ag}(r:Vals [x] us):∃u,us=[u]/\RelV x u:=by
 cases r with
 |cons a r=>cases r;exists _,Z,a
def Vals.eraseIdx{xs:A6 V}{us:Ag}(i:A5)(h:Vals xs us):Vals (xs.eraseIdx i) (us.eraseIdx i):=by
 induction h generalizing i with
 |nil=>show .nil
 |cons r t ih=>
  cases i with
  |zero=>show t
  |succ i=>show .cons r (ih i)
def Vals.rep(h:Vals xs us):∀k:A5,Vals (List.replicate k xs).flatten (List.replicate k us).flatten
 |0=>.nil
 |k+1=>by show Vals.append h (Vals.rep h k)
def Dx{α:Type}:∀(l:A6 α)(i:A5),(l.eraseIdx i).f<=l.f
 |[],_=>XG _
 |_::_,0=>SX _
 |_::r,i+1=>Nat.succ_le_succ (Dx r i)
def bC(XX:Ag):∀(k:A5)(acc:Ag),
  List.foldl (λx1 x2=>x1++x2) acc.r (List.replicate k XX.r)=(acc++(List.replicate k XX).flatten).r
 |0,acc=>Eo
 |k+1,acc=>by
  let e:acc.r++XX.r=(acc++XX).r:=Eo;let e2:(acc++XX)++(List.replicate k XX).flatten=acc++(List.replicate (k+1) XX).flatten:=by rw[List.replicate_succ,List.flatten_cons,YT]
  rw[<-e2,<-bC XX k (acc++XX),<-e,List.replicate_succ,wm]
section
variable{X:Cx}{pins:A6 (A7×Obj)}{σ:St}{H:Hp}{s:B6}{l:A7}{xs ys:A6 V}
def Inv.lset{XX its':Ag}{f:B4 B1->B4 B1}{t':A5}(I:Inv X pins σ H s)(hH:H l=⇑(.lst xs))
  (e:s.C.E l=⇑{cls:=.type "list",data:=.seq XX.r n})(hf:f XX.r=its'.r)(hv:Vals ys its')(hz:ys.f<=sizeLine):
  Inv X pins σ (upd H l<|.lst ys) {s with heap:=s.C.update l<|Obj.mapSeq f,toks:=t'}:=by let q:=PySem.IsL.update e f;rw[hf]at q;show I.write (x:=l) (e:=l) (by rw[hH];show trivial) (.inl Z) (λb' u hb hu=>(YK s.C (Obj.mapSeq f)<|YZ hb).l hu) {_,q} ?_;exists hz,its',_,hv,q
def Inv.lnew{t':A5}(I:Inv X pins σ H s)(hv:Vals ys XX)(hz:ys.f<=sizeLine):
  Inv X pins σ (upd H (~~~s)<|.lst ys) {s with heap:=s.C.push {cls:=.type "list",data:=.seq XX.r},toks:=t'}:=
 I.laid (λ_ _ q=>Xf _ q) (XG _) {hz,XX,0,hv,Yj _ Z}
def Inv.fresh(I:Inv X pins σ H s):H (~~~s)=A8:=I.hok.fresh (XG _)
def Inv.lstM(I:Inv X pins σ H s)(hH:H l=⇑(.lst xs)):xs.f<=sizeLine/\∃(XX:Ag)(n:A5),Vals xs XX/\xs.f=XX.f/\s.C.E l=⇑{cls:=.type "list",data:=.seq XX.r n}:=by let(z,XX,n,r,e):=I.hok l _ hH;exists z,XX,n,r,r.f,e
def bB(h:n<=sizeLine):Builtin.List.listTooLong n=B0:=by
 unfold Builtin.List.listTooLong
 ext
end
section
variable{X:Cx}
inductive rAppend(x:V)(vs:A6 V)(H:Hp)(Q:VK):Prop
 |mk (l xs y:_) (_:x=.ref l) (_:vs=[y]) (_:H l=⇑(.lst xs)) (_:xs.f<sizeLine) (_:Q .non (upd H l<|.lst<|xs++[y]))
def Jf:OV X "list.append" rAppend:=by intro pins s σ H x vs v us Q I rx rv h;let(l,xs,y,rfl,rfl,hH,hz,q):=h;cases rx;let(u,rfl,ru):=rv.one;let(z,XX,n,r,hl,e):=I.lstM hH;show Pg F.slot_list_append {_,e,Z} F.entry_list_append (F.args_list_append_2 _ _) (PySem.list_append l XX.r n u<|by ext) ⟨e,?_⟩;exists .non,_,I.lset (its':=XX++[u]) hH e Eo (r.append<|.cons ru .nil) ?_,Z,q;grind
def pZ:(V->A6 V->Hp->VK->Prop):=λx vs H Q=>∃l b xs zs,x=.ref l/\vs=[.ref b]/\H l=⇑(.lst xs)/\H b=⇑(.lst zs)/\xs.f+zs.f<=sizeLine/\Q .non (upd H l<|.lst<|xs++zs)
def pY:OV X "list.extend" pZ:=by
 intro pins s σ H x vs v us Q I rx rv h;let(l,b,xs,zs,rfl,rfl,hH,hB,hz,q):=h;cases rx;let(u,rfl,ru):=rv.one;cases ru;let(z,XX,n,r,hl,e):=I.lstM hH;let(z2,Wm,n2,r2,Ru,e2):=I.lstM hB;let hsz:XX.r.o+Wm.r.o<=sizeLine:=by rw[YJ,YJ];ext
 let OU:¬(!XX.r.isEmpty&&Builtin.List.listTooLong (XX.r.o+Wm.r.o))=A9:=by rw[bB hsz,Bool.and_false];show YD
 show Pg F.slot_list_extend {_,e,Z} F.entry_list_extend (F.args_list_extend_2 _ _)
  (AutoSeq1.list_extend_list_list_0 l XX.r n b Wm.r n2 OU (by ext) J) {e,e2,?_}
 exists .non,_,I.lset (its':=XX++Wm) hH e Eo (r.append r2) ?_,Z,q
 ext
def pX:(V->A6 V->Hp->VK->Prop):=λx vs H Q=>∃l xs i k y,x=.ref l/\vs=[.int i]/\H l=⇑(.lst xs)/\-(2^63)<=i/\i<2^63/\seqIndex? i xs.f=⇑k/\xs[k]?=⇑y/\Q y (upd H l<|.lst<|xs.eraseIdx k)
def pW:OV X "list.pop" pX:=by
 intro pins s σ H x vs v us Q I rx rv h;let(l,xs,i,k,y,rfl,rfl,hH,h1,h2,hk,hy,q):=h;cases rx;let(u,rfl,ru):=rv.one;let(t,rfl):=ru;let(z,XX,n,r,hl,e):=I.lstM hH;let(w,hw,MO):=r.get hy;show Pg F.slot_list_pop {_,e,Z} F.entry_list_pop (F.args_list_pop_2 _ _)
  (MeetsSeq.list_pop_at l XX.r n i t k w (fitsIndex_both h1 h2) (by ext) (by ext)<|by ext) ⟨e,?_⟩
 exists y,_,I.lset (its':=XX.eraseIdx k) hH e ?_ (r.eraseIdx k) ?_,MO,q
 .ext
 .have:=Dx xs k
  lia
inductive rCat(x:V)(y:V)(H:Hp)(Q:VK):Prop
 |mk (l b xs zs:_) (_:x=.ref l) (_:y=.ref b) (_:H l=⇑(.lst xs)) (_:H b=⇑(.lst zs)) (_:xs.f+zs.f<=sizeLine) (_:∀p,H p=A8->Q ↑p (upd H p<|.lst<|xs++zs))
def Dw:WD X (binaryOp .Add) rCat:=by
 intro pins s σ H x y v u Q I rx ry h;let(l,b,xs,zs,rfl,rfl,hH,hB,hz,q):=h;cases rx;cases ry;let(z,XX,n,r,hl,e):=I.lstM hH;let(z2,Wm,n2,r2,Ru,e2):=I.lstM hB;show PySem.P.add_list e e2 ?_ (by ext);let ea:XX.r++Wm.r=(XX++Wm).r:=Eo
 rw[ea];exists .ref _,_,I.lnew (t':=s.toks) (r.append r2) (by rw[Xa];omega),Z,q _ I.fresh
def pV:(R2):=λx y H Q=>∃l k xs,x=.ref l/\y=.int k/\H l=⇑(.lst xs)/\-(2^63)<=k/\k<2^63/\xs.f*k.j<=sizeLine/\
 ∀p,H p=A8->Q ↑p (upd H p<|.lst (List.replicate k.j xs).flatten)
def Dv{α:Type}(xs:A6 α)(k:A5):(List.replicate k xs).flatten.f=k*xs.f:=by
 ext
def Du:WD X (binaryOp .Mult) pV:=by
 intro pins s σ H x y v u Q I rx ry h;let(l,k,xs,rfl,rfl,hH,h1,h2,hz,q):=h;cases rx;let(t,rfl):=ry;let(z,XX,n,r,hl,e):=I.lstM hH;let hlen:XX.r.o*k.j<=sizeLine:=by rwa[YJ,<-hl]
 let pU:¬XX.r.o*k.j>(2^63-1)/8:=by
  have:(sizeLine:A5)<=(2^63-1)/8:=Ep
  grind
 let pT:¬(!Builtin.List.listFitsIndex k)=A9:=by rw[fitsIndex_both h1 h2];show YD
 let OU:¬Builtin.List.listTooLong (XX.r.o*k.j)=A9:=by rw[bB hlen];show YD
 let OT:List.foldl (λx1 x2=>x1++x2) #[] (List.replicate (if XX.r.isEmpty=A9 then 0 else k.j) XX.r)=(List.replicate k.j XX).flatten.r:=by
  let f0:∀m:A5,List.foldl (λx1 x2=>x1++x2) #[] (List.replicate m XX.r)=(List.replicate m XX).flatten.r:=λm=>by
   have:=bC XX m []
   ext
  rw[f0];cases XX with
  |nil=>simp
  |cons a r'=>ext
 show wpAny_binaryOp_repeat_ref (T:="list") (U:="int") Ep {_,e,Z} (λs'=>typeIs_int s' k t) noFill_list_mul F.fills_int_mul F.slot_int_rmul repeat_list F.slot_int_index.U
  (Pg F.slot_int_rmul (typeIs_int s k t) F.entry_int_rmul (F.args_int_rmul_2 _ _) (int___rmul___int_list k t l XX.r n)
   {e,Z,{_,e,Z},Pg F.slot_list_mul {_,e,Z} F.entry_list_mul (F.args_list_mul_2 _ _) (AutoListH.list___mul___list_int_3 l XX.r n k t pT pU OU) {e,?_}})
 rw[OT];exists .ref _,_,I.lnew (t':=s.toks) (r.rep k.j) (by rwa[Dv,EC]),Z,q _ I.fresh
end
section
variable{κ:Type}[DecidableEq κ]
def Wt(kvs:A6 (κ×V))(k:κ):(Option V):=(kvs.find? λkv=>decide<|kv.1=k).G (·.2)
def putK(kvs:A6 (κ×V))(k:κ)(v:V):(A6 (κ×V)):=
 if (kvs.any λkv=>decide<|kv.1=k)=A9 then kvs.G (λkv=>if kv.1=k then (kv.1,v) else kv) else kvs++[(k,v)]
def pS{p:κ×V}{r:A6 (κ×V)}(e:p.1=k):Wt (p::r) k=some p.2:=by simp[Wt,wk,e]
def pR{p:κ×V}(e:¬p.1=k):Wt (p::r) k=Wt r k:=by simp[Wt,wk,e]
def bA(k:κ):∀kvs:A6 (κ×V),(kvs.any λkv=>decide (kv.1=k))=(Wt kvs k).isSome
 |[]=>rfl
 |p::r=>by
  rw[rO];cases e:p.1=k
  .simp only[pS e,YA e,Bool.true_or,Option.isSome_some]
  .rw[pR e,JQ e,Bool.false_or];show bA k r
def pQ(kvs:A6 (κ×V))(k:κ)(v:V):(putK kvs k v).f<=kvs.f+1:=by unfold putK;grind
def pP{kvs:A6 (κ×V)}{k:κ}(v:V)(h:Wt kvs k=A8):putK kvs k v=kvs++[(k,v)]:=by
 unfold putK;rw[bA,h]
 ext
def KV.val(r:KV kvs vs)(k:κ):RelO (Wt kvs k) (valueAt vs k):=by
 induction r with
 |nil=>show True.intro
 |@cons p q ps qs h t ih=>
  let(h1,h2):=h;cases e:p.1=k
  .let e':q.1=k:=h1.symm.l e;let b:valueAt (q::qs) k=some q.2:=by simp[valueAt,wk,e']
   rwa[pS e,b]
  .let e':¬q.1=k:=λz=>e (h1.l z);let b:valueAt (q::qs) k=valueAt qs k:=by simp[valueAt,wk,e']
   rwa[pR e,b]
def KV.any(r:KV kvs vs)(k:κ):(kvs.any λkv=>decide (kv.1=k))=vs.any λkv=>decide (kv.1=k):=by
 induction r with
 |nil=>rfl
 |cons h t ih=>ext
def KV.repl(r:KV kvs vs)(k:κ)(ry:RelV y u):
  KV (kvs.G λkv=>if kv.1=k then (kv.1,y) else kv) (vs.G λkv=>if kv.1=k then (kv.1,u) else kv):=by
 induction r with
 |nil=>show .nil
 |@cons p q ps qs h t ih=>
  show .cons ?_ ih;lia
def KV.put(r:KV kvs vs)(k:κ)(ry:RelV y u):KV (putK kvs k y) (stored vs k u):=by
 unfold putK stored;rw[r.any k];cases e:(vs.any λkv=>decide<|kv.1=k)=A9
 .rw[Yk e,Yk e];show r.repl k ry
 .rw[Yh e,Yh e];show Paired.snoc r ⟨Z,ry⟩
def KV.length{kvs:A6 (κ×V)}{vs:A6 (κ×B1)}(r:KV kvs vs):kvs.f=vs.f:=Paired.f r
end
def Dt(r:RelV (kV k) u):(QJ P w).is k u=A9:=by
 cases k with
 |inl i=>let(t,e):=(show ∃t,u=Value.int i t from r);subst e;show Zae P w i t
 |inr x=>let(t,e):=(show ∃t,u=Value.str x t from r);subst e;show ZZ6 P w x t
section
variable{P:Program}{w:World}{H:Hp}{h:Heap}{a:A7}
def pO(ok:HOk P w H h)(e:Rd H a u):ObjOk P w H h a u:=e.ok ok
def pN(ok:HOk P w H h)(e:Rd H a (.dK kvs)):kvs.f<=sizeLine/\(a == sysModules)=B0/\∃vs,KV kvs vs/\h.DictOf (QJ P w) a vs:=
 show ObjOk P w H h a (.dK kvs) from pO ok e
def OS(ok:HOk P w H h)(e:H a=⇑(.dK kvs)):kvs.f<=sizeLine/\(a == sysModules)=B0/\∃vs,KV kvs vs/\h.DictOf (QJ P w) a vs:=pN ok (.inl e)
end
section
variable{X:Cx}{pins:A6 (A7×Obj)}{σ:St}{H:Hp}{s:B6}{a:A7}
def Inv.big(I:Inv X pins σ H s):sysModules<(~~~s):=by let h:mainGlobals<(~~~s):=(I.mod.glob.keeps I.bk).lt;show Nat.lt_trans Ep h
def pM{t':A5}(I:Inv X pins σ H s)(mu:Es (H a))(hs:Heap.SameBut a s.C h')(he:∃q,h'.E a=⇑q)(new:ObjOk X.prog X.w (upd H a ob) h' a ob):
  Inv X pins σ (upd H a ob) {s with heap:=h',toks:=t'}:=
 I.write (x:=a) (e:=a) mu (.inl Z) (λb q hb z=>(hs.2 b hb).l z) he new
def Ds(z:kvs.f<=sizeLine)(hd:(a == sysModules)=B0)(rel:KV kvs vs)(dd:h'.DictOf (QJ P w) a vs):
  ObjOk P w H' h' a (.dK kvs):=⟨z,hd,vs,rel,dd⟩
end
def pL(h:Heap)(hb:sysModules<h.objs.o):ObjOk P w H (h.push {cls:=.type "dict",data:=.dict #[]}) h.objs.o (.dK []):=
 {Qd _,beq_eq_false_iff_ne.mpr<|YZ<|Yx hb,[],.nil,Heap.DictOf.new h}
def pK:(TE):=λ_ H Q=>∀p,H p=A8->Q ↑p (upd H p<|.dK [])
section
variable{X:Cx}{pos:Pos}
def pJ:PE X (.Dict [] [] pos) pK:=λpins s σ H Q I h=>
 wpAny_Dict_empty {.ref (~~~s),_,I.laid (a:=(~~~s)) (o:=.dK []) (t':=s.toks) (λ_ _ q=>Xf _ q) (XG _)<|pL s.C I.big,Z,h _<|I.hok.fresh<|XG _}
end
structure M1(X:Cx)(o:B5)(m:C0)(apos:Pos)(e:B5)(WZ:Pos):Prop where
 base:attributeBase o m X.X (eval o X.X)=eval o X.X
 bz:((backTo WZ<|starEach [e] X.X).all (λx=>!x.1)&&(backToKw WZ<|keywordEach [] X.X).all (λx=>x.1.isSome)
  && decide (([e]:A6 B5).f+([]:A6 Keyword).f+(if ([]:A6 Keyword).isEmpty then 0 else 1)<30))=A9
 line:(apos.endLine == WZ.line)=A9
 trees:backTo WZ (starEach [e] X.X)=[(false,eval e X.X)]
structure M2(X:Cx)(o:B5)(m:C0)(apos:Pos)(e f:B5)(WZ:Pos):Prop where
 base:attributeBase o m X.X (eval o X.X)=eval o X.X
 bz:((backTo WZ<|starEach [e,f] X.X).all (λx=>!x.1)&&(backToKw WZ<|keywordEach [] X.X).all (λx=>x.1.isSome)
  && decide (([e,f]:A6 B5).f+([]:A6 Keyword).f+(if ([]:A6 Keyword).isEmpty then 0 else 1)<30))=A9
 line:(apos.endLine == WZ.line)=A9
 trees:backTo WZ (starEach [e,f] X.X)=[(false,eval e X.X),(false,eval f X.X)]
end L2
namespace Att
open PySem PySem.W PySem.Calls PyProof.Rows
def Zo3:∀(ns:Ac)(vs:Ag),WellAll P h vs (ns.G WData.int)->IntsAre vs ns:=by
 intro ns
 induction ns with
 |nil=>
  intro vs w;cases w;show .nil
 |cons n ns ih=>
  intro vs w;cases w with
  |cons a b=>
   cases a;show .cons _ _ (ih _ b)
def Zn9{l:OpenLaw}{n:A5}(hn:l.most=⇑n) 
  (MN:l.row.toRowW.claim.pre args=A9)(Dr:WellAll P h vals args):
  ∃a vs ns,vals=[Value.ref a]/\args=[WData.list (ns.G WData.int)]/\h.E a=⇑{cls:=.type "list",data:=.seq vs.r}/\IntsAre vs ns/\ns.f<=n:=by
 let hsh:WShape.hasAll [] args [.list .int]=A9:=(pre_splitW MN).1;let hc:l.pre.holds [] {args:=args}=A9:=(pre_splitW MN).2
 let(d,r,rfl,h1,h2):=hasAllW_cons hsh;let rfl:=hasAllW_nil h2;let(xs,rfl,h3):=hasW_list h1;let(ns,rfl):=items_int h3;let hlen:ns.f<=n:=by
  unfold OpenLaw.pre at hc;let h4:(WTm.not<|.lt (.lit<|.int (n:A0))<|.len<|.arg 0).holds [] {args:=[.list (ns.G .int)]}=A9:=by let h4:=(holds_andW hc).1;rwa[hn]at h4
  let h5:=condW_of h4 (w_not<|w_lt w_lit<|w_len_list<|w_arg Z);rw[Xr]at h5;show wy λq=>?_;let q':(n:A0)<((ns.f:A5):A0):=by ext
  first
   |ext
   | (simp at h5;omega)
 cases Dr with
 |cons w1 w2=>
  cases w2;cases w1 with
  |list ho TB=>exists _,_,ns,Z,Z,ho,Zo3 ns _ TB,hlen
def Zs9(l:OpenLaw)(args:A6 WData):l.row.toRowW.claim.post args (.bool true) args=A9:=
 postW_of (r:=l.row.toRowW) (X:=(true == true))
  (show WShape.has [] (.bool true) .bool=A9 by first|rfl|decide|simp[WShape.has,WShape.arms,WShape.armsAll])
  (show(WTm.eq .res<|.lit<|.bool true).value [] {args:=args,res:=some<|.bool true,after:=args}=⇑(.bool<|true == true) from w_eq_bool (w_res Z) w_lit) rfl
def SR{l:OpenLaw}{n:A5}{XP:Af->Heap->Prop}{YP:World->Heap->Prop} 
  (hn:l.most=⇑n)(pI:d.params.defaults=[])
  (call:∀(w:World)(s₀ s₁:B6)(mg mb:Af)(fa:A7)(o:Obj)(pm cd doc:B1)(a:A7)(vs:Ag)(ns:Ac),
   Ground q loose [] XP w s₀ mg mb s₁.C->YP w s₁.C->
   s₁.C.E fa=⇑o->o.data=.func (docDef d.name d.params d.body d.scope pm cd doc)->s₁.C.CodeRec cd d.name->mg d.name=some ↑fa->
   s₁.C.E a=⇑{cls:=.type "list",data:=.seq vs.r}->IntsAre vs ns->ns.f<=n->s₁.gens=#[]->
   codeAny (model l.prog w) callerA (.call ↑fa {[.ref a],[]}) (λr s'=>r=.ok (.ret<|.bool true)/\OldK s₁.C s'.C/\s'.os=s₁.os/\AllBare s'.gens) s₁):
  WalkO q loose XP YP l.row.toRowW d [] (λf vs=>PySem.call f vs):=by intro w s₀ s₁ mg mb G Y fa o pm cd doc dV kV ho hd SA hD Dq hg args vals as MN hlay hrd Dr Lc;let rfl:dV=.none:=Dflts.none hD pI;let rfl:kV=.none:=Dflts.noKw hD;let(a,vs,ns,rfl,rfl,Je,hints,hlen):=Zn9 hn MN Dr;show enter_call (Si (call w s₀ s₁ mg mb fa o pm cd doc a vs ns G Y ho (fd_plain hd) SA Dq Je hints hlen hg) λr s' hq=>?_);let(rfl,h2,h3,h4):=hq;exists .inl {.bool true,.bool true,[],Z,λ_=>rfl,.bool true,Zs9 l _,λ_=>{List.H.nil,λ_ hm=>(nomatch hm)}},h2,h3,h4
section
def Zaa(h:Heap)(L d:A7):(A6 (A7×Obj)):=(List.range h.objs.o).filterMap λa=>if a=L\/a=d then none else (h.E a).G λo=>(a,o)
end
end Att
namespace L2
open PySem PySem.Spec PyProof.Rows
def Za9{vs:Ag}{ns:Ac}(h:IntsAre vs ns):Vals (ns.G V.int) vs:=by
 induction h with
 |nil=>show .nil
 |cons n t h ih=>show .cons ⟨t,Z⟩ ih
abbrev UE{K:Ad}{h:Heap}(_:K.In h):Ad:=K
def FU(s:B8)(j:A5):(B8):=match s with
 | .ClassDef _ _ _ body _ _ _ _ _ _ _=>body.R j (.Pass ⟨0,0,0,0⟩)
 |_=>.Pass ⟨0,0,0,0⟩
def MM(s:B8):(Arguments):=match s with
 | .FunctionDef _ a _ _ _ _ _ _ _ _=>a
 |_=>{posonlyargs:=[],args:=[],vararg:=A8,kwonlyargs:=[],kw_defaults:=[],kwarg:=A8,defaults:=[]}
def Rt(s:B8):(A6 B8):=match s with
 | .FunctionDef _ _ b _ _ _ _ _ _ _=>b
 |_=>[]
def Za(s:B8):(C1):=match s with
 | .FunctionDef _ _ _ _ _ _ sc _ _ _=>sc
 |_=>{kind:=.function,names:=[],isGenerator:=B0,isCoroutine:=B0}
abbrev XA:PU:=λ_ _ _ _ _ _=>False
abbrev E0:XK:=λ_ _ _=>False
def Zv:Le XA X E0:=λ_ _ _ _ _ _ _ h=>h.elim
structure Fun(K:Ad)(x qual:C0)(st:B8)(f:A7)(fd:B9):Prop where
 ex:∃(oc:B1)(od:Option A7)(kV doc pm:B1)(an:Option A7)(XI ct:B1)(Vf:B4 (Option B1)),
  fd=PySem.W.fnOf x qual (MM st) (Rt st) (Za st) .none kV doc pm an XI ct/\K.U f=⇑{oc,od,.func fd,Vf}/\PySem.W.codeIn K XI qual=A9
 kp:PySem.W.keepIn K ↑f=A9
section
variable{P:Program}{w:World}{K:Ad}{mg:Af}{base:Heap}
def Fun.ok{x qual:C0}{st:B8}{f:A7}{fd:B9}{N ps:A6 C0}{k:A5}{sp:Sp}(F:Fun K x qual st f fd)(S:FnScope N ps (Za st))(len:∀vs H Q E,sp vs H Q E->vs.f=ps.f)
  (VO:∀(XI:B1)(A:Around)(outer:A6 Env)(s:B6)(H:Hp)(vs:A6 V)(Q:VK)(E:XK),Room k (A.deeper<|envOfC qual (Za st) (~~~s) f XI)->sp vs H Q E->
   ∃t,PSs (TF XA P w K mg base N qual (Za st) f XI A outer s H E).nox (Rt st) t/\t {nx:=λ_ H'=>Q .non H',rt:=Q} (start N vs) H):FnOk P w K mg base XA (k+1) f fd ps sp:=by let(oc,od,kV,doc,pm,an,XI,ct,Vf,rfl,lk,SA):=F.ex;show DI lk SA S len λA outer s H vs Q E hr Tg=>?_;let(t,h,q):=VO XI A outer s H vs Q E hr Tg;exists t,h.nox,q
def Fun.binds{x qual:C0}{st:B8}{f:A7}{fd:B9}{ps:A6 C0}(F:Fun K x qual st f fd)
  (h:∀(kV doc pm:B1)(an:Option A7)(XI ct:B1)(us:Ag),us.f=ps.f->bindArgs (PySem.W.fnOf x qual (MM st) (Rt st) (Za st) .none kV doc pm an XI ct) {us,[]}=pure (ps.zip us)):Binds K fd ps []:=by let(oc,od,kV,doc,pm,an,XI,ct,Vf,rfl,lk,SA):=F.ex;show .all (h kV doc pm an XI ct)
def Dp{x qual:C0}{st:B8}{f:A7}{oc:B1}{od an:Option A7}{Vf:B4 (Option B1)}{kV doc pm XI ct:B1}(l:K.U f=⇑{oc,od,.func (PySem.W.fnOf x qual (MM st) (Rt st) (Za st) .none kV doc pm an XI ct),Vf})
  (c:PySem.W.codeIn K XI qual=A9)(k:PySem.W.keepIn K ↑f=A9):Fun K x qual st f (PySem.W.fnOf x qual (MM st) (Rt st) (Za st) .none kV doc pm an XI ct):={⟨oc,od,kV,doc,pm,an,XI,ct,Vf,Z,l,c⟩,k}
end
section
variable{X:Cx}
def pv(i:A5){x:C0}{pos:Pos}(hN:X.N[i]?=⇑x:=by rfl)(hv:rB X.X.scope x:=by first|show Or.inl rfl|show Or.inr (Or.inl rfl)|show Or.inr<|Or.inr rfl)(hd:(x == ("__debug__":C0))=B0:=by decide)
  (SA:(x == ("__classdict__":C0))=B0:=by decide):PE X (.Name x pos) (tVar i):=Zaj hN hv hd SA
end
def RW{A AP:Prop}(h:AP):if false=A9 then A else AP:=by
 ext
def UT{A AP:Prop}(h:A):if true=A9 then A else AP:=by
 ext
def Dn{c A AP:Prop}[Decidable c](h1:c->A)(h2:¬c->AP):if c then A else AP:=by
 ext
def Same(H H':Hp):(Prop):=∀b o,H b=⇑o->H' b=⇑o
def Same.refl(H:Hp):Same H H:=λ_ _ h=>h
def Same.trans{H H1 H2:Hp}(a:Same H H1)(b:Same H1 H2):Same H H2:=λc o h=>b c o (a c o h)
def Same.free(e:Same H H'){l:A7}(h:H' l=Option.none):H l=Option.none:=by
 cases q:H l with
 |none=>rfl
 |some o=>
  rw[e l o q]at h;cases h
def Same.seq{K:Ad}{H H':Hp}{a:A7}{xs:A6 V}(e:Same H H')(h:SqL K H a xs):SqL K H' a xs:=by
 rcases h with (h|⟨o,h⟩)|h
 .show .inl (.inl<|e _ _ h)
 .show .inl (.inr {o,e _ _ h})
 .show .inr h
def Dm(X:Cx)(ifs:A6 B5)(t:TT):(Prop):=
 ∀pins s σ H Q,Inv X pins σ H s->t σ H Q->
  wpAny (model X.prog X.w) X.A (forIn ifs true λc r=>if r=A9 then do let ok <-isTrue c X.X (eval c X.X);pure (ForInStep.yield ok) else pure (ForInStep.yield r)) (TP X pins σ Q) X.xe s
def tYes:(TT):=λ_ H Q=>Q true H
def ZK:Dm X [] tYes:=λ_ _ _ H _ I h=>wpAny_tests_nil ⟨H,I,h⟩
def PN(hc:PT X c t):Dm X [c] t:=λpins s σ H Q I h=>wpAny_tests_one (hc pins s σ H Q I h)
def Zp5{R:Result->B6->Prop}{elt target iter:B5}{scope:C1}{pos:Pos}{it acc:B1}(tB:A5->B6->Prop)
  (turn:∀n s,tB n s->wpAny (model prog w) A (pyNext it) (λr s1=>match r with
   |none=>R (.ok .next) s1
   |some v=>wpAny (model prog w) A (letOwnedTupleGo target it v) (λ_ s2=>wpAny (model prog w) A (assign target env v) (λ_ s3=>
     wpAny (model prog w) A (forIn ifs true λc r=>if r=A9 then do let ok <-isTrue c env (eval c env);pure (ForInStep.yield ok) else pure (ForInStep.yield r)) (λok s4=>
      if ok=A9 then wpAny (model prog w) A (eval elt env) (λx s5=>
       wpAny (model prog w) A (call (.builtin "list.append") [acc,x]) (λ_ s6=>∃m,m<n/\tB m s6) (λ_ _=>False) s5) (λ_ _=>False) s4
      else ∃m,m<n/\tB m s4) (λ_ _=>False) s3) (λ_ _=>False) s2) (λ_ _=>False) s1) (λ_ _=>False) s)
  (n:A5)(h:tB n s):codeAny (model prog w) A (.compLoop (.ListComp elt [⟨target,iter,ifs,0⟩] scope pos) 0 it acc env) R s:=by
 show codeAny_loop Z tB (λn s hI=>?_) n h;show wpAny_noted ?_;show XU (wpAny_standAt<|XU<|SD (turn n s hI) (λr s1 h1=>?_) λ_ _ z=>z.elim);cases r with
 |none=>show Yg h1
 |some v=>
  show XU (SD h1 (λ_ s2 h2=>?_) λ_ _ z=>z.elim);show XU (SD h2 (λ_ s3 h3=>XU<|SD h3 (λok s4 h4=>?_) λ_ _ z=>z.elim) λ_ _ z=>z.elim);cases ok with
  |false=>show Yg ⟨Z,h4⟩
  |true=>
   show XU (XU<|SD h4 (λx s5 h5=>XU<|SD h5 (λ_ s6 h6=>Yg<|Yg ⟨Z,h6⟩) λ_ _ z=>z.elim) λ_ _ z=>z.elim)
def Rr(cells:A6 (C0×A7)):(A6 (C0×NameKind)->A6 (C0×A7)->A6 (C0×A7))
 |[],acc=>acc
 | (n,k)::r,acc=>if k == .free then Rr cells r ((n,(cells.U n).R 0)::acc) else Rr cells r acc
def bw:∀names acc,(∀y∈names,y.2=.free->∃c,env.cells.U y.1=⇑c)->
  (forIn names acc λ(x:C0×NameKind) (cs:A6 (C0×A7))=>(if (x.2 == .free)=A9 then do let a <-cellOf env x.1;pure (ForInStep.yield<|(x.1,a)::cs) else pure (ForInStep.yield cs):Sem (ForInStep<|A6<|C0×A7)))=pure (Rr env.cells names acc)
 |[],acc,_=>rfl
 | (n,k)::r,acc,h=>by
  let ih:=λacc=>bw r acc λy hy=>h y (Yf _ hy);rw[List.forIn_cons];unfold Rr;cases hk:(k == NameKind.free)=A9
  .let⟨c,hc⟩:=h (n,k) Ya (by ext);let e:cellOf env n=pure c:=by unfold cellOf;rw[show env.cells.U n=⇑c from hc]
   ext
  .simp only[hk,EM,if_false,pure_bind];show ih acc
def ZY8(h:∀y∈scope.names,y.2=.free->∃c,env.cells.U y.1=⇑c):closureFor scope env=pure (Rr env.cells scope.names []):=by let e:=bw scope.names [] h;unfold closureFor;simp only[bind_pure]at e ⊢;show e
def Jd{env:Env}:∀names acc,(∀y∈names,y.2=.free->∃c,env.cells.U y.1=⇑c)->(∀x c,acc.U x=⇑c->env.cells.U x=⇑c)->
  ∀x c,(Rr env.cells names acc).U x=⇑c->env.cells.U x=⇑c
 |[],acc,_,ha,x,c,e=>ha x c e
 | (n,k)::r,acc,h,ha,x,c,e=>by
  unfold Rr at e;cases hk:(k == NameKind.free)=A9
  .rw[Yk hk]at e;let(d,hd):=h (n,k) Ya J;show Jd r _ (λy hy=>h y<|Yf _ hy) (λy b q=>?_) x c e;grind
  .rw[Yh hk]at e;show Jd r acc (λy hy=>h y<|Yf _ hy) ha x c e
def Jc:∀names acc x,(acc.U x).isSome=A9->((Rr cells names acc).U x).isSome=A9
 |[],_,_,h=>h
 | (n,k)::r,acc,x,h=>by
  unfold Rr;cases hk:(k == NameKind.free)=A9
  .rw[Yk hk];show Jc r _ x ?_;grind
  .rw[Yh hk];show Jc r acc x h
def vA:∀names acc x,(x,NameKind.free)∈names->((Rr cells names acc).U x).isSome=A9
 |[],_,_,h=>nomatch h
 | (n,k)::r,acc,x,h=>by
  unfold Rr;rcases Yo.S h with e|h
  .cases e;show Jc r _ _ ?_
   ext
  .cases hk:(k == NameKind.free)=A9
   .rw[Yk hk];show vA r _ x h
   .rw[Yh hk];show vA r _ x h
def MK{env:Env}:∀{names:A6 (C0×NameKind)}{x:C0}{k:NameKind},(names.G λ(n,k)=>if (k == NameKind.free&&env.scope.kind == .function&&env.kindOf n == some .cell) then (n,NameKind.cell) else (n,k)).U x=⇑k->
  (k=.cell\/k=.free)->(x,NameKind.free)∈names\/(x,NameKind.cell)∈names
 |[],_,_,h,_=>by simp at h
 | (n,q)::r,x,k,h,hk=>by
  let h':List.U x ((if (q == NameKind.free&&env.scope.kind == .function&&env.kindOf n == some .cell)=A9 then (n,NameKind.cell) else (n,q))::r.G λ(n,k)=>if (k == NameKind.free&&env.scope.kind == .function&&env.kindOf n == some .cell) then (n,NameKind.cell) else (n,k))=⇑k:=h;cases hc:(q == NameKind.free&&env.scope.kind == .function&&env.kindOf n == some .cell)=A9
  .rw[Yk hc,EH]at h';cases hx:(x == n)=A9
   .ext
   .let US:(x == n)=B0:=by simpa using hx
    rw[US]at h';rcases MK (env:=env) h' hk with z|z
    .grind
    grind
  .rw[Yh hc,EH]at h';cases hx:(x == n)=A9
   .grind
   .let US:(x == n)=B0:=by simpa using hx
    rw[US]at h';rcases MK (env:=env) h' hk with z|z
    .grind
    grind
def pH{env:Env}:∀{names:A6 (C0×NameKind)}{x:C0},names.U x=some .free->
  (names.G λ(n,k)=>if (k == NameKind.free&&env.scope.kind == .function&&env.kindOf n == some .cell) then (n,NameKind.cell) else (n,k)).U x=some .cell\/
  (names.G λ(n,k)=>if (k == NameKind.free&&env.scope.kind == .function&&env.kindOf n == some .cell) then (n,NameKind.cell) else (n,k)).U x=some .free
 |[],_,h=>by simp at h
 | (n,q)::r,x,h=>by
  change List.U x ((if (q == NameKind.free&&env.scope.kind == .function&&env.kindOf n == some .cell)=A9 then (n,NameKind.cell) else (n,q))::_)=_\/List.U x ((if (q == NameKind.free&&env.scope.kind == .function&&env.kindOf n == some .cell)=A9 then (n,NameKind.cell) else (n,q))::_)=_;rw[EH]at h;cases hc:(q == NameKind.free&&env.scope.kind == .function&&env.kindOf n == some .cell)=A9
  .rw[Yk hc,EH];cases hx:(x == n)=A9
   .rw[hx];show .inl rfl
   .let US:(x == n)=B0:=by simpa using hx
    rw[US]at h ⊢;show pH h
  .rw[Yh hc,EH];cases hx:(x == n)=A9
   .rw[hx]at h ⊢;show .inr h
   .let US:(x == n)=B0:=by simpa using hx
    rw[US]at h ⊢;show pH h
def TV(X:Cx)(N':A6 C0)(scope:C1)(C:A7)(s:B6)(H:Hp)(fp:A6 A7):(Cx) where
 prog:=X.prog
 w:=X.w
 K:=X.K
 mg:=X.mg
 base:=X.base
 A:=X.A
 N:=N'
 s₀:=s
 H₀:=H
 env:=compEnvC scope (Rr X.X.cells scope.names []) C X.X
 outer:=X.stack
 stack:=X.stack
 ex:=fp
 fn:=λ_=>false
 calm:=X.calm
 pn:=[]
 xe:=λ_ _=>False
def σC(o:A5)(fr:A6 A5)(σ:St):(St):=List.replicate o none++fr.G λj=>(σ[j]?).join
structure CompScope(sc0:C1)(N N':A6 C0)(o:A5)(fr:A6 A5)(scope:C1):Prop where
 kind:scope.kind=.function
 nocell:(scope.names.all λy=>y.2 != .cell)=A9
 loc:(scope.names.all λy=>y.2 != .local||scope.names.U y.1 == some .local)=A9
 free:(scope.names.all λy=>y.2 != .free||sc0.names.U y.1 == some .cell||sc0.names.U y.1 == some .free)=A9
 len:N'.f=o+fr.f
 sees:((List.range fr.f).all λj=>match fr[j]? with
  |none=>false
  |some y=>match N[y]? with
   |none=>false
   |some x=>N'[o+j]? == some x&&scope.names.U x == some .free)=A9
def MJ(tB:It)(g:TG)(tt:TT)(te:TE)(o:A5)(fr:A6 A5)(σ:St)(H1:Hp)(Q:VK):(Prop):=∃W:A5->A5->A6 V->Hp->Prop,(∃m,W 0 m [] H1)/\∀i m ys H,W i m ys H->
 (tB.stop i H/\ys.f<=sizeLine/\∀p,H p=A8->Q ↑p (upd H p<|.lst ys))\/
 (tB.go i H/\ys.f<sizeLine/\∀x H',tB.yld i H x H'->g x (σC o fr σ) H' λσ2 H2=>tt σ2 H2 λb H3=>if b=A9 then te σ2 H3 λy H4=>∃m',m'<m/\W (i+1) m' (ys++[y]) H4 else ∃m',m'<m/\W (i+1) m' ys H3)
def pG(wi:TI)(g:TG)(tt:TT)(te:TE)(o:A5)(fr:A6 A5):(TE):=λσ H Q=>wi σ H λtB H1=>MJ tB g tt te o fr σ H1 Q
def OR(o:A5)(g:TG):(Prop):=∀x ow fr H Q,ow.f=o->g x (ow++fr) H Q->g x (ow++fr) H λσ2 H2=>(∃Dl,Dl.f=o/\σ2=Dl++fr)/\Q σ2 H2
def Zs(h:i<o):OR o (MW i):=λx ow fr H Q hl q=>{{ow.set i<|some x,by ext,by ext},q}
def MI(o:A5)(g:Jy):(Prop):=∀xs ow fr H Q,ow.f=o->g xs (ow++fr) H Q->g xs (ow++fr) H λσ2 H2=>(∃Dl,Dl.f=o/\σ2=Dl++fr)/\Q σ2 H2
def Dk:MI o gNil:=λ_ ow _ _ _ hl zz=>by let(e,q):=zz;exists e,⟨ow,hl,Z⟩,q
def NH(h:i<o)(h2:MI o u):MI o (gCons (MW i) u):=by
 rintro xs ow fr H Q hl ⟨v,r,rfl,q⟩;exists v,r,Z,?_;let q':u r ((ow++fr).set i ⇑v) H Q:=q
 change u r ((ow++fr).set i ⇑v) H _;rw[List.set_append_left _ _ (by ext)]at q' ⊢;show h2 r (ow.set i<|some v) fr H Q (by ext) q'
def Dj{K:Ad}{o n:A5}{u:Jy}(h:MI o u):OR o (gTup K n u):=by rintro x ow fr H Q hl ⟨a,xs,rfl,hs,hn,q⟩;exists a,xs,Z,hs,hn,h xs ow fr H Q hl q
section
variable{X:Cx}{pins:A6 (A7×Obj)}{σ:St}{H:Hp}{s:B6}{N':A6 C0}{o:A5}{fr:A6 A5}{scope:C1}{fp:A6 A7}
abbrev Wg(us:Ag):Obj:={cls:=.type "list",data:=.seq us.r us.f}
def CompScope.nocell'(S:CompScope sc0 N N' o fr scope):∀y∈scope.names,y.2≠.cell:=λy hy e=>by
 let q:=Pm.S S.nocell y hy
 ext
def CompScope.loc'(S:CompScope sc0 N N' o fr scope):∀y∈scope.names,y.2=.local->scope.names.U y.1=some .local:=λy hy e=>by
 let q:=Pm.S S.loc y hy
 ext
def CompScope.free'(S:CompScope sc0 N N' o fr scope)(hs:X.X.scope=sc0):∀y∈scope.names,y.2=.free->X.X.kindOf y.1=some .cell\/X.X.kindOf y.1=some .free:=λy hy e=>by
 let q:=Pm.S S.free y hy;rw[e]at q;change X.X.scope.names.U y.1=_\/X.X.scope.names.U y.1=_
 rw[hs];simpa using q
def CompScope.sees'(S:CompScope sc0 N N' o fr scope):∀j y,fr[j]?=⇑y->∃x,N[y]?=⇑x/\N'[o+j]?=⇑x/\scope.names.U x=some .free:=λj y e=>by
 let hj:j<fr.f:=(Xx.S e).1;let q:=Pm.S S.sees j (YX.mpr hj)
 grind
def CompScope.cells(S:CompScope sc0 N0 N' o fr scope)(hs:X.X.scope=sc0)(I:Inv X pins σ H s):∀y∈scope.names,y.2=.free->∃c,X.X.cells.U y.1=⇑c:=λy hy e=>I.ok.has y.1 (S.free' hs y hy e)
def CompScope.sub(S:CompScope sc0 N0 N' o fr scope)(hs:X.X.scope=sc0)(I:Inv X pins σ H s):∀x c,(Rr X.X.cells scope.names []).U x=⇑c->X.X.cells.U x=⇑c:=
 Jd (env:=X.X) scope.names [] (S.cells hs I) (λ_ _ z=>nomatch z)
def Inv.block(S:CompScope sc0 N0 N' o fr scope)(hs:X.X.scope=sc0)(hN:X.N=N0)(I:Inv X pins σ H s)(hf:∀b∈fp,FpOk X pins H b)(NG:∀b∈fp,b<(~~~s)){h1:Heap}{C rj:A7}{m:Af}{t:A5}
  (hC:(~~~s)<=C)(hD:(~~~s)<=rj)(MH:rj≠C)
  (old:∀b ob,s.C.E b=⇑ob->h1.E b=⇑ob)(hn:h1.Ns C m)(ha:h1.E rj=⇑(Wg us)):Inv (TV X N' scope C s H fp) [(rj,Wg us)] (σC o fr σ) H {s with heap:=h1,toks:=t}:=by
 let sub:=S.sub hs I;let frC:∀b∈Th X.stack,b<(~~~s):=λb hb=>by let(_,ob,ho,_):=I.stack.mem hb;show Ym ho
 show⟨{I.ok.mod,S.kind,I.ok.glob,I.ok.blt,hC,λx y c h1 h2=>I.ok.inj x y c (sub x c h1)<|sub y c h2,λx hx=>?_,λx c hfx _=>(nomatch hfx),I.ok.hd,I.ok.frames,.inl Z,λb hb=>?_,I.bs,Yq I.ok.bsz I.sz,λb ob e hb=>?_,λb hb Rq=>?_,I.stack,I.stkFree},
  rfl,I.bare,Un.kept old,{m,hn,λi x v e1 e2 e3=>?_},λx c e=>?_,I.hok.fresh hC,λx c e=>I.freeC x c<|sub x c e,λp hp=>?_,I.hok.kept old,?_⟩
 .let US:(relabel scope X.X).names.U x=some .cell\/(relabel scope X.X).names.U x=some .free:=hx;let key:(x,NameKind.free)∈scope.names:=by
   rcases US with z|z
   .rcases MK (env:=X.X) z (.inl rfl) with q|q
    .show q
    .show absurd Z (S.nocell' _ q)
   .rcases MK (env:=X.X) z (.inr rfl) with q|q
    .show q
    .show absurd Z (S.nocell' _ q)
  show JG.S (vA (cells:=X.X.cells) scope.names [] x key)
 .let⟨f0,f1,f2,f3,f4,f5⟩:=hf b hb;exists Yx<|Yp (NG b hb) hC,λx c e=>f4 x c<|sub x c e
 .let⟨f0,f1,f2,f3,f4,f5⟩:=hf b hb;rcases f3 with z|z
  .show I.ok.noex b ob e z
  .show absurd (Yp (Ym e)<|Yq I.ok.bsz z) (Pk _)
 .let⟨f0,f1,f2,f3,f4,f5⟩:=hf b hb;rcases Yo.S (I.stkSub b Rq) with z|z
  .show f1 z
  lia
 .unfold σC at e2;cases hi:i<o
  .rw[Yu (by rwa[NP]),List.getElem?_replicate,Yk hi]at e2;cases e2
  .rw[Ys (by ext),NP,Yi]at e2;cases hy:fr[i-o]? with
   |none=>ext
   |some y=>
    rw[hy]at e2;let bu:(σ[y]?).join=⇑v:=Yn e2
    let e3':σ[y]?=⇑(⇑v):=by
     cases q:σ[y]? with
     |none=>ext
     |some z=>rw[q]at bu;show YI some bu
    let(x',s2,s1,s3):=S.sees' (i-o) y hy;rw[<-hN]at s2;rw[show o+(i-o)=i by ext]at s1;let ex:x=x':=by let e1':N'[i]?=⇑x:=e1;rw[e1']at s1;show Yn s1
    subst ex;let hmem:=JV s3
    let(m0,_,hl):=I.loc;let hk:=S.free' hs (x,.free) hmem rfl
    let(u,ru,lk):=hl y x v s2 e3' (by rcases hk with z|z;show .inr (.inl z);show .inr<|.inr z);exists u,ru,.inr {pH (env:=X.X) s3,?_};let(c',Wi):=JG.S (vA (cells:=X.X.cells) scope.names [] x hmem);exists c',Wi,?_;rcases lk with ⟨z,_⟩|⟨_,c,e,ob,ho,hd⟩
    .ext
    .let ec:c=c':=by
      have:=sub x c' Wi
      rw[e]at this;show Yn this
     subst ec;exists ob,old _ _ ho,hd
 .let⟨v,ob,ho,hd⟩:=I.cell x c (sub x c e);exists v,ob,old _ _ ho,hd
 .let e:p=(rj,Wg us):=by simpa using (show p∈([]:A6 (A7×Obj))++[(rj,Wg us)] from hp)
  subst e;exists ha,I.hok.fresh hD,MH,λz=>absurd (Yp (frC rj z) hD)<|Pk _,λv z=>nomatch z
 .change(σC o fr σ).f=N'.f;unfold σC;rw[Xa,NP,Xr,S.len]
def Inv.unblock(I:Inv X pins σ H s)(hf:∀b∈fp,FpOk X pins H b){σ':St}{s':B6}(hC:(~~~s)<=C)(hD:(~~~s)<=rj)(MH:rj≠C)
  (I':Inv (TV X N' scope C s H fp) [(rj,Wg us)] σ' H' s')(r:Vals ys us)(hz:ys.f<=sizeLine):∃oC m,s'.C.E C=⇑oC/\s'.C.Ns C m/\Inv X (pins++[(C,oC)]) σ (upd H' rj<|.lst ys) s':=by
 let(aD,nD,_,_,_):=I'.pin (rj,Wg us) Eo;let un:Un (Th X.stack) fp H H' s.C s'.C:=I'.base
 let lt:∀b u,H b=⇑u->b≠rj:=λb u e=>Yx (Yp (I.hok.lt e) hD);let Di:Un (Th X.stack) fp H (upd H' rj<|.lst ys) s.C s'.C:=by
  exists un.keep,un.slot,λb ob e n hx=>?_,un.there,λb xs e=>?_,λb ob u e=>?_,λb ps e=>?_
  .rw[Zd (Yx<|Yp (Ym e) hD)];show un.free b ob e n hx
  .rw[Zd (lt b _ e)];show un.tups b xs e
  .rw[Zd (lt b _ e)];show un.frzs b ob u e
  .let⟨more,q⟩:=un.tbls b ps e;exists more,by rwa[Zd (lt b _ e)]
 let hok:HOk X.prog X.w (upd H' rj<|.lst ys) s'.C:=λb u e=>by
  cases hb:b=rj
  .subst hb;rw[XT]at e;cases e;exists hz,us,us.f,r,aD
  .rw[Zd hb]at e;show(I'.hok b u e).stay (λc v _ q=>q) (λc q=>by rwa[Zd (Ze q nD)]) λc xs q=>by rwa[Zd (Ze q nD)]
 let os:s'.os=s.os:=I'.os;let tB:Inv X pins σ (upd H' rj<|.lst ys) s':=I.call' (ch:=fp) os Di hok I'.bare λb hb=>by let(f0,f1,f2,f3,f4,f5):=hf b hb;exists f3,f1,f4,f5
 let(m,hn,_):=I'.loc;let(oC,es,ep,pF,hdC,_):=id hn;exists oC,m,pF,hn,tB.pins_of λp hp=>?_;rcases Xn.S hp with z|z
 .show tB.pin p (Yc _ z)
 .let e:p=(C,oC):=by simpa using z
  subst e;let nC:H' C=A8:=I'.free
  exists pF,by rw[Zd (YZ MH)];show nC,QS<|Yp I.lt hC,I.nofs hC,λv z=>?_
  ext
end
section
variable{X:Cx}{N':A6 C0}{o:A5}{fr:A6 A5}{scope:C1}{elt tg iter:B5}{ifs:A6 B5}{pos:Pos}{wi:TI}{g:TG}{tt:TT}{te:TE}
def Dh(hc:X.calm=A9)(S:CompScope sc0 N0 N' o fr scope)(hi:PI X tg iter wi)(ho:OR o g)
  (hg:∀C s H fp,PG (TV X N' scope C s H fp) tg g)
  (ht:∀C s H fp,Dm (TV X N' scope C s H fp) ifs tt)
  (he:∀C s H fp,PE (TV X N' scope C s H fp) elt te)
  (hs:∀x,foldedSetIterable iter X.X x=pure x)(PM:X.X.scope=sc0)(Dg:X.N=N0)(I:Inv X pins σ H s)(h:pG wi g tt te o fr σ H Qv)
  {use:Option (B1->Sem Unit)}{Q:Ae}{E:Ae}
  (hE:∀e s',X.xe e s'->E e s')
  (fin:∀C oC rj m H' ys s',Inv X (pins++[(C,oC)]) σ (upd H' rj<|.lst ys) s'->Qv ↑rj (upd H' rj<|.lst ys)->s'.C.Ns C m->H' C=A8->C≠rj->
   C≠X.X.locals->(~~~X.s₀)<=C->(∀x c,X.X.cells.U x=⇑c->c≠C)->(∀p∈X.pn++pins,p.1≠C)->compPost (model X.prog X.w) X.A E use Q ↑rj C (.ok .next) s'):
  wpAny (model X.prog X.w) X.A (comprehension (.ListComp elt [⟨tg,iter,ifs,0⟩] scope pos) scope X.X (firstIterPos [⟨tg,iter,ifs,0⟩] pos) (newList []) false (eval iter X.X) use) Q E s:=by
 show wpAny_comprehension_free (use:=use) Z hs (ZY8<|S.cells PM I) S.kind S.loc' (SD (hi pins s σ H _ I h) (λxv s1 h1=>SD h1 (λqO s2 h2=>?_) hE) hE);let(it,fp,tn,tB,H2,rfl,I2,T,WU,f2,W,(m0,w0),turn):=h2;let NG:∀b∈fp,b<(~~~s2):=λb hb=>by let(ob,e,_):=T.obj 0 _ WU b hb;show Ym e
 show Lr (wpAny_newFunctionEnv S.nocell' (by ext) (λh1 Df Jb=>?_) S.kind);generalize pE:s2.C.push {cls:=.type "list",dict:=A8,data:=.seq ([]:Ag).r}=G at Df Jb ⊢;let br:G.objs.o=(~~~s2)+1:=by rw[<-pE,Lq]
 let hC:(~~~s2)<=G.objs.o:=by rw[br];show SX _
 let MH:(~~~s2)≠G.objs.o:=by rw[br];show Yx (Gv _)
 let old:∀b ob,s2.C.E b=⇑ob->h1.E b=⇑ob:=λb ob e=>
  Jb.extBut b ob (Yx<|Yp (Ym e) hC) (Xf _<|pE▸Xf _ e)
 let Tz:h1.E (~~~s2)=⇑(Wg []):=Jb.extBut _ _ MH (Xf _<|pE▸Yj _ Z);let Ve:tn 0 h1:=T.keep _ _ _ WU λb _ ob e=>old b ob e
 let pD:∀{us:Ag}{H':Hp},(∀b∈fp,H' b=A8)->∀b∈fp,FpOk (TV X N' scope G.objs.o s2 H2 fp) [((~~~s2),Wg us)] H' b:=λ{us H'} hn b hb=>by
  let(f0,f1,f3,f4,f5,f6):=f2 b hb;exists hn b hb,Yx<|Yp (NG b hb) hC,λz=>?_,.inl hb,λx c e=>f5 x c<|S.sub PM I2 x c e,λp hp=>?_
  .rcases Yo.S (I2.stkSub b z) with q|q
   .show f1 q
   lia
  .let e:p=((~~~s2),Wg us):=by simpa using (show p∈([]:A6 (A7×Obj))++[((~~~s2),Wg us)] from hp)
   subst e;show QS (NG b hb)
 let loop:∀s3:B6,s3={s2 with heap:=h1,toks:=s2.toks+([]:A6 (C0×B1)).f}->
   codeAny (model X.prog X.w) X.A (.compLoop (.ListComp elt [⟨tg,iter,ifs,0⟩] scope pos) 0 ↑it (.ref (~~~s2))<|compEnvC scope (Rr X.X.cells scope.names []) G.objs.o X.X)
    (compPost (model X.prog X.w) X.A E use Q (.ref (~~~s2)) G.objs.o) s3:=by
  rintro s3 rfl;show Zp5 (λn s'=>∃i σ' H' ys us,Inv (TV X N' scope G.objs.o s2 H2 fp) [((~~~s2),Wg us)] σ' H' s'/\σ'=σC o fr σ/\Vals ys us/\tn i s'.C/\(∀b∈fp,H' b=A8)/\W i n ys H') ?_ m0
   {0,_,H2,[],[],I2.block S PM Dg f2 NG hC (XG _) MH old Df Tz,Z,.nil,Ve,λb hb=>(f2 b hb).1,w0}
  rintro n s' ⟨i,σ',H',ys,us,I',rfl,rv,XS,bq,w'⟩;rcases turn i n ys H' w' with ⟨stop,hz,q⟩|⟨go,hz,step⟩
  .show thn (T.done (TV X N' scope G.objs.o s2 H2 fp) Z Z Z hc i _ s' _ H' _ I' (pD bq) XS stop) λr s4 zz=>?_;let(hr,I4):=zz;subst hr;let(oC,m,pF,hn,J4):=I2.unblock f2 hC (XG _) MH I4 rv hz;show fin _ oC _ m H' ys s4 J4 (q _ (I4.pin ((~~~s2),Wg us) Eo).2.1) hn I4.free (YZ MH) (QS<|Yp I2.lt hC) (Yq I2.sz hC)
    (λx c e=>by let(v,z):=I2.cell x c e;show Yx<|Yp z.lt hC) λp hp=>Yx (Yp (Ym (I2.pin p hp).1) hC)
  .show thn (T.item (TV X N' scope G.objs.o s2 H2 fp) Z Z Z hc i _ s' _ H' _ I' (pD bq) XS go) λr s4 XB=>?_;let(u,hr,h4):=XB;subst hr;show thn h4 λ_ s5 XB=>?_;let(x,H5,I5,r5,y5,UI,qI):=XB;let WE:=step x H5 y5
   let pC:=ho x (List.replicate o none) (fr.G λj=>(σ[j]?).join) H5 _ (NP ..) WE;let qH:=I5.pinned (pD (us:=us) qI) (T.obj _ _ UI)
   show thn (hg _ _ _ _ _ s5 _ H5 x u _ qH r5 pC) λ_ s6 XB=>?_;let(σ6,H6,I6,(ow,MG,e6),q6):=XB;subst e6;show thn (ht _ _ _ _ _ s6 _ H6 _ I6 q6) λb s7 XB=>?_;let(H7,I7,q7):=XB;let back:∀{us':Ag}{σ8:St}{H8:Hp}{s8:B6},Inv (TV X N' scope G.objs.o s2 H2 fp) ([((~~~s2),Wg us')]++MU fp s5.C) (ow++fr.G λj=>(σ[j]?).join) H8 s8->
     Inv (TV X N' scope G.objs.o s2 H2 fp) [((~~~s2),Wg us')] (σC o fr σ) H8 s8/\tn (i+1) s8.C/\∀b∈fp,H8 b=A8:=λ{us' σ8 H8 s8} I8=>by
    exists I8.unpinned.weak ?_ λj v e=>?_,T.keep _ _ _ UI λb hb ob e=>(I8.pin (b,ob)<|Yc _<|Yc _<|vL hb e).1,λb hb=>?_
    .unfold σC
     ext
    .unfold σC at e;grind
    .let⟨ob,e,_⟩:=T.obj _ _ UI b hb;show(I8.pin (b,ob)<|Yc _<|Yc _<|vL hb e).2.1
   cases b with
   |false=>
    let(m',hm,w7):=q7;let(I8,st8,fr8):=back (us':=us) (σ8:=[]) I7;exists m',hm,i+1,_,H7,ys,us,I8,Z,rv,st8,fr8,w7
   |true=>
    show thn (he _ _ _ _ _ s7 _ H7 _ I7 q7) λy s8 XB=>?_;let(yv,H8,I8,r8,m',hm,w8):=XB;let(aD,nD,_,_,_):=I8.pin ((~~~s2),Wg us) Eo;let hul:us.f<=sizeLine:=by rw[<-rv.f];show Uy hz
    show append_at (hsz:=by omega) aD λh9 hs9 FT=>?_;let I9:Inv (TV X N' scope G.objs.o s2 H2 fp) (MU fp s5.C) (ow++fr.G λj=>(σ[j]?).join) H8 {s8 with heap:=h9}:=
     (I8.pins_of (pins':=MU fp s5.C) λp hp=>I8.pin p<|Yc _<|Yc _ hp).turned (t':=s8.toks) (it:=(~~~s2)) (λb ob hb e=>hs9.extBut b ob hb e) nD MH (.inr<|XG _)
      (λx c e=>by let(v,z):=I2.cell x c (S.sub PM I2 x c e);show Yx z.lt)
      λp hp=>by let(hb,_):=bR (show p∈MU fp s5.C from by simpa[TV] using hp);show Yx (NG p.1 hb)
    let I9':Inv (TV X N' scope G.objs.o s2 H2 fp) ([((~~~s2),Wg<|us++[y])]++MU fp s5.C) (ow++fr.G λj=>(σ[j]?).join) H8 {s8 with heap:=h9}:=
     I9.pins_of λp hp=>by
      rcases Xn.S hp with z|z
      .ext
      .show I9.pin p (Yc _ z)
    let(I10,pB,pw):=back (us':=us++[y]) (σ8:=[]) I9';exists m',hm,i+1,_,H8,ys++[yv],us++[y],I10,Z,Vals.append rv<|.cons r8 .nil,pB,pw,w8
 show codeAny_compStart_list (loop _ Z) (T.self _ 0 _ _ _ Ve<|loop _ Z)
def Vd(hc:X.calm=A9)(S:CompScope sc0 N0 N' o fr scope)(hi:PI X tg iter wi)(ho:OR o g)
  (hg:∀C s H fp,PG (TV X N' scope C s H fp) tg g)
  (ht:∀C s H fp,Dm (TV X N' scope C s H fp) ifs tt)
  (he:∀C s H fp,PE (TV X N' scope C s H fp) elt te)
  (hs:∀x,foldedSetIterable iter X.X x=pure x:=by intro _;rfl)(PM:X.X.scope=sc0:=by rfl)(Dg:X.N=N0:=by rfl):PE X (.ListComp elt [⟨tg,iter,ifs,0⟩] scope pos) (pG wi g tt te o fr):=by intro pins s σ H Q I h;show Dh hc S hi ho hg ht he hs PM Dg I h (use:=A8) (λ_ _ z=>z) λC oC rj m H' ys s' tB q hn nC pq pj ph pf pd=>?_;exists m,hn,λh' VZ=>{.ref rj,upd H' rj<|.lst ys,?_,Z,q};show tB.unpinned.turned (t':=s'.toks) (it:=C) (λb ob hb e=>VZ.extBut b ob hb e) (by rwa[Zd pq]) pj (.inr ph) pf pd
def PL{x:C0}{px:Pos}{De:Pos}(hc:X.calm=A9)(hN:X.N.Nodup)(hx:X.N[i]?=⇑x)(hl:X.X.kindOf x=some .local)(S:CompScope sc0 N0 N' o fr scope)(hi:PI X tg iter wi)(ho:OR o g)
  (hg:∀C s H fp,PG (TV X N' scope C s H fp) tg g)
  (ht:∀C s H fp,Dm (TV X N' scope C s H fp) ifs tt)
  (he:∀C s H fp,PE (TV X N' scope C s H fp) elt te)
  (hs:∀x,foldedSetIterable iter X.X x=pure x:=by intro _;rfl)(PM:X.X.scope=sc0:=by rfl)(Dg:X.N=N0:=by rfl)
  (hsw:swapsWith (.ListComp elt [⟨tg,iter,ifs,0⟩] scope pos) (some<|.Name x px) De.line X.X=pure true:=by rfl):
  PS X (.Assign [.Name x px] (.ListComp elt [⟨tg,iter,ifs,0⟩] scope pos) De) (MV (pG wi g tt te o fr)<|MW i):=by
 intro pins s σ H rj I h;rw[exec_Assign_Name_used _ _ _ _ hsw];show XU (wpAny_standAt<|XU ?_);show XU (SD (Dh (Q:=λ_ s'=>SP X pins rj .next s') hc S hi ho hg ht he hs PM Dg I h (use:=some<|assign (.Name x px) X.X) (λ_ _ z=>z) λC oC Dd m H' ys s' tB q hn nC pq pj ph pf pd=>?_) (λ_ s' hq=>Yg<|Yg hq) λ_ _ e=>e);show wpAny_assign_Name (JA tB hN hx (.inl hl) (v:=.ref Dd) Z (λs2 I2=>?_)<|.inr hl);let g1:=(I2.pin (C,oC) Eo).1
 let n2:s2.C.Ns C m:=by
  let(oc,es,ep,e,r):=hn;let e0:=(tB.pin (C,oC) Eo).1
  let e0:s'.C.E C=⇑oC:=e0;rw[e]at e0;cases e0;exists _,es,ep,g1,r
 exists m,n2,λh' VZ=>{_,upd H' Dd<|.lst ys,?_,q};show I2.unpinned.turned (t':=s2.toks) (it:=C) (λb ob hb e=>VZ.extBut b ob hb e) (by rwa[Zd pq]) pj (.inr ph) pf pd
end
section
variable{X:Cx}
def o9{x y:V}{us:Ag}(r:Vals [x,y] us):∃u v,us=[u,v]/\RelV x u/\RelV y v:=by
 cases r with
 |cons a r=>
  cases r with
  |cons b r=>cases r;exists _,_,Z,a,b
def ZL:∀{ns:Ac}{us:Ag},Vals (ns.G V.int) us->IntsAre us ns
 |[],_,.nil=>.nil
 |n::ns,_,.cons r t=>by let(tk,rfl):=r;show .cons n tk (ZL t)
def bp:Vv X (.type "range") (λxs H Q=>∃j:A0,xs=[.int j]/\∀p,H p=A8->Q ↑p (upd H p (.rng 0 j))):=by intro pins s σ H xs us Q I r h;let(j,rfl,q):=h;let(u,rfl,t,rfl):=Ur r;show call_range_1 ?_;exists .ref (~~~s),_,I.laid (o:=.rng 0 j) (λb u e=>Xf _ e) (XG _) {_,_,_,Yj _ Z},Z,q _<|I.hok.fresh<|XG _
def Tx(lo hi:A0):(Ac):=(List.range (hi-lo).j).G λ(i:A5)=>lo+(i:A0)
def ZU6(lo hi:A0):(Tx lo hi).f=(hi-lo).j:=by unfold Tx;ext
def o8{lo:A0}:∀{us:Ag},us.f=n->(∀(j:A5)(v:B1),us[j]?=⇑v->∃t,v=Value.int (lo+(j:A0)) t)->Vals (((List.range n).G λ(i:A5)=>lo+(i:A0)).G V.int) us:=by
 induction n generalizing lo with
 |zero=>
  intro us h _;rw[YV.S h];show .nil
 |succ n ih=>
  intro us h hv;cases us with
  |nil=>cases h
  |cons u us=>
   rw[List.range_succ_eq_map,Pj,Pj];show .cons ?_ ?_
   .let⟨t,e⟩:=hv 0 u rfl;exists t,e
   .let q:=ih (lo:=lo+1) (us:=us) (Nf h) λj v e=>by let(t,e'):=hv (j+1) v (by simpa using e);grind
    let e:(List.range n).G (λ(i:A5)=>lo+1+(i:A0))=((List.range n).G Nat.succ).G (λ(i:A5)=>lo+(i:A0)):=by
     rw[Nd];show Vp λi _=>?_;change lo+1+(i:A0)=lo+((i+1:A5):A0)
     lia
    rwa[e]at q
inductive yR1(xs:A6 V)(H:Hp)(Q:VK):Prop
 |mk (p lo hi:_) (_:xs=[.ref p]) (_:H p=⇑(.rng lo hi)) (_:(-(2^62)<=lo/\lo<2^62/\-(2^62)<=hi/\hi<2^62)) (_:(hi-lo).j<=16777216) (_:∀l,H l=A8->Q ↑l (upd H l<|.lst<|(Tx lo hi).G V.int))
def bo(hc:X.calm=A9):Vv X (.type "list") (yR1):=by
 intro pins s σ H xs us Q I r h;let(p,lo,hi,rfl,hp,(b1,b2,b3,b4),hz,q):=h;let(u,rfl,ru):=Ur r;let rfl:u=Value.ref p:=ru;let(t,u,v,e):=(show ObjOk X.prog X.w H s.C p (.rng lo hi) from I.hok p _ hp);let hn:Builtin.Range.rangeSize lo hi 1=(((hi-lo).j:A5):A0):=by rw[rangeSize_one];split<;>grind
 show call_list_range (I.ok.hd hc) (t:=t) (u:=u) (v:=v) e (small_one b1 b2 b3 b4) hn hz λh' tk acc c' hk hS ha=>?_;let hl:acc.m.f=(hi-lo).j:=by rw[YU];show ha.1
 let rv:Vals ((Tx lo hi).G V.int) acc.m:=o8 (lo:=lo) hl λj w ew=>by let(t,e):=ha.2 j w (by simpa using ew);grind
 exists .ref (~~~s),_,I.laid (o:=.lst<|(Tx lo hi).G V.int) hk (XG _) {?_,acc.m,c',rv,?_},Z,q _<|I.hok.fresh<|XG _
 .rw[Xr,ZU6]
  have:sizeLine=16777216:=Rz
  ext
 ext
def ZM4(hc:X.calm=A9):Vv X (.builtin "sum") (λxs H Q=>∃(p:A7)(ns:Ac),xs=[.ref p]/\SqL X.K H p (ns.G V.int)/\Q (.int ns.sum) H):=by
 intro pins s σ H xs us Q I r h;let(p,ns,rfl,hq,q):=h;let(u,rfl,ru):=Ur r;let rfl:u=Value.ref p:=ru;let(XX,rv,pl,hz):=I.list hq;let hi:=ZL rv
 let TB:=hi.allInts;let(xs,ex):=TB.items;let hl:=pl.isList
 rw[ex]at hl;show sum_intListG (I.ok.hd hc) hl λh' tk t' hk=>?_;let e1:preSum (numAt xs) xs.o=ns.sum:=by let e2:=hi.numsOf;rw[show XX=XX.r.m from Z,ex,nums_intItems]at e2;rw[preSum_eq,YF Eo,<-e2]
 exists .int ns.sum,H,I.kept hk,{t',by rw[e1]},q
def seen(ns:Ac):(Ac):=firstMet (λi=>ns.R i 0) ns.f
def ZN4(hc:X.calm=A9):Vv X (.type "set") (λxs H Q=>∃p ns,xs=[.ref p]/\SqL X.K H p (ns.G V.int)/\ns.f+1<scanBound/\
  ∀l,H l=A8->Q ↑l (upd H l (.set (λk=>(seen ns).any (· == k)) (seen ns).f))):=by
 intro pins s σ H xs us Q I r h;let(p,ns,rfl,hq,hb,q):=h;let(u,rfl,ru):=Ur r;let rfl:u=Value.ref p:=ru;let(XX,rv,pl,hz):=I.list hq;let hi:=ZL rv
 let hl:XX.r.o=ns.f:=by rw[YJ,<-rv.f,Xr]
 show call_set_list (I.ok.hd hc) pl.isList (ns:=ns) rF (by ext) λh' tk hs hk=>?_;exists .ref (~~~s),_,I.laid (o:=.set (λk=>(seen ns).any (· == k)) (seen ns).f) (λb ob e=>hk b ob (Ym e) e) (XG _) ?_,Z,q _<|I.hok.fresh<|XG _;unfold seen;rwa[<-hl]
def ZO4:Vv X (.builtin "len") (λxs H Q=>∃p S n,xs=[.ref p]/\H p=⇑(.set S n)/\(n:A0)<2^63/\Q (.int n) H):=by intro pins s σ H xs us Q I r h;let(p,S,n,rfl,hp,hn,q):=h;let(u,rfl,ru):=Ur r;let rfl:u=Value.ref p:=ru;let(o,es,ep,t,e,hx,hd,_,_,_,hf,hz):=(show ObjOk X.prog X.w H s.C p (.set S n) from I.hok p _ hp);subst hz;show call_len_set e hx hd hf hn {.int es.o,H,I.tok _,{_,Z},q}
def Lb(K:Ad)(a:A7):(It):=
 {λi H=>∃xs x,SqL K H a xs/\xs[i]?=⇑x,λi H v H'=>∃T x,H T=A8/\v=.ref T/\H'=upd H T (.tup [.int i,x])/\∀xs,SqL K H a xs->xs[i]?=⇑x,λi H=>∃xs,SqL K H a xs/\xs.f<=i}
inductive xEnu(K:Ad)(vs:A6 V)(H1:Hp)(R:It->Hp->Prop):Prop
 |mk (a:_) (_:vs=[.ref a]) (_:∃xs,SqL K H1 a xs) (_:R (Lb K a) H1)
def Dc(K:Ad)(ta:TA):(TI):=λσ H R=>ta σ H λvs H1=>xEnu K vs H1 R
def CZ{P:Program}{w:World}{K:Ad}{elts:A6 B5}{x1:A5}{pos:Pos}(a e it:A7)(XJ:e≠it):∀(X:Cx),X.prog=P->X.w=w->X.K=K->∀(i:A5)(pins:A6 (A7×Obj))(s:B6)(σ:St)(H:Hp)(E:Ae),Inv X pins σ H s->(∀b∈[e,it],FpOk X pins H b)->((∃old,IsEnum s.C e it i old)/\s.C.IsListIter it a i)->(Lb K a).go i H->
  wpAny (model P w) X.A (pyNext<|.ref e) (λr s1=>∃u,r=⇑u/\
   wpAny (model P w) X.A (letOwnedTupleGo (.Tuple elts x1 pos) ↑e u) (λ_ s2=>∃x H',Inv X pins σ H' s2/\RelV x u/\(Lb K a).yld i H x H'/\((∃old,IsEnum s2.C e it (i+1:A5) old)/\s2.C.IsListIter it a (i+1))/\∀b∈[e,it],H' b=A8) E s1) E s:=by
 intro X hP hw hK i pins s σ H E I hf st hg;subst hP hw hK;let(xs,x,hq,hx):=hg;let((old,he),hit):=st;let(XX,rv,p,hz):=I.list hq;let(u,hu,ru):=rv.get hx;let(f0,f1,f2,f3,f4,f5):=hf e Eo;let(g0,g1,g2,g3,g4,g5):=hf it Eo;let o7:H (~~~s)=A8:=I.hok.fresh (XG _)
 show wpAny_pyNext_enum_item he hit p.isList (x:=u) (by simpa using hu) XJ λh' ho o6 hT hsz hk=>?_;let NF:∀b ob,s.C.E b=⇑ob->b≠(~~~s):=λb ob z=>Yx (Ym z)
 let OQ:∀b ob,H b=⇑ob->b≠(~~~s):=λb ob z=>Yx (I.hok.lt z);let I1:Inv X pins σ (upd H (~~~s)<|.tup [.int i,x]) {s with heap:=h',toks:=s.toks+1}:=by
  show I.step (g':=s.gens) (d':=s.drawn) (ch:=[e,it]) (λb hb=>?_) (λb o _ _ VY z _=>hk b o (λq=>VY<|by simp[q]) (λq=>VY<|by simp[q]) z) (λb o _ _ VY z _=>{o.slots,hk b o (λq=>VY<|by simp[q]) (λq=>VY<|by simp[q]) z})
   (λb o _ z n=>by rwa[Zd (NF b o z)]) (λb o VY z=>{o,hk b o (λq=>VY<|by simp[q]) (λq=>VY<|by simp[q]) z}) (λb ys z=>by rwa[Zd (OQ b _ z)]) (λb o v z=>by rwa[Zd (OQ b _ z)])
   (λb ps z=>{#[],by rw[Zd (OQ b _ z),z];simp}) (λm hm=>?_) (λb v z=>?_) I.bare
  .rcases Yo.S hb with q|hb
   .rw[q];exists f3,f1,f4,f5
   .let q:b=it:=by simpa using hb
    rw[q];exists g3,g1,g4,g5
  .let⟨o,es,ep,UY,r⟩:=hm;exists o,es,ep,hk _ o (YZ f1) (YZ g1) UY,r
  .cases hb:b=(~~~s)
   .subst hb;rw[XT]at z;cases z;exists by change 2<=sizeLine;decide,[.int i s.toks,u],.cons {_,Z}<|.cons ru .nil,{_,hT,Z,_,Z}
   .rw[Zd hb]at z;show(I.hok b v z).stay (λc w' Wi q=>?_) (λc q=>by rwa[Zd (OQ c _ q)]) λc ys q=>by rwa[Zd (OQ c _ q)]
    grind
 exists _,Z,wpAny_letOwnedTupleGo_enum ho λh2 Ja TZ=>?_;let fT:e≠(~~~s):=NF e _ he
 let I2:Inv X pins σ (upd H (~~~s)<|.tup [.int i,x]) {s with heap:=h2,toks:=s.toks+1}:=Inv.turned (s:={s with heap:=h',toks:=s.toks+1}) (h':=h2) (t':=s.toks+1) (it:=e) I1 (λb o hb z=>TZ.extBut b o hb z) (by rwa[Zd fT]) f1 f3 f4 f5;exists .ref (~~~s),_,I2,Z,{_,x,o7,Z,Z,λys hy=>by rwa[I.list_inj hy hq]},{{u,by simpa using Ja},o6.at λo z=>TZ.extBut it o (YZ XJ) z},λb hb=>?_;rcases Yo.S hb with q|hb
 .rw[q,Zd fT];show f0
 .let q:b=it:=by simpa using hb
  let(o,eo,_):=hit;rwa[q,Zd (NF it o eo)]
def Zd9{P:Program}{w:World}{K:Ad}{elts:A6 B5}{x1:A5}{pos:Pos}(a e it:A7)(XJ:e≠it):Turn P w K (.Tuple elts x1 pos) (Lb K a) [e,it] e (λi h=>(∃old,IsEnum h e it i old)/\h.IsListIter it a i) where
 mem:=Eo
 obj:=λi h st b hb=>by let((old,he),o,eo,c,d):=st;grind
 keep:=λi h h' st k=>by let((old,he),hit):=st;exists {old,k e Eo _ he},hit.at λo x=>k it Eo o x
 item:=λX h1 h2 h3 _=>CZ a e it XJ X h1 h2 h3
 done:=by
  intro X hP hw hK hc i pins s σ H E I hf st hg;subst hP hw hK;let(xs,hq,hx):=hg;let((old,he),hit):=st;let(XX,rv,p,hz):=I.list hq;let(g0,g1,g2,g3,g4,g5):=hf it Eo;let hl:=rv.f
  show wpAny_pyNext_enum_end (I.ok.hd hc) he hit p.isList (by simp;ext) λh' eb=>{Z,I.turned (t':=s.toks) (it:=it) (λb o hb z=>eb b o hb z) g0 g1 g3 g4 g5}
 self:=λ_ _ _ _ _ st h=>by let((_,he),_):=st;show wpAny_pyIter_enum he h
def o5{elts:A6 B5}{x1:A5}{Sa:Pos}{a:B5}{ta:TA}{p pos:Pos}(hg:Gl X "enumerate")(hm:X.mg "enumerate"=A8)(ha:PA X [a] ta)(hs:starEach [a] X.X=[(false,eval a X.X)]:=by rfl):
  PI X (.Tuple elts x1 Sa) (.Call (.Name "enumerate" p) [a] [] pos) (Dc X.K ta):=by
 intro pins s σ H R I h;show Call_ (PX I hg hm Boot.«enumerate»<|Ta (thn (ha pos pins s σ H _ I h) λus s1 XB=>?_) hs Z);let(vs,H1,I1,r1,q1):=XB;let(b,e,(xs,hq),q):=q1;subst e;let(u,rfl,ru):=Ur r1;let rfl:u=Value.ref b:=ru;let(XX,rv,pl,hz):=I1.list hq;show call_enumerate_list pl.isList λh' he hit hsz hk=>?_;let I2:Inv X pins σ H1 {s1 with heap:=h'}:=I1.kept (t':=s1.toks) hk
 show wpAny_pyIter_enum he ?_;let nn:∀k,(~~~s1)<=k->H1 k=A8:=λk hk=>I1.hok.fresh hk
 exists (~~~s1)+1,[(~~~s1)+1,(~~~s1)],_,_,H1,Z,I2,Zd9 b _ _<|Nat.succ_ne_self _,{{_,he},hit},λc hc=>?_,q;let hle:(~~~s1)<=c:=by
  rcases Yo.S hc with q|hc
  .ext
  .ext
 show I1.fpOk hle (nn c hle)
def o4{us:Ag}(r:Vals [kV k,y] us):∃u v,us=[u,v]/\RelV (kV k) u/\RelV y v:=o9 r
def o3:(V->A6 V->Hp->VK->Prop):=λx vs H Q=>∃d kvs k y,x=.ref d/\vs=[kV k,y]/\H d=⇑(.dK kvs)/\kvs.f<sizeLine/\(∀v,Wt kvs k=⇑v->Q v H)/\(Wt kvs k=A8->Q y (upd H d<|.dK<|kvs++[(k,y)]))
def Zu4:OV X "dict.setdefault" o3:=by
 intro pins s σ H x vs v us Q I rx rv h;let(d,kvs,k,y,rfl,rfl,hH,hz,h1,h2):=h;cases rx;let(uk,uy,rfl,rk,ry):=o4 rv;let(z,hd,ws,rel,dd):=OS I.hok hH;show call_meetsIn Ex dd.typeIs PySem.F.entry_dict_setdefault (PySem.F.args_dict_setdefault_3 _ _ _) (kt_meets_setdefault (QJ X.prog X.w) d (Dt rk) hd uy)
  {ws,dd,by rw[<-rel.f];show z,λv' Lf=>?_,λhn h' bj hs=>?_}
 .cases e:Wt kvs k with
  |none=>
   let q:=rel.val k;rw[e,Lf]at q;show False.elim q
  |some w'=>
   let q:=rel.val k;rw[e,Lf]at q;exists w',H,I.tok _,q,h1 w' e
 .let e:Wt kvs k=A8:=by
   cases e:Wt kvs k with
   |none=>rfl
   |some w'=>
    let q:=rel.val k;rw[e,hn]at q;show False.elim q
  let he:∃q,h'.E d=⇑q:=by let(q,_,_,hq,_):=bj;exists q,hq
  exists y,_,pM (ob:=.dK<|putK kvs k y) I (by rw[hH];show True.intro) hs he<|Ds ?_ hd (rel.put k ry) bj,ry,?_
  .have:=pQ kvs k y;lia
  .rw[pP y e];show h2 e
def QG(p d:A7):(HO):=.ext λh=>h.IsValuesView p d
def oZ:(V->A6 V->Hp->VK->Prop):=λx vs H Q=>∃d kvs,x=.ref d/\vs=[]/\H d=⇑(.dK kvs)/\∀p,H p=A8->Q ↑p (upd H p<|QG p d)
def Zy9:OV X "dict.values" oZ:=by
 intro pins s σ H x vs v us Q I rx rv h;let(d,kvs,rfl,rfl,hH,q):=h;cases rx;cases rv;let(z,hd,ws,rel,dd):=OS I.hok hH;show call_meetsIn cK dd.typeIs PySem.F.entry_dict_values (PySem.F.args_dict_values_1 _) (meets_dict_values (QJ X.prog X.w) d hd) {⟨ws,dd⟩,?_};exists .ref (~~~s),_,I.laid (o:=QG (~~~s) d) (λb u e=>Xf _ e) (XG _) ?_,Z,q _<|I.hok.fresh<|XG _;let e:=Yj s.C (o:={cls:=.type "dict_values",data:=.fields #[.ref d]}) rfl
 exists {_,e,Z,Z},{_,e},λh1 h2 zz k=>by let(o,ho,r):=zz;exists o,k o ho,r
def CY{h:Heap}(dd:h.DictOf (QJ P w) d ws):∃ep,h.DictAt (QJ P w) d ws ep:=by let(o,es,ep,r):=dd;exists ep,o,es,r
def oY{κ:Type}{kvs:A6 (κ×V)}{ws:A6 (κ×B1)}(h:KV kvs ws):Vals (kvs.G (·.2)) (ws.G (·.2)):=by
 induction h with
 |nil=>show .nil
 |cons r t ih=>show .cons r.2 ih
def oX(hc:X.calm=A9):Vv X (.type "list") (λxs H Q=>∃p d kvs,xs=[.ref p]/\H p=⇑(QG p d)/\H d=⇑(.dK kvs)/\∀l,H l=A8->Q ↑l (upd H l (.lst (kvs.G (·.2))))):=by
 intro pins s σ H xs us Q I r h;let(p,d,kvs,rfl,hp,hd,q):=h;let(u,rfl,ru):=Ur r;let rfl:u=Value.ref p:=ru;let(hv,_,_):=(show ObjOk X.prog X.w H s.C p (QG p d) from I.hok p _ hp);let(z,MF,ws,rel,dd):=OS I.hok hd;let(ep,da):=CY dd;let hl:ws.f=kvs.f:=rel.f.symm
 show PySem.W.kdl_call (PySem.W.kdl_values (knd:=QJ X.prog X.w) (kvs:=ws) (ep:=ep) (r:=p) (d:=d)) (I.ok.hd hc) ⟨hv,da⟩ (by ext) λh' tk acc c' hk hS ha=>?_;let ea:acc.m=ws.G (·.2):=by
  show Sl λi=>?_;cases e:acc.m[i]? with
  |none=>
   have:ws.f<=i:=by
    have:=wL.S e
    rwa[YU,ha.1]at this
   ext
  |some v=>
   let(k,ek):=ha.2 i v (by simpa using e)
   ext
 exists .ref (~~~s),_,I.laid (o:=.lst (kvs.G (·.2))) hk (XG _) {by ext,acc.m,c',?_,by rw[hS]},Z,q _<|I.hok.fresh<|XG _;rw[ea];show oY rel
end
inductive EqD(K:Ad)(H:Hp):A5->V->V->B3->Prop
 |flat {n:A5} {x y:V} (fx:SU x=A9) (fy:SU y=A9):EqD K H n x y (PQ x y)
 |lsts {n:A5} {a b:A7} {xs ys:A6 V} {e:A5->B3} (ha:SqL K H a xs) (hb:SqL K H b ys) (hl:xs.f=ys.f) (h:∀i x y,xs[i]?=⇑x->ys[i]?=⇑y->EqD K H n x y (e i)):EqD K H (n+1) ↑a ↑b ((List.range xs.f).all e)
 |lens {n:A5} {a b:A7} {xs ys:A6 V} (ha:SqL K H a xs) (hb:SqL K H b ys) (hl:xs.f≠ys.f):EqD K H (n+1) ↑a ↑b false
 |tups {n:A5} {a b:A7} {xs ys:A6 V} {e:A5->B3} (ha:SqT K H a xs) (hb:SqT K H b ys) (h:∀i x y,xs[i]?=⇑x->ys[i]?=⇑y->EqD K H n x y (e i)):
   EqD K H (n+1) ↑a ↑b ((List.range<|min xs.f ys.f).all e&&xs.f == ys.f)
def oW(h:SU x=A9):PQ x x=A9:=by cases x<;>first|rfl|show EI _|show absurd (show false=A9 from h) YD
section
variable{X:Cx}{pins:A6 (A7×Obj)}{σ:St}{H:Hp}{s:B6}
def Vals.at{j:A5}(r:Vals xs us)(h:j<us.f):∃x,xs[j]?=⇑x/\RelV x us[j]:=by
 let hl:=r.f;let hx:xs[j]?=⇑(xs[j]'(by ext)):=Xv (by ext)
 let(u,e,ru):=r.get hx
 ext
def EqD.self(q:EqD X.K H n x y b)(I:Inv X pins σ H s):x=y->b=A9:=by
 induction q with
 |flat fx fy=>intro e;subst e;show oW fx
 |@lsts n a b xs ys e ha hb hl h ih=>
  intro z;cases z;let e1:xs=ys:=I.list_inj ha hb
  ext
 |@lens n a b xs ys ha hb hl=>
  intro z;cases z;show absurd (YI List.f<|I.list_inj ha hb) hl
 |@tups n a b xs ys e ha hb h ih=>
  intro z;cases z;let e1:xs=ys:=I.tuple_inj ha hb
  ext
def EqD.at(q:EqD X.K H n x y b)(I:Inv X pins σ H s):∀{A:Around}{u v:B1},A.units+n<cLine->RelV x u->RelV y v->SeqAt.EqAt A s u v b:=by
 induction q with
 |flat fx fy=>intro A u v _ ru rv;show DB ru rv fx fy
 |@lsts n a b xs ys e ha hb hl h ih=>
  intro A u v hu ru rv;let rfl:u=Value.ref a:=ru;let rfl:v=Value.ref b:=rv;cases Vl:a=b
  .let z:=EqD.self (EqD.lsts ha hb hl h) I (YI V.ref Vl);rw[z,Vl];show SeqAt.EqAt.Y _
  let(us,rx,px,_):=I.list ha;let(vs,ry,py,_):=I.list hb;let l1:=rx.f
  let l2:=ry.f;let z:=SeqAt.RcAt.lists (A:=A) (s:=s) (e:=e) px.isList py.isList (by ext) J λj h1 h2=>by let(x,ex,ME):=rx.at (j:=j) (by simpa using h1);let(y,ey,MD):=ry.at (j:=j) (by simpa using h2);grind
  rw[YJ,<-l1]at z;show sj Vl z
 |@lens n a b xs ys ha hb hl=>
  intro A u v hu ru rv;let rfl:u=Value.ref a:=ru;let rfl:v=Value.ref b:=rv;let(us,rx,px,_):=I.list ha;let(vs,ry,py,_):=I.list hb;let l1:=rx.f
  let l2:=ry.f;let Vl:a≠b:=λz=>by subst z;show hl (YI List.f<|I.list_inj ha hb)
  show sj Vl (SeqAt.RcAt.lists_lengths px.isList py.isList (by ext) D)
 |@tups n a b xs ys e ha hb h ih=>
  intro A u v hu ru rv;let rfl:u=Value.ref a:=ru;let rfl:v=Value.ref b:=rv;cases Vl:a=b
  .let z:=EqD.self (EqD.tups ha hb h) I (YI V.ref Vl);rw[z,Vl];show SeqAt.EqAt.Y _
  let(us,rx,px,_):=I.tuple ha;let(vs,ry,py,_):=I.tuple hb;let l1:=rx.f
  let l2:=ry.f;let z:=SeqAt.RcAt.tuples (A:=A) (s:=s) (e:=e) (show s.C.IsTuple a us.r from px) (show s.C.IsTuple b vs.r from py) J λj h1 h2=>by let(x,ex,ME):=rx.at (j:=j) (by simpa using h1);let(y,ey,MD):=ry.at (j:=j) (by simpa using h2);grind
  rw[YJ,YJ,<-l1,<-l2]at z;show sj Vl z
end
section
variable{X:Cx}
inductive rEqD(K:Ad)(neg:B3)(x:V)(y:V)(H:Hp)(Q:VK):Prop
 |mk (n b p q:_) (_:x=.ref p) (_:y=.ref q) (_:n<=6) (_:EqD K H n x y b) (_:Q (.bl<|if neg then !b else b) H)
def oV(hu:X.A.units+8<cLine):WD X (compareOp .Eq) (rEqD X.K false):=by
 intro pins s σ H x y u v Q I ru rv h;let(n,b,p,q,rfl,rfl,hn,d,hq):=h;let rfl:u=Value.ref p:=ru;let rfl:v=Value.ref q:=rv;let fin:EP X pins σ Q (.bool b) s:={.bl b,H,I,Z,hq}
 cases d with
 |flat fx fy=>show absurd (show false=A9 from fx) YD
 |@lsts n _ _ xs ys e ha hb hl h=>
  let(us,rx,px,_):=I.list ha;let(vs,ry,py,_):=I.list hb;let l1:=rx.f
  let l2:=ry.f;show SeqAt.eq_listAt (e:=e) px.isList py.isList (by ext) J (λj h1 h2=>?_) (by ext);let(x,ex,ME):=rx.at (j:=j) (by simpa using h1);let(y,ey,MD):=ry.at (j:=j) (by simpa using h2);show(h j x y ex ey).at I (A:=X.A.in1) J (by simpa using ME) (by simpa using MD)
 |@lens n _ _ xs ys ha hb hl=>
  let(us,rx,px,_):=I.list ha;let(vs,ry,py,_):=I.list hb;let l1:=rx.f
  let l2:=ry.f;show SeqAt.eq_list_lengthsAt px.isList py.isList (by ext) D fin
 |@tups n _ _ xs ys e ha hb h=>
  let(us,rx,px,_):=I.tuple ha;let(vs,ry,py,_):=I.tuple hb;let l1:=rx.f
  let l2:=ry.f;show SeqAt.eq_tupleAt (e:=e) (show s.C.IsTuple p us.r from px) (show s.C.IsTuple q vs.r from py) J (λj h1 h2=>?_) (by ext);let(x,ex,ME):=rx.at (j:=j) (by simpa using h1);let(y,ey,MD):=ry.at (j:=j) (by simpa using h2);show(h j x y ex ey).at I (A:=X.A.in1) J (by simpa using ME) (by simpa using MD)
def oU(hu:X.A.units+8<cLine):WD X (compareOp .NotEq) (rEqD X.K true):=by
 intro pins s σ H x y u v Q I ru rv h;let(n,b,p,q,rfl,rfl,hn,d,hq):=h;let rfl:u=Value.ref p:=ru;let rfl:v=Value.ref q:=rv;let fin:EP X pins σ Q (.bool<|!b) s:={.bl<|!b,H,I,Z,hq}
 cases d with
 |flat fx fy=>show absurd (show false=A9 from fx) YD
 |@lsts n _ _ xs ys e ha hb hl h=>
  let(us,rx,px,_):=I.list ha;let(vs,ry,py,_):=I.list hb;let l1:=rx.f
  let l2:=ry.f;show SeqAt.RcNeAt.lists (e:=e) px.isList py.isList D rF (λj h1 h2=>?_) _ _ _ _ (by ext);let(x,ex,ME):=rx.at (j:=j) (by simpa using h1);let(y,ey,MD):=ry.at (j:=j) (by simpa using h2);show(h j x y ex ey).at I (A:=X.A.in1) J (by simpa using ME) (by simpa using MD)
 |@lens n _ _ xs ys ha hb hl=>
  let(us,rx,px,_):=I.list ha;let(vs,ry,py,_):=I.list hb;let l1:=rx.f
  let l2:=ry.f;show SeqAt.RcNeAt.lists_lengths px.isList py.isList D rF _ _ _ _ fin
 |@tups n _ _ xs ys e ha hb h=>
  let(us,rx,px,_):=I.tuple ha;let(vs,ry,py,_):=I.tuple hb;let l1:=rx.f
  let l2:=ry.f;show SeqAt.RcNeAt.tuples (e:=e) (show s.C.IsTuple p us.r from px) (show s.C.IsTuple q vs.r from py) D (λj h1 h2=>?_) _ _ _ _ (by ext);let(x,ex,ME):=rx.at (j:=j) (by simpa using h1);let(y,ey,MD):=ry.at (j:=j) (by simpa using h2);show(h j x y ex ey).at I (A:=X.A.in1) J (by simpa using ME) (by simpa using MD)
end
end L2
namespace My
open PySem L2
abbrev IL(ns:Ac):A6 V:=ns.G V.int
def Xc(ns:Ac):(IL ns).f=ns.f:=Xr ..
def oS(a b:Ac):IL (a++b)=IL a++IL b:=YE ..
def ZV(a:Ac)(r:A0):IL (a++[r])=IL a++[.int r]:=YE ..
def CW(a:Ac)(n:A5):IL (a.Q n)=(IL a).Q n:=wa ..
def oR(a:Ac)(n:A5):IL (a.drop n)=(IL a).drop n:=List.map_drop ..
def IZ(a:Ac)(n:A5)(z:A0):IL (a.set n z)=(IL a).set n (.int z):=List.map_set ..
def Uo{i:A5}{z:A0}(h:ns[i]?=⇑z):(IL ns)[i]?=⇑(.int z):=by ext
def Um{i:A5}{x:V}(h:(IL ns)[i]?=⇑x):∃z,x=.int z/\ns[i]?=⇑z:=by grind
def Zy{a:A7}(hn:H a=A8)(s:Same H H2):Same H (upd H2 a o):=λb u e=>by rw[Zd (Ze e hn)];show s b u e
def Zw{p:A7}(s:Same H H2)(hp:H2 p=A8):Same H (upd H2 p o):=Zy (s.free hp) s
def XO{p:A7}(hp:H p=A8):Same H (upd H p o):=Zw (Same.refl H) hp
def La(e:Same H H')(h:SqT K H a xs):SqT K H' a xs:=by
 rcases h with (h|⟨o,h⟩)|h
 .show .inl (.inl<|e _ _ h)
 .show .inl (.inr {o,e _ _ h})
 .show .inr h
def PK{n:A5}(h:n<=1000000):n<=sizeLine:=Yq h Ep
def Zk{n:A5}(h:n<=1000000):n<sizeLine:=EO h Ep
def IY(hr:Room k A):A.units+8<cLine:=EO (Nat.add_le_add_left (by decide:8<=64) _) hr.units
def Zu{α:Type}{xs:A6 α}{i:A0}{n:A5}{x:α}(hi:i=(n:A0))(h:xs[n]?=⇑x):Wy xs i=⇑x:=by
 subst hi;let hn:n<xs.f:=(Xx.S h).1
 unfold Wy PR
 ext
def IX{c A AP:Prop}[Decidable c](hc:c)(h:A):if decide c=A9 then A else AP:=by ext
def RV{c A AP:Prop}[Decidable c](hc:¬c)(h:AP):if decide c=A9 then A else AP:=by ext
def IW{c A AP:Prop}[Decidable c](hc:c)(h:AP):if (!decide c)=A9 then A else AP:=by ext
def Xl{c A AP:Prop}[Decidable c](h1:c->A)(h2:¬c->AP):if decide c=A9 then A else AP:=by
 ext
def WC{c A AP:Prop}[Decidable c](h1:c->AP)(h2:¬c->A):if (!decide c)=A9 then A else AP:=by
 ext
def bh{b:B3}{A AP:Prop}(h1:b=A9->A)(h2:b=B0->AP):if b=A9 then A else AP:=by
 ext
def CV{b:B3}{A AP:Prop}(h1:b=A9->AP)(h2:b=B0->A):if (!b)=A9 then A else AP:=by
 ext
def SqK(k:B3)(K:Ad)(H:Hp)(a:A7)(xs:A6 V):(Prop):=match k with
 |false=>SqL K H a xs
 |true=>SqT K H a xs
def SqK.same(e:Same H H')(h:SqK k K H a xs):SqK k K H' a xs:=by
 cases k with
 |false=>show e.seq h
 |true=>show La e h
def SqK.or(h:SqK k K H a xs):SqL K H a xs\/SqT K H a xs:=by
 cases k with
 |false=>show .inl h
 |true=>show .inr h
def CU(K:Ad)(tl:TE):(TI):=λσ H R=>tl σ H λx H1=>∃a,x=.ref a/\(((∃xs,SqL K H1 a xs)/\R (OZ K a) H1)\/((∃xs,SqT K H1 a xs)/\R (OY K a) H1))
def IV(hl:PE X l tl):PI X tg l (CU X.K tl):=by
 intro pins s σ H R I h;show thn (hl pins s σ H _ I h) λv s1 XB=>?_;let(x,H1,I1,r1,q1):=XB;let(a,e,q):=q1;subst e;cases r1;rcases q with ⟨⟨xs,hq⟩,q⟩|⟨⟨xs,hq⟩,q⟩
 .let⟨XX,rv,p,hz⟩:=I1.list hq;show wq p.isList ?_;exists (~~~s1),[(~~~s1)],_,_,H1,Z,I1.kept (t':=s1.toks) λb o e=>Xf _ e,bV a _,{_,Yj _ Z,Z,Z},λb hb=>?_,q;let e:b=(~~~s1):=by simpa using hb
  subst e;show I1.fpOk (XG _) (I1.hok.fresh<|XG _)
 .let⟨XX,rv,p,hz⟩:=I1.tuple hq;show wpAny_pyIter_tuple (show s1.C.IsTuple a XX.r from p) ?_;exists (~~~s1),[(~~~s1)],_,_,H1,Z,I1.kept (t':=s1.toks) λb o e=>Xf _ e,bU a _,{_,Yj _ Z,Z,Z},λb hb=>?_,q;let e:b=(~~~s1):=by simpa using hb
  subst e;show I1.fpOk (XG _) (I1.hok.fresh<|XG _)
def CT{g:TG}{tb:TS}{rj:Ends}(Pv:A5->St->Hp->Prop)(h0:Pv 0 σ H)(hl:∀i σ H,i<=xs.f->Pv i σ H->SqK k K H a xs)
  (hs:∀i x σ H,xs[i]?=⇑x->Pv i σ H->g x σ H λσ2 H2=>tb {rj with nx:=Pv<|i+1,ct:=Pv<|i+1,bk:=rj.nx} σ2 H2)(hd:∀σ H,Pv xs.f σ H->rj.nx σ H):((∃xs,SqL K H a xs)/\∃W:A5->A5->St->Hp->Prop,(∃m,W 0 m σ H)/\∀i m σ H,W i m σ H->
   ((OZ K a).stop i H/\rj.nx σ H)\/((OZ K a).go i H/\∃N:St->Hp->Prop,(∀σ' H',N σ' H'->∃m',m'<m/\W (i+1) m' σ' H')/\∀x H',(OZ K a).yld i H x H'->g x σ H' λσ2 H2=>tb {rj with nx:=N,ct:=N,bk:=rj.nx} σ2 H2))\/
  ((∃xs,SqT K H a xs)/\∃W:A5->A5->St->Hp->Prop,(∃m,W 0 m σ H)/\∀i m σ H,W i m σ H->
   ((OY K a).stop i H/\rj.nx σ H)\/((OY K a).go i H/\∃N:St->Hp->Prop,(∀σ' H',N σ' H'->∃m',m'<m/\W (i+1) m' σ' H')/\∀x H',(OY K a).yld i H x H'->g x σ H' λσ2 H2=>tb {rj with nx:=N,ct:=N,bk:=rj.nx} σ2 H2)):=by
 cases k with
 |false=>show .inl {{xs,hl 0 σ H (Qd _) h0},MT (K:=K) (a:=a) (xs:=xs) Pv h0 hl hs hd}
 |true=>show .inr {{xs,hl 0 σ H (Qd _) h0},DX (K:=K) (a:=a) (xs:=xs) Pv h0 hl hs hd}
def PairV(H:Hp)(v:V)(p:A0×A0):(Prop):=∃t,v=.ref t/\H t=⇑(.tup [.int p.1,.int p.2])
def PairsV(H:Hp)(xs:A6 V)(ps:Aa):(Prop):=xs.f=ps.f/\∀(i:A5)(p:A0×A0),ps[i]?=⇑p->∃v,xs[i]?=⇑v/\PairV H v p
def PairV.same(s:Same H H')(h:PairV H v p):PairV H' v p:=by let(t,e,q):=h;exists t,e,s _ _ q
def PairsV.same(s:Same H H')(h:PairsV H xs ps):PairsV H' xs ps:={h.1,λi p e=>by let(v,e1,q):=h.2 i p e;exists v,e1,q.Y s}
def PairsV.at(h:PairsV H xs ps){i:A5}{v:V}(e:xs[i]?=⇑v):∃p,ps[i]?=⇑p/\PairV H v p:=by
 let hi:i<xs.f:=(Xx.S e).1;let hp:i<ps.f:=by rwa[<-h.1]
 let(v',e1,q):=h.2 i ps[i] (Xv hp)
 ext
def PairsV.nil:PairsV H [] []:={Z,λi p e=>by simp at e}
def PairsV.snoc(h:PairsV H xs ps)(q:PairV H v p):PairsV H (xs++[v]) (ps++[p]):=by
 show{by rw[Xa,Xa,h.1];rfl,λi p' e=>?_};cases hi:i<ps.f
 .rw[Yu hi]at e;rw[Yu (by rwa[h.1])];show h.2 i p' e
 .let hl:i=ps.f:=by
   have:=(Xx.S e).1
   rw[Xa,YH]at this;lia
  subst hl;rw[Ys (by rw[h.1];ext),h.1,Uz]
  ext
def PairsV.drop(h:PairsV H xs ps)(n:A5):PairsV H (xs.drop n) (ps.drop n):=by show{by rw[QV,QV,h.1],λi p e=>?_};rw[JU]at e ⊢;show h.2 _ p e
def PairsV.take(h:PairsV H xs ps)(n:A5):PairsV H (xs.Q n) (ps.Q n):=by
 show{by rw[Yw,Yw,h.1],λi p e=>?_};cases hi:i<n
 .rw[cI hi]at e ⊢;show h.2 _ p e
 .rw[List.getElem?_take_eq_none (by ext)]at e;cases e
def PairsV.app(h:PairsV H xs ps)(h2:PairsV H ys qs):PairsV H (xs++ys) (ps++qs):=by
 show{by rw[Xa,Xa,h.1,h2.1],λi p e=>?_};cases hi:i<ps.f
 .rw[Yu hi]at e;rw[Yu (by rwa[h.1])];show h.2 i p e
 .rw[Ys (by ext)]at e;rw[Ys (by rw[h.1];ext),h.1];show h2.2 _ p e
def oQ:¬(("places":C0)="ties"):=by decide +kernel
def wf(n:A0)(tl:A7):(A6 (C0×V)):=XC "ties" ↑tl (XC "places" (.int n) [])
def IU(n:A0)(tl:A7):(wf n tl).U ("places":C0)=⇑(.int n):=by unfold wf;rw[Ga,Yh oQ,Ga,Yk Z]
def Ul(n:A0)(tl:A7):(wf n tl).U ("ties":C0)=some ↑tl:=by unfold wf;rw[Ga,Yk Z]
def WebAt(C:A7)(H:Hp)(w:A7)(n:A0)(ps:Aa):(Prop):=∃dx tl xs,H w=⇑(.ins C dx<|wf n tl)/\H tl=⇑(.lst xs)/\PairsV H xs ps
def WebAt.same(s:Same H H')(h:WebAt C H w n ps):WebAt C H' w n ps:=by let(dx,tl,xs,a,b,c):=h;exists dx,tl,xs,s _ _ a,s _ _ b,c.Y s
def ZA(n:A0)(ps:Aa):(Prop):=1<=n/\n<=14/\ps.f<=30/\∀p∈ps,0<=p.1/\p.1<n/\0<=p.2/\p.2<n
def oP(K:Ad)(mg:Af)(x qual:C0)(st:B8)(fs:A6 C0):(Prop):=∃C f fd,mg x=some ↑C/\Fun K "__init__" qual st f fd/\Cls K C/\Mk K C f/\∀a∈fs,NoAttr K C a
def KZ{mg:Af}{oc:B1}{od an:Option A7}{Vf:B4 (Option B1)}{kV doc pm XI ct:B1}(X:K.In h)(G:h.Ns mainGlobals mg)
  (aC:PySem.W.nsIn K mainGlobals x=⇑(some<|.ref C))(a:PySem.W.findIn K ↑C "__init__"=⇑(some<|.ref f))(i:PySem.W.isFn K ↑f=A9)
  (l:K.U f=⇑{oc,od,.func<|PySem.W.fnOf "__init__" qual (MM st) (Rt st) (Za st) .none kV doc pm an XI ct,Vf})(c:PySem.W.codeIn K XI qual=A9)(k:PySem.W.keepIn K ↑f=A9)
  (pg:PySem.W.plainGet K C Str.empty=A9)(hd:PySem.W.hasDictIn K C=A9)(po:PySem.W.plainOver K C=A9)(sa:PySem.W.findIn K ↑C "__setattr__"=⇑(some<|.builtin "object.__setattr__"))(mk:PySem.W.makesIn K C=A9)(kc:PySem.W.keepIn K ↑C=A9)
  (na:∀a∈fs,PySem.W.findIn K ↑C a=⇑none):oP K mg x qual st fs:=
 {C,f,_,JN X G aC,Dp l c k,⟨pg,hd,po,sa⟩,⟨mk,a,i,kc⟩,na}
def UR{mg:Af}{z:A0}{v:B1}(X:K.In h)(G:h.Ns mainGlobals mg)(a:PySem.W.nsIn K mainGlobals x=⇑(⇑v))(e:∃tk,v=.int z tk):∃tk,mg x=⇑(.int z tk):=by let(tk,rfl):=e;exists tk,JN X G a
def QF{x:V}{A AP:St->Hp->Prop}(h:A (σ.set i ⇑x) H):MW i x σ H λσ2 H2=>tYes σ2 H2 λb H3=>if b=A9 then A σ2 H3 else AP σ2 H3:=
 (show if true=A9 then A (σ.set i<|some x) H else AP (σ.set i<|some x) H from UT h)
def nm{x:V}{Q:St->Hp->Prop}(h:Q (σ.set i ⇑x) H):MW i x σ H Q:=h
section
variable{K:Ad}{a:A7}{xs:A6 V}{g:TG}{tt:TT}{te:TE}{o:A5}{fr:A6 A5}{σ:St}{H:Hp}{Q:VK}
abbrev IT(Pv:A5->A6 V->Hp->Prop)(g:TG)(tt:TT)(te:TE)(o:A5)(fr:A6 A5)(σ:St)(i:A5)(x:V)(ys:A6 V)(H:Hp):Prop:=
 ∀S:A5->A6 V->Hp->Prop,(∀ys H,Pv (i+1) ys H->S (i+1) ys H)->g x (σC o fr σ) H λσ2 H2=>tt σ2 H2 λb H3=>if b=A9 then te σ2 H3 λy H4=>S (i+1) (ys++[y]) H4 else S (i+1) ys H3
def Wl(Pv:A5->A6 V->Hp->Prop)(h0:Pv 0 [] H)(hz:xs.f<sizeLine)(hl:∀i ys H,i<=xs.f->Pv i ys H->SqL K H a xs/\ys.f<=i)
  (hs:∀i x ys H,xs[i]?=⇑x->Pv i ys H->IT Pv g tt te o fr σ i x ys H)(hd:∀ys H,Pv xs.f ys H->∀p,H p=A8->Q ↑p (upd H p<|.lst ys)):MJ (OZ K a) g tt te o fr σ H Q:=by
 exists λi m ys H=>m=xs.f-i/\i<=xs.f/\Pv i ys H,{xs.f,Eo,Qd _,h0},?_;rintro i m ys H ⟨rfl,hi,p⟩;let(q,hy):=hl i ys H hi p;cases Xj:i<xs.f
 .show .inr {{xs,xs[i],q,by simp[Xj]},J,λx H' zz=>?_};let(e,y):=zz;subst e;let hx:=y xs q
  show hs i x ys _ hx p (λj ys H=>∃m',m'<xs.f-i/\m'=xs.f-j/\j<=xs.f/\Pv j ys H) λys H p'=>{xs.f-(i+1),D,Z,Xj,p'}
 .let e:i=xs.f:=J;subst e;show .inl {{xs,q,XG _},J,hd ys H p}
def vy(Pv:A5->A6 V->Hp->Prop)(h0:Pv 0 [] H)(hz:xs.f<sizeLine)(hl:∀i ys H,i<=xs.f->Pv i ys H->SqT K H a xs/\ys.f<=i)
  (hs:∀i x ys H,xs[i]?=⇑x->Pv i ys H->IT Pv g tt te o fr σ i x ys H)(hd:∀ys H,Pv xs.f ys H->∀p,H p=A8->Q ↑p (upd H p<|.lst ys)):MJ (OY K a) g tt te o fr σ H Q:=by
 exists λi m ys H=>m=xs.f-i/\i<=xs.f/\Pv i ys H,{xs.f,Eo,Qd _,h0},?_;rintro i m ys H ⟨rfl,hi,p⟩;let(q,hy):=hl i ys H hi p;cases Xj:i<xs.f
 .show .inr {{xs,xs[i],q,by simp[Xj]},D,λx H' zz=>?_};let(e,y):=zz;subst e;let hx:=y xs q
  show hs i x ys _ hx p (λj ys H=>∃m',m'<xs.f-i/\m'=xs.f-j/\j<=xs.f/\Pv j ys H) λys H p'=>{xs.f-(i+1),D,Z,Xj,p'}
 .let e:i=xs.f:=D;subst e;show .inl {{xs,q,XG _},D,hd ys H p}
def CS(Pv:A5->A6 V->Hp->Prop)(h0:Pv 0 [] H)(hz:xs.f<sizeLine)(hl:∀i ys H,i<=xs.f->Pv i ys H->SqK k K H a xs/\ys.f<=i)
  (hs:∀i x ys H,xs[i]?=⇑x->Pv i ys H->IT Pv g tt te o fr σ i x ys H)(hd:∀ys H,Pv xs.f ys H->∀p,H p=A8->Q ↑p (upd H p<|.lst ys)):
  ((∃xs,SqL K H a xs)/\MJ (OZ K a) g tt te o fr σ H Q)\/((∃xs,SqT K H a xs)/\MJ (OY K a) g tt te o fr σ H Q):=by
 cases k with
 |false=>show .inl {{xs,(hl 0 [] H (Qd _) h0).1},Wl Pv h0 hz hl hs hd}
 |true=>show .inr {{xs,(hl 0 [] H (Qd _) h0).1},vy Pv h0 hz hl hs hd}
def IS(Pv:A5->A6 V->Hp->Prop)(h0:Pv 0 [] H)(hz:n<sizeLine)(hl:∀i ys H,i<=n->Pv i ys H->ys.f<=i)
  (hs:∀i ys H,i<n->Pv i ys H->IT Pv g tt te o fr σ i (.int<|lo+i) ys H)(hd:∀ys H,Pv n ys H->∀p,H p=A8->Q ↑p (upd H p<|.lst ys)):MJ (Li lo n) g tt te o fr σ H Q:=by
 exists λi m ys H=>m=n-i/\i<=n/\Pv i ys H,{n,Eo,Qd _,h0},?_;rintro i m ys H ⟨rfl,hi,p⟩;let hy:=hl i ys H hi p
 cases Xj:i<n
 .show .inr {Xj,J,λx H' zz=>?_};let(e,y):=zz;subst e;subst y;show hs i ys _ Xj p (λj ys H=>∃m',m'<n-i/\m'=n-j/\j<=n/\Pv j ys H) λys H p'=>{n-(i+1),D,Z,Xj,p'}
 .let e:i=n:=J;subst e;show .inl {XG _,J,hd ys H p}
end
def FR{α:Type}{l:A6 α}(h:l.Nodup){i j:A5}{x:α}(a:l[i]?=⇑x)(b:l[j]?=⇑x):i=j:=by let(h1,e1):=Xx.S a;let(h2,e2):=Xx.S b;show(List.getElem_inj h).S (e1.l e2.symm)
def Wf{α:Type}{l:A6 α}{x d:α}(h:l[i]?=⇑x):l.R i d=x:=by ext
def IQ{α:Type}{l:A6 α}{x:α}(h:l.Nodup)(hx:x∉l):(l++[x]).Nodup:=by grind
def bg{g:TG}{tb:TS}{rj:Ends}(Pv:A5->St->Hp->Prop)(h0:Pv 0 σ H)(hl:∀i σ H,i<=xs.f->Pv i σ H->SqL K H a xs)
  (hs:∀(i:A5) x σ H (p:A7),H p=A8->xs[i]?=⇑x->Pv i σ H->g ↑p σ (upd H p<|.tup [.int i,x]) λσ2 H2=>tb {rj with nx:=Pv<|i+1,ct:=Pv<|i+1,bk:=rj.nx} σ2 H2)(hd:∀σ H,Pv xs.f σ H->rj.nx σ H):
  ∃W:A5->A5->St->Hp->Prop,(∃m,W 0 m σ H)/\∀i m σ H,W i m σ H->
   ((Lb K a).stop i H/\rj.nx σ H)\/((Lb K a).go i H/\∃N:St->Hp->Prop,(∀σ' H',N σ' H'->∃m',m'<m/\W (i+1) m' σ' H')/\∀x H',(Lb K a).yld i H x H'->g x σ H' λσ2 H2=>tb {rj with nx:=N,ct:=N,bk:=rj.nx} σ2 H2):=by
 exists λi m σ H=>m=xs.f-i/\i<=xs.f/\Pv i σ H,{xs.f,Eo,Qd _,h0},?_;rintro i m σ H ⟨rfl,hi,p⟩;let q:=hl i σ H hi p
 cases Xj:i<xs.f
 .show .inr {{xs,xs[i],q,by simp[Xj]},Pv<|i+1,λσ' H' p'=>{xs.f-(i+1),D,Z,Xj,p'},λx H' zz=>?_};let(T,y,hT,ex,eH,hy):=zz;subst ex eH;show hs i y σ H T hT (hy xs q) p
 .let e:i=xs.f:=J;subst e;show .inl {{xs,q,XG _},hd σ H p}
def oO{i:A0}(h0:0<=i)(h1:i.j<=xs.f):Xi xs ⇑i none=xs.drop i.j:=by
 let e:HT.Up xs.f 0 ⇑i=i.j:=by change(if i<0 then (i+xs⁻¹).j else min i.j xs.f)=i.j;rw[Yh (by ext)];lia
 unfold Xi;rw[e,HT.VN];show YF (by ext)
def CQ{i:A0}(h0:0<=i)(h1:i.j<=xs.f):Xi xs none ⇑i=xs.Q i.j:=by
 let e:HT.Up xs.f xs.f ⇑i=i.j:=by change(if i<0 then (i+xs⁻¹).j else min i.j xs.f)=i.j;rw[Yh (by ext)];grind
 unfold Xi;rw[e,HT.VN,Pf,Nb]
end My
namespace L2
open PySem PySem.Spec PyProof.Rows
section
variable{X:Cx}{a o e:B5}{es:A6 B5}{ta to:TE}{t:TA}{pos:Pos}
def Zc(K:Ad)(h:X.K=K:=by rfl):FW X (rIxL K):=h▸qg
def ZH(K:Ad)(h:X.K=K:=by rfl):FW X (rIxT K):=h▸qf
def ZT(K:Ad)(h:X.K=K:=by rfl):vD X (rSlL K):=h▸qa
def FP(K:Ad)(h:X.K=K:=by rfl):WD X (compareOp .In) (λx y H Q=>∃p xs,y=.ref p/\(SqL K H p xs\/SqT K H p xs)/\SU x=A9/\xs.all SU=A9/\Q (.bl<|Ld x xs) H):=h▸Zv9
def FO(K:Ad)(h:X.K=K:=by rfl):WD X (compareOp .NotIn) (λx y H Q=>∃p xs,y=.ref p/\(SqL K H p xs\/SqT K H p xs)/\SU x=A9/\xs.all SU=A9/\Q (.bl<|!Ld x xs) H):=h▸Zb5
def oN(K:Ad)(hu:X.A.units+8<cLine)(h:X.K=K:=by rfl):WD X (compareOp .Eq) (rEqD K false):=h▸oV hu
def oM(K:Ad)(hu:X.A.units+8<cLine)(h:X.K=K:=by rfl):WD X (compareOp .NotEq) (rEqD K true):=h▸oU hu
def oK(K:Ad)(h:X.K=K:=by rfl):WD X (binaryOp .Add) (DF K):=h▸qi
def Zo(K:Ad)(he:PE X e ta)(hb:attributeBase e f X.X (eval e X.X)=eval e X.X)(h:X.K=K:=by rfl):PE X (.Attribute e f pos) (DN K ta f):=h▸qw he hb
def Zi(K:Ad)(h:X.K=K:=by rfl):Vv X (.builtin "len") (yR0 K):=h▸Zx5
def FN(K:Ad)(h:X.K=K:=by rfl):Vv X (.type "list") (λxs H Q=>∃p ys,xs=[.ref p]/\(SqL K H p ys\/SqT K H p ys)/\∀l,H l=A8->Q ↑l (upd H l<|.lst ys)):=h▸Zv5
def ZS(K:Ad)(h:X.K=K:=by rfl):Vv X (.type "tuple") (λxs H Q=>∃p ys,xs=[.ref p]/\((SqL K H p ys/\∀l,H l=A8->Q ↑l (upd H l<|.tup ys))\/(SqT K H p ys/\Q ↑p H))):=h▸ZL4
def bb(K:Ad)(hc:X.calm=A9)(h:X.K=K:=by rfl):Vv X (.builtin "sum") (λxs H Q=>∃(p:A7)(ns:Ac),xs=[.ref p]/\SqL K H p (ns.G V.int)/\Q (.int ns.sum) H):=h▸ZM4 hc
def oJ(K:Ad)(hc:X.calm=A9)(h:X.K=K:=by rfl):Vv X (.type "set") (λxs H Q=>∃p ns,xs=[.ref p]/\SqL K H p (ns.G V.int)/\ns.f+1<scanBound/\
  ∀l,H l=A8->Q ↑l (upd H l (.set (λk=>(seen ns).any (· == k)) (seen ns).f))):=h▸ZN4 hc
def ZD(K:Ad)(hl:PE X l tl)(h:X.K=K:=by rfl):PI X tg l (DZ K tl):=h▸qN hl
def vw(K:Ad)(hl:PE X l tl)(h:X.K=K:=by rfl):PI X tg l (DY K tl):=h▸qM hl
def Uk(K:Ad)(hl:PE X l tl)(h:X.K=K:=by rfl):PI X tg l (My.CU K tl):=h▸My.IV hl
def FL(K:Ad){elts:A6 B5}{x1:A5}{Sa:Pos}{a:B5}{ta:TA}{p pos:Pos}(hg:Gl X "enumerate")(hm:X.mg "enumerate"=A8)(ha:PA X [a] ta)(hs:starEach [a] X.X=[(false,eval a X.X)]:=by rfl)(h:X.K=K:=by rfl):
  PI X (.Tuple elts x1 Sa) (.Call (.Name "enumerate" p) [a] [] pos) (Dc K ta):=h▸o5 hg hm ha hs
def Uj(K:Ad){es:A6 B5}{k:A5}{t:Jy}{n:A5}(hc:X.calm=A9)(ht:Eg X es t)
  (hn:(assignEach es X.X).f=n:=by rfl)(WE:(assignEach es X.X).findIdx? (·.1)=A8:=by rfl)(h:X.K=K:=by rfl):PG X (.Tuple es k pos) (gTup K n t):=h▸qT hc ht hn WE
def UQ(K:Ad){name:C0}{apos WZ:Pos}{T id:B2}{r:V->A6 V->Hp->VK->Prop}(pa:PlainAttrs T)(slot:Slot T name id)(Jh:typeOf (.builtin id)=pure (.type "method_descriptor"))(hm:vC X id r)(ho:PE X o to)(ha:PA X (e::es) t)
  (UW:attributeBase o name X.X (eval o X.X)=eval o X.X:=by rfl)
  (Jg:((backTo WZ<|starEach (e::es) X.X).all (λx=>!x.1)&&(backToKw WZ<|keywordEach [] X.X).all (λx=>x.1.isSome)
   && decide ((e::es).f+([]:A6 Keyword).f+(if ([]:A6 Keyword).isEmpty then 0 else 1)<30))=A9:=by rfl)
  (UU:(apos.endLine == WZ.line)=A9:=by rfl)(hs:starEach (e::es) X.X=(false,eval e X.X)::starEach es X.X:=by rfl)(OW:(backTo WZ<|starEach es X.X).any (·.1)=B0:=by rfl)(h:X.K=K:=by rfl):
  PE X (.Call (.Attribute o name apos) (e::es) [] WZ) (bD K T r to t):=h▸p6 pa slot Jh hm ho ha UW Jg UU hs OW
def oH(K:Ad){name:C0}{apos WZ:Pos}{T id:B2}{r:V->A6 V->Hp->VK->Prop}(pa:PlainAttrs T)(slot:Slot T name id)(Jh:typeOf (.builtin id)=pure (.type "method_descriptor"))(hm:vC X id r)(ho:PE X o to)
  (UW:attributeBase o name X.X (eval o X.X)=eval o X.X:=by rfl)(UU:(apos.endLine == WZ.line)=A9:=by rfl)(h:X.K=K:=by rfl):PE X (.Call (.Attribute o name apos) [] [] WZ) (Dy K T r to):=h▸p7 pa slot Jh hm ho UW UU
end
end L2
namespace My
abbrev mk(m:Ac)(i:A5):A0:=m.R i 0
def pm(m:Ac)(a b:A5):(Ac):=
 if min (mk m a) (mk m b)<max (mk m a) (mk m b) then m.G (λk=>if k=max (mk m a) (mk m b) then min (mk m a) (mk m b) else k) else m
def lm(m:Ac)(a b:A5):(Ac):=
 if mk m a≠mk m b then m.G (λk=>if k=mk m b then mk m a else k) else m
def SameP(m l:Ac):(Prop):=m.f=l.f/\∀i j,i<m.f->j<m.f->(mk m i=mk m j↔mk l i=mk l j)
def vt(m:Ac)(f:A0->A0)(h:i<m.f):mk (m.G f) i=f (mk m i):=by
 ext
def CO(m:Ac)(a b:A5):(pm m a b).f=m.f:=by unfold pm;split<;>simp
def vq(m:Ac)(a b:A5):(lm m a b).f=m.f:=by unfold lm;grind
def FK(m:Ac)(a b i j:A5):(Prop):=mk m i=mk m j\/((mk m i=mk m a\/mk m i=mk m b)/\(mk m j=mk m a\/mk m j=mk m b))
def IP{x y p q:A0}:((if x=q then p else x)=(if y=q then p else y))↔(x=y\/((x=p\/x=q)/\(y=p\/y=q))):=by grind
def oG{x y p:A0}:x=y↔(x=y\/((x=p\/x=p)/\(y=p\/y=p))):={.inl,λh=>h.elim id λh=>(h.1.elim id id).l (h.2.elim id id).symm}
def oE(hi:i<m.f)(hj:j<m.f):mk (pm m a b) i=mk (pm m a b) j↔FK m a b i j:=by
 unfold pm FK;split
 .rw[vt _ _ hi,vt _ _ hj];cases vp:mk m a<mk m b
  .rw[r6 (QL vp),Int.max_eq_right (QL vp)];show IP
  .rw[Int.min_eq_right (Gi.S vp),Int.max_eq_left<|Gi.S vp,Or.comm (a:=mk m i=mk m a),Or.comm (a:=mk m j=mk m a)];show IP
 .rename_i h;let hh:=Gi.S h
  rw[show mk m a=mk m b from Int.le_antisymm (Ez (Int.le_max_left _ _)<|Ez hh<|Int.min_le_right _ _) (Ez (Int.le_max_right _ _)<|Ez hh<|Int.min_le_left _ _)];show oG
def CN(hi:i<m.f)(hj:j<m.f):mk (lm m a b) i=mk (lm m a b) j↔FK m a b i j:=by
 unfold lm FK;split
 .rw[vt _ _ hi,vt _ _ hj];show IP
 .ext
def SameP.step{m l:Ac}(s:SameP m l){a b:A5}(ha:a<m.f)(hb:b<m.f):SameP (pm m a b) (lm l a b):=by let(hl,h):=s;show{by rw[CO,vq,hl],λi j hi hj=>?_};rw[CO]at hi hj;rw[oE hi hj,CN (by ext) (by ext)];unfold FK;rw[h i j hi hj,h i a hi ha,h i b hi hb,h j a hj ha,h j b hj hb]
def Xu(n:A5)(es:A6 (A5×A5)):(Ac):=es.foldl (λm e=>pm m e.1 e.2) ((List.range n).G λ(i:A5)=>(i:A0))
def WW(n:A5)(es:A6 (A5×A5)):(Ac):=es.foldl (λm e=>lm m e.1 e.2) ((List.range n).G λ(i:A5)=>(i:A0))
def ZF(n:A5)(es:A6 (A5×A5)):(Xu n es).f=n:=by
 have:∀(es:A6 (A5×A5))(m:Ac),(es.foldl (λm e=>pm m e.1 e.2) m).f=m.f:=by
  intro es
  induction es with
  |nil=>intro m;rfl
  |cons e es ih=>intro m;rw[wm,ih,CO]
 unfold Xu;ext
def ZG(n:A5)(es:A6 (A5×A5)):(WW n es).f=n:=by
 have:∀(es:A6 (A5×A5))(m:Ac),(es.foldl (λm e=>lm m e.1 e.2) m).f=m.f:=by
  intro es
  induction es with
  |nil=>intro m;rfl
  |cons e es ih=>intro m;rw[wm,ih,vq]
 unfold WW;ext
def oB(n:A5)(es:A6 (A5×A5))(e:A5×A5):Xu n (es++[e])=pm (Xu n es) e.1 e.2:=by unfold Xu;ext
def MB(n:A5)(es:A6 (A5×A5))(e:A5×A5):WW n (es++[e])=lm (WW n es) e.1 e.2:=by unfold WW;ext
def vo:∀{es:A6 (A5×A5)},(∀e∈es,e.1<n/\e.2<n)->SameP (Xu n es) (WW n es):=by
 intro es;let key:∀(es:A6 (A5×A5))(m l:Ac),SameP m l->m.f=n->(∀e∈es,e.1<n/\e.2<n)->SameP (es.foldl (λm e=>pm m e.1 e.2) m) (es.foldl (λm e=>lm m e.1 e.2) l):=by
  intro es
  induction es with
  |nil=>intro m l s _ _;show s
  |cons e es ih=>
   intro m l s hm he;let h1:=he e Ya
   show ih _ _ (s.step (by ext)<|by ext) (by rwa[CO]) λx hx=>he x (Yf _ hx)
 show key es _ _ {Z,λi j _ _=>Iff.rfl} Eo
def VM(g:A6 (A0×Ac))(place k:A0):(A6 (A0×Ac)):=
 if k∈g.G (·.1) then g.G (λkv=>if kv.1=k then (kv.1,kv.2++[place]) else kv) else g++[(k,[place])]
def Xq(M:Ac):(A5->A6 (A0×Ac))
 |0=>[]
 |i+1=>VM (Xq M i) (i:A0) (mk M i)
def IM(M:Ac):(A6 (A0×Ac)):=Xq M M.f
def vn(g:A6 (A0×Ac))(p k:A0):(VM g p k).G (·.1)=if k∈g.G (·.1) then g.G (·.1) else g.G (·.1)++[k]:=by
 unfold VM;split
 .rw[Nd];show Vp λkv _=>?_;lia
 .simp
def oA(h:(g.G (·.1)).Nodup):((VM g p k).G (·.1)).Nodup:=by rw[vn];grind
def oz(M:Ac):∀i,((Xq M i).G (·.1)).Nodup
 |0=>by simp[Xq]
 |i+1=>oA (oz M i)
def ba(M:Ac):∀i j,j<i->mk M j∈(Xq M i).G (·.1)
 |0,j,h=>absurd h (VW j)
 |i+1,j,h=>by
  change mk M j∈(VM (Xq M i) (i:A0)<|mk M i).G (·.1);rw[vn];cases hj:j<i
  .have:=ba M i j hj
   grind
  grind
def vm(h:j<i):mk M j∈(Xq M i).G (·.1):=ba M i j h
def vk(M:Ac):∀i k,k∈(Xq M i).G (·.1)->∃j,j<i/\mk M j=k
 |0,k,h=>by simp[Xq]at h
 |i+1,k,h=>by
  let h:k∈(VM (Xq M i) (i:A0)<|mk M i).G (·.1):=h;rw[vn]at h;let old:k∈(Xq M i).G (·.1)->∃j,j<i+1/\mk M j=k:=λq=>by let(j,hj,e):=vk M i k q;exists j,J,e
  grind
def CM(hM:1<=M.f):(IM M).f=1↔∀i j,i<M.f->j<M.f->mk M i=mk M j:=by
 unfold IM;constructor
 .intro h i j hi hj;let(kv,e):=cz.S h;let h1:=vm (M:=M) hi
  let h2:=vm (M:=M) hj;grind
 .intro h;let nd:=oz M M.f
  let h0:=vm (M:=M) (i:=M.f) (j:=0) J;generalize hg:(Xq M M.f)=g at *
  match g,hg with
  |[],_=>simp at h0
  |[kv],_=>rfl
  |a::b::r,hg=>
   exfalso;let(i,hi,e1):=vk M M.f a.1 D
   let(j,hj,e2):=vk M M.f b.1 D;grind
def SameP.one(s:SameP m l):(∀i j,i<m.f->j<m.f->mk m i=mk m j)↔(∀i j,i<l.f->j<l.f->mk l i=mk l j):=by
 let(hl,h):=s;rw[<-hl];constructor
 .intro q i j hi hj;show(h i j hi hj).S (q i j hi hj)
 .intro q i j hi hj;show(h i j hi hj).mpr (q i j hi hj)
def oy:∀{i:A5}{kv:A0×Ac},kv∈Xq M i->kv.2.f<=i
 |0,kv,h=>by simp[Xq]at h
 |i+1,kv,h=>by
  unfold Xq VM at h;split at h
  .let⟨kv0,h0,e⟩:=YC.S h;let ih:=oy h0
   grind
  .rcases Xn.S h with h0|h0
   .let ih:=oy h0;lia
   ext
end My
namespace My
open PySem L2 PyProof.Rows
def ox(val:A5->A0):∀i,(firstMet val i).Nodup
 |0=>List.nodup_nil
 |i+1=>by
  rw[Pd];unfold step_dedup;split
  .show ox val i
  .rename_i h;show IQ (ox val i) λz=>h ?_
   ext
def CL(val:A5->A0):∀i (k:A0),k∈firstMet val i↔∃j,j<i/\val j=k
 |0,k=>by
  rw[firstMet_zero]
  ext
 |i+1,k=>by
  rw[Pd];let ih:=CL val i k
  unfold step_dedup;grind
def ou(h:1<=ns.f):(L2.seen ns).f=1↔∀i j,i<ns.f->j<ns.f->mk ns i=mk ns j:=by
 let nd:=ox (λi=>ns.R i 0) ns.f;let mm:=CL (λi=>ns.R i 0) ns.f
 unfold L2.seen;generalize firstMet (λi=>ns.R i 0) ns.f=l at *;constructor
 .intro h1 i j hi hj;let(x,e):=cz.S h1;let a:=(mm<|ns.R i 0).mpr ⟨i,hi,Z⟩
  let b:=(mm<|ns.R j 0).mpr ⟨j,hj,Z⟩;grind
 .intro q;let h0:=(mm<|ns.R 0 0).mpr ⟨0,J,Z⟩
  match l,nd,mm,h0 with
  |[],_,_,h0=>cases h0
  |[x],_,_,_=>rfl
  |x::y::r,nd,mm,_=>
   exfalso;let(i,hi,e1):=(mm x).S Eo
   let(j,hj,e2):=(mm y).S Eo;grind
def MA(z:A0)(l:Ac):Ld (.int z) (IL l)=decide (z∈l):=by
 unfold Ld;rw[List.any_map];rw[Nj,EG,VR];constructor
 .rintro⟨y,hy,e⟩;let e':y=z:=eq_of_beq e
  ext
 .intro h;exists z,h,EI z
def Mz(l:Ac):(IL l).all SU=A9:=by rw[Na,Pm];intro x _;rfl
def ZO:decide (V.int a=V.int b)=decide (a=b):=by
 ext
end My
namespace My
open PySem L2
def IsSet(m:A5)(ns:Ac):(Prop):=∀i z,ns[i]?=⇑z->0<=z/\z<(m:A0)/\∀y,i≠0->ns[i-1]?=⇑y->y<z
def XR(ps:Aa)(ns:Ac):(A6 (A5×A5)):=ns.G λz=>((ps.R z.j (0,0)).1.j,(ps.R z.j (0,0)).2.j)
def aZ{ns:Ac}{z:A0}(h:ns[i]?=⇑z):XR ps (ns.Q (i+1))=XR ps (ns.Q i)++[((ps.R z.j (0,0)).1.j,(ps.R z.j (0,0)).2.j)]:=by unfold XR;rw[YB,h];simp
def QE(h:i<m.f):m[i]?=⇑(mk m i):=by
 ext
def aY(n:A0):Tx 0 n=(List.range n.j).G λ(i:A5)=>(i:A0):=by
 unfold Tx
 ext
def Ui(g:A6 (A0×Ac))(as:A6 A7):(A6 (Key×V)):=List.zipWith (λkv a=>((Sum.inl kv.1:Key),V.ref a)) g as
def Zs8(h:as.f=g.f):(Ui g as).f=g.f:=by unfold Ui;ext
def CK:∀{g:A6 (A0×Ac)}{as:A6 A7},as.f=g.f->(Ui g as).G (·.2)=as.G V.ref
 |[],[],_=>rfl
 |[],_::_,h=>by simp at h
 |_::_,[],h=>by simp at h
 |kv::g,a::as,h=>by change V.ref a::(Ui g as).G (·.2)=V.ref a::as.G V.ref;rw[CK (Nf h)]
def aX:∀{g g':A6 (A0×Ac)}{as:A6 A7},g.G (·.1)=g'.G (·.1)->Ui g as=Ui g' as
 |[],[],_,_=>rfl
 |[],_::_,_,h=>by simp at h
 |_::_,[],_,h=>by simp at h
 |kv::g,vj::g',[],_=>rfl
 |kv::g,vj::g',a::as,h=>by
  rw[Pj,Pj,List.cons.injEq]at h;change((Sum.inl kv.1:Key),V.ref a)::Ui g as=((Sum.inl vj.1:Key),V.ref a)::Ui g' as
  rw[h.1,aX h.2]
def aW:∀{g:A6 (A0×Ac)}{as:A6 A7}{kv:A0×Ac}{a:A7},as.f=g.f->Ui (g++[kv]) (as++[a])=Ui g as++[((Sum.inl kv.1:Key),V.ref a)]
 |[],[],_,_,_=>rfl
 |[],_::_,_,_,h=>by simp at h
 |_::_,[],_,_,h=>by simp at h
 |x::g,y::as,kv,a,h=>by change _::Ui (g++[kv]) (as++[a])=_::(Ui g as++_);rw[aW (Nf h)]
def oq:∀{g:A6 (A0×Ac)}{as:A6 A7}{k:A0},as.f=g.f->
  (Wt (Ui g as) (Sum.inl k:Key)=A8/\k∉g.G (·.1))\/∃(j:A5)(kv:A0×Ac)(a:A7),g[j]?=⇑kv/\as[j]?=⇑a/\kv.1=k/\Wt (Ui g as) (Sum.inl k:Key)=some ↑a
 |[],[],k,_=>.inl ⟨Z,Eo⟩
 |[],_::_,_,h=>by simp at h
 |_::_,[],_,h=>by simp at h
 |kv::g,a::as,k,h=>by
  cases e:kv.1=k
  .show .inr {0,kv,a,Z,Z,e,?_};change Wt (((Sum.inl kv.1:Key),V.ref a)::Ui g as) _=_
   rw[pS (by rw[e])]
  .let e':¬((Sum.inl kv.1:Key)=Sum.inl k):=λz=>e (Sum.inl.inj z);let ev:Wt (Ui (kv::g)<|a::as) (Sum.inl k:Key)=Wt (Ui g as) (Sum.inl k:Key):=pR (p:=((Sum.inl kv.1:Key),V.ref a)) e'
   rcases oq (g:=g) (as:=as) (k:=k) (Nf h) with ⟨h1,h2⟩|⟨j,vj,a',h1,h2,h3,h4⟩
   .grind
   .show .inr {j+1,vj,a',by simpa using h1,by simpa using h2,h3,by rwa[ev]}
structure GrpAt(H0 H:Hp)(g:A6 (A0×Ac))(as:A6 A7):Prop where
 len:as.f=g.f
 nd:as.Nodup
 at_:∀(i:A5)(kv:A0×Ac)(a:A7),g[i]?=⇑kv->as[i]?=⇑a->H a=⇑(.lst<|IL kv.2)
 new:∀a∈as,H0 a=A8
def GrpAt.same(s:Same H H')(h:GrpAt H0 H g as):GrpAt H0 H' g as:={h.len,h.nd,λi kv a e1 e2=>s _ _<|h.at_ i kv a e1 e2,h.new}
def GrpAt.mem(h:GrpAt H0 H g as){a:A7}(ha:a∈as):∃l,H a=⇑(.lst l):=by
 let(i,hi,e):=QM ha;let hg:i<g.f:=by rwa[<-h.len]
 exists _,h.at_ i g[i] a (Xv hg)<|by ext
def IsSet.all(h:IsSet m ns):∀z∈ns,0<=z/\z<(m:A0):=λz hz=>by let(i,hi,e):=QM hz;let(a,b,_):=h i z (by ext);exists a,b
def IsSet.nil(m:A5):IsSet m []:=λi z e=>by simp at e
def IsSet.up(h:IsSet m ns):IsSet (m+1) ns:=λi z e=>by let(a,b,c):=h i z e;exists a,rF,c
def IsSet.snoc(h:IsSet m ns):IsSet (m+1) (ns++[(m:A0)]):=λi z e=>by
 cases hi:i<ns.f
 .rw[Yu hi]at e;let(a,b,c):=h i z e;grind
 .let hl:i=ns.f:=by
   have:=(Xx.S e).1
   rw[Xa,YH]at this;lia
  subst hl;rw[Ys (XG _),Uz]at e;let e:(m:A0)=z:=Yn e
  subst e;show{by ext,J,λy h0 ey=>?_};rw[Yu J]at ey;show(h _ y ey).2.1
def IsSet.len:∀{ns:Ac},IsSet m ns->ns.f<=m:=λ{ns} h=>by
 let key:∀(i:A5)(z:A0),ns[i]?=⇑z->(i:A0)<=z:=by
  intro i
  induction i with
  |zero=>intro z e;show(h 0 z e).1
  |succ i ih=>
   intro z e;let hi:i<ns.f:=by have:=(Xx.S e).1;lia
   let e2:ns[i]?=⇑ns[i]:=Xv hi
   have:=ih _ e2
   have:=(h (i+1) z e).2.2 ns[i] J (by ext)
   lia
 cases h0:ns.f=0
 .ext
 .let e:ns[ns.f-1]?=⇑(ns[ns.f-1]'(by lia)):=Xv _;let a:=key _ _ e
  let b:=(h _ _ e).2.1;lia
end My
namespace L2
open PySem PySem.Spec PyProof.Rows
section
variable{X:Cx}
def oo(K:Ad):(V->A6 V->Hp->VK->Prop):=λx vs H Q=>∃(p:A7)(ns:Ac)(z:A0)(j:A5),x=.ref p/\vs=[.int z]/\SqL K H p (ns.G V.int)/\ns[j]?=⇑z/\(∀i,i<j->ns[i]?≠⇑z)/\Q (.int j) H
def ZC9(K:Ad)(h:X.K=K:=by rfl):OV X "list.index" (oo K):=by
 subst h;intro pins s σ H x vs v us Q I rx rv h;let(p,ns,z,j,rfl,rfl,hq,hj,Sx,q):=h;cases rx;let(u,rfl,t,rfl):=rv.one;let(XX,r,(o,n,e,hc,hd,IK),hz):=I.list hq;let hl:XX.f=ns.f:=by rw[<-r.f,Xr]
 let RU:j<ns.f:=(Xx.S hj).1;let hsz:sizeLine=16777216:=Rz
 rw[Xr]at hz;let(oc,od,om,Vf):=o;subst hc IK;let at_:∀(i:A5)(hi:i<XX.f),∃tk,XX[i]=.int (ns[i]'(by ext)) tk:=λi hi=>by
  let(x,ex,rx):=r.at hi;rw[Yi,Xv J]at ex;let ex:V.int (ns[i]'(by lia))=x:=Yn ex
  subst ex;show rx
 show Pg rR {_,e,Z} rZ (JD _ _) (so p XX.r n od Vf (.int z t) (λy=>SS (.int z) y) j (by ext) J ?_ ?_) {e,λy hy=>?_,?_}
 .let⟨tk,e1⟩:=at_ j (by ext);let e2:ns[j]'(by ext)=z:=by rw[Xv RU]at hj;show Yn hj
  let e3:XX.r[j]'(by ext)=.int z tk:=by rw[<-e2];simpa using e1
  rw[e3];show EI z
 .intro m hm oj;let KY:m<XX.f:=by rwa[YJ]at hm
  let(tk,e1):=at_ m KY;let e3:XX.r[m]'hm=.int (ns[m]'(by omega)) tk:=by simpa using e1
  rw[e3];let XJ:=Sx m oj
  rw[Xv rF]at XJ;let IJ:ns[m]'(by omega)≠z:=λw=>XJ (YI some w)
  show JB IJ
 .show FV (x:=.int z) ⟨t,Z⟩ Z r ?_ y (by simpa using hy);rw[Na,Pm];intro _ _;rfl
 .exists .int j,H,I.tok _,{_,Z},q
def ZP6{XX:B4 B1}{bs:A6 B3}(h:∀(i:A5)(v:B1),XX[i]?=⇑v->∃b,bs[i]?=⇑b/\v=.bool b):TruthOf prog w A (λi v=>XX[i]?=⇑v) (λi=>bs.R i false):=by
 intro i v s Q E hP hQ;let(b,eb,rfl):=h i v hP;let hQ:Q (bs.R i false) s:=hQ
 rw[Yb,eb]at hQ;show Pn hQ
def oh(bs:A6 B3):(List.range bs.f).any (λi=>bs.R i false)=bs.any id:=by
 rw[Nj,EG,EG];constructor
 .rintro⟨i,hi,e⟩;let hi:=YX.S hi
  rw[Yb,Xv hi]at e;exists _,JS hi,e
 .rintro⟨b,hb,e⟩;let(i,hi,ei):=QM hb;exists i,YX.mpr hi,?_
  ext
def og{bs:A6 B3}(r:Vals (bs.G V.bl) XX):∀(i:A5)(v:B1),XX.r[i]?=⇑v->∃b,bs[i]?=⇑b/\v=.bool b:=λi v e=>by
 let e:XX[i]?=⇑v:=by simpa using e
 let hi:i<XX.f:=(Xx.S e).1;let(x,ex,rx):=r.at hi;rw[Yi]at ex;cases eb:bs[i]? with
 |none=>ext
 |some b=>
  rw[eb]at ex;let ex:V.bl b=x:=Yn ex
  subst ex;rw[Xv hi]at e;let e:XX[i]=v:=Yn e
  rw[e]at rx;exists b,Z,rx
def oe(K:Ad)(hc:X.calm=A9)(h:X.K=K:=by rfl):Vv X (.builtin "any") (λxs H Q=>∃(p:A7)(bs:A6 B3),xs=[.ref p]/\SqL K H p (bs.G V.bl)/\Q (.bl<|bs.any id) H):=by
 subst h;intro pins s σ H xs us Q I r h;let(p,bs,rfl,hq,q):=h;let(u,rfl,ru):=Ur r;let rfl:u=Value.ref p:=ru;let(XX,rv,pl,hz):=I.list hq;let hl:XX.r.o=bs.f:=by rw[YJ,<-rv.f,Xr]
 let XJ:p≠(~~~s):=Yx (by let(_,_,e,_):=pl;show Ym e);show call_any_walk (wq pl.isList {(~~~s),_,_,_,_,_,_,Z,Walks.list (A:=X.A.in1) (I.ok.hd hc) (~~~s) p XJ XX.r,{{_,Yj _ Z,Z,Z},pl.isList.push _},ZP6<|og rv,λh' tk hk=>?_});rw[hl,oh];exists .bl<|bs.any id,H,I.kept λb o e=>hk b o ?_<|Xf _ e,Z,q;intro z;rw[Xd.S z]at e;show absurd (Ym e) (Pk _)
end
end L2
namespace My
open PySem L2
section
variable{K:Ad}{H:Hp}{α:Type}[DecidableEq α]
def Bears(R:V->α->Prop)(xs:A6 V)(l:A6 α):(Prop):=xs.f=l.f/\∀(i:A5)(a:α),l[i]?=⇑a->∃x,xs[i]?=⇑x/\R x a
def Bears.at{R:V->α->Prop}(h:Bears R xs l){i:A5}{x:V}(e:xs[i]?=⇑x):∃a,l[i]?=⇑a/\R x a:=by
 let hi:i<xs.f:=(Xx.S e).1;let hl:i<l.f:=by rwa[<-h.1]
 let(x',e1,q):=h.2 i l[i] (Xv hl)
 ext
def KW{l m:A6 α}(h:l.f=m.f):(List.range l.f).all (λi=>decide (l[i]?=m[i]?))=decide (l=m):=by
 rw[Nj,Pm,VR];constructor
 .intro q;show Sl λi=>?_;grind
 lia
def aV{R:V->α->Prop}(hp:SqL K H p xs)(hq:SqL K H q ys)(h1:Bears R xs l)(h2:Bears R ys m)(hR:∀x y a b,R x a->R y b->EqD K H n x y (decide (a=b))):EqD K H (n+1) ↑p ↑q (decide (l=m)):=by
 cases hl:xs.f=ys.f
 .let e:=KW (l:=l) (m:=m) (by rw[<-h1.1,<-h2.1,hl]);rw[<-e,<-h1.1];show EqD.lsts hp hq hl λi x y ex ey=>?_;let(a,ea,ra):=h1.at ex;let(b,eb,rb):=h2.at ey
  ext
 .let e:decide (l=m)=B0:=JQ λz=>hl (by rw[h1.1,h2.1,z]);rw[e];show EqD.lens hp hq hl
def n9{R:V->α->Prop}(hp:SqT K H p xs)(hq:SqT K H q ys)(h1:Bears R xs l)(h2:Bears R ys m)(hR:∀x y a b,R x a->R y b->EqD K H n x y (decide (a=b))):EqD K H (n+1) ↑p ↑q (decide (l=m)):=by
 let key:=EqD.tups (e:=λi=>decide<|l[i]?=m[i]?) hp hq λi x y ex ey=>by let(a,ea,ra):=h1.at ex;let(b,eb,rb):=h2.at ey;rw[ea,eb,show decide (⇑a=⇑b)=decide (a=b) by simp];show hR x y a b ra rb
 cases hl:xs.f=ys.f
 .let e:=KW (l:=l) (m:=m) (by rw[<-h1.1,<-h2.1,hl]);rwa[<-hl,Nat.min_self,h1.1,e,show(l.f == l.f)=A9 by simp,Bool.and_true]at key
 .let e:decide (l=m)=B0:=JQ λz=>hl (by rw[h1.1,h2.1,z]);lia
def vi(ns:Ac):Bears (λx (z:A0)=>x=.int z) (IL ns) ns:={Xc ns,λi z e=>{_,Uo e,Z}}
def CJ{a b:A0}(hx:x=.int a)(hy:y=.int b):EqD K H n x y (decide (a=b)):=by subst hx hy;show EqD.flat Z rfl
def aT(hp:SqL K H p (IL ns))(hq:SqL K H q (IL ms)):EqD K H 1 ↑p ↑q (decide (ns=ms)):=
 aV hp hq (vi ns) (vi ms) λ_ _ _ _=>CJ
def aS(hp:SqT K H p (IL ns))(hq:SqT K H q (IL ms)):EqD K H 1 ↑p ↑q (decide (ns=ms)):=
 n9 hp hq (vi ns) (vi ms) λ_ _ _ _=>CJ
def QD(H:Hp)(v:V)(l:Ac):(Prop):=∃a,v=.ref a/\H a=⇑(.lst<|IL l)
end
end My
namespace My
def We(M:Ac)(p:A5):(B3):=(List.range p).all λi=>decide (mk M i≠mk M p)
def RT(M:Ac)(k:A0)(i:A5):(Ac):=((List.range i).filter λj=>decide<|mk M j=k).G λ(j:A5)=>(j:A0)
def Uh(M:Ac)(i:A5):(A6 A5):=(List.range i).filter (We M)
def XF:We M p=A9↔∀i,i<p->mk M i≠mk M p:=by
 unfold We
 ext
def n8(M:Ac)(k:A0)(i:A5):RT M k (i+1)=RT M k i++(if mk M i=k then [(i:A0)] else []):=by unfold RT;rw[SW,Vo,YE];grind
def aR(M:Ac)(i:A5):Uh M (i+1)=Uh M i++(if We M i=A9 then [i] else []):=by unfold Uh;rw[SW,Vo];grind
def CI(M:Ac):∀i,Xq M i=(Uh M i).G λp=>(mk M p,RT M (mk M p) i)
 |0=>rfl
 |i+1=>by
  let ih:=CI M i;change VM (Xq M i) (i:A0) (mk M i)=_
  let hk:(mk M i∈(Xq M i).G (·.1))↔We M i≠A9:=by
   constructor
   .intro h q;let(j,hj,e):=vk M i _ h;show XF.S q j hj e
   .intro h;cases q:∃j,j<i/\mk M j=mk M i
    .let⟨j,hj,e⟩:=q;rw[<-e];show vm hj
    .show absurd (XF.mpr λj hj e=>q ⟨j,hj,e⟩) h
  unfold VM;cases h:mk M i∈(Xq M i).G (·.1)
  .let hf:=hk.S h;rw[Yk h,aR,Yh hf,YO,ih,Nd];show Vp λp _=>?_;rw[n8];grind
  .let hf:We M i=A9:=by
    cases q:We M i with
    |true=>rfl
    |false=>lia
   rw[Yh h,aR,Yk hf,YE,ih];congr 1
   .show Vp λp hp=>?_;let OP:p<i:=YX.S (Ye.S hp).1
    rw[n8,Yh λz=>XF.S hf p OP z.symm,YO]
   .change [(mk M i,[(i:A0)])]=[(mk M i,RT M (mk M i)<|i+1)];rw[n8,Yk Z];let e0:RT M (mk M i) i=[]:=by unfold RT;rw[List.filter_eq_nil_iff.mpr λj hj=>by simpa using XF.mp hf j (YX.mp hj)];rfl
    rw[e0];rfl
end My
namespace My
open PySem L2
def Bears.snoc{α:Type}[DecidableEq α]{R:V->α->Prop}{xs:A6 V}{l:A6 α}{x:V}{a:α}(h:Bears R xs l)(hx:R x a):Bears R (xs++[x]) (l++[a]):=by
 show{by rw[Xa,Xa,h.1];rfl,λi b e=>?_};cases hi:i<l.f
 .rw[Yu hi]at e;rw[Yu (by rwa[h.1])];show h.2 i b e
 .let hl:i=l.f:=by
   have:=(Xx.S e).1
   rw[Xa,YH]at this;lia
  subst hl;rw[Ys (by rw[h.1];ext),h.1,Uz]
  ext
def Bears.imp{α:Type}[DecidableEq α]{R R':V->α->Prop}{xs:A6 V}{l:A6 α}(h:Bears R xs l)(f:∀x a,R x a->R' x a):Bears R' xs l:={h.1,λi a e=>by let(x,e1,r):=h.2 i a e;exists x,e1,f x a r}
end My
namespace L2
open PySem PySem.Spec PyProof.Rows
def ZI9{a:A0}(h1:-(10^70)<a)(h2:a<10^70):a.natAbs.log2<1920:=by
 let h:a.natAbs<10^70:=J;cases h0:a.natAbs=0
 .ext
 .show(Nat.log2_lt h0).mpr (Nat.lt_trans h Ep)
end L2
namespace My
open PySem L2
def n6{p1 p2:A7}(h1:H p1=⇑(.lst (IL l1)))(h2:H p2=⇑(.lst (IL l2)))(hl:l1.f+l2.f<=1000000)(k:∀r,H r=A8->Q ↑r (upd H r (.lst (IL (l1++l2))))):rCat ↑p1 ↑p2 H Q:=by
 exists p1,p2,_,_,Z,Z,h1,h2,?_,λr hr=>?_
 .rw[Xc,Xc];show PK hl
 ext
end My
namespace L2
open PySem PySem.Spec PyProof.Rows
def CH:∀{us:Ag}{ns:Ac},IntsAre us ns->Vals (ns.G V.int) us
 |[],[],_=>.nil
 |_::_,[],h=>by cases h
 |[],_::_,h=>by cases h
 |u::us,n::ns,h=>by
  cases h with
  |cons _ _ t=>show .cons {_,Z} (CH t)
def Vals.rev{xs:A6 V}{us:Ag}(h:Vals xs us):Vals xs.reverse us.reverse:=by
 induction h with
 |nil=>show .nil
 |cons r t ih=>
  rw[List.reverse_cons,List.reverse_cons];show ih.append (.cons r .nil)
section
variable{X:Cx}
inductive yR2(K:Ad)(xs:A6 V)(H:Hp)(Q:VK):Prop
 |mk (p ns:_) (_:xs=[.ref p]) (_:SqL K H p (ns.G V.int)) (_:ns.f<64) (_:∀ms:Ac,ms.Perm ns->ms.H (·<=·)->∀l,H l=A8->Q ↑l (upd H l<|.lst<|ms.G V.int))
def n4(K:Ad)(hk:X.K=K:=by rfl):Vv X (.builtin "sorted") (yR2 K):=by
 subst hk;intro pins s σ H xs us Q I r h;let(p,ns,rfl,hq,hn,q):=h;let(u,rfl,ru):=Ur r;let rfl:u=Value.ref p:=ru;let(XX,rv,pl,hz):=I.list hq;let hi:=ZL rv
 let hl:XX.f=ns.f:=by rw[<-rv.f,Xr]
 show sorted_ints pl.isList hi (by ext) λout ms h1 h2 h3=>?_;let(e,he):=sortedAll_at s.C XX out;let CG:ms.f=ns.f:=h2.length_eq
 exists .ref<|(~~~s)+1,_,I.laid (t':=s.toks) (o:=.lst<|ms.G V.int) (λb o g=>sortedAll_old g) (SX _) {?_,out.m,e,CH h1,?_},Z,q ms h2 h3 _<|I.hok.fresh<|SX _
 .ext
 .show he
def nZ:typeLookup (.type "list_reverseiterator") "__length_hint__"=pure ⇑(.builtin "list_reverseiterator.__length_hint__"):=by kernel_rfl
def Zw9:typeLookup (.type "list_reverseiterator") "__len__"=pure none:=by kernel_rfl
def CF{E:Ae}{s:B6}{r:A7}{Q:B3->B6->Prop}(hT:s.TypeIs ↑r "list_reverseiterator")(h:Q false s):wpAny (model prog w) A (Builtin.List.listLengthHint ↑r) Q E s:=by show XU (wpAny_specialOf hT Zw9 ?_);show XU (wpAny_specialOf hT nZ ?_);generalize nY:("list_reverseiterator.__length_hint__":B2)=id0;subst nY;show XU (wj (T:="list_reverseiterator") (b:=A9) hT rG ?_);show Yg h
section
variable{prog:Program}{w:World}{A:Around}{E:Ae}{s:B6}{it a:A7}{items:B4 B1}
def nX{R:Result->B6->Prop}(hh:A.handled=A8)(hi:s.C.IsRevIter it a ((items.o:A0)-1))(hl:s.C.IsList a items)(XJ:a≠it){S:A7}(h1:S≠it)(h2:S≠a){c0:A5}
  (hS:s.C.E S=⇑{cls:=.type "list",data:=.seq #[] c0})(hz:items.o<=sizeLine)
  (k:∀h' tk acc c,(∀b o,b≠S->b≠it->s.C.E b=⇑o->h'.E b=⇑o)->h'.E S=⇑{cls:=.type "list",dict:=A8,data:=.seq acc c,slots:=#[]}->ItemsOf (λi v=>items[items.o-1-i]?=⇑v) acc items.o->R (.ok<|.ret res) {s with heap:=h',toks:=tk}):
  wpAny (model prog w) A.in1 (Builtin.List.listExtendWith ↑S ↑it res)
   (λfin s'=>match fin with | .done f=>R (.ok f) s' | .again c'=>c'.quiet=A9/\codeAny (model prog w) A c' R s') (λe s'=>R (.error e) s') s:=by
 let W:=Walks.listRev (prog:=prog) (w:=w) (A:=A.in1) hh it a XJ items;let RS:S∉[it,a]:=by simp only[Yo,wx,or_false,not_or];exists h1,h2
 let FJ:(0<=items.o/\s.C.IsRevIter it a ((items.o:A0)-1-((0:A5):A0))/\s.C.IsList a items):={Qd _,by ext,hl};let hT:s.TypeIs ↑it "list_reverseiterator":=hi.typeIs
 let key:codeAny (model prog w) A (.builtin "list.extend.loop" ⟨[.ref S,.ref it,res],[]⟩) R s:=by
  show codeAny_extend_loopS W.toS hz S RS res items.o 0 _ #[] c0 Z (Qd _) FJ hS (ItemsOf.nil _) λs' acc c hm Ug Tz=>?_;rw[Moved.eq_with hm];show k s'.C s'.toks acc c (λb o hb hbi e=>hm.C b o (λhmem=>?_) e) Ug Tz;rcases Yo.S hmem with e'|hmem
  .lia
  .grind
 show XU (vV (T:="list_reverseiterator") hT ?_);let e1:Builtin.List.listSameRef ↑S ↑it=B0:=by simp[Builtin.List.listSameRef,h1]
 rw[Yh (by rw[e1];decide)];show XU (wpAny_pyIter_revIter hi ?_);show XU (SE<|CF hT ?_);show Yg {Ng cN _,key}
def CC{Q:Ae}(hh:A.handled=A8)(hi:s.C.IsRevIter it a ((items.o:A0)-1))(hl:s.C.IsList a items)(XJ:a≠it)(hz:items.o<=sizeLine)
  (k:∀h' tk acc c,(∀b o,b≠it->s.C.E b=⇑o->h'.E b=⇑o)->h'.E (~~~s)=⇑{cls:=.type "list",dict:=A8,data:=.seq acc c,slots:=#[]}->ItemsOf (λi v=>items[items.o-1-i]?=⇑v) acc items.o->
   Q (.ref (~~~s)) {s with heap:=h',toks:=tk}):wpAny (model prog w) A (call (.type "list") [.ref it]) Q E s:=by
 let(oi,hoi,_):=id hi;let(ol,MG,_):=id hl;let n1:(~~~s)≠it:=QS (Ym hoi)
 let n2:(~~~s)≠a:=QS (Ym MG);show callType_codes (Q₁:=λob s₁=>ob=.ref (~~~s)/\s₁={s with heap:=s.C.push {cls:=.type "list",data:=.seq #[]} }) PySem.F.called_list (PySem.F.typeCall_list_1 _) PySem.F.entry_list_init (code_list_new _ ⟨Z,Z⟩) λob s₁ z=>?_;let(rfl,rfl):=z;let FI:(s.C.push {cls:=.type "list",data:=.seq #[]}).E (~~~s)=⇑{cls:=.type "list",data:=.seq #[]}:=Yj _ rfl
 exists {_,FI,Z},PySem.F.args_list_init_2 _ _,?_;show XU ?_;show XU (JO FI Z<|Yg ?_);show XU (wc (a:=(~~~s)) FI Z ?_);let CB:=UZ (Obj.mapSeq λ_=>(#[]:B4 B1)) FI rfl
 let II:∀b o,b≠(~~~s)->s.C.E b=⇑o->((s.C.push {cls:=.type "list",data:=.seq #[]}).update (~~~s) (Obj.mapSeq λ_=>(#[]:B4 B1))).E b=⇑o:=
  λb o hb e=>(YK _ _<|YZ hb).l (Xf _ e)
 show XU (Gh ?_);show nX (A:=A.in1) (items:=items) hh (hi.at λo e=>II it o (YZ n1) e) (hl.at λo e=>II a o (YZ n2) e) XJ n1 n2 CB hz λh' tk acc c hk Ug Tz=>?_;exists Z,k h' tk acc c (λb o hb e=>hk b o (Yx<|Ym e) hb<|II b o (Yx<|Ym e) e) Ug Tz
end
end
section
variable{X:Cx}{p p2 pos Tw:Pos}{e:B5}{t:TA}
def nW(K:Ad)(t:TA):(TE):=λσ H Q=>t σ H λvs H1=>∃a ys,vs=[.ref a]/\SqL K H1 a ys/\∀l,H1 l=A8->Q ↑l (upd H1 l<|.lst ys.reverse)
def aQ(K:Ad)(hc:X.calm=A9)(g1:Gl X "list")(m1:X.mg "list"=A8)(g2:Gl X "reversed")(m2:X.mg "reversed"=A8)(ha:PA X [e] t)(hk:X.K=K:=by rfl)
  (he:starEach [e] X.X=[(false,eval e X.X)]:=by rfl)
  (Ja:starEach [.Call (.Name "reversed" p2) [e] [] Tw] X.X=[(false,eval (.Call (.Name "reversed" p2) [e] [] Tw) X.X)]:=by rfl):
  PE X (.Call (.Name "list" p) [.Call (.Name "reversed" p2) [e] [] Tw] [] pos) (nW K t):=by
 subst hk;intro pins s σ H Q I h;show NO (PX I g1 m1 Boot.«list» ?_);show Ta ?_ rC rfl;show rX ?_;show NO (PX I g2 m2 Boot.«reversed» ?_);show Ta (thn (ha Tw pins s σ H _ I h) λus s1 zz=>?_) (by rw[he];rfl) rfl;let(vs,H1,I1,r1,q1):=zz;let(a,ys,rfl,hq,q):=q1;let(u,rfl,ru):=Ur r1;let rfl:u=Value.ref a:=ru;let(XX,rv,pl,hz):=I1.list hq;show call_reversed_list pl.isList ?_;show rQ ?_;let el:XX.r.o=ys.f:=by rw[YJ,<-rv.f]
 let hit:(s1.C.push<|revObj a<|(XX.r.o:A0)-1).IsRevIter (~~~s1) a ((XX.r.o:A0)-1):={_,Yj _ Z,Z,Z};let XJ:a≠(~~~s1):=Yx (by let(_,_,e,_):=pl;show Ym e)
 show CC (I.ok.hd hc) hit (pl.isList.push _) XJ (by rwa[el]) λh' tk acc c hk hS vh=>?_;let ea:acc.m=XX.reverse:=by
  show Sl λi=>?_;let h1:=vh.1
  cases hi:i<XX.f
  .obtain⟨v,ev⟩:∃v,acc[i]?=⇑v:={_,TK<|by ext};let h2:=vh.2 i v ev
   grind
  .ext
 rw[size_push']at hS ⊢;exists .ref<|(~~~s1)+1,_,I1.laid (o:=.lst ys.reverse) (h':=h') (t':=tk) (λb o e=>hk b o (Yx<|Ym e)<|Xf _ e) (SX _) ⟨?_,acc.m,c,?_,?_⟩,Z,q _<|I1.hok.fresh<|SX _
 .rw[YY];show hz
 .rw[ea];show rv.rev
 .rw[hS]
end
end L2
namespace My
open PySem L2
def XW:IsSet m ns↔(∀z∈ns,0<=z/\z<(m:A0))/\ns.H (·<·):=by
 constructor
 .intro h;exists h.all,?_;rw[JZ];intro i j hi hj WG
  induction j with
  |zero=>ext
  |succ j ih=>
   let Mw:j<ns.f:=D;let key:=(h (j+1) ns[j+1]<|Xv hj).2.2 ns[j] J (by ext)
   grind
 .rintro⟨ha,hp⟩ i z hz;let(hi,ei):=Xx.S hz;let hm:=ha z (Xo hz)
  exists hm.1,hm.2,λy h0 hy=>?_;let(Wx,ei'):=Xx.S hy
  have:=JZ.S hp (i-1) i Wx hi J
  ext
def IG{ns:Ac}(h:ns.H (·<·)):ns.Nodup:=h.imp λVl e=>by ext
def IsSet.nodup(h:IsSet m ns):ns.Nodup:=IG (XW.S h).2
end My
namespace My
def Mv{α:Type}{P:A6 α->Prop}(h0:P [])(h1:∀l x,P l->P (l++[x])):∀l,P l:=by
 intro l;rw[<-List.reverse_reverse l]
 induction l.reverse with
 |nil=>show h0
 |cons x r ih=>
  ext
inductive Conn(es:A6 (A5×A5)):A5->A5->Prop
 |refl (i:A5):Conn es i i
 |edge {a b:A5} (h:(a,b)∈es):Conn es a b
 |symm {i j:A5}:Conn es i j->Conn es j i
 |trans {i j k:A5}:Conn es i j->Conn es j k->Conn es i k
def Conn.mono(h:∀e∈es,e∈fs)(c:Conn es i j):Conn fs i j:=by
 induction c with
 |refl i=>show .refl i
 |edge q=>show .edge (h _ q)
 |symm _ ih=>show .symm ih
 |trans _ _ i1 i2=>show .trans i1 i2
def vg{n i:A5}(h:i<n):mk ((List.range n).G λ(i:A5)=>(i:A0)) i=(i:A0):=by rw[mk_map' h]
where
 mk_map' {n i:A5} (h:i<n):mk ((List.range n).G λ(i:A5)=>(i:A0)) i=(i:A0):=by
  ext
def InN(n:A5)(es:A6 (A5×A5)):(Prop):=∀e∈es,e.1<n/\e.2<n
def InN.snoc{e:A5×A5}(h:InN n (es++[e])):InN n es/\e.1<n/\e.2<n:={λx hx=>h x<|Yl _ hx,h e Eo}
def CA:∀es:A6 (A5×A5),InN n es->∀e∈es,mk (WW n es) e.1=mk (WW n es) e.2:=by
 show Mv (λ_ e h=>by cases h) λes x ih hn e he=>?_;let(h1,h2,h3):=hn.snoc;let hl:=ZG n es
 let hx:=hn e he;rw[MB];show(CN (by ext)<|by ext).mpr ?_;rcases Xn.S he with q|q
 .show .inl (ih h1 e q)
 .rw[Xd.S q];show .inr {.inl Z,.inr Z}
def Cz:∀es:A6 (A5×A5),InN n es->∀i j,i<n->j<n->mk (WW n es) i=mk (WW n es) j->Conn es i j:=by
 show Mv (λ_ i j hi hj h=>?_) λes x ih hn i j hi hj h=>?_
 .let h:mk ((List.range n).G λ(i:A5)=>(i:A0)) i=mk ((List.range n).G λ(i:A5)=>(i:A0)) j:=h;rw[vg hi,vg hj]at h
  have:i=j:=J
  subst this;show .refl i
 .let⟨h1,h2,h3⟩:=hn.snoc;let hl:=ZG n es
  let up:∀{i j:A5},Conn es i j->Conn (es++[x]) i j:=λc=>c.mono λe he=>Yl _ he;let ex:Conn (es++[x]) x.1 x.2:=.edge Eo
  rw[MB]at h;rcases(CN (by ext)<|by ext).S h with q|⟨q1,q2⟩
  .show up (ih h1 i j hi hj q)
  .let ci:Conn (es++[x]) i x.1:=by
    rcases q1 with q|q
    .show up (ih h1 i _ hi h2 q)
    .show(up<|ih h1 i _ hi h3 q).l ex.symm
   let cj:Conn (es++[x]) j x.1:=by
    rcases q2 with q|q
    .show up (ih h1 j _ hj h2 q)
    .show(up<|ih h1 j _ hj h3 q).l ex.symm
   show ci.l cj.symm
def nV(hn:InN n es)(c:Conn es i j):i=j\/(i<n/\j<n/\mk (WW n es) i=mk (WW n es) j):=by
 induction c with
 |refl i=>show .inl rfl
 |edge q=>show .inr {(hn _ q).1,(hn _ q).2,CA es hn _ q}
 |symm _ ih=>
  rcases ih with e|⟨a,b,c⟩
  .show .inl e.symm
  .show .inr ⟨b,a,c.symm⟩
 |trans _ _ i1 i2=>
  rcases i1 with e|⟨a,b,c⟩
  .rw[e];show i2
  .rcases i2 with e|⟨a',b',c'⟩
   .rw[<-e];show .inr ⟨a,b,c⟩
   .show .inr {a,b',c.l c'}
def Wd(hn:InN n es)(hi:i<n)(hj:j<n):mk (WW n es) i=mk (WW n es) j↔Conn es i j:=by
 constructor
 .show Cz es hn i j hi hj
 .intro c;rcases nV hn c with e|⟨_,_,e⟩
  .rw[e]
  .show e
def QC(hn:InN n es)(hi:i<n)(hj:j<n):mk (Xu n es) i=mk (Xu n es) j↔Conn es i j:=by
 rw[<-Wd hn hi hj];let s:=vo (n:=n) (es:=es) hn
 show s.2 i j (by rwa[ZF]) (by rwa[ZF])
def cnt(M:Ac):(A5):=(Uh M M.f).f
def Rp(M:Ac):∃p,p<=i/\mk M p=mk M i/\We M p=A9:=by
 induction i using Nat.strongRecOn with
 |ind i ih=>
  cases h:We M i=A9
  .grind
  .have:∃j,j<i/\mk M j=mk M i:=by
    cases q:∃j,j<i/\mk M j=mk M i
    .show q
    .show absurd (XF.mpr λj hj e=>q ⟨j,hj,e⟩) h
   grind
def ZP8{p q:A5->B3}{x n:A5}(hx:x<n)(hpx:p x=A9)(h:∀y,y<n->q y=(p y && !decide (y=x))):((List.range n).filter q).f+1=((List.range n).filter p).f:=by
 induction n with
 |zero=>ext
 |succ n ih=>
  rw[SW,Vo,Vo,Xa,Xa];cases e:x=n
  .subst e;let e1:(List.range x).filter q=(List.range x).filter p:=Ls λy hy=>by let hy:=YX.S hy;rw[h y J,show decide (y=x)=B0 from JQ J];simp
   ext
  grind
def vf(hp:We M p=A9)(hq:We M q=A9)(e:mk M p=mk M q):p=q:=by
 rcases Nat.lt_trichotomy p q with h|h|h
 .show absurd e (XF.S hq p h)
 .show h
 .show absurd e.symm (XF.S hp q h)
def nU(ha:a<m.f)(hb:b<m.f)(XJ:mk m a≠mk m b):cnt (lm m a b)+1=cnt m:=by
 let(A,Tv,Sw,Mu):=Rp m (i:=a);let(AP,aP,IF,aO):=Rp m (i:=b);let hAB:A≠AP:=λe=>XJ J
 unfold cnt Uh;rw[vq];show ZP8 (x:=max A AP) D ?_ λy hy=>?_
 .lia
 .rw[Nj,wu,XF,XF];let key:∀i,i<y->(mk (lm m a b) i=mk (lm m a b) y↔FK m a b i y):=λi hi=>CN J hy
  let nS:(!decide (y=max A AP))=A9↔y≠max A AP:=Eo;rw[nS];constructor
  .intro q;exists λi hi e=>q i hi<|(key i hi).mpr (.inl e),λe=>?_;rcases Nat.lt_or_gt_of_ne hAB with h|h
   .let ey:y=AP:=J;subst ey;show q A h ((key A h).mpr (.inr {.inl Sw,.inr IF}))
   .let ey:y=A:=D;subst ey;show q AP h ((key AP h).mpr (.inr {.inr IF,.inl Sw}))
  .rintro⟨q1,q2⟩ i hi e;rcases(key i hi).S e with e|⟨e1,e2⟩
   .show q1 i hi e
   .let fy:We m y=A9:=XF.mpr q1;rcases e2 with e2|e2
    .let ey:y=A:=vf fy Mu (e2.l Sw.symm);rcases e1 with e1|e1
     .grind
     .let⟨p,p1,p2,p3⟩:=Rp m (i:=i)
      have:p=AP:=vf p3 aO J
      grind
    .let ey:y=AP:=vf fy aO (e2.l IF.symm);rcases e1 with e1|e1
     .let⟨p,p1,p2,p3⟩:=Rp m (i:=i)
      have:p=A:=vf p3 Mu J
      grind
     grind
def aN(n:A5):cnt ((List.range n).G λ(i:A5)=>(i:A0))=n:=by
 unfold cnt Uh;let e:(List.range n).filter (We<|(List.range n).G λ(i:A5)=>(i:A0))=List.range n:=by
  show sE.mpr λp hp=>XF.mpr λi hi e=>?_;let hp:=YX.S hp
  rw[vg J,vg hp]at e;lia
 grind
def nR(hM:1<=M.f):cnt M=1↔∀i j,i<M.f->j<M.f->mk M i=mk M j:=by
 let e:cnt M=(IM M).f:=by unfold cnt IM;rw[CI,Xr]
 rw[e];show CM hM
end My
namespace My
open PySem L2
def nQ{i:A0}{n:A5}(h0:0<=i)(h1:i<(n:A0)):seqIndex? i n=⇑i.j:=by
 let e:(if i<0 then i+(n:A0) else i)=i:=Yh (by ext);unfold seqIndex?
 ext
def Zn(n:A0)(ps:Aa)(ns:Ac):(Prop):=IsSet ps.f ns/\ns⁻¹=n-1/\∀i j,i<n.j->j<n.j->Conn (XR ps ns) i j
def ZQ(g:ZA n ps)(h:∀z∈ns,0<=z/\z<ps⁻¹):InN n.j (XR ps ns):=λe he=>by
 let(z,hz,rfl):=YC.S he;let hp:ps[z.j]?=⇑(ps[z.j]'(by ext)):=Xv _
 rw[Wf hp];let(b1,b2,b3,b4):=g.2.2.2 _ (Xo hp);lia
def ZX(h:∀z∈ns,z∈ms):∀e∈XR ps ns,e∈XR ps ms:=λe he=>by let(z,hz,rfl):=YC.S he;show YC.mpr {z,h z hz,Z}
def nP(h:InN n es):(∀i j,i<(WW n es).f->j<(WW n es).f->mk (WW n es) i=mk (WW n es) j)↔∀i j,i<n->j<n->Conn es i j:=by
 rw[ZG];constructor
 .intro q i j hi hj;show(Wd h hi hj).S (q i j hi hj)
 .intro q i j hi hj;show(Wd h hi hj).mpr (q i j hi hj)
def nO(hn:1<=n)(h:InN n es):(IM (Xu n es)).f=1↔∀i j,i<n->j<n->Conn es i j:=by rw[CM (by rwa[ZF]),(vo h).one];show nP h
def aM(hn:1<=n)(h:InN n es):(L2.seen (WW n es)).f=1↔∀i j,i<n->j<n->Conn es i j:=by rw[ou (by rwa[ZG])];show nP h
def KU(h:∀z,z∈ns↔z∈ms):Conn (XR ps ns) i j↔Conn (XR ps ms) i j:=
 {λc=>c.mono<|ZX λz hz=>(h z).S hz,λc=>c.mono<|ZX λz hz=>(h z).mpr hz}
section
variable{K:Ad}{a:A7}{xs:A6 V}{g:TG}{tt:TT}{te:TE}{o:A5}{fr:A6 A5}{σ:St}{H:Hp}{Q:VK}
def Mt(Pv:A5->A6 V->Hp->Prop)(h0:Pv 0 [] H)(hz:xs.f<sizeLine)(hl:∀i ys H,i<=xs.f->Pv i ys H->SqL K H a xs/\ys.f<=i)
  (hs:∀(i:A5) x ys H (p:A7),H p=A8->xs[i]?=⇑x->Pv i ys H->IT Pv g tt te o fr σ i ↑p ys (upd H p<|.tup [.int i,x]))(hd:∀ys H,Pv xs.f ys H->∀p,H p=A8->Q ↑p (upd H p<|.lst ys)):MJ (Lb K a) g tt te o fr σ H Q:=by
 exists λi m ys H=>m=xs.f-i/\i<=xs.f/\Pv i ys H,{xs.f,Eo,Qd _,h0},?_;rintro i m ys H ⟨rfl,hi,p⟩;let(q,hy):=hl i ys H hi p;cases Xj:i<xs.f
 .show .inr {{xs,xs[i],q,by simp[Xj]},J,λx H' zz=>?_};let(T,y,hT,ex,eH,hyy):=zz;subst ex eH;show hs i y ys H T hT (hyy xs q) p (λj ys H=>∃m',m'<xs.f-i/\m'=xs.f-j/\j<=xs.f/\Pv j ys H) λys H p'=>{xs.f-(i+1),D,Z,Xj,p'}
 .let e:i=xs.f:=J;subst e;show .inl {{xs,q,XG _},J,hd ys H p}
end
def unlike(M:Ac)(ps:Aa)(i:A5):(Ac):=((List.range i).filter λk=>decide<|mk M (ps.R k (0,0)).1.j≠mk M (ps.R k (0,0)).2.j).G λ(k:A5)=>(k:A0)
def aL(M:Ac)(ps:Aa)(i:A5):unlike M ps (i+1)=unlike M ps i++(if mk M (ps.R i (0,0)).1.j≠mk M (ps.R i (0,0)).2.j then [(i:A0)] else []):=by unfold unlike;rw[SW,Vo,YE];grind
def Zo7(M:Ac)(ps:Aa)(i:A5):(unlike M ps i).f<=i:=by unfold unlike;grind
def wo(ns:Ac)(z:A0):(Ac):=ns.filter λy=>decide (y≠z)
def Xk{z y:A0}:y∈wo ns z↔y∈ns/\y≠z:=by unfold wo;simp
def KS(ns:Ac)(z:A0):(wo ns z).f<=ns.f:=YW _ _
def aK{ns:Ac}{y z:A0}(h:ns[i]?=⇑y):wo (ns.Q (i+1)) z=wo (ns.Q i) z++(if y≠z then [y] else []):=by unfold wo;rw[YB,h,Vo];grind
def ZO6(g:ZA n ps)(hM:M.f=n.j)(s:SameP M L):unlike M ps ps.f=unlike L ps ps.f:=by
 unfold unlike;congr 1;show Ls λk hk=>?_;let hk:=YX.S hk
 let hp:ps[k]?=⇑ps[k]:=Xv hk;rw[Wf hp];let(b1,b2,b3,b4):=g.2.2.2 _ (Xo hp)
 have:=s.2 ps[k].1.j ps[k].2.j D D
 lia
def SQ(n:A0)(ps:Aa)(ns:Ac)(z:A0)(l:Ac):(Ac):=l.filter λy=>decide (z∈unlike (WW n.j<|XR ps<|wo ns y) ps ps.f)
def aJ{l:Ac}{y:A0}(h:l[i]?=⇑y):
  SQ n ps ns z (l.Q<|i+1)=SQ n ps ns z (l.Q i)++(if z∈unlike (WW n.j<|XR ps<|wo ns y) ps ps.f then [y] else []):=by unfold SQ;rw[YB,h,Vo];grind
def FH(n:A0)(ps:Aa)(ns:Ac)(z:A0)(l:Ac):(SQ n ps ns z l).f<=l.f:=YW _ _
def Zn7{z:A0}(h0:0<=z)(h1:z<ps⁻¹):z∈unlike M ps ps.f↔mk M (ps.R z.j (0,0)).1.j≠mk M (ps.R z.j (0,0)).2.j:=by
 unfold unlike;rw[YC];constructor
 .rintro⟨k,hk,rfl⟩
  have:=Yz (Ye.S hk).2
  show this
 .intro h;exists z.j,Ye.mpr {YX.mpr (by ext),YA h},J
def ve{a b:Ac}(h:a.Perm b)(h1:a.H (·<=·))(h2:b.H (·<=·)):a=b:=by
 induction a generalizing b with
 |nil=>ext
 |cons x a ih=>
  cases b with
  |nil=>ext
  |cons y b=>
   let(hx,ha):=YS.S h1;let(hy,hb):=YS.S h2;let e:x=y:=by
    let m1:y∈x::a:=h.mem_iff.mpr Ya;let m2:x∈y::b:=h.mem_iff.S Ya
    rcases Yo.S m1 with e1|e1
    .lia
    .grind
   subst e;rw[ih (List.Perm.cons_inv h) ha hb]
end My
namespace L2
open PySem PySem.Spec PyProof.Rows
section
variable{prog:Program}{w:World}{A:Around}{E:Ae}{s:B6}
def nN{tp:A7}{vs:Ag}{Q:A6 B1->B6->Prop}{ot:Obj}(ht:s.C.E tp=⇑ot)(hc:ot.cls=.type "tuple")(hd:ot.data=.seq vs.r m)(hz:vs.f<=sizeLine)
  (k:Q vs {s with heap:=(s.C.push<|seqObj "list" #[] 0).update (~~~s) (Obj.mapSeq (·++vs.r))}):wpAny (model prog w) A (collect<|.ref tp) Q E s:=by
 let aI:(s.C.push<|seqObj "list" #[] 0).E tp=⇑ot:=Xf _ ht;let Cy:(s.C.push<|seqObj "list" #[] 0).E (~~~s)=⇑(seqObj "list" #[] 0):=Yj _ rfl
 show XU (wpAny_runValue<|Qa entry_proto_collect' ?_);show XU (Lp<|Yg ⟨rY _ B,Qa entry_list_iadd' ?_⟩);change wpAny _ _ (Builtin.List.listExtendWith (.ref (~~~s)) ↑tp<|.ref (~~~s)) _ _ {s with heap:=s.C.push (seqObj "list" #[] 0)}
 show XU (vV (T:="tuple") ⟨ot,aI,hc⟩ ?_);rw[Yk (by ext)];show XU (Eu aI hd ?_);show XU (Eu (xs:=#[]) (n:=0) Cy Z ?_);show XU (NK (xs:=#[]) (n:=0) Cy Z ?_ (Qd _) D);show Yg ?_;show XU (wpAny_load (Ey Cy _) ?_);change wpAny _ _ (pure ((#[]:B4 B1)++vs.r).m) Q E _
 rw[show((#[]:B4 B1)++vs.r).m=vs by simp];show Yg k
def ZQ6{tp:A7}{Q:Ae}{ot:Obj}(ht:s.C.E tp=⇑ot)(hc:ot.cls=.type "tuple")(hd:ot.data=.seq vs.r m)(hI:IntsAre vs ns)(PJ:vs.f<64)
  (k:∀out ms,IntsAre out.m ms->ms.Perm ns->ms.H (·<=·)->Q (.ref<|(~~~s)+1) {s with heap:=sortedAll s.C vs out}):
  wpAny (model prog w) A (call (.builtin "sorted") [.ref tp]) Q E s:=by
 let IE:sizeLine=16777216:=Rz;let hsz:((s.C.push<|seqObj "list" #[] 0).update (~~~s) (Obj.mapSeq (·++vs.r))).objs.o=(~~~s)+1:=by rw[rN,size_push']
 let NJ:(((s.C.push<|seqObj "list" #[] 0).update (~~~s) (Obj.mapSeq (·++vs.r))).push (seqObj "list" vs.r 0)).E ((~~~s)+1)=⇑(seqObj "list" vs.r 0):=by rw[<-hsz];show Yj _ rfl
 show sN kind_sorted plain_sorted entry_sorted (args_sorted1 _) ?_;show XU (m:=checkCount "sorted" 1 1 _) (Yg ?_);show XU (nN ht hc hd J ?_);show XU (Lp ?_);rw[hsz];show XU (SE<|Nk vT ⟨_,NJ,Z⟩ vW (list_sort_tree NJ hI PJ λout ms b1 b2 b3=>{_,Z,?_})<|args_list_sort _);show Yg {_,Z,k out ms b1 b2 b3}
end
section
variable{X:Cx}
def Zu5(K:Ad)(hk:X.K=K:=by rfl):Vv X (.builtin "sorted") (λxs H Q=>∃p ns,xs=[.ref p]/\SqT K H p (ns.G V.int)/\ns.f<64/\
  ∀ms:Ac,ms.Perm ns->ms.H (·<=·)->∀l,H l=A8->Q ↑l (upd H l<|.lst<|ms.G V.int)):=by
 subst hk;intro pins s σ H xs us Q I r h;let(p,ns,rfl,hq,hn,q):=h;let(u,rfl,ru):=Ur r;let rfl:u=Value.ref p:=ru;let(XX,rv,(ot,h1,h2,m,h3),hz):=I.tuple hq;let hi:=ZL rv
 let hl:XX.f=ns.f:=by rw[<-rv.f,Xr]
 show ZQ6 h1 h2 h3 hi (by ext) λout ms b1 b2 b3=>?_;let(e,he):=sortedAll_at s.C XX out;let CG:ms.f=ns.f:=b2.length_eq
 exists .ref<|(~~~s)+1,_,I.laid (t':=s.toks) (o:=.lst<|ms.G V.int) (λb o g=>sortedAll_old g) (SX _) {?_,out.m,e,CH b1,he},Z,q ms b2 b3 _<|I.hok.fresh<|SX _
 ext
def ID(K:Ad):(R2):=λx y H Q=>∃a b xs ys,x=.ref a/\y=.ref b/\SqT K H a xs/\SqT K H b ys/\xs.f+ys.f<=sizeLine/\
 (xs=[]->Q ↑b H)/\(xs≠[]->ys=[]->Q ↑a H)/\(xs≠[]->ys≠[]->∀p,H p=A8->Q ↑p (upd H p<|.tup<|xs++ys))
def RR(K:Ad)(hk:X.K=K:=by rfl):WD X (binaryOp .Add) (ID K):=by
 intro pins s σ H x y v u Q I rx ry h;let(a,b,xs,ys,e1,e2,ha,hb,hz,q0,q1,q2):=id h;cases hx:xs=[]
 .subst hk e1 e2;cases rx;cases ry;let(XX,r1,p1,_):=I.tuple ha;let(Wm,r2,p2,_):=I.tuple hb;let hi:XX=[]:=r1.nil_iff.mpr hx
  let((cls,dd,data,sl),ho,hc,n,hd):=id p1;let((DG,FY,data2,FX),Tf,Vm,n2,hd2):=id p2;subst hc hd Vm hd2;show vU {_,ho,Z} {_,Tf,Z} rP seq_tuple_add sP sT (JI _ _)
   (tuple_addW0 a b XX.r Wm.r n n2 dd FY sl FX<|by simp[hi]) {ho,Tf,{.ref b,H,I,Z,q0 hx}}
 .show oK K hk pins s σ H x y v u Q I rx ry {a,b,xs,ys,e1,e2,ha,hb,hx,hz,q1 hx,q2 hx}
end
end L2
namespace My
open PySem L2
def Cw(h:mk m a=mk m b):lm m a b=m:=by unfold lm;lia
def aH(ha:a<m.f)(hb:b<m.f):cnt m<=cnt (lm m a b)+1:=by
 cases e:mk m a=mk m b
 .rw[Cw e];ext
 .have:=nU ha hb e;ext
def vd:∀es:A6 (A5×A5),InN n es->n<=cnt (WW n es)+es.f:=by
 show Mv (λ_=>?_) λes x ih hn=>?_
 .have:cnt (WW n [])=n:=aN n
  ext
 .let⟨h1,h2,h3⟩:=hn.snoc;let hl:=ZG n es
  have:=aH (m:=WW n es) (a:=x.1) (b:=x.2) (by ext) (by ext)
  rw[MB,Xa,YM,List.length_nil];lia
def nM(h:1<=M.f):1<=cnt M:=by show cB (a:=0) (Ye.mpr {YX.mpr J,XF.mpr λi hi=>absurd hi<|VW i})
def KR(hn:1<=n)(h:InN n es):cnt (WW n es)=1↔∀i j,i<n->j<n->Conn es i j:=by rw[nR (by rwa[ZG])];show nP h
def aG(hn:ts.Nodup)(ho:o∈ts):(wo ts o).f+1=ts.f:=by
 induction ts with
 |nil=>cases ho
 |cons x r ih=>
  let(h1,h2):=Qb.S hn;unfold wo;rw[List.filter_cons];cases e:x=o
  .subst e;rw[Yh Eo]
   have:r.filter (λy=>decide<|y≠x)=r:=sE.mpr λy hy=>YA λe=>h1 (e▸hy)
   rw[this];rfl
  .have:=ih h2 ((Yo.S ho).resolve_left λz=>e z.symm)
   unfold wo at this
   ext
def ZB(ps:Aa)(z:A0):(A5×A5):=((ps.R z.j (0,0)).1.j,(ps.R z.j (0,0)).2.j)
def IC(ps:Aa)(ns:Ac)(z:A0):XR ps (ns++[z])=XR ps ns++[ZB ps z]:=by unfold XR ZB;grind
def SO(g:ZA n ps)(z0:0<=z)(z1:z<ps⁻¹):(ZB ps z).1<n.j/\(ZB ps z).2<n.j:=by
 have:=ZQ (ns:=[z]) g (λy hy=>by ext)
 show this (ZB ps z) (by unfold XR ZB;simp)
def KQ(hT:Zn n ps ts):∀y∈wo ts o,0<=y/\y<ps⁻¹:=λy hy=>hT.1.all y (Xk.S hy).1
def IB(g:ZA n ps)(hT:Zn n ps ts)(ho:o∈ts)(z0:0<=z)(z1:z<ps⁻¹):
  (∀i j,i<n.j->j<n.j->Conn (XR ps<|wo ts o++[z]) i j)↔¬Conn (XR ps<|wo ts o) (ZB ps z).1 (ZB ps z).2:=by
 let hn:1<=n.j:=by have:=g.1;lia
 let hw:=aG hT.1.nodup ho;let hl:ts⁻¹=n-1:=hT.2.1
 let i0:InN n.j (XR ps<|wo ts o):=ZQ g (KQ hT);let hz:=SO g z0 z1
 let ob:=hT.1.all o ho;let FG:=SO g ob.1 ob.2
 let i1:InN n.j (XR ps (wo ts o)++[ZB ps z]):=λe he=>(Xn.S he).elim (i0 e) λq=>by rwa[Xd.S q]
 let i2:InN n.j (XR ps (wo ts o)++[ZB ps o]):=λe he=>(Xn.S he).elim (i0 e) λq=>by rwa[Xd.S q]
 let hL:=ZG n.j (XR ps<|wo ts o);let le:(XR ps<|wo ts o).f=(wo ts o).f:=by unfold XR;rw[Xr]
 rw[IC];constructor
 .intro hc c;let h1:cnt (WW n.j<|XR ps (wo ts o)++[ZB ps z])=1:=(KR hn i1).mpr hc
  rw[MB,Cw ((Wd i0 hz.1 hz.2).mpr c)]at h1
  have:=vd _ i0
  lia
 .intro hc;let h2:cnt (WW n.j<|XR ps (wo ts o)++[ZB ps o])=1:=by
   show(KR hn i2).mpr λi j hi hj=>?_;rw[<-IC];show(KU λy=>?_).S (hT.2.2 i j hi hj);rw[Xn,Xk,Xd];constructor
   .lia
   .lia
  rw[MB]at h2;let h3:=aH (m:=WW n.j<|XR ps<|wo ts o) (a:=(ZB ps o).1) (b:=(ZB ps o).2) (by ext) (by ext)
  let h4:=nU (m:=WW n.j<|XR ps<|wo ts o) (a:=(ZB ps z).1) (b:=(ZB ps z).2) (by ext) (by ext) λe=>hc ((Wd i0 hz.1 hz.2).S e);let h5:=nM (M:=lm (WW n.j<|XR ps<|wo ts o) (ZB ps z).1 (ZB ps z).2) (by rw[vq];ext)
  show(KR hn i1).S ?_;rw[MB];lia
def UP(n:A0)(ps:Aa)(ts:Ac)(o:A0):(Ac):=unlike (WW n.j<|XR ps<|wo ts o) ps ps.f
def Zp7{z:A0}(h:z∈unlike M ps i):0<=z/\z<(i:A0):=by unfold unlike at h;grind
def Vk(g:ZA n ps)(hT:Zn n ps ts)(z0:0<=z)(z1:z<ps⁻¹):z∈UP n ps ts o↔¬Conn (XR ps (wo ts o)) (ZB ps z).1 (ZB ps z).2:=by let hz:=SO g z0 z1;unfold UP;rw[Zn7 z0 z1];show not_congr (Wd (ZQ g<|KQ hT) hz.1 hz.2)
def exg(n:A0)(ps:Aa)(ts:Ac)(o z:A0):(Prop):=o∈ts/\z≠o/\z∈UP n ps ts o
instance (n:A0) (ps:Aa) (ts:Ac) (o z:A0):Decidable (exg n ps ts o z):=by unfold exg;infer_instance
def Cv(g:ZA n ps)(hT:Zn n ps ts):
  exg n ps ts o z↔o∈ts/\z∉ts/\0<=z/\z<ps⁻¹/\∀i j,i<n.j->j<n.j->Conn (XR ps<|wo ts o++[z]) i j:=by
 constructor
 .rintro⟨h1,h2,h3⟩;let(z0,z1):=Zp7 h3;let hc:=(Vk g hT z0 z1).S h3
  exists h1,λhz=>hc ?_,z0,z1,(IB g hT h1 z0 z1).mpr hc;show .edge ?_;show YC.mpr {z,Xk.mpr ⟨hz,h2⟩,Z}
 .rintro⟨h1,h2,z0,z1,hc⟩;exists h1,λe=>h2<|e▸h1,(Vk g hT z0 z1).mpr ((IB g hT h1 z0 z1).S hc)
end My
namespace L2
open PySem PySem.Spec PyProof.Rows
section
variable{X:Cx}
def nK{e:A7->B3}(I:Inv X pins σ H s)(hu:A.units+n<cLine)(rx:RelV x w){xs:A6 V}{us:Ag}(h0:Vals xs us)(h:∀v∈xs,∃a,v=.ref a/\EqD X.K H n v x (e a)):∀u∈us,SeqAt.EqAt A s u w (match u with | .ref a=>e a|_=>false):=by
 induction h0 with
 |nil=>intro u hu;cases hu
 |@cons y u xs us r t ih=>
  intro u' nJ;rcases Yo.S nJ with rfl|nJ
  .let⟨a,rfl,q⟩:=h y Ya;let rfl:u'=Value.ref a:=r;show q.at I hu Z rx
  .show ih (λv hv=>h v<|Yf _ hv) u' nJ
end
end L2
namespace My
open PySem L2
def Cu{o y:A0}(g:ZA n ps)(hT:Zn n ps ts)(ho:o∈ts)(hy:y∈ts):y∈UP n ps ts o↔y=o:=by
 let yb:=hT.1.all y hy;rw[Vk g hT yb.1 yb.2];constructor
 .intro h;cases e:y=o
  .show e
  .show absurd (.edge<|YC.mpr {y,Xk.mpr ⟨hy,e⟩,Z}) h
 .rintro rfl;show(IB g hT hy yb.1 yb.2).S λi j hi hj=>(KU λz=>?_).S (hT.2.2 i j hi hj);rw[Xn,Xk,Xd];lia
def Vz:y∈SQ n ps ts z l↔y∈l/\z∈UP n ps ts y:=by unfold SQ;rw[Ye,VR];show Iff.rfl
def Ms(g:ZA n ps)(hT:Zn n ps ts)(hx:exg n ps ts o z)(Tu:ms.Perm (wo ts o++[z]))(Mr:ms.H (·<=·)):Zn n ps ms:=by
 let(ho,hz,z0,z1,hc):=(Cv g hT).S hx;let nd:(wo ts o++[z]).Nodup:=IQ (hT.1.nodup.sublist List.filter_sublist) λh=>hz (Xk.S h).1
 let ndm:ms.Nodup:=Tu.nodup_iff.mpr nd;let hl:=aG hT.1.nodup ho
 let Ru:=Tu.length_eq;rw[Xa,YH]at Ru;show{XW.mpr {λy hy=>?_,(List.pairwise_and_iff.mpr ⟨Mr,ndm⟩).imp λ{x y} h=>J},by rw[Ru,hl];show hT.2.1,λi j hi hj=>(KU λy=>Tu.mem_iff).mpr (hc i j hi hj)};rcases Xn.S (Tu.mem_iff.S hy) with h|h
 .show hT.1.all y (Xk.S h).1
 ext
section
variable{n:A0}{ps:Aa}{ts ms:Ac}{o z:A0}(g:ZA n ps)(hT:Zn n ps ts)(hx:exg n ps ts o z)(Tu:ms.Perm (wo ts o++[z]))(Mr:ms.H (·<=·))
include g hT hx Tu Mr
def vc{y:A0}:y∈ms↔(y∈ts/\y≠o)\/y=z:=by rw[Tu.mem_iff,Xn,Xk,Xd]
end
def Ct:∀{a b:Ac},a.f=b.f->HT.lexLt a b=A9->∃p x y r s,a=p++x::r/\b=p++y::s/\x<y
 |[],[],_,h=>by cases h
 |[],_::_,e,_=>by simp at e
 |_::_,[],e,_=>by simp at e
 |x::xs,y::ys,e,h=>by
  rw[HT.Xm]at h;cases q:x=y
  .subst q;rw[Yk Z]at h;let(p,u,v,r,s,e1,e2,e3):=Ct (by simpa using e) h;exists x::p,u,v,r,s,by rw[e1];rfl,by rw[e2];rfl,e3
  .rw[Yh q]at h;exists [],x,y,xs,ys,Z,Z,Yz h
def Wc:∀{a b:Ac},HT.lexLt a b=B0->HT.lexLt b a=B0->a=b
 |[],[],_,_=>rfl
 |[],_::_,h,_=>by cases h
 |_::_,[],_,h=>by cases h
 |x::xs,y::ys,h1,h2=>by
  rw[HT.Xm]at h1 h2;cases q:x=y
  .subst q;rw[Yk Z]at h1 h2;rw[Wc h1 h2]
  lia
def nI:∀{a b c:Ac},HT.lexLt a b=A9->HT.lexLt b c=A9->HT.lexLt a c=A9
 |[],[],_,h,_=>by cases h
 |[],_::_,[],_,h=>by cases h
 |[],_::_,_::_,_,_=>rfl
 |_::_,[],_,h,_=>by cases h
 |_::_,_::_,[],_,h=>by cases h
 |x::xs,y::ys,z::zs,h1,h2=>by
  rw[HT.Xm]at h1 h2 ⊢;cases e1:x=y
  .subst e1;rw[Yk Z]at h1;cases e2:x=z
   .subst e2;rw[Yk Z]at h2 ⊢;show nI h1 h2
   ext
  grind
def Cs:∀a:Ac,HT.lexLt a a=B0
 |[]=>rfl
 |x::xs=>by rw[HT.Xm,Yk Z];show Cs xs
def Ro(bt:A5->A5->B3):∀j,argBest bt j<=j
 |0=>XG _
 |j+1=>by
  unfold argBest;split
  .show XG _
  .have:=Ro bt j;lia
def WH(H:Hp)(v:V)(l:Ac):(Prop):=∃a,v=.ref a/\H a=⇑(.tup<|IL l)
def TupsV(H:Hp)(xs:A6 V)(L:Ab):(Prop):=xs.f=L.f/\∀(i:A5)(l:Ac),L[i]?=⇑l->∃v,xs[i]?=⇑v/\WH H v l
def TupsV.same(s:Same H H')(h:TupsV H xs L):TupsV H' xs L:={h.1,λi l e=>by let(v,e1,a,e2,e3):=h.2 i l e;exists v,e1,a,e2,s _ _ e3}
def TupsV.at(h:TupsV H xs L){i:A5}{v:V}(e:xs[i]?=⇑v):∃l,L[i]?=⇑l/\WH H v l:=by
 let hi:i<xs.f:=(Xx.S e).1;let hp:i<L.f:=by rwa[<-h.1]
 let(v',e1,q):=h.2 i L[i] (Xv hp)
 ext
def TupsV.nil:TupsV H [] []:={Z,λi p e=>by simp at e}
def TupsV.app(h:TupsV H xs L)(h2:TupsV H ys M):TupsV H (xs++ys) (L++M):=by
 show{by rw[Xa,Xa,h.1,h2.1],λi l e=>?_};cases hi:i<L.f
 .rw[Yu hi]at e;let(v,e1,q):=h.2 i l e;exists v,D,q
 .rw[Ys (by ext)]at e;let(v,e1,q):=h2.2 _ l e;exists v,by rw[Ys (by rw[h.1];ext),h.1];show e1,q
def TupsV.one(q:WH H v l):TupsV H [v] [l]:=⟨Z,λi m e=>by
 grind⟩
def TupsV.snoc(h:TupsV H xs L)(q:WH H v l):TupsV H (xs++[v]) (L++[l]):=h.app (.one q)
def TupsV.mut{d:A7}{ys zs xs:A6 V}(hP:TupsV H xs L)(hl:H d=⇑(.lst ys)):TupsV (upd H d (.lst zs)) xs L:=by exists hP.1,λj p e=>?_;let(v,e1,tt,e2,e3):=hP.2 j p e;exists v,e1,tt,e2,by rwa[Zd (Ux e3 hl (λz=>nomatch z))]
def UD(s:Ac):(A0):=match s.getLast? with|none=>0|some x=>x+1
def VL(m:A0)(s:Ac):(Ab):=(List.range (m-UD s).j).G λ(i:A5)=>s++[UD s+(i:A0)]
def TU(m:A0):(A5->Ab)
 |0=>[[]]
 |k+1=>(TU m k).flatMap (VL m)
def nH(s:Ac)(x:A0):UD (s++[x])=x+1:=by unfold UD;ext
def Wk{s l:Ac}:l∈VL m s↔∃t,UD s<=t/\t<m/\l=s++[t]:=by
 unfold VL;rw[YC];constructor
 .grind
 .rintro⟨t,h1,h2,rfl⟩;exists (t-UD s).j,YX.mpr J,D
def SN{t:A0}:IsSet m (s++[t])↔IsSet m s/\UD s<=t/\0<=t/\t<(m:A0):=by
 rw[XW,XW,Np];let last:(∀a∈s,∀b∈[t],a<b)/\s.H (·<·)->UD s<=t\/t<0:=by
  rintro⟨h,_⟩;unfold UD;cases e:s.getLast? with
  |none=>lia
  |some x=>have:=h x (ER e) t Eo;lia
 constructor
 .rintro⟨h1,h2,_,h3⟩;let ht:=h1 t Eo
  exists {λz hz=>h1 z<|Yl _ hz,h2},?_,ht;rcases last ⟨h3,h2⟩ with h|h
  .show h
  .omega
 .rintro⟨⟨h1,h2⟩,h3,h4,h5⟩;exists λz hz=>?_,h2,wK ..,λa ha b hb=>?_
  .rcases Xn.S hz with h|h
   .show h1 z h
   .rw[Xd.S h];exists h4,h5
  .rw[Xd.S hb];let key:∀{s:Ac}{a:A0},s.H (·<·)->a∈s->a<UD s:=by
    show λ{s}=>Mv (P:=λs=>∀{a:A0},s.H (·<·)->a∈s->a<UD s) (λ{a} _ h=>by cases h) (λl x ih {a} hp h=>?_) s;rw[nH];rw[Np]at hp;rcases Xn.S h with h|h
    .have:=hp.2.2 a h x Eo;lia
    .rw[Xd.S h];lia
   have:=key h2 ha
   lia
def WV{m:A5}:∀{k:A5}{l:Ac},l∈TU (m:A0) k↔l.f=k/\IsSet m l
 |0,l=>by
  change l∈[[]]↔_;rw[Xd];constructor
  .rintro rfl;exists Z,λi z e=>by simp at e
  ext
 |k+1,l=>by
  change l∈(TU (m:A0) k).flatMap (VL m)↔_;rw[List.mem_flatMap];constructor
  .rintro⟨s,hs,hl⟩;let(t,h1,h2,rfl):=Wk.S hl;let(e,hI):=WV.S hs;let n0:0<=UD s:=by
    unfold UD;cases q:s.getLast? with
    |none=>ext
    |some x=>have:=(hI.all x<|ER q).1;lia
   exists by ext,SN.mpr ⟨hI,h1,J,h2⟩
  .rintro⟨e,hI⟩;let XJ:l≠[]:=λz=>by ext
   obtain⟨s,t,rfl⟩:∃s t,l=s++[t]:={l.dropLast,l.getLast XJ,(Ew XJ).symm};let(h1,h2,h3,h4):=SN.S hI;exists s,WV.mpr {by simpa using e,h1},Wk.mpr ⟨t,h2,h4,Z⟩
def nG(h:IsSet m s):(VL (m:A0) s).f<=m:=by
 unfold VL;rw[Xr,Nm];let n0:0<=UD s:=by
  unfold UD;cases q:s.getLast? with
  |none=>lia
  |some x=>have:=(h.all x<|ER q).1;lia
 grind
def Mq:∀L:Ab,(∀s∈L,IsSet m s)->(L.flatMap (VL (m:A0))).f<=m*L.f
 |[],_=>Qd _
 |s::L,h=>by
  have:=Mq L λx hx=>h x (Yf _ hx)
  have:=nG (h s Ya)
  rw[List.flatMap_cons,Xa,YM,Nat.mul_succ];lia
def KP{m:A5}(hm:m<=9):∀k,(TU (m:A0) k).f<=9^k
 |0=>XG 1
 |k+1=>by
  let h1:=Mq (m:=m) (TU (m:A0) k) λs hs=>(WV.S hs).2;let h2:=KP hm k
  let h3:m*(TU (m:A0) k).f<=9*9^k:=Ni hm h2;rw[Nat.pow_succ,EC];show Yq h1 h3
def aE{α β:Type}{l:A6 α}{f:α->A6 β}{y:α}(h:l[i]?=⇑y):(l.Q (i+1)).flatMap f=(l.Q i).flatMap f++f y:=by
 rw[YB,h,List.flatMap_append]
 ext
def az{α:Type}{l:A6 α}{f:α->B3}{y:α}(h:l[i]?=⇑y):(l.Q (i+1)).filter f=(l.Q i).filter f++(if f y=A9 then [y] else []):=by rw[YB,h,Vo];grind
def Cr:∀{w t:Ac},t.H (·<·)->w.H (·<·)->(∀z∈t,z∈w)->t.Sublist w
 |[],[],_,_,_=>List.Sublist.slnil
 |[],x::t,_,_,h=>absurd (h x Ya) Eo
 |y::w,[],_,_,_=>List.nil_sublist _
 |y::w,x::t,ht,hw,h=>by
  let(h1,h2):=YS.S ht;let(h3,h4):=YS.S hw;cases e:x=y
  .subst e;show List.Sublist.cons₂ _ (Cr h2 h4 λz hz=>?_);grind
  .let hx:x∈w:=(Yo.S<|h x Ya).resolve_left e;show List.Sublist.cons _ (Cr ht h4 λz hz=>?_);grind
def ND(M:Ac)(es:A6 (A5×A5)):(Ac):=es.foldl (λm e=>pm m e.1 e.2) M
def nF(M:Ac)(es:A6 (A5×A5))(e:A5×A5):ND M (es++[e])=pm (ND M es) e.1 e.2:=by unfold ND;ext
def ZQ7(M:Ac):∀es:A6 (A5×A5),(ND M es).f=M.f:=by
 intro es;unfold ND
 induction es generalizing M with
 |nil=>rfl
 |cons e l ih=>rw[wm,ih,CO]
def Mp{i:A0}(h0:0<=i):Xi xs none ⇑i=xs.Q i.j:=by
 let e:HT.Up xs.f xs.f ⇑i=min i.j xs.f:=by change(if i<0 then (i+xs⁻¹).j else min i.j xs.f)=_;rw[Yh (by ext)]
 unfold Xi;rw[e,HT.VN,Pf,Nb]
 ext
def Vu(m:A5):(Ac):=(List.range m).G λ(i:A5)=>(i:A0)
def Xh{z:A0}:z∈Vu m↔0<=z/\z<(m:A0):=by
 unfold Vu;rw[YC];constructor
 .grind
 .intro h;exists z.j,YX.mpr (by ext),J
def ZZ(m:A5):(Vu m).f=m:=by unfold Vu;simp
def FF(m:A5):(Vu m).H (·<·):=by unfold Vu;rw[Nn];show ES.imp λh=>by ext
def va(m:A5):IsSet m (Vu m):=XW.mpr {λz hz=>Xh.S hz,FF m}
def QB(n:A5)(ps:Aa)(G:Ac)(z:A0):(Ac):=if mk (WW n<|XR ps G) (ZB ps z).1=mk (WW n<|XR ps G) (ZB ps z).2 then G else G++[z]
def WN(n:A5)(ps:Aa)(zs:Ac):(Ac):=zs.foldl (QB n ps) []
def KO(n:A5)(ps:Aa)(zs:Ac)(z:A0):WN n ps (zs++[z])=QB n ps (WN n ps zs) z:=by unfold WN;ext
def uZ(n:A5)(ps:Aa)(zs:Ac):∀ys,∃us,WN n ps (zs++ys)=WN n ps zs++us/\us.Sublist ys:=by
 show Mv {[],Eo} λys y ih=>?_;let(us,e,s):=ih;rw[<-YT,KO,e];unfold QB;split
 .ext
 ext
def uY(n:A5)(ps:Aa)(zs:Ac):(WN n ps zs).Sublist zs:=by let(us,e,s):=uZ n ps [] zs;rw[Gs]at e;rwa[e]
def nE(h:∀z∈zs,0<=z/\z<ps⁻¹):∀z∈WN n ps zs,0<=z/\z<ps⁻¹:=λz hz=>h z ((uY n ps zs).subset hz)
def QA(g:ZA n ps)(h:∀z∈zs,0<=z/\z<ps⁻¹):InN n.j (XR ps (WN n.j ps zs)):=ZQ g (nE h)
def uX(g:ZA n ps):∀zs:Ac,(∀z∈zs,0<=z/\z<ps⁻¹)->cnt (WW n.j (XR ps (WN n.j ps zs)))+(WN n.j ps zs).f=n.j:=by
 show Mv (λ_=>aN n.j) λzs z ih h=>?_;let h1:∀z∈zs,0<=z/\z<ps⁻¹:=λy hy=>h y (Yl _ hy)
 let ih:=ih h1;let(z0,z1):=h z (Yc _<|Xd.mpr Z);let he:=SO (z:=z) g z0 z1
 let hl:=ZG n.j (XR ps<|WN n.j ps zs);rw[KO];unfold QB;split
 .show ih
 .rename_i h;rw[IC,MB,Xa,YH]
  have:=nU (m:=WW n.j<|XR ps<|WN n.j ps zs) (by ext) (by ext) h
  grind
def Cq(g:ZA n ps)(h:∀z∈zs,0<=z/\z<ps⁻¹):(WN n.j ps zs).f<=14:=by
 have:=uX g zs h
 have:=g.2.1
 lia
def nz(g:ZA n ps):∀zs:Ac,(∀z∈zs,0<=z/\z<ps⁻¹)->∀{i j:A5},Conn (XR ps zs) i j->Conn (XR ps (WN n.j ps zs)) i j:=by
 show Mv (λ_ _ _ c=>c) λzs z IH h i j c=>?_;let h1:∀z∈zs,0<=z/\z<ps⁻¹:=λy hy=>h y (Yl _ hy)
 let(z0,z1):=h z (Yc _<|Xd.mpr Z);let he:=SO (z:=z) g z0 z1
 let up:∀{a b:A5},Conn (XR ps<|WN n.j ps zs) a b->Conn (XR ps<|WN n.j ps<|zs++[z]) a b:=λc=>by
  rw[KO];unfold QB;split
  .show c
  .show c.mono (ZX λy hy=>Yl _ hy)
 let own:Conn (XR ps<|WN n.j ps<|zs++[z]) (ZB ps z).1 (ZB ps z).2:=by
  rw[KO];unfold QB;split
  .rename_i e;show(Wd (QA g h1) he.1 he.2).S e
  .rw[IC];show .edge (Yc _<|Xd.mpr Z)
 induction c with
 |refl i=>show .refl i
 |symm _ ih=>show .symm ih
 |trans _ _ i1 i2=>show .trans i1 i2
 |@edge a b e=>
  rw[IC]at e;rcases Xn.S e with e|e
  .show up (IH h1<|.edge e)
  grind
end My
namespace PyProof.Rows
open PySem
def Cp:(B3->Keyed->B4 Keyed->A5->A5->A5->StateT SortSt Sem (Option A5)):=sortPriv% PySem.Builtin.gallop
def Co:(B4 Keyed->B4 Keyed->StateT SortSt Sem (B4 Keyed)):=sortPriv% PySem.Builtin.mergeLo
def Cn:(B4 Keyed->B4 Keyed->StateT SortSt Sem (B4 Keyed)):=sortPriv% PySem.Builtin.mergeHi
def UO(M:Model)(A:Around)(E:Ae)(s:B6)(O:KeyOrd)(key:Keyed->O.α)(kd:SortKind)(S:Keyed->Prop):(Prop):=
 ∀x y st Q,S x->S y->kindOf st=kd->Q (some<|O.blt (key x)<|key y) st->wpS M A E s (lt' x y) Q st
abbrev dK:Keyed:=(Value.none,Value.none)
section
variable{M:Model}{A:Around}{E:Ae}{s:B6}{O:KeyOrd}{key:Keyed->O.α}{kd:SortKind}{S:Keyed->Prop}
def ke(key:Keyed->O.α)(arr:B4 Keyed)(i:A5):(O.α):=key (arr.R i dK)
def Xg{p:Keyed}(h:arr[i]?=⇑p):ke key arr i=key p:=by unfold ke;ext
def Zx{p:Keyed}{Q:Keyed->SortSt->Prop}{st:SortSt}(h:arr[i]?=⇑p)(q:Q p st):wpS M A E s (elem' arr i) Q st:=by rw[elem'_eq,h];show YQ q
def beyB(O:KeyOrd)(key:Keyed->O.α)(left:B3)(kx:Keyed)(arr:B4 Keyed)(j:A5):(B3):=if left then O.blt (ke key arr j) (key kx) else !O.blt (key kx) (ke key arr j)
def ny(h:O.kle (ke key arr i) (ke key arr j))(hb:beyB O key left kx arr j=A9):beyB O key left kx arr i=A9:=by
 unfold beyB at *;cases left with
 |true=>
  show KeyOrd.klt_of_kle_of_klt h hb
 |false=>
  simp only[EM,if_false,Bool.not_eq_true']at *;show NL h hb
def FE(L:UO M A E s O key kd S){st:SortSt}{Q:Option A5->SortSt->Prop}(hk:kindOf st=kd)(hS:S kx)(hA:∀i,i<n->∃p,arr[base+i]?=⇑p/\S p)(hh:hint<n)
  (hm:∀i j,i<=j->j<n->O.kle (ke key arr<|base+i) (ke key arr<|base+j))
  (h:∀k,k<=n->(∀i,i<k->beyB O key left kx arr (base+i)=A9)->(∀i,k<=i->i<n->beyB O key left kx arr (base+i)=B0)->Q ⇑k st):wpS M A E s (Cp left kx arr base n hint) Q st:=by
 let Cm:∀i,i<n->∀Q,Q (some<|beyB O key left kx arr<|base+i) st->
   wpS M A E s (do let x <-elem' arr (base+i);if left=A9 then lt' x kx else do let r <-lt' kx x;pure (Option.G (λx=>!x) r)) Q st:=λi hi Q q=>by
  let(p,e,hp):=hA i hi;show Yt (Zx e ?_);unfold beyB at q;rw[Xg e]at q;cases left with
  |true=>
   show L _ _ _ _ hp hS hk q
  |false=>
   show Yt (L _ _ _ _ hS hp hk<|YQ q)
 let dn:∀{i j:A5},i<=j->j<n->beyB O key left kx arr (base+j)=A9->beyB O key left kx arr (base+i)=A9:=λWG hj hb=>ny (hm _ _ WG hj) hb;let up:∀{i j:A5},i<=j->j<n->beyB O key left kx arr (base+i)=B0->beyB O key left kx arr (base+j)=B0:=λ{i j} WG hj hb=>by grind
 generalize hB:(λj=>beyB O key left kx arr<|base+j)=AP at *;let eB:∀j,beyB O key left kx arr (base+j)=AP j:=λj=>congrFun hB j
 simp only[eB]at Cm dn up h;let last:∀lo hi,lo<=hi->hi<=n->(∀i,i<lo->AP i=A9)->(∀i,hi<=i->i<n->AP i=B0)->∀f,(∀lo hi,f (none,lo,hi)=pure ⇑hi)->
   wpS M A E s (forIn [0:n] ((none,lo,hi):Option (Option A5)×A5×A5) (λ_ r=>if r.2.1 >= r.2.2 then pure (ForInStep.done (none,r.2.1,r.2.2)) else do
    let x <-(do let x <-elem' arr (base+(r.2.1+(r.2.2-r.2.1)/2));if left=A9 then lt' x kx else do let r <-lt' kx x;pure (Option.G (λx=>!x) r))
    match x with
    |some more=>if more=A9 then pure (ForInStep.yield (none,r.2.1+(r.2.2-r.2.1)/2+1,r.2.2)) else pure (ForInStep.yield (none,r.2.1,r.2.1+(r.2.2-r.2.1)/2))
    |_=>pure<|ForInStep.done (⇑none,r.2.1,r.2.2)) >>= f) Q st:=by
  intro lo hi h1 h2 h3 h4 f hf;show Yt (Sj (QQ (I:=λx c XS=>XS=st/\∃l r,c=(none,l,r)/\l<=r/\r<=n/\r-l<=n-x/\(∀i,i<l->AP i=A9)/\(∀i,r<=i->i<n->AP i=B0))
   (Q:=λc XS=>XS=st/\∃r,c=(none,r,r)/\r<=n/\(∀i,i<r->AP i=A9)/\(∀i,r<=i->i<n->AP i=B0)) ?_ ?_ ⟨Z,lo,hi,Z,h1,h2,D,h3,h4⟩) ?_)
  .rintro x c XS _ hx ⟨rfl,l,r,rfl,a1,a2,a3,a4,a5⟩;dsimp only;cases hc:l >= r
   .rw[Yk hc]
    have:l=r:=J
    subst this;show YQ ⟨Z,l,Z,a2,a4,a5⟩
   .rw[Yh hc];show Yt (Cm _ D _ ?_);cases e:AP (l+(r-l)/2) with
    |true=>
     show YQ {Z,_,_,Z,D,a2,D,λi hi=>dn (j:=l+(r-l)/2) J D e,a5}
    |false=>
     show YQ {Z,_,_,Z,J,D,D,a4,λi hi Wo=>up (i:=l+(r-l)/2) hi Wo e}
  .rintro c XS ⟨rfl,l,r,rfl,a1,a2,a3,a4,a5⟩
   have:l=r:=D
   subst this;exists Z,l,Z,a2,a4,a5
  .rintro c XS ⟨rfl,r,rfl,a2,a4,a5⟩;rw[hf];show YQ (h r a2 a4 a5)
 show Yt (Cm hint hh _ ?_);cases e0:AP hint with
 |true=>
  show Yt (Sj (QQ (I:=λx c XS=>XS=st/\∃l o,c=(none,l,o)/\l<o/\hint+l<n/\x+1<=o/\AP (hint+l)=A9)
   (Q:=λc XS=>XS=st/\∃l o,c=(none,l,o)/\l<o/\hint+l<n/\AP (hint+l)=A9/\(n-hint<=o\/AP (hint+o)=B0)) ?_ ?_ ⟨Z,0,1,Z,J,J,J,e0⟩) ?_)
  .rintro x c XS _ hx ⟨rfl,l,o,rfl,a1,a2,a3,a4⟩;cases hc:o >= n-hint
   .rw[Yk hc];show YQ {Z,l,o,Z,a1,a2,a4,.inl hc}
   .rw[Yh hc];show Yt (Cm _ J _ ?_);cases e:AP (hint+o) with
    |false=>
     show YQ {Z,l,o,Z,a1,a2,a4,.inr e}
    |true=>
     show YQ {Z,o,2*o+1,Z,J,D,J,e}
  .rintro c XS ⟨rfl,l,o,rfl,a1,a2,a3,a4⟩;exists Z,l,o,Z,a1,a2,a4,.inl J
  .rintro c XS ⟨rfl,l,o,rfl,a1,a2,a4,a5⟩;dsimp only;show last _ _ J J (λi hi=>dn (j:=hint+l) J a2 a4) (λi hi Wo=>?_) _ λ_ _=>rfl;rcases a5 with a5|a5
   .lia
   .cases h9:n-hint<=o
    .lia
    .show up (i:=hint+o) D Wo a5
 |false=>
  show Yt (Sj (QQ (I:=λx c XS=>XS=st/\∃l o,c=(none,l,o)/\l<o/\l<=hint/\x+1<=o/\AP (hint-l)=B0)
   (Q:=λc XS=>XS=st/\∃l o,c=(none,l,o)/\l<o/\l<=hint/\AP (hint-l)=B0/\(hint+1<=o\/(o<=hint/\AP (hint-o)=A9))) ?_ ?_ ⟨Z,0,1,Z,rF,J,J,e0⟩) ?_)
  .rintro x c XS _ hx ⟨rfl,l,o,rfl,a1,a2,a3,a4⟩;cases hc:o >= hint+1
   .rw[Yk hc];show YQ {Z,l,o,Z,a1,a2,a4,.inl hc}
   .rw[Yh hc];show Yt (Cm _ D _ ?_);cases e:AP (hint-o) with
    |true=>
     show YQ {Z,l,o,Z,a1,a2,a4,.inr ⟨J,e⟩}
    |false=>
     show YQ {Z,o,2*o+1,Z,J,J,J,e}
  .rintro c XS ⟨rfl,l,o,rfl,a1,a2,a3,a4⟩;exists Z,l,o,Z,a1,a2,a4,.inl J
  .rintro c XS ⟨rfl,l,o,rfl,a1,a2,a4,a5⟩;dsimp only;show last _ _ rF D (λi hi=>?_) (λi hi Wo=>up (i:=hint-l) J Wo a4) _ λ_ _=>rfl;rcases a5 with a5|⟨a5,a6⟩
   .lia
   grind
def RK(O:KeyOrd)(key:Keyed->O.α)(x y:Keyed):(Prop):=O.kle (key x) (key y)
def Te(a:B4 Keyed)(i:A5):(a.extract i a.o).m=a.m.drop i:=by rw[QO,GD];show YF Eo
def Ck(a:B4 Keyed)(i k:A5):(a.extract i (i+k)).m=(a.m.drop i).Q k:=by
 ext
def OO{a:B4 Keyed}{p:Keyed}(h:a[i]?=⇑p):(a.m.drop i).Q 1=[p]:=by
 let h':a.m[i]?=⇑p:=by simpa using h
 let(hi,e):=Xx.S h';rw[GC hi,e];rfl
def Cj{a:B4 Keyed}{i k:A5}{x:Keyed}(h:x∈(a.m.drop i).Q k):∃j,j<k/\a[i+j]?=⇑x:=by let(j,hj):=YG h;grind
def nu{a:B4 Keyed}{x:Keyed}(h:x∈a.m.drop i):∃j,i<=j/\j<a.o/\a[j]?=⇑x:=by
 let(j,hj):=YG h;rw[JU]at hj;let RU:=(Xx.S hj).1
 exists i+j,by ext,by simpa using RU,by simpa using hj
def ON:(A5->StateT SortSt Sem Unit):=sortPriv% PySem.Builtin.setMinGallop
def uW{E:Ae}{st:SortSt}{Q:Unit->SortSt->Prop}(h:Q () (SortSt.mk' (kindOf st) (arrOf st) (pendingOf st) g (failedOf st))):wpS M A E s (ON g) Q st:=Lm h
abbrev KN:=Option (B4 Keyed)×B4 Keyed×A5×A5×A5×A5×A5
def IA(a b out:B4 Keyed)(ia ib g ac bc:A5):(StateT SortSt Sem (ForInStep KN)):=elem' a ia >>= λx=>
 if (ia+1+1 == a.o)=A9 then pure (.done (some<|out.push x++b.extract ib b.o++a.extract (ia+1) a.o,out.push x,ia+1,ib,g,ac,bc))
 else if (decide (ac<7)&&decide (bc<7))=A9 then pure (.done (none,out.push x,ia+1,ib,g,ac,bc)) else pure (.yield (none,out.push x,ia+1,ib,g,ac,bc))
def Iz(a b out:B4 Keyed)(ia ib g ac bc:A5):(StateT SortSt Sem (ForInStep KN)):=elem' b ib >>= λx=>
 if (ib+1 == b.o)=A9 then pure (.done (some<|out.push x++a.extract ia a.o++b.extract (ib+1) b.o,out.push x,ia,ib+1,g,ac,bc))
 else elem' a ia >>= λy=>Cp true y b (ib+1) (b.o-(ib+1)) 0 >>= λr=>match r with
  |some k=>if k>0 then
    if (ib+1+k == b.o)=A9 then pure (.done (some<|out.push x++b.extract (ib+1) (ib+1+k)++a.extract ia a.o++b.extract (ib+1+k) b.o,out.push x++b.extract (ib+1) (ib+1+k),ia,ib+1+k,g,ac,k))
    else IA a b (out.push x++b.extract (ib+1) (ib+1+k)) ia (ib+1+k) g ac k
   else IA a b (out.push x) ia (ib+1) g ac k
  |_=>pure (.done (some<|out.push x++a.extract ia a.o++b.extract (ib+1) b.o,out.push x,ia,ib+1,g,ac,bc))
def Iy(a b out:B4 Keyed)(ia ib g ac bc:A5):(StateT SortSt Sem (ForInStep KN)):=ON g >>= λ_=>elem' b ib >>= λx=>Cp false x a ia (a.o-ia) 0 >>= λr=>match r with
 |some k=>if k>0 then
   if (ia+k+1 == a.o)=A9 then pure (.done (some<|out++a.extract ia (ia+k)++b.extract ib b.o++a.extract (ia+k) a.o,out++a.extract ia (ia+k),ia+k,ib,g,k,bc))
   else if (ia+k == a.o)=A9 then pure (.done (some<|out++a.extract ia (ia+k)++a.extract (ia+k) a.o++b.extract ib b.o,out++a.extract ia (ia+k),ia+k,ib,g,k,bc))
   else Iz a b (out++a.extract ia (ia+k)) (ia+k) ib g k bc
  else Iz a b out ia ib g k bc
 |_=>pure (.done (some<|out++a.extract ia a.o++b.extract ib b.o,out,ia,ib,g,ac,bc))
def ZJ{α σ:Type}{c:Prop}[Decidable c]{x y:StateT σ Sem α}{Q:α->σ->Prop}{st:σ}(hc:c)(h:wpS M A E s x Q st):wpS M A E s (if c then x else y) Q st:=by ext
def WR{α σ:Type}{c:Prop}[Decidable c]{x y:StateT σ Sem α}{Q:α->σ->Prop}{st:σ}(hc:¬c)(h:wpS M A E s y Q st):wpS M A E s (if c then x else y) Q st:=by ext
abbrev FC:=Option (B4 Keyed)×B4 Keyed×A5×A5×A5×A5
def loB1(a b:B4 Keyed)(g:A5)(c:FC):(StateT SortSt Sem (ForInStep FC)):=elem' b c.2.2.2.1 >>= λy=>elem' a c.2.2.1 >>= λx=>lt' y x >>= λr=>match r with
 |some t=>if t=A9 then elem' b c.2.2.2.1 >>= λy=>
    if (c.2.2.2.1+1 == b.o)=A9 then pure (.done (some<|c.2.1.push y++a.extract c.2.2.1 a.o++b.extract (c.2.2.2.1+1) b.o,c.2.1.push y,c.2.2.1,c.2.2.2.1+1,0,c.2.2.2.2.2+1))
    else if c.2.2.2.2.2+1 >= g then pure (.done (none,c.2.1.push y,c.2.2.1,c.2.2.2.1+1,0,c.2.2.2.2.2+1)) else pure (.yield (none,c.2.1.push y,c.2.2.1,c.2.2.2.1+1,0,c.2.2.2.2.2+1))
   else elem' a c.2.2.1 >>= λx=>
    if (c.2.2.1+1+1 == a.o)=A9 then pure (.done (some<|c.2.1.push x++b.extract c.2.2.2.1 b.o++a.extract (c.2.2.1+1) a.o,c.2.1.push x,c.2.2.1+1,c.2.2.2.1,c.2.2.2.2.1+1,0))
    else if c.2.2.2.2.1+1 >= g then pure (.done (none,c.2.1.push x,c.2.2.1+1,c.2.2.2.1,c.2.2.2.2.1+1,0)) else pure (.yield (none,c.2.1.push x,c.2.2.1+1,c.2.2.2.1,c.2.2.2.2.1+1,0))
 |_=>pure (.done (some<|c.2.1++a.extract c.2.2.1 a.o++b.extract c.2.2.2.1 b.o,c.2.1,c.2.2.1,c.2.2.2.1,c.2.2.2.2.1,c.2.2.2.2.2))
abbrev FA:=Option (B4 Keyed)×B4 Keyed×A5×A5×A5
def KL(a b:B4 Keyed)(c:KN):(StateT SortSt Sem (ForInStep KN)):=if c.2.2.2.2.1>1 then Iy a b c.2.1 c.2.2.1 c.2.2.2.1 (c.2.2.2.2.1-1) c.2.2.2.2.2.1 c.2.2.2.2.2.2 else Iy a b c.2.1 c.2.2.1 c.2.2.2.1 c.2.2.2.2.1 c.2.2.2.2.2.1 c.2.2.2.2.2.2
def Ci(c:KN):(StateT SortSt Sem (ForInStep FA)):=match c.1 with
 |some r=>pure (.done (⇑r,c.2.1,c.2.2.1,c.2.2.2.1,c.2.2.2.2.1))
 |none=>ON (c.2.2.2.2.1+1) >>= λ_=>pure (.yield (none,c.2.1,c.2.2.1,c.2.2.2.1,c.2.2.2.2.1+1))
def nt(a b:B4 Keyed)(g:A5)(c:FC):(StateT SortSt Sem (ForInStep FA)):=match c.1 with
 |some r=>pure (.done (⇑r,c.2.1,c.2.2.1,c.2.2.2.1,g))
 |none=>liftM (rule "list.sort.gallop") >>= λ_=>forIn [0:a.o+b.o] ((none,c.2.1,c.2.2.1,c.2.2.2.1,g+1,c.2.2.2.2.1,c.2.2.2.2.2):KN) (λ_ s=>KL a b s) >>= Ci
def nr(a b:B4 Keyed)(c:FA):(StateT SortSt Sem (ForInStep FA)):=forIn [0:a.o+b.o] ((none,c.2.1,c.2.2.1,c.2.2.2.1,0,0):FC) (λ_ s=>loB1 a b c.2.2.2.2 s) >>= nt a b c.2.2.2.2
def Cg(c:FA):(StateT SortSt Sem (B4 Keyed)):=match c.1 with
 |some r=>pure r
 |none=>liftM (unsupported "internal:list.sort.merge-bound":Sem (B4 Keyed))
def Cf(a b:B4 Keyed):(StateT SortSt Sem (B4 Keyed)):=liftM (rule "list.sort.merge-lo") >>= λ_=>elem' b 0 >>= λx=>
 if (1 == b.o)=A9 then pure (#[x]++a.extract 0 a.o++b.extract 1 b.o) else if (0+1 == a.o)=A9 then pure (#[x]++b.extract 1 b.o++a.extract 0 a.o)
 else get >>= λst=>forIn [0:a.o+b.o] ((none,#[x],0,1,gallopOf st):FA) (λ_ c=>nr a b c) >>= Cg
def TR{α β γ:Type _}(f:α->β->γ){a a':α}{b b':β}(h:a=a')(k:b=b'):f a b=f a' b':=by subst h k;rfl
def Fz{α:Type _}{c:Prop}[Decidable c]{a a' b b':α}(h:a=a')(k:b=b'):(if c then a else b)=if c then a' else b':=by subst h k;rfl
def Ce(a b:B4 Keyed):Co a b=Cf a b:=by
 show YI (Bind.bind _) (funext λ_=>YI (Bind.bind _)<|funext λx=>?_);show Fz Z (Fz Z<|YI (Bind.bind _)<|funext λst=>?_);show TR Bind.bind (YI (forIn _ _)<|funext λ_=>funext λc=>?_) ?_
 .show TR Bind.bind (YI (forIn _ _)<|funext λ_=>funext λc=>?_) ?_
  .show YI (Bind.bind _) (funext λ_=>YI (Bind.bind _)<|funext λ_=>YI (Bind.bind _)<|funext λr=>?_);cases r with
   |none=>rfl
   |some r=>rfl
  .funext c
   let(c1,c2):=c;cases c1 with
   |some r=>rfl
   |none=>
    show YI (Bind.bind _) (funext λ_=>TR Bind.bind (YI (forIn _ _)<|funext λ_=>funext λc=>?_) ?_)
    .show Fz ?_ ?_
     .show YI (Bind.bind _) (funext λ_=>YI (Bind.bind _)<|funext λ_=>YI (Bind.bind _)<|funext λr=>?_);cases r with
      |none=>rfl
      |some r=>rfl
     .rfl
    .funext c
     let(c1,c2):=c;cases c1<;>rfl
 .funext c
  let(c1,c2):=c;cases c1<;>rfl
section
variable{st:SortSt}
def UN(st XS:SortSt):(Prop):=kindOf XS=kindOf st/\arrOf XS=arrOf st/\pendingOf XS=pendingOf st/\failedOf XS=failedOf st
end
end
section
variable{M:Model}{A:Around}{E:Ae}{s:B6}{O:KeyOrd}{key:Keyed->O.α}{kd:SortKind}{S:Keyed->Prop}
def Cd{la:A6 Keyed}(hi:i<=n):la.Q n=la.Q i++(la.Q n).drop i:=by let e:=(Gz i<|la.Q n).symm;grind
def Mo(a:B4 Keyed)(n:A5):(a.extract 0 n).m=a.m.Q n:=by
 ext
def Cc(a:B4 Keyed)(i n:A5):((a.extract i n).reverse).m=((a.m.Q n).drop i).reverse:=by rw[sJ,QO,GD,rT]
def Qz{a:B4 Keyed}{i n:A5}{p:Keyed}(hn:n=i+1)(h:a[i]?=⇑p):((a.m.Q n).drop i).reverse=[p]:=by
 subst hn;let h':a.m[i]?=⇑p:=by simpa using h
 rw[rT,cF];let(hi,e):=Xx.S h';rw[GC hi,e];rfl
def nq{a:B4 Keyed}{x:Keyed}(h:x∈a.m.Q n):∃j,j<n/\j<a.o/\a[j]?=⇑x:=by let(j,hj):=YG h;grind
def Cb{a:B4 Keyed}{i n:A5}{x:Keyed}(h:x∈(a.m.Q n).drop i):∃j,i<=j/\j<n/\j<a.o/\a[j]?=⇑x:=by let(j,hj):=YG h;grind
abbrev KJ:=Option (B4 Keyed)×A5×A5×B4 Keyed×A5×A5×A5
def Iw(a b out:B4 Keyed)(na nb g ac bc:A5):(StateT SortSt Sem (ForInStep KJ)):=elem' a (na-1) >>= λx=>
 if (na-1 == 0)=A9 then pure (.done (some<|a.extract 0 (na-1)++b.extract 0 nb++(out.push x).reverse,na-1,nb,out.push x,g,ac,bc))
 else if (decide (ac<7)&&decide (bc<7))=A9 then pure (.done (none,na-1,nb,out.push x,g,ac,bc)) else pure (.yield (none,na-1,nb,out.push x,g,ac,bc))
def OM(a b out:B4 Keyed)(na nb g ac bc:A5):(StateT SortSt Sem (ForInStep KJ)):=elem' b (nb-1) >>= λx=>
 if (nb-1 == 1)=A9 then pure (.done (some<|b.extract 0 (nb-1)++a.extract 0 na++(out.push x).reverse,na,nb-1,out.push x,g,ac,bc))
 else elem' a (na-1) >>= λy=>Cp true y b 0 (nb-1) (nb-1-1) >>= λr=>match r with
  |some k=>if nb-1-k>0 then
    if (k == 1)=A9 then pure (.done (some<|b.extract 0 k++a.extract 0 na++(out.push x++(b.extract k<|nb-1).reverse).reverse,na,k,out.push x++(b.extract k<|nb-1).reverse,g,ac,nb-1-k))
    else if (k == 0)=A9 then pure (.done (some<|a.extract 0 na++b.extract 0 k++(out.push x++(b.extract k<|nb-1).reverse).reverse,na,k,out.push x++(b.extract k<|nb-1).reverse,g,ac,nb-1-k))
    else Iw a b (out.push x++(b.extract k<|nb-1).reverse) na k g ac (nb-1-k)
   else Iw a b (out.push x) na (nb-1) g ac (nb-1-k)
  |_=>pure (.done (some<|a.extract 0 na++b.extract 0 (nb-1)++(out.push x).reverse,na,nb-1,out.push x,g,ac,bc))
def OL(a b out:B4 Keyed)(na nb g ac bc:A5):(StateT SortSt Sem (ForInStep KJ)):=ON g >>= λ_=>elem' b (nb-1) >>= λx=>Cp false x a 0 na (na-1) >>= λr=>match r with
 |some k=>if na-k>0 then
   if (k == 0)=A9 then pure (.done (some<|a.extract 0 k++b.extract 0 nb++(out++(a.extract k na).reverse).reverse,k,nb,out++(a.extract k na).reverse,g,na-k,bc))
   else OM a b (out++(a.extract k na).reverse) k nb g (na-k) bc
  else OM a b out na nb g (na-k) bc
 |_=>pure (.done (some<|a.extract 0 na++b.extract 0 nb++out.reverse,na,nb,out,g,ac,bc))
abbrev Fy:=Option (B4 Keyed)×A5×A5×B4 Keyed×A5×A5
def hiB1(a b:B4 Keyed)(g:A5)(c:Fy):(StateT SortSt Sem (ForInStep Fy)):=elem' b (c.2.2.1-1) >>= λy=>elem' a (c.2.1-1) >>= λx=>lt' y x >>= λr=>match r with
 |some t=>if t=A9 then elem' a (c.2.1-1) >>= λx=>
    if (c.2.1-1 == 0)=A9 then pure (.done (some<|a.extract 0 (c.2.1-1)++b.extract 0 c.2.2.1++(c.2.2.2.1.push x).reverse,c.2.1-1,c.2.2.1,c.2.2.2.1.push x,c.2.2.2.2.1+1,0))
    else if c.2.2.2.2.1+1 >= g then pure (.done (none,c.2.1-1,c.2.2.1,c.2.2.2.1.push x,c.2.2.2.2.1+1,0)) else pure (.yield (none,c.2.1-1,c.2.2.1,c.2.2.2.1.push x,c.2.2.2.2.1+1,0))
   else elem' b (c.2.2.1-1) >>= λy=>
    if (c.2.2.1-1 == 1)=A9 then pure (.done (some<|b.extract 0 (c.2.2.1-1)++a.extract 0 c.2.1++(c.2.2.2.1.push y).reverse,c.2.1,c.2.2.1-1,c.2.2.2.1.push y,0,c.2.2.2.2.2+1))
    else if c.2.2.2.2.2+1 >= g then pure (.done (none,c.2.1,c.2.2.1-1,c.2.2.2.1.push y,0,c.2.2.2.2.2+1)) else pure (.yield (none,c.2.1,c.2.2.1-1,c.2.2.2.1.push y,0,c.2.2.2.2.2+1))
 |_=>pure (.done (some<|a.extract 0 c.2.1++b.extract 0 c.2.2.1++c.2.2.2.1.reverse,c.2.1,c.2.2.1,c.2.2.2.1,c.2.2.2.2.1,c.2.2.2.2.2))
abbrev Fx:=Option (B4 Keyed)×A5×A5×B4 Keyed×A5
def Ca(a b:B4 Keyed)(c:KJ):(StateT SortSt Sem (ForInStep KJ)):=if c.2.2.2.2.1>1 then OL a b c.2.2.2.1 c.2.1 c.2.2.1 (c.2.2.2.2.1-1) c.2.2.2.2.2.1 c.2.2.2.2.2.2 else OL a b c.2.2.2.1 c.2.1 c.2.2.1 c.2.2.2.2.1 c.2.2.2.2.2.1 c.2.2.2.2.2.2
def nj(c:KJ):(StateT SortSt Sem (ForInStep Fx)):=match c.1 with
 |some r=>pure (.done (⇑r,c.2.1,c.2.2.1,c.2.2.2.1,c.2.2.2.2.1))
 |none=>ON (c.2.2.2.2.1+1) >>= λ_=>pure (.yield (none,c.2.1,c.2.2.1,c.2.2.2.1,c.2.2.2.2.1+1))
def BZ(a b:B4 Keyed)(g:A5)(c:Fy):(StateT SortSt Sem (ForInStep Fx)):=match c.1 with
 |some r=>pure (.done (⇑r,c.2.1,c.2.2.1,c.2.2.2.1,g))
 |none=>liftM (rule "list.sort.gallop") >>= λ_=>forIn [0:a.o+b.o] ((none,c.2.1,c.2.2.1,c.2.2.2.1,g+1,c.2.2.2.2.1,c.2.2.2.2.2):KJ) (λ_ s=>Ca a b s) >>= nj
def BY(a b:B4 Keyed)(c:Fx):(StateT SortSt Sem (ForInStep Fx)):=forIn [0:a.o+b.o] ((none,c.2.1,c.2.2.1,c.2.2.2.1,0,0):Fy) (λ_ s=>hiB1 a b c.2.2.2.2 s) >>= BZ a b c.2.2.2.2
def ni(c:Fx):(StateT SortSt Sem (B4 Keyed)):=match c.1 with
 |some r=>pure r
 |none=>liftM (unsupported "internal:list.sort.merge-bound":Sem (B4 Keyed))
def nh(a b:B4 Keyed):(StateT SortSt Sem (B4 Keyed)):=liftM (rule "list.sort.merge-hi") >>= λ_=>elem' a (a.o-1) >>= λx=>
 if (a.o-1 == 0)=A9 then pure (a.extract 0 (a.o-1)++b.extract 0 b.o++(#[x]:B4 Keyed).reverse) else if (b.o == 1)=A9 then pure (b.extract 0 b.o++a.extract 0 (a.o-1)++(#[x]:B4 Keyed).reverse)
 else get >>= λst=>forIn [0:a.o+b.o] ((none,a.o-1,b.o,#[x],gallopOf st):Fx) (λ_ c=>BY a b c) >>= ni
def ng(a b:B4 Keyed):Cn a b=nh a b:=by
 show YI (Bind.bind _) (funext λ_=>YI (Bind.bind _)<|funext λx=>?_);show Fz Z (Fz Z<|YI (Bind.bind _)<|funext λst=>?_);show TR Bind.bind (YI (forIn _ _)<|funext λ_=>funext λc=>?_) ?_
 .show TR Bind.bind (YI (forIn _ _)<|funext λ_=>funext λc=>?_) ?_
  .show YI (Bind.bind _) (funext λ_=>YI (Bind.bind _)<|funext λ_=>YI (Bind.bind _)<|funext λr=>?_);cases r with
   |none=>rfl
   |some r=>rfl
  .funext c
   let(c1,c2):=c;cases c1 with
   |some r=>rfl
   |none=>
    show YI (Bind.bind _) (funext λ_=>TR Bind.bind (YI (forIn _ _)<|funext λ_=>funext λc=>?_) ?_)
    .show Fz ?_ ?_
     .show YI (Bind.bind _) (funext λ_=>YI (Bind.bind _)<|funext λ_=>YI (Bind.bind _)<|funext λr=>?_);cases r with
      |none=>rfl
      |some r=>rfl
     .rfl
    .funext c
     let(c1,c2):=c;cases c1<;>rfl
 .funext c
  let(c1,c2):=c;cases c1<;>rfl
def BX{σ:Type}{st x:σ}{Q:PUnit->σ->Prop}(h:Q ⟨⟩ x):wpS M A E s (set x:StateT σ Sem PUnit) Q st:=by show Yg ⟨Z,h⟩
def ay:∀(r:A6 Keyed)(o k:A5)(arr:B4 Keyed),o+k+r.f<=arr.o->
  ((r.zipIdx k).foldl (λa x=>match x with|(p,j)=>a.setIfInBounds (o+j) p) arr).m=arr.m.Q (o+k)++r++arr.m.drop (o+k+r.f)
 |[],o,k,arr,h=>Eo
 |p::r,o,k,arr,h=>by
  rw[YM]at h;let ih:=ay r o (k+1) (arr.setIfInBounds (o+k) p) D
  show ih.l ?_;rw[Array.toList_setIfInBounds,YM];let hl:o+k<arr.m.f:=by simp;lia
  rw[List.drop_set_of_lt J,show o+(k+1)=o+k+1 by lia,List.take_set,List.take_succ_eq_append_getElem hl,cu _ _ D];simp[show o+k+1+r.length=o+k+(r.length+1) by lia,si (by simpa using Uy hl:o+k<=arr.size)]
def Stp(lo:A5)(st XS:SortSt):(Prop):=kindOf XS=kindOf st/\failedOf XS=failedOf st/\pendingOf XS=pendingOf st/\(arrOf XS).Perm (arrOf st)/\∀i,i<lo->(arrOf XS)[i]?=(arrOf st)[i]?
def Stp.refl(lo:A5)(st:SortSt):Stp lo st st:={Z,Z,Z,EF _,λ_ _=>rfl}
def Stp.trans{lo:A5}{a b c:SortSt}(h:Stp lo a b)(k:Stp lo b c):Stp lo a c:={k.1.l h.1,k.2.1.l h.2.1,k.2.2.1.l h.2.2.1,k.2.2.2.1.l h.2.2.2.1,λi hi=>(k.2.2.2.2 i hi).l (h.2.2.2.2 i hi)}
def Stp.size{lo:A5}{a b:SortSt}(h:Stp lo a b):(arrOf b).o=(arrOf a).o:=h.2.2.2.1.size_eq
def Stp.all{lo:A5}{a b:SortSt}(h:Stp lo a b)(hS:∀x∈(arrOf a).m,S x):∀x∈(arrOf b).m,S x:=λx hx=>hS x ((Lw.S h.2.2.2.1).mem_iff.S hx)
def Stp.mirror{lo i j:A5}{st:SortSt}(hi:lo<=i)(hj:j<=(arrOf st).o):Stp lo st (setArr st (PyProof.Rows.mirror (arrOf st) i j ((j-i)/2))):=
 {Z,Z,Z,mirror_perm _ _ _ _,λk hk=>by rw[rM hj,Yh J]}
def Stp.bubble{lo src d:A5}{st:SortSt}(hs:src<(arrOf st).o)(hd:d<=src)(Lc:lo<=src-d):Stp lo st (setArr st (PyProof.Rows.bubble (arrOf st) src d)):=
 {Z,Z,Z,bubble_perm _ _ _,λk hk=>by rw[getElem?_bubble hs d hd,Yh J,Yh J]}
def KI(h:xs[i]?=ys[j]?):ke key xs i=ke key ys j:=by unfold ke;ext
def Mn(hj:j<=xs.o)(k:A5):ke key (mirror xs i j ((j-i)/2)) k=if i<=k/\k<j then ke key xs (i+j-1-k) else ke key xs k:=by
 let e:=rM (i:=i) hj k;split
 .rename_i h;rw[Yk h]at e;show KI e
 .rename_i h;rw[Yh h]at e;show KI e
def BW(hs:src<xs.o)(hd:d<=src)(k:A5):ke key (bubble xs src d) k=if k=src-d then ke key xs src else if src-d<k/\k<=src then ke key xs (k-1) else ke key xs k:=by
 let e:=getElem?_bubble hs d hd k;split
 .rename_i h;rw[Yk h]at e;show KI e
 .rename_i h;rw[Yh h]at e;split
  .rename_i h;rw[Yk h]at e;show KI e
  .rename_i h;rw[Yh h]at e;show KI e
def BV(L:UO M A E s O key kd S){st:SortSt}{Q:Option B3->SortSt->Prop}(hk:kindOf st=kd)(hS:∀x∈(arrOf st).m,S x)(hi:i<(arrOf st).o)(hj:j<(arrOf st).o)
  (h:Q (some<|O.blt (ke key (arrOf st) i)<|ke key (arrOf st) j) st):wpS M A E s (ltAt' i j) Q st:=by
 let e1:=QU (arrOf st) i hi;let e2:=QU (arrOf st) j hj
 rw[Xg e1,Xg e2]at h;show Yt (Pc ?_);show Yt (Zx e1<|Yt<|Zx e2 ?_);show L _ _ _ _ (hS _ Eo) (hS _ Eo) hk h
def KH{st:SortSt}{Q:Unit->SortSt->Prop}(h:Q () (setArr st (mirror (arrOf st) i j ((j-i)/2)))):wpS M A E s (reverseSlice' i j) Q st:=by show Lm h
def VJ(O:KeyOrd)(key:Keyed->O.α)(arr:B4 Keyed)(lo k:A5):(Prop):=∀i j,i<=j->j<k->O.kle (ke key arr<|lo+i) (ke key arr<|lo+j)
def Vj(O:KeyOrd)(key:Keyed->O.α)(arr:B4 Keyed)(lo k:A5):(Prop):=∀i j,i<=j->j<k->O.kle (ke key arr<|lo+j) (ke key arr<|lo+i)
def nc(lo a WM:A5):(StateT SortSt Sem (Option (Option A5)×A5)):=forIn [a:WM] ((none,a):Option (Option A5)×A5) λ_ r=>do
 let x <-ltAt' (lo+r.2) (lo+r.2-1)
 match x with
 |some b=>if b=A9 then pure (.done (none,r.2)) else pure (.yield (none,r.2+1))
 |_=>pure (.done (⇑none,r.2))
def BU(L:UO M A E s O key kd S){st:SortSt}{lo a WM:A5}{Q:Option (Option A5)×A5->SortSt->Prop}(hk:kindOf st=kd)(hS:∀x∈(arrOf st).m,S x)(hn:lo+WM<=(arrOf st).o)(ha:1<=a)(han:a<=WM)(hs:VJ O key (arrOf st) lo a)
  (h:∀n,a<=n->n<=WM->VJ O key (arrOf st) lo n->(n=WM\/O.klt (ke key (arrOf st)<|lo+n) (ke key (arrOf st)<|lo+n-1))->Q (none,n) st):wpS M A E s (nc lo a WM) Q st:=by
 show QQ (I:=λx c XS=>XS=st/\c=(none,x)/\VJ O key (arrOf st) lo x) ?_ ?_ ⟨Z,Z,hs⟩
 .rintro x c XS m9 hxn ⟨rfl,rfl,VZ⟩;show Yt (BV L hk hS J J ?_);cases e:O.blt (ke key (arrOf XS)<|lo+x) (ke key (arrOf XS)<|lo+x-1) with
  |true=>
   show YQ (h x m9 J VZ<|.inr e)
  |false=>
   show YQ {Z,Z,λi j WG hj=>?_};cases BS:j<x
   .show VZ i j WG BS
   .let Mw:j=x:=J;subst Mw;cases Wx:i=j
    .subst Wx;show TJ _
    .have:=VZ i (j-1) J J
     rw[show lo+(j-1)=lo+j-1 by lia]at this;show NL this e
 ext
def BR(lo n WM:A5):(StateT SortSt Sem (Option (Option A5)×A5×A5)):=forIn [n:WM] ((none,n,0):Option (Option A5)×A5×A5) λ_ r=>do
 let x <-ltAt' (lo+r.2.1) (lo+r.2.1-1)
 match x with
 |some b=>
  if b=A9 then
   if r.2.2>0 then do
    reverseSlice' (lo+r.2.1-(r.2.2+1)) (lo+r.2.1)
    pure (.yield (none,r.2.1+1,0))
   else pure (.yield (none,r.2.1+1,0))
  else do
   let y <-ltAt' (lo+r.2.1-1) (lo+r.2.1)
   match y with
   |some c=>if c=A9 then pure (.done (none,r.2.1,r.2.2)) else pure (.yield (none,r.2.1+1,r.2.2+1))
   |_=>pure (.done (⇑none,r.2.1,r.2.2))
 |_=>pure (.done (⇑none,r.2.1,r.2.2))
def ZE(hj:j<=xs.o)(he:∀k,i<=k->k<j->ke key xs k=ke key xs (j-1))(k:A5):ke key (mirror xs i j ((j-i)/2)) k=ke key xs k:=by rw[Mn hj];grind
def ax(L:UO M A E s O key kd S){st:SortSt}{lo n WM:A5}{Q:Option (Option A5)×A5×A5->SortSt->Prop}(hk:kindOf st=kd)(hS:∀x∈(arrOf st).m,S x)(hn:lo+WM<=(arrOf st).o)(h1:1<=n)(hnn:n<=WM)(hs:Vj O key (arrOf st) lo n)
  (h:∀m VI XS,Stp lo st XS->n<=m->m<=WM->Vj O key (arrOf XS) lo m->VI+1<=m->(∀i,lo+m-(VI+1)<=i->i<lo+m->ke key (arrOf XS) i=ke key (arrOf XS) (lo+m-1))->Q (none,m,VI) XS):wpS M A E s (BR lo n WM) Q st:=by
 unfold BR;show QQ (I:=λx c XS=>∃VI,c=(none,x,VI)/\Stp lo st XS/\Vj O key (arrOf XS) lo x/\VI+1<=x/\(∀i,lo+x-(VI+1)<=i->i<lo+x->ke key (arrOf XS) i=ke key (arrOf XS) (lo+x-1))) ?_ ?_ {0,Z,Stp.refl _ _,hs,J,λi h1 h2=>D}
 .rintro x c XS m9 hxn ⟨VI,rfl,WE,VZ,hq,he⟩;let VS:=WE.1.l hk
  let Ug:=WE.all hS;let hz:=WE.o
  show Yt (BV L VS Ug J J ?_);dsimp only;cases e:O.blt (ke key (arrOf XS)<|lo+x) (ke key (arrOf XS)<|lo+x-1) with
  |true=>
   let non:∀ar,(∀k,k<=lo+x->ke key ar k=ke key (arrOf XS) k)->Vj O key ar lo (x+1):=λar aw i j WG hj=>by
    rw[aw _ J,aw _ J];cases BS:j<x
    .show VZ i j WG BS
    .let Mw:j=x:=J;subst Mw;cases Wx:i=j
     .subst Wx;show TJ _
     .have:=VZ i (j-1) J J
      rw[show lo+(j-1)=lo+j-1 by lia]at this;show NL (Gp e) this
   cases c:VI>0
   .rw[Yk c];show Yt (KH<|YQ ⟨0,Z,WE.l<|Stp.mirror J J,?_,J,λi h1 h2=>D⟩);show non _ λk hk=>ZE J he k
   .rw[Yh c];show YQ {0,Z,WE,non _ λ_ _=>rfl,J,λi h1 h2=>D}
  |false=>
   show Yt (BV L VS Ug J J ?_);dsimp only;cases e2:O.blt (ke key (arrOf XS)<|lo+x-1) (ke key (arrOf XS)<|lo+x) with
   |true=>
    show YQ (h x VI XS WE m9 J VZ hq he)
   |false=>
    let eq:ke key (arrOf XS) (lo+x-1)=ke key (arrOf XS) (lo+x):=O.total _ _ e2 e;show YQ {VI+1,Z,WE,λi j WG hj=>?_,J,λi h1 h2=>?_}
    .cases BS:j<x
     .show VZ i j WG BS
     .let Mw:j=x:=rF;subst Mw;cases Wx:i=j
      .subst Wx;show TJ _
      .have:=VZ i (j-1) J J
       grind
    grind
 .rintro c XS ⟨VI,rfl,WE,VZ,hq,he⟩;rw[show max n WM=WM by lia]at *;show h WM VI XS WE hnn (XG _) VZ hq he
def Zj7(L:UO M A E s O key kd S){st:SortSt}{lo WM:A5}{Q:Option A5->SortSt->Prop}(hk:kindOf st=kd)(hS:∀x∈(arrOf st).m,S x)(hn:lo+WM<=(arrOf st).o)(h1:1<=WM)
  (h:∀m XS,Stp lo st XS->1<=m->m<=WM->VJ O key (arrOf XS) lo m->Q ⇑m XS):wpS M A E s (countRun' lo WM) Q st:=by
 let one:VJ O key (arrOf st) lo 1:=λi j WG hj=>by
  have:i=j:=J
  subst this;show TJ _
 show Yt (BU L hk hS hn (XG _) h1 one λn NC Rw hs hx=>?_);dsimp only;cases c1:n=WM
 .rw[Yk (by ext)];show YQ (h n st (Stp.refl _ _) NC Rw hs)
 rw[Yh (by simpa using c1)];let Xj:O.klt (ke key (arrOf st)<|lo+n) (ke key (arrOf st)<|lo+n-1):=hx.resolve_left c1
 cases c2:n>1
 .rw[Yk c2];show Yt (BV L hk hS J J ?_);cases e:O.blt (ke key (arrOf st) lo) (ke key (arrOf st)<|lo+n-1) with
  |true=>
   show YQ (h n st (Stp.refl _ _) NC Rw hs)
  |false=>
   show Yt (KH ?_);let t1:Stp lo st (setArr st<|mirror (arrOf st) lo (lo+n)<|(lo+n-lo)/2):=Stp.mirror (XG _) J
   let eqs:∀k,lo<=k->k<lo+n->ke key (arrOf st) k=ke key (arrOf st) (lo+n-1):=λk k1 k2=>by
    let a1:=hs (k-lo) (n-1) D J;let a2:=hs 0 (k-lo) (by ext) D
    rw[show lo+(k-lo)=k by ext,show lo+(n-1)=lo+n-1 by lia]at a1;rw[show lo+(k-lo)=k by lia,Nat.add_zero]at a2;show KeyOrd.kle_antisymm a1 (NL e a2)
   let RQ:Vj O key (mirror (arrOf st) lo (lo+n)<|(lo+n-lo)/2) lo (n+1):=λi j WG hj=>by
    rw[ZE J eqs,ZE J eqs];cases hjn:j<n
    .rw[eqs (lo+i) J J,eqs (lo+j) J (by ext)];show TJ _
    .let Mw:j=n:=J;subst Mw;cases Wx:i=j
     .subst Wx;show TJ _
     .rw[eqs (lo+i) J J];show Gp Xj
   obtain⟨Ve,e1⟩:∃Ve,Ve=setArr st (mirror (arrOf st) lo (lo+n)<|(lo+n-lo)/2):={_,Z};let RQ:Vj O key (arrOf Ve) lo (n+1):=by rwa[e1]
   rw[<-e1]at t1 ⊢;show Yt (wpS_lift<|PZ ⟨Z,?_⟩);show Yt (ax L (t1.1.l hk) (t1.all hS) (by have:=t1.o;ext) (by ext) J RQ λm VI WU m8 Sv WO OK m7 heq=>?_);dsimp only;let t2:=t1.l m8
   cases c3:VI>0
   .rw[Yk c3];show Yt (KH ?_);let t3:Stp lo st (setArr WU<|mirror (arrOf WU) (lo+m-(VI+1)) (lo+m)<|(lo+m-(lo+m-(VI+1)))/2):=t2.l (Stp.mirror J (by have:=t2.o;lia))
    let Vy:Vj O key (mirror (arrOf WU) (lo+m-(VI+1)) (lo+m)<|(lo+m-(lo+m-(VI+1)))/2) lo m:=λi j WG hj=>by rw[ZE (by have:=t2.o;lia) heq,ZE (by have:=t2.o;lia) heq];show OK i j WG hj
    obtain⟨VV,e3⟩:∃VV,VV=setArr WU (mirror (arrOf WU) (lo+m-(VI+1)) (lo+m)<|(lo+m-(lo+m-(VI+1)))/2):={_,Z};let Vy:Vj O key (arrOf VV) lo m:=by rwa[e3]
    rw[<-e3]at t3 ⊢;show Yt (KH ?_);let t4:Stp lo st (setArr VV<|mirror (arrOf VV) lo (lo+m)<|(lo+m-lo)/2):=t3.l (Stp.mirror (XG _) (by have:=t3.o;lia))
    show Yt (BU L (t4.1.l hk) (t4.all hS) (by have:=t4.o;lia) J WO ?_ λq Mm Tt OJ _=>?_)
    .intro i j WG hj;rw[Mn (by have:=t3.o;lia),Mn (by have:=t3.o;lia),Yk J,Yk (by ext),show lo+(lo+m)-1-(lo+i)=lo+(m-1-i) by lia,show lo+(lo+m)-1-(lo+j)=lo+(m-1-j) by lia];show Vy _ _ D D
    .show YQ (h q _ t4 J Tt OJ)
   .rw[Yh c3];let t3:=t2
    let Vy:=OK;obtain⟨VV,e3⟩:∃VV,VV=WU:={_,Z};rw[<-e3]at t3 Vy ⊢;show Yt (KH ?_);let t4:Stp lo st (setArr VV<|mirror (arrOf VV) lo (lo+m)<|(lo+m-lo)/2):=t3.l (Stp.mirror (XG _) (by have:=t3.o;lia))
    show Yt (BU L (t4.1.l hk) (t4.all hS) (by have:=t4.o;lia) J WO ?_ λq Mm Tt OJ _=>?_)
    .intro i j WG hj;rw[Mn (by have:=t3.o;lia),Mn (by have:=t3.o;lia),Yk J,Yk J,show lo+(lo+m)-1-(lo+i)=lo+(m-1-i) by lia,show lo+(lo+m)-1-(lo+j)=lo+(m-1-j) by lia];show Vy _ _ J D
    .show YQ (h q _ t4 J Tt OJ)
 .rw[Yh c2];let t1:=Stp.refl lo st
  let RQ:Vj O key (arrOf st) lo (n+1):=λi j WG hj=>by
   cases Wx:i=j
   .subst Wx;show TJ _
   .let h3:i=0:=J;let h4:j=n:=J
    subst h3 h4;rw[show lo+0=lo+j-1 by lia];show Gp Xj
  obtain⟨Ve,e1⟩:∃Ve,Ve=st:={_,Z};let RQ:Vj O key (arrOf Ve) lo (n+1):=by rwa[e1]
  let t1:Stp lo st Ve:=by rwa[e1]
  rw[<-e1];show Yt (wpS_lift<|PZ ⟨Z,?_⟩);show Yt (ax L (t1.1.l hk) (t1.all hS) (by ext) J J RQ λm VI WU m8 Sv WO OK m7 heq=>?_);dsimp only;let t2:=t1.l m8
  cases c3:VI>0
  .rw[Yk c3];show Yt (KH ?_);let t3:Stp lo st (setArr WU<|mirror (arrOf WU) (lo+m-(VI+1)) (lo+m)<|(lo+m-(lo+m-(VI+1)))/2):=t2.l (Stp.mirror J (by have:=t2.o;lia))
   let Vy:Vj O key (mirror (arrOf WU) (lo+m-(VI+1)) (lo+m)<|(lo+m-(lo+m-(VI+1)))/2) lo m:=λi j WG hj=>by rw[ZE (by have:=t2.o;lia) heq,ZE (by have:=t2.o;lia) heq];show OK i j WG hj
   obtain⟨VV,e3⟩:∃VV,VV=setArr WU (mirror (arrOf WU) (lo+m-(VI+1)) (lo+m)<|(lo+m-(lo+m-(VI+1)))/2):={_,Z};let Vy:Vj O key (arrOf VV) lo m:=by rwa[e3]
   rw[<-e3]at t3 ⊢;show Yt (KH ?_);let t4:Stp lo st (setArr VV<|mirror (arrOf VV) lo (lo+m)<|(lo+m-lo)/2):=t3.l (Stp.mirror (XG _) (by have:=t3.o;lia))
   show Yt (BU L (t4.1.l hk) (t4.all hS) (by have:=t4.o;lia) J WO ?_ λq Mm Tt OJ _=>?_)
   .intro i j WG hj;rw[Mn (by have:=t3.o;lia),Mn (by have:=t3.o;lia),Yk J,Yk J,show lo+(lo+m)-1-(lo+i)=lo+(m-1-i) by grind,show lo+(lo+m)-1-(lo+j)=lo+(m-1-j) by grind];show Vy _ _ J D
   .show YQ (h q _ t4 J Tt OJ)
  .rw[Yh c3];let t3:=t2
   let Vy:=OK;obtain⟨VV,e3⟩:∃VV,VV=WU:={_,Z};rw[<-e3]at t3 Vy ⊢;show Yt (KH ?_);let t4:Stp lo st (setArr VV<|mirror (arrOf VV) lo (lo+m)<|(lo+m-lo)/2):=t3.l (Stp.mirror (XG _) (by have:=t3.o;lia))
   show Yt (BU L (t4.1.l hk) (t4.all hS) (by have:=t4.o;lia) J WO ?_ λq Mm Tt OJ _=>?_)
   .intro i j WG hj;rw[Mn (by have:=t3.o;lia),Mn (by have:=t3.o;lia),Yk J,Yk J,show lo+(lo+m)-1-(lo+i)=lo+(m-1-i) by grind,show lo+(lo+m)-1-(lo+j)=lo+(m-1-j) by grind];show Vy _ _ J D
   .show YQ (h q _ t4 J Tt OJ)
def ZN6(L:UO M A E s O key kd S){st:SortSt}{lo n ok:A5}{Q:B3->SortSt->Prop}(hk:kindOf st=kd)(hS:∀x∈(arrOf st).m,S x)(hn:lo+n<=(arrOf st).o)(hok:ok<=n)(hs:VJ O key (arrOf st) lo ok)
  (h:∀XS,Stp lo st XS->VJ O key (arrOf XS) lo n->Q true XS):wpS M A E s (binarySort' lo n ok) Q st:=by
 rw[binarySort'_eq];show Yt (Sj (QQ (I:=λk c XS=>c=(none,())/\Stp lo st XS/\VJ O key (arrOf XS) lo (min k n))
  (Q:=λc XS=>c=(none,())/\Stp lo st XS/\VJ O key (arrOf XS) lo n) ?_ ?_ ?_) ?_)
 .rintro k c XS NB m6 ⟨rfl,WE,VZ⟩;rw[show min k n=k by lia]at VZ;let hz:=WE.o
  let VS:=WE.1.l hk;let Ug:=WE.all hS
  show Yt (Sj (QQ (I:=λx c Ts=>Ts=XS/\∃l r,c=(none,l,r)/\l<=r/\r<=k/\r-l<=k-x/\
    (∀i,i<l->O.kle (ke key (arrOf XS)<|lo+i) (ke key (arrOf XS)<|lo+k))/\(∀i,r<=i->i<k->O.klt (ke key (arrOf XS)<|lo+k) (ke key (arrOf XS)<|lo+i)))
   (Q:=λc Ts=>Ts=XS/\∃l r,c=(none,l,r)/\l<=k/\
    (∀i,i<l->O.kle (ke key (arrOf XS)<|lo+i) (ke key (arrOf XS)<|lo+k))/\(∀i,l<=i->i<k->O.klt (ke key (arrOf XS)<|lo+k) (ke key (arrOf XS)<|lo+i))) ?_ ?_ {Z,0,k,Z,J,by ext,by ext,λi hi=>by ext,λi h1 h2=>J}) ?_)
  .rintro x c Ts _ hxk ⟨rfl,l,r,rfl,hlr,m5,hm,Lc,Fw⟩;cases Rm:l >= r
   .rw[Yk Rm]
    have:l=r:=J
    subst this;show YQ ⟨Z,l,l,Z,m5,Lc,Fw⟩
   .rw[Yh Rm];show Yt (BV L VS Ug J J ?_);dsimp only;cases KG:O.blt (ke key (arrOf Ts)<|lo+k) (ke key (arrOf Ts)<|lo+(l+r)/2) with
    |true=>
     show YQ {Z,l,(l+r)/2,Z,J,J,D,Lc,λi h1 h2=>?_};show KeyOrd.klt_of_klt_of_kle KG (VZ _ _ h1 h2)
    |false=>
     show YQ {Z,(l+r)/2+1,r,Z,J,by ext,D,λi h1=>?_,Fw};show NL (VZ i ((l+r)/2) J J) (show O.kle _ _ from KG)
  .rintro c Ts ⟨rfl,l,r,rfl,hlr,m5,hm,Lc,Fw⟩
   have:l=r:=D
   subst this;exists Z,l,l,Z,m5,Lc,Fw
  .rintro c Ts ⟨rfl,l,r,rfl,hlk,Lc,Fw⟩;dsimp only;rw[moveDown'_eq];show Yt (Lm<|YQ ⟨Z,WE.l (Stp.bubble J (by ext) J),?_⟩);rw[show min (k+1) n=k+1 by lia];let av:lo+k<(arrOf Ts).o:=rF
   intro i j WG hj;rw[BW av D,BW av D,show lo+k-(lo+k-(lo+l))=lo+l by grind];let BQ:∀i,l<i->lo+i-1=lo+(i-1):=λi hi=>J
   repeat' split
   all_goals first
    | (exfalso;lia)
    |show TJ _
    |show Lc _ J
    |show VZ _ _ rF J
    | (rw[BQ j (by ext)];show Gp<|Fw _ J J)
    | (rw[BQ j (by ext)];show VZ _ _ J J)
    | (rw[BQ i D,BQ j (by ext)];show VZ _ _ J J)
    | (rw[BQ i rF];show VZ _ _ rF rF)
 .grind
 .exists Z,Stp.refl _ _,λi j WG hj=>?_;cases h1:ok=0
  .have:i=j:=J
   subst this;show TJ _
  .show hs i j WG J
 .rintro c XS ⟨rfl,WE,VZ⟩;show YQ (h XS WE VZ)
def BP:(A6 (A6 Keyed)->A5->A6 (A5×A5))
 |[],_=>[]
 |g::gs,o=>(o,g.f)::BP gs (o+g.f)
structure PI(O:KeyOrd)(key:Keyed->O.α)(kd:SortKind)(a₀:B4 Keyed)(st:SortSt)(Iv:A6 (A6 Keyed))(rest:A6 Keyed):Prop where
 kind:kindOf st=kd
 fail:failedOf st=A8
 perm:(arrOf st).Perm a₀
 arr:(arrOf st).m=Iv.flatten++rest
 BO:∀g∈Iv,1<=g.f/\g.H (RK O key)
 pend:(pendingOf st).m.G (λp=>(p.1,p.2.1))=BP Iv 0
def Iu{arr:B4 Keyed}{lo n:A5}(h:VJ O key arr lo n):((arr.m.drop lo).Q n).H (RK O key):=by
 rw[JZ];intro i j hi hj WG;rw[Yw,QV]at hi hj;let a1:arr[lo+i]?=⇑((arr.m.drop lo).Q n)[i]:=by rw[<-YN];simp
 let a2:arr[lo+j]?=⇑((arr.m.drop lo).Q n)[j]:=by rw[<-YN];simp
 have:=h i j J D
 rwa[Xg a1,Xg a2]at this
end
end PyProof.Rows
namespace L2
open PySem PySem.Spec PyProof.Rows
section
def mZ{α:Type}{R:α->α->Prop}:∀{l:A6 α},l.f<2->l.H R
 |[],_=>List.H.nil
 |[_],_=>wK ..
 |_::_::_,h=>absurd h Eo
def sameBut(a:A7)(h h':Heap):(Prop):=∀b o,b≠a->h.E b=⇑o->h'.E b=⇑o
end
end L2
namespace My
open PySem L2
abbrev UM(a b:Ac):Prop:=HT.lexLt a b=A9
def BN:∀p a b,HT.lexLt (p++a) (p++b)=HT.lexLt a b
 |[],a,b=>rfl
 |x::p,a,b=>by rw[JR,JR,HT.Xm,Yk Z,BN p]
def BM:∀{s t:Ac}(a b:Ac),s.f=t.f->HT.lexLt s t=A9->HT.lexLt (s++a) (t++b)=A9
 |[],[],a,b,_,h=>by cases h
 |[],_::_,a,b,e,_=>by simp at e
 |_::_,[],a,b,e,_=>by simp at e
 |x::s,y::t,a,b,e,h=>by
  rw[HT.Xm]at h;rw[JR,JR,HT.Xm];split
  .rename_i q;rw[Yk q]at h;show BM a b (by simpa using e) h
  ext
def BL(h:UM a b):a≠b:=λe=>by have:=Cs a;lia
def ZK9(h:UM a b)(k:UM b a):False:=BL (nI h k) rfl
def au{a:Ab}(h:a.H UM):a.Nodup:=h.imp λh=>BL h
def mY(m:A0):∀k,∀l∈TU m k,l.f=k
 |0,l,h=>by rw[Xd.S h];rfl
 |k+1,l,h=>by let(s,hs,hl):=List.mem_flatMap.S h;let(t,_,_,rfl):=Wk.S hl;rw[Xa,mY m k s hs];rfl
def mX(m:A0):∀k,(TU m k).H UM
 |0=>wK ..
 |k+1=>by
  change((TU m k).flatMap (VL m)).H UM;rw[List.pairwise_flatMap];exists λs _=>?_,JF (λ{s t} hs ht WE=>?_)<|mX m k
  .unfold VL;rw[Nn];show ES.imp λ{i j} WG=>?_;change HT.lexLt _ _=A9
   rw[BN,HT.Xm,Yh J]
   ext
  .intro x hx y hy;let(u,_,_,rfl):=Wk.S hx;let(v,_,_,rfl):=Wk.S hy;show BM _ _ (by rw[mY m k s hs,mY m k t ht]) WE
def Fv{α:Type}[DecidableEq α]:∀{l m:A6 α},l.Nodup->(∀x∈l,x∈m)->l.f<=m.f
 |[],m,_,_=>Qd _
 |x::l,m,h,hs=>by
  let(h1,h2):=Qb.S h
  have:=Fv (l:=l) (m:=m.erase x) h2 λy hy=>(List.mem_erase_of_ne λ(e:y=x)=>h1<|e▸hy).mpr (hs y<|Yf _ hy)
  grind
def aq(g:ZA n ps)(hT:Zn n ps T)(z0:0<=z)(z1:z<ps⁻¹):Conn (XR ps (SQ n ps T z T)) (ZB ps z).1 (ZB ps z).2:=by
 let he:=SO (z:=z) g z0 z1;let key:∀rj:Ac,(∀o∈rj,o∈T/\z∉UP n ps T o)->Conn (XR ps<|T.filter λy=>decide<|y∉rj) (ZB ps z).1 (ZB ps z).2:=by
  intro rj
  induction rj with
  |nil=>
   intro _;let e:(T.filter λy=>decide<|y∉([]:Ac))=T:=sE.mpr λy _=>Eo
   rw[e];show hT.2.2 _ _ he.1 he.2
  |cons o rj ih=>
   intro hD;let c:=ih λy hy=>hD y (Yf _ hy)
   let(mW,rm):=hD o Ya;cases bP:o∈rj
   .grind
   .show Yy λSx=>?_;let BK:∀y,y∈(T.filter λy=>decide<|y∉o::rj)->y∈wo T o:=λy hy=>by
     let(h1,h2):=Ye.S hy;let h2:=Yz h2
     show Xk.mpr {h1,λe=>h2 D}
    let c2:Conn (XR ps<|(T.filter λy=>decide<|y∉o::rj)++[o]) (ZB ps z).1 (ZB ps z).2:=(KU λy=>by
     grind).S c
    let TB:∀y∈(T.filter λy=>decide<|y∉o::rj),0<=y/\y<ps⁻¹:=λy hy=>hT.1.all y (Ye.S hy).1;let(o0,o1):=hT.1.all o mW;let Wo:InN n.j (XR ps<|T.filter λy=>decide<|y∉o::rj):=ZQ g TB
    let mV:InN n.j (XR ps<|(T.filter λy=>decide<|y∉o::rj)++[o]):=ZQ g λy hy=>by
     rcases Xn.S hy with h|h
     .show TB y h
     .rw[Xd.S h];exists o0,o1
    let FG:=SO (z:=o) g o0 o1;let hl:=ZG n.j (XR ps<|T.filter λy=>decide<|y∉o::rj)
    let own:¬Conn (XR ps<|wo T o) (ZB ps o).1 (ZB ps o).2:=(Vk g hT o0 o1).S ((Cu g hT mW mW).mpr Z);let cw:Conn (XR ps<|wo T o) (ZB ps z).1 (ZB ps z).2:=Yy λh=>rm ((Vk g hT z0 z1).mpr h)
    let up:∀{i j:A5},i<n.j->j<n.j->mk (WW n.j<|XR ps<|T.filter λy=>decide<|y∉o::rj) i=mk (WW n.j<|XR ps<|T.filter λy=>decide<|y∉o::rj) j->Conn (XR ps<|wo T o) i j:=λhi hj e=>((Wd Wo hi hj).S e).mono (ZX BK);let m:=(Wd mV he.1 he.2).mpr c2
    rw[IC,MB,CN (by ext) (by ext)]at m;rcases m with m|⟨m1,m2⟩
    .show Sx ((Wd Wo he.1 he.2).S m)
    .rcases m1 with m1|m1<;>rcases m2 with m2|m2
     .show Sx ((Wd Wo he.1 he.2).S (m1.l m2.symm))
     .show own (((up he.1 FG.1 m1).symm.l cw).l (up he.2 FG.2 m2))
     .show own (((up he.2 FG.1 m2).symm.l cw.symm).l (up he.1 FG.2 m1))
     .show Sx ((Wd Wo he.1 he.2).S (m1.l m2.symm))
 let c:=key (T.filter λy=>decide<|z∉UP n ps T y) λo ho=>by
  ext
 show c.mono (ZX λy hy=>?_);let(h1,h2):=Ye.S hy;let h2:=Yz h2
 show Vz.mpr {h1,Yy λh=>h2<|Ye.mpr {h1,YA h}}
def Ir{a b:Ac}(ha:a.H (·<·))(hb:b.H (·<·))(h:∀z,z∈a↔z∈b):a=b:=
 (Cr ha hb λz hz=>(h z).S hz).eq_of_length (sf (Cr ha hb λz hz=>(h z).S hz).length_le (Cr hb ha λz hz=>(h z).mpr hz).length_le)
def BJ{i:A0}(h0:0<=i):Xi xs ⇑i none=xs.drop i.j:=by
 let e:HT.Up xs.f 0 ⇑i=min i.j xs.f:=by change(if i<0 then (i+xs⁻¹).j else min i.j xs.f)=_;rw[Yh (by ext)]
 unfold Xi;rw[e,HT.VN,YF (by ext)]
 ext
def cutz{α:Type}(l:A6 α)(z:A0):(A6 α):=l.Q z.j++l.drop (z.j+1)
def mU{z:A0}(h0:0<=z):Xi xs none ⇑z++Xi xs ⇑(z+1) none=cutz xs z:=by rw[Mp h0,BJ J,show(z+1).j=z.j+1 by lia];rfl
def mT{α:Type}(l:A6 α)(z:A0):(cutz l z).f<=l.f:=by unfold cutz;rw[Xa,Yw,QV];grind
def dn(lo hi i:A0):(A0):=if i=hi then lo else if i<hi then i else i-1
def ao(i:A5):Vu (i+1)=Vu i++[(i:A0)]:=by unfold Vu;rw[SW,YE];rfl
end My
namespace L2
open PySem PySem.Spec PyProof.Rows
def Vi{N a b:St->Hp->Prop}{r:VK}{σ:St}{H:Hp}(h:N σ H):Ends.nx {nx:=N,rt:=r,bk:=a,ct:=b} σ H:=h
end L2
namespace My
def BI{α:Type}{l:A6 α}(h:l.f=1):∃a,l=[a]:=by
 cases l with
 |nil=>cases h
 |cons a l=>cases l with
  |nil=>exists a,Z
  |cons b l=>simp at h
def BH{α:Type}{l:A6 α}(h:l.f=2):∃a b,l=[a,b]:=by
 cases l with
 |nil=>cases h
 |cons a l=>
  let(b,rfl):=BI (Nf h);exists a,b,Z
def BG{α:Type}{l:A6 α}(h:l.f=3):∃a b c,l=[a,b,c]:=by
 cases l with
 |nil=>cases h
 |cons a l=>
  let(b,c,rfl):=BH (Nf h);exists a,b,c,Z
def BF{α:Type}{l:A6 α}(h:l.f=4):∃a b c d,l=[a,b,c,d]:=by
 cases l with
 |nil=>cases h
 |cons a l=>
  let(b,c,d,rfl):=BG (Nf h);exists a,b,c,d,Z
end My
namespace My
open PySem L2
def Ml{l:Ac}{f:A0->B3}{y:A0}(h:l[i]?=⇑y):(l.Q (i+1)).filter f=(l.Q i).filter f++(if f y=A9 then [y] else []):=by rw[YB,h,Vo];grind
def Conn.lift(h:∀e∈es,Conn fs e.1 e.2)(c:Conn es i j):Conn fs i j:=by
 induction c with
 |refl i=>show .refl i
 |edge e=>show h _ e
 |symm _ ih=>show ih.symm
 |trans _ _ NA RP=>show NA.l RP
def Iq(g:ZA n ps)(hT:Zn n ps T)(hW:Zn n ps W)(hz:z∈T)(hzW:z∉W):∃y,exg n ps T z y/\exg n ps W y z:=by
 let(z0,z1):=hT.1.all z hz;show Yy λSx=>?_;show(Vk g hT z0 z1).S ((Cu g hT hz hz).mpr Z) ((aq g hW z0 z1).lift λe he=>?_);let(y,hy,rfl):=YC.S he;let(mS,hyc):=Vz.S hy;let(y0,y1):=hW.1.all y mS;let ak:y≠z:=λe=>hzW (e▸mS)
 have:=(Vk (o:=z) g hT y0 y1)
 show Yy λh=>Sx {y,{hz,ak,this.mpr h},{mS,YZ ak,hyc}}
def mR(l:Ac):∃m:Ac,m.Perm l/\m.H (·<=·):=by
 induction l with
 |nil=>ext
 |cons x l ih=>
  let(m,h1,h2):=ih;let key:∀m:Ac,m.H (·<=·)->∃k:Ac,k.Perm (x::m)/\k.H (·<=·):=by
   intro m
   induction m with
   |nil=>ext
   |cons y m RP=>
    intro hp;let(hy,hm):=YS.S hp;cases Ip:x<=y
    .exists x::y::m,.refl _,YS.mpr {λz hz=>?_,hp};grind
    .let⟨k,k1,k2⟩:=RP hm;exists y::k,(k1.cons y).l (List.Perm.swap x y m),YS.mpr {λz hz=>?_,k2};grind
  let(k,k1,k2):=key m h2;exists k,k1.l<|h1.cons x,k2
def mQ(s:SameP M N):cnt M=cnt N:=by
 unfold cnt Uh;rw[<-s.1];show YI List.f (Ls λp hp=>?_);let hp:=YX.S hp
 rw[Nj,XF,XF];constructor
 .intro h i hi e;show h i hi ((s.2 i p J hp).mpr e)
 .intro h i hi e;show h i hi ((s.2 i p J hp).S e)
def aj(g:ZA n ps)(hU:Zn n ps U):∀V:Ac,V.Nodup->(∀z∈V,z∈U)->WN n.j ps V=V:=by
 show Mv (λ_ _=>rfl) λV z ih hn hs=>?_;let PY:=VQ.S hn
 let hV:∀y∈V,y∈U:=λy hy=>hs y (Yl _ hy);let hz:z∈U:=hs z (Yc _<|Xd.mpr Z)
 let hzV:z∉V:=λh=>PY.2.2 z h z (Xd.mpr Z) rfl;let(z0,z1):=hU.1.all z hz;let he:=SO (z:=z) g z0 z1
 rw[KO,ih PY.1 hV];unfold QB;rw[Yh];intro e;let c:=(Wd (ZQ g λy hy=>hU.1.all y<|hV y hy) he.1 he.2).S e
 show(Vk g hU z0 z1).S ((Cu g hU hz hz).mpr Z) (c.mono<|ZX λy hy=>Xk.mpr {hV y hy,λe'=>hzV<|by ext})
def mP{as bs:Ac}(g:ZA n ps)(h:∀y∈as,0<=y/\y<ps⁻¹)(z0:0<=z)(z1:z<ps⁻¹)(hz:z∉WN n.j ps (as++z::bs)):Conn (XR ps (WN n.j ps as)) (ZB ps z).1 (ZB ps z).2:=by
 let(us,e,_):=uZ n.j ps (as++[z]) bs;rw[YT]at e;let e:WN n.j ps (as++z::bs)=WN n.j ps (as++[z])++us:=e
 rw[e,KO]at hz;let he:=SO (z:=z) g z0 z1
 show(Wd (QA g h) he.1 he.2).S (Yy λXJ=>hz ?_);unfold QB;grind
def mO{as bs:Ac}{y:A0}(h:y∈WN n ps as):y∈WN n ps (as++bs):=by
 let(us,e,_):=uZ n ps as bs
 ext
def ai{α:Type}(p:α->B3)(l:A6 α):(l.filter p).f+(l.filter λx=>!p x).f=l.f:=by
 induction l with
 |nil=>rfl
 |cons x l ih=>
  grind
def Fr(n:A5)(ps:Aa)(l:Ac):(B3):=decide (WN n ps l=l)
def Th(n:A5)(ps:Aa)(k:A5):(Ab):=(TU ps⁻¹ k).filter (Fr n ps)
def mN(g:ZA n ps):l∈Th n.j ps (n-1).j↔Zn n ps l:=by
 unfold Th;rw[Ye,WV];let g1:=g.1
 constructor
 .rintro⟨⟨h1,h2⟩,h3⟩;let e:WN n.j ps l=l:=Yz h3
  let c:=uX g l h2.all;exists h2,J,(KR D<|ZQ g h2.all).S D
 .intro h;exists {by have:=h.2.1;lia,h.1},YA<|aj g h l h.1.nodup λz hz=>hz
def uV(hT:Zn n ps T):T.H (·<·):=(XW.S hT.1).2
def UL{a:Ac}(h:a.H (·<=·))(hn:a.Nodup):a.H (·<·):=(h.and hn).imp λh=>J
def ZY9(g:ZA n ps):∀zs:Ac,(∀z∈zs,0<=z/\z<ps⁻¹)->(WN n.j ps zs).Nodup:=by
 show Mv (λ_=>List.H.nil) λzs z ih hb=>?_;let Rq:∀y∈zs,0<=y/\y<ps⁻¹:=λy hy=>hb y (Yl _ hy)
 let(z0,z1):=hb z (Yc _<|Xd.mpr Z);let he:=SO (z:=z) g z0 z1
 rw[KO];unfold QB;split
 .show ih Rq
 .next XJ=>
  show VQ.mpr {ih Rq,Eo,λa ha b mM e=>?_};rw[Xd.S mM]at e;subst e;show XJ ((Wd (QA g Rq) he.1 he.2).mpr (.edge ?_));show YC.mpr ⟨a,ha,Z⟩
def mL(g:ZA n ps)(hb:∀z∈zs,0<=z/\z<ps⁻¹)(hl:¬((WN n.j ps zs).f:A0)<n-1)(Tu:ms.Perm (WN n.j ps zs))(Mr:ms.H (·<=·)):Zn n ps ms:=by
 let g1:=g.1;let h2:=uX g zs hb
 let h3:=nM (M:=WW n.j<|XR ps<|WN n.j ps zs) (by rw[ZG];grind);let OI:=(KR D<|QA g hb).S D
 show{XW.mpr {λz hz=>hb z<|(uY _ _ _).subset (Tu.mem_iff.S hz),UL Mr<|Tu.nodup_iff.mpr<|ZY9 g zs hb},by rw[Tu.length_eq];grind,λi j hi hj=>?_};show(KU λy=>Tu.mem_iff).mpr (OI i j hi hj)
def mK{I os U:Ac}(g:ZA n ps)(hU:Zn n ps U)(hI:I.Nodup)(mJ:∀z∈I,z∈U)(mI:∀z∈U,z∈I++os)(hb:∀z∈I++os,0<=z/\z<ps⁻¹):(WN n.j ps (I++os)).Q I.f=I/\¬((WN n.j ps (I++os)).f:A0)<n-1:=by
 let g1:=g.1;let(us,e,_):=uZ n.j ps I os;rw[aj g hU I hI mJ]at e;show{by ext,?_};let OI:∀i j,i<n.j->j<n.j->Conn (XR ps<|WN n.j ps<|I++os) i j:=λi j hi hj=>nz g _ hb ((hU.2.2 i j hi hj).mono (ZX mI))
 let h1:=(KR J<|QA g hb).mpr OI;let h2:=uX g (I++os) hb
 grind
def ah{p r:Ac}{x:A0}(h:(p++x::r).H (·<·)):(∀z∈p,z<x)/\∀z∈x::r,x<=z:=by
 let a:=Np.S h;exists λz hz=>a.2.2 z hz x Ya,λz hz=>?_;rcases Yo.S hz with h|h
 .rw[h];show Gj _
 .show QL ((YS.S a.2.1).1 z h)
def Zp8{I os U F:Ac}(g:ZA n ps)(hU:Zn n ps U)(mJ:∀z∈I,z∈U)(mI:∀z∈U,z∈I++os)(hb:∀z∈I++os,0<=z/\z<ps⁻¹)(ho:os.H (·<·))(hF:Zn n ps F)(hf:F.Perm (WN n.j ps (I++os)))(hIF:∀z∈I,z∈F):HT.lexLt U F=B0:=by
 cases Qy:HT.lexLt U F with
 |false=>rfl
 |true=>
  exfalso;let(p,x,y,r,s,eU,ef,Ip):=Ct (by have:=hF.2.1;have:=hU.2.1;lia) Qy
  let Io:x∈U:=by rw[eU];show Yc _ Ya
  let(x0,x1):=hU.1.all x Io;let aU:=ah (eU▸uV hU)
  let aF:=ah (ef▸uV hF);let mH:x∉F:=λh=>by grind
  let hxI:x∉I:=λh=>mH (hIF x h);let hxo:x∈os:=(Xn.S<|mI x Io).resolve_left hxI
  let(as,bs,eo):=List.append_of_mem hxo;let Rq:∀z∈I++as,0<=z/\z<ps⁻¹:=λz hz=>hb z ((Xn.S hz).elim (λh=>Yl _ h) λh=>Yc _<|by ext)
  let hxG:x∉WN n.j ps ((I++as)++x::bs):=by rw[YT,<-eo];show λh=>mH (hf.mem_iff.mpr h)
  let c:=mP g Rq x0 x1 hxG;show(Vk g hU x0 x1).S ((Cu g hU Io Io).mpr Z) (c.mono<|ZX λz hz=>?_);let uU:z∈F:=hf.mem_iff.mpr (by
   have:=mO (bs:=x::bs) hz
   ext)
  let hzx:z≠x:=λe=>mH (e▸uU);show Xk.mpr {?_,hzx};rcases Xn.S ((uY _ _ _).subset hz) with h|h
  .show mJ z h
  grind
def With(n:A0)(ps:Aa)(I O U:Ac):(Prop):=Zn n ps U/\(∀z∈I,z∈U)/\∀z∈O,z∉U
def With.sub{I O U os:Ac}(h:With n ps I O U)(ho:∀z,z∈os↔(0<=z/\z<ps⁻¹)/\z∉O):∀z∈U,z∈I++os:=λz hz=>Yc _ ((ho z).mpr {h.1.1.all z hz,λh2=>h.2.2 z h2 hz})
def Zd8(h:UM a b):HT.lexLt b a=B0:=by
 cases e:HT.lexLt b a with
 |false=>rfl
 |true=>show(ZK9 h e).elim
def mG(H:Hp)(v:V)(o:Option Ac):(Prop):=match o with|none=>v=.non|some l=>WH H v l
end My
namespace L2
open PySem PySem.Spec PyProof.Rows
def mF(K:Ad):(R2):=λx y H Q=>∃l b xs zs,x=.ref l/\y=.ref b/\SqL K H l xs/\SqL K H b zs/\xs.f+zs.f<=sizeLine/\∀p,H p=A8->Q ↑p (upd H p<|.lst<|xs++zs)
section
variable{X:Cx}
def mE(K:Ad)(hk:X.K=K:=by rfl):WD X (binaryOp .Add) (mF K):=by
 subst hk;intro pins s σ H x y v u Q I rx ry h;let(l,b,xs,zs,rfl,rfl,hH,hB,hz,q):=h;cases rx;cases ry;let(XX,r,p,_):=I.list hH;let(Wm,r2,p2,_):=I.list hB;let l1:=r.f
 let l2:=r2.f;let((cls,dd,data,sl),ho,hc,n,hd):=id p.isList;let((DG,FY,data2,FX),Tf,Vm,n2,hd2):=id p2.isList;simp only at hc hd Vm hd2;subst hc hd Vm hd2;let e:XX.r++Wm.r=(XX++Wm).r:=Eo
 show vU {_,ho,Z} {_,Tf,Z} noFill_list_add seq_list_add PySem.F.slot_list_add PySem.F.entry_list_add (PySem.F.args_list_add_2 _ _) (list_addW l b XX.r Wm.r n n2 dd FY sl FX<|by rw[YJ,YJ];lia) {ho,Tf,?_};rw[e];exists .ref _,_,I.lnew (t':=s.toks) (r.append r2) (by rw[Xa];lia),Z,q _ I.fresh
end
end L2
namespace My
open PySem L2
def TC(n:A0)(ps:Aa)(c:A5):(Prop):=∃L:Ab,L.Nodup/\(∀l,l∈L↔Zn n ps l)/\L.f=c
def TC.uniq(h1:TC n ps c)(h2:TC n ps d):c=d:=by let(L,a1,a2,rfl):=h1;let(M,b1,b2,rfl):=h2;show((SY a1 b1).mpr λl=>by rw[a2,b2]).length_eq
def OH:IsSet (m+1) (T++[(m:A0)])↔IsSet m T:=by
 constructor
 .intro h;let a:=XW.S h
  let b:=Np.S a.2;show XW.mpr {λz hz=>?_,b.1}
  ext
 .show λh=>h.snoc
def Im(h:IsSet (m+1) T):IsSet m T\/∃T',T=T'++[(m:A0)]/\IsSet m T':=by
 let a:=XW.S h;cases hm:(m:A0)∈T
 .let⟨p,r,e⟩:=List.append_of_mem hm;cases r with
  |nil=>show .inr {p,e,OH.S<|e▸h}
  |cons y r=>
   let h1:=a.1 y (by rw[e];simp);let h2:=(YS.S (Np.S<|e▸a.2).2.1).1 y Ya
   omega
 .show .inl (XW.mpr {λz hz=>?_,a.2});grind
def ag{es:A6 (A5×A5)}{a b i j:A5}(c:Conn (es++[(a,b)]) i j):Conn (es++[(b,a)]) i j:=c.lift λe he=>by
 rcases Xn.S he with q|q
 .show .edge (Yl _ q)
 .rw[Xd.S q];show .symm (.edge Eo)
end My
namespace L2
open PySem PySem.Spec PyProof.Rows
def Fu(K:Ad)(a b:A7):(It):=
 ⟨λi H=>∃xs ys x y,SqL K H a xs/\SqL K H b ys/\xs[i]?=⇑x/\ys[i]?=⇑y,λi H v H'=>∃T x y,H T=A8/\v=.ref T/\H'=upd H T (.tup [x,y])/\(∀xs,SqL K H a xs->xs[i]?=⇑x)/\∀ys,SqL K H b ys->ys[i]?=⇑y,
  λi H=>∃xs ys,SqL K H a xs/\SqL K H b ys/\(xs.f<=i\/ys.f<=i)⟩
def mD{P:Program}{w:World}{K:Ad}{elts:A6 B5}{x1:A5}{pos:Pos}(a b z TI TO i1 i2:A7)(rj:ZipApart z TI TO i1 i2 a b):
  Turn P w K (.Tuple elts x1 pos) (Fu K a b) [z,TI,TO,i1,i2] z (λi h=>IsZip h z TI TO .none/\IsPair h TI ↑i1 ↑i2/\(∃c d,IsPair h TO c d)/\h.IsListIter i1 a i/\h.IsListIter i2 b i) where
 mem:=Eo
 obj:=λi h st c hc=>by let(hz,Nz,(u,v,Mj),(o1,e1,_,d1),(o2,e2,_,d2)):=st;grind
 keep:=λi h h' st k=>by let(hz,Nz,(u,v,Mj),h1,h2):=st;exists k z Eo _ hz,k TI Eo _ Nz,{u,v,k TO Eo _ Mj},h1.at λo e=>k i1 Eo o e,h2.at λo e=>k i2 Eo o e
 item:=by
  intro X hP hw hK hc i pins s σ H E I hf st hg;subst hP hw hK;let(xs,ys,x,y,hq,Tt,hx,hy):=hg;let(hz,Nz,(u0,v0,Mj),h1,h2):=st;let(XX,rv,p,_):=I.list hq;let(u,hu,ru):=rv.get hx;let(Wm,uS,p2,_):=I.list Tt;let(v,hv,mC):=uS.get hy;let fz:=hf z Eo
  let Qx:=hf TO Eo;let Qw:=hf i1 Eo
  let Qu:=hf i2 Eo;let o7:H (~~~s)=A8:=I.hok.fresh (XG _)
  show wpAny_pyNext_zip_item rj hz Nz Mj h1 h2 p.isList p2.isList (x:=u) (y:=v) (by simpa using hu) (by simpa using hv) λh' a1 a2 a3 a4 a5 hsz hk=>?_;let NF:∀b ob,s.C.E b=⇑ob->b≠(~~~s):=λb ob z=>Yx (Ym z)
  let OQ:∀b ob,H b=⇑ob->b≠(~~~s):=λb ob z=>Yx (I.hok.lt z);let nof:∀c ob,H c=⇑ob->c≠z/\c≠TO/\c≠i1/\c≠i2:=λc ob q=>{λe=>(by rw[e,fz.1]at q;cases q),λe=>(by rw[e,Qx.1]at q;cases q),λe=>(by rw[e,Qw.1]at q;cases q),λe=>(by rw[e,Qu.1]at q;cases q)}
  let KD:∀c o,c∉[z,TO,i1,i2]->s.C.E c=⇑o->h'.E c=⇑o:=λc o VY q=>hk c o (λe=>VY<|by simp[e]) (λe=>VY<|by simp[e]) (λe=>VY<|by simp[e]) (λe=>VY<|by simp[e]) q;let I1:Inv X pins σ (upd H (~~~s)<|.tup [x,y]) {s with heap:=h'}:=by
   show I.step (g':=s.gens) (d':=s.drawn) (t':=s.toks) (ch:=[z,TO,i1,i2]) (λc hb=>?_) (λc o _ _ VY q _=>KD c o VY q) (λc o _ _ VY q _=>{o.slots,KD c o VY q})
    (λc o _ q n=>by rwa[Zd (NF c o q)]) (λc o VY q=>{o,KD c o VY q}) (λc ys q=>by rwa[Zd (OQ c _ q)]) (λc o v q=>by rwa[Zd (OQ c _ q)])
    (λc ps q=>{#[],by rw[Zd (OQ c _ q),q];simp}) (λm hm=>?_) (λc v' q=>?_) I.bare
   .let Wi:c=z\/c=TO\/c=i1\/c=i2:=by simpa using hb
    rcases Wi with rfl|rfl|rfl|rfl
    .exists fz.2.2.2.1,fz.2.1,fz.2.2.2.2.1,fz.2.2.2.2.2
    .exists Qx.2.2.2.1,Qx.2.1,Qx.2.2.2.2.1,Qx.2.2.2.2.2
    .exists Qw.2.2.2.1,Qw.2.1,Qw.2.2.2.2.1,Qw.2.2.2.2.2
    .exists Qu.2.2.2.1,Qu.2.1,Qu.2.2.2.2.1,Qu.2.2.2.2.2
   .let⟨o,es,ep,UY,r⟩:=hm;exists o,es,ep,hk _ o (YZ fz.2.1) (YZ Qx.2.1) (YZ Qw.2.1) (YZ Qu.2.1) UY,r
   .cases hb:c=(~~~s)
    .subst hb;rw[XT]at q;cases q;exists by change 2<=sizeLine;decide,[u,v],.cons ru<|.cons mC .nil,{_,a5,Z,_,Z}
    .rw[Zd hb]at q;show(I.hok c v' q).stay (λe w' Wi q'=>?_) (λe q=>by rwa[Zd (OQ e _ q)]) λe ys q=>by rwa[Zd (OQ e _ q)]
     grind
  exists _,Z,wpAny_letOwnedTupleGo_zip a1 λh2 hz2 TZ=>?_;let fT:z≠(~~~s):=NF z _ hz
  let I2:Inv X pins σ (upd H (~~~s)<|.tup [x,y]) {s with heap:=h2}:=Inv.turned (s:={s with heap:=h'}) (h':=h2) (t':=s.toks) (it:=z) I1 (λb o hb q=>TZ.extBut b o hb q) (by rw[Zd fT];show fz.1) fz.2.1 fz.2.2.2.1 fz.2.2.2.2.1 fz.2.2.2.2.2;show⟨.ref (~~~s),_,I2,Z,{_,x,y,o7,Z,Z,λys mB=>by rw[I.list_inj mB hq];show hx,λys mB=>by rwa[I.list_inj mB Tt]},
   {hz2,TZ.extBut _ _ rj.TIz (KD _ _ (by have:=rj.TIz;have:=rj.TITO;have:=rj.TIi1;have:=rj.TIi2;grind) Nz),⟨u,v,TZ.extBut _ _ rj.TOz a2⟩,a3.at λo q=>TZ.extBut i1 o rj.i1z q,a4.at λo q=>TZ.extBut i2 o rj.i2z q},λc hc=>?_⟩
  let Wi:c=z\/c=TI\/c=TO\/c=i1\/c=i2:=by simpa using hc
  let hn:=(hf c hc).1;rcases Wi with rfl|rfl|rfl|rfl|rfl
  .rw[Zd fT];show hn
  .rw[Zd (NF _ _ Nz)];show hn
  .rw[Zd (NF _ _ Mj)];show hn
  .let⟨o,eo,_⟩:=h1;rwa[Zd (NF _ o eo)]
  .let⟨o,eo,_⟩:=h2;rwa[Zd (NF _ o eo)]
 done:=by
  intro X hP hw hK hc i pins s σ H E I hf st hg;subst hP hw hK;let(xs,ys,hq,Tt,hend):=hg;let(hz,Nz,(u0,v0,Mj),h1,h2):=st;let(XX,rv,p,_):=I.list hq;let(Wm,uS,p2,_):=I.list Tt;let l1:=rv.f
  let l2:=uS.f;let fz:=hf z Eo
  let Qx:=hf TO Eo;let Qw:=hf i1 Eo
  let Qu:=hf i2 Eo;show wpAny_pyNext_zip_end (I.ok.hd hc) rj hz Nz Mj h1 h2 p.isList p2.isList (by
   ext) λh' hk=>{Z,?_}
  let KD:∀c o,c∉[z,TO,i1,i2]->s.C.E c=⇑o->h'.E c=⇑o:=λc o VY q=>hk c o (λe=>VY<|by simp[e]) (λe=>VY<|by simp[e]) (λe=>VY<|by simp[e]) (λe=>VY<|by simp[e]) q;let nof:∀c ob,H c=⇑ob->c≠z/\c≠TO/\c≠i1/\c≠i2:=λc ob q=>{λe=>(by rw[e,fz.1]at q;cases q),λe=>(by rw[e,Qx.1]at q;cases q),λe=>(by rw[e,Qw.1]at q;cases q),λe=>(by rw[e,Qu.1]at q;cases q)}
  show I.step (g':=s.gens) (d':=s.drawn) (t':=s.toks) (ch:=[z,TO,i1,i2]) (λc hb=>?_) (λc o _ _ VY q _=>KD c o VY q) (λc o _ _ VY q _=>{o.slots,KD c o VY q})
   (λc o _ q n=>n) (λc o VY q=>{o,KD c o VY q}) (λc ys q=>q) (λc o v q=>q)
   (λc ps q=>{#[],by rw[q];simp}) (λm hm=>?_) (λc v' q=>?_) I.bare
  .let Wi:c=z\/c=TO\/c=i1\/c=i2:=by simpa using hb
   rcases Wi with rfl|rfl|rfl|rfl
   .exists fz.2.2.2.1,fz.2.1,fz.2.2.2.2.1,fz.2.2.2.2.2
   .exists Qx.2.2.2.1,Qx.2.1,Qx.2.2.2.2.1,Qx.2.2.2.2.2
   .exists Qw.2.2.2.1,Qw.2.1,Qw.2.2.2.2.1,Qw.2.2.2.2.2
   .exists Qu.2.2.2.1,Qu.2.1,Qu.2.2.2.2.1,Qu.2.2.2.2.2
  .let⟨o,es,ep,UY,r⟩:=hm;exists o,es,ep,hk _ o (YZ fz.2.1) (YZ Qx.2.1) (YZ Qw.2.1) (YZ Qu.2.1) UY,r
  .show(I.hok c v' q).stay (λe w' Wi q'=>?_) (λe q=>q) λe ys q=>q;grind
 self:=λ_ _ _ _ _ st h=>wpAny_pyIter_zip st.1 h
def mz(K:Ad)(ta:TA):(TI):=λσ H R=>ta σ H λvs H1=>∃a b,vs=[.ref a,.ref b]/\(∃xs ys,SqL K H1 a xs/\SqL K H1 b ys)/\R (Fu K a b) H1
section
variable{X:Cx}
def BE(K:Ad){elts:A6 B5}{x1:A5}{Sa:Pos}{e f:B5}{ta:TA}{p pos:Pos}(hg:Gl X "zip")(hm:X.mg "zip"=A8)(ha:PA X [e,f] ta)(hs:starEach [e,f] X.X=(false,eval e X.X)::starEach [f] X.X:=by rfl)(UG:(backTo pos<|starEach [f] X.X).any (·.1)=B0:=by rfl)(hk:X.K=K:=by rfl):
  PI X (.Tuple elts x1 Sa) (.Call (.Name "zip" p) [e,f] [] pos) (mz K ta):=by
 subst hk;intro pins s σ H R I h;show Call_ (PX I hg hm Boot.«zip»<|Ta (thn (ha pos pins s σ H _ I h) λus s1 XB=>?_) hs UG);let(vs,H1,I1,r1,q1):=XB;let(a,b,ev,(xs,ys,hq,Tt),q):=q1;subst ev;let(u,u',rfl,ru,ru'):=Jn r1;let rfl:u=Value.ref a:=ru;let rfl:u'=Value.ref b:=ru';let(XX,rv,pl,_):=I1.list hq;let(Wm,uS,af,_):=I1.list Tt;let lt1:a<(~~~s1):=by let(_,_,e,_):=pl;show Ym e
 let lt2:b<(~~~s1):=by let(_,_,e,_):=af;show Ym e
 let rj:ZipApart ((~~~s1)+4) ((~~~s1)+2) ((~~~s1)+3) (~~~s1) ((~~~s1)+1) a b:=by
  let key:∀n x y:A5,x<n->y<n->ZipApart (n+4) (n+2) (n+3) n (n+1) x y:=λn x y h1 h2=>by constructor<;>(lia)
  show key _ _ _ lt1 lt2
 show call_zip_2 pl.isList af.isList λh' hz Nz Mj my Wu hsz hk=>?_;show wpAny_pyIter_zip (s:={s1 with heap:=h'}) hz ?_;exists (~~~s1)+4,[(~~~s1)+4,(~~~s1)+2,(~~~s1)+3,(~~~s1),(~~~s1)+1],_,_,H1,Z,I1.kept (t':=s1.toks) hk,mD a b _ _ _ _ _ rj,{hz,Nz,{_,_,Mj},my,Wu},λc hc=>?_,q;let hle:(~~~s1)<=c:=by
  let Wi:c=(~~~s1)+4\/c=(~~~s1)+2\/c=(~~~s1)+3\/c=(~~~s1)\/c=(~~~s1)+1:=by simpa using hc
  rcases Wi with e|e|e|e|e<;>rw[e]<;>first|ext|lia
 show I1.fpOk hle (I1.hok.fresh hle)
end
end L2
namespace My
open PySem L2
section
variable{K:Ad}{a b:A7}{xs ys:A6 V}{g:TG}{tt:TT}{te:TE}{o:A5}{fr:A6 A5}{σ:St}{H:Hp}{Q:VK}
def mx(Pv:A5->A6 V->Hp->Prop)(h0:Pv 0 [] H)(Ip:xs.f=ys.f)(hz:xs.f<sizeLine)(hl:∀i zs H,i<=xs.f->Pv i zs H->SqL K H a xs/\SqL K H b ys/\zs.f<=i)
  (hs:∀(i:A5) x y zs H (p:A7),H p=A8->xs[i]?=⇑x->ys[i]?=⇑y->Pv i zs H->IT Pv g tt te o fr σ i ↑p zs (upd H p<|.tup [x,y]))(hd:∀zs H,Pv xs.f zs H->∀p,H p=A8->Q ↑p (upd H p<|.lst zs)):MJ (Fu K a b) g tt te o fr σ H Q:=by
 exists λi m zs H=>m=xs.f-i/\i<=xs.f/\Pv i zs H,{xs.f,Eo,Qd _,h0},?_;rintro i m zs H ⟨rfl,hi,p⟩;let(q,q2,hy):=hl i zs H hi p;cases Xj:i<xs.f
 .show .inr {{xs,ys,xs[i],ys[i]'(by ext),q,q2,by ext,Xv<|by ext},J,λx H' ⟨T,u,v,hT,ex,eH,hu,hv⟩=>?_};subst ex eH;show hs i u v zs H T hT (hu xs q) (hv ys q2) p (λj zs H=>∃m',m'<xs.f-i/\m'=xs.f-j/\j<=xs.f/\Pv j zs H) λzs H p'=>{xs.f-(i+1),D,Z,Xj,p'}
 .let e:i=xs.f:=J;subst e;show .inl {{xs,ys,q,q2,.inl<|XG _},J,hd zs H p}
end
end My
namespace My
abbrev Mx:=A5->A5->A0
def sm:(A5->(A5->A0)->A0)
 |0,_=>0
 |n+1,f=>sm n f+f n
def ZI{f g:A5->A0}:∀{n:A5},(∀i,i<n->f i=g i)->sm n f=sm n g
 |0,_=>rfl
 |n+1,h=>by change sm n f+f n=sm n g+g n;rw[ZI λi hi=>h i J,h n J]
def RO{f g:A5->A0}:∀{n:A5},sm n (λi=>f i+g i)=sm n f+sm n g
 |0=>rfl
 |n+1=>by change sm n (λi=>f i+g i)+(f n+g n)=sm n f+f n+(sm n g+g n);rw[RO];lia
def Ft{c:A0}{f:A5->A0}:∀{n:A5},sm n (λi=>c*f i)=c*sm n f
 |0=>(RA c).symm
 |n+1=>by change sm n (λi=>c*f i)+c*f n=c*(sm n f+f n);rw[Ft,Sh]
def Tq:∀{n:A5},sm n (λ_=>0)=0
 |0=>rfl
 |n+1=>by change sm n (λ_=>0)+0=0;rw[Tq];rfl
def RN{f:A5->A0}(h:∀i,i<n->f i=0):sm n f=0:=by rw[ZI h];show Tq
def OG{f:A5->A0}:∀{n:A5},sm (n+1) f=f 0+sm n (λi=>f (i+1))
 |0=>by change 0+f 0=f 0+0;lia
 |n+1=>by change sm (n+1) f+f (n+1)=f 0+(sm n (λi=>f<|i+1)+f (n+1));rw[OG];lia
def mw{f:A5->A5->A0}:∀{n:A5},sm n (λi=>sm m (f i))=sm m (λj=>sm n λi=>f i j)
 |0=>Tq.symm
 |n+1=>by change sm n (λi=>sm m<|f i)+sm m (f n)=sm m λj=>sm n (λi=>f i j)+f n j;rw[mw,RO]
def sk(j k:A5):(A5):=if k<j then k else k+1
def mn(A:Mx)(j:A5):(Mx):=λi k=>A (i+1) (sk j k)
def sg(j:A5):(A0):=if j%2=0 then 1 else -1
def uR(j:A5):sg (j+1)=- sg j:=by
 unfold sg;cases h:j%2=0
 .rw[Yk h,Yh rF]
 .rw[Yh h,Yk J];rfl
def det:(A5->Mx->A0)
 |0,_=>1
 |n+1,A=>sm (n+1) λj=>sg j*A 0 j*det n (mn A j)
def OF{j k n:A5}(h:k<n):sk j k<n+1:=by unfold sk;split<;>lia
def Zr:∀{n:A5}{A AP:Mx},(∀i j,i<n->j<n->A i j=AP i j)->det n A=det n AP
 |0,_,_,_=>rfl
 |n+1,A,AP,h=>ZI λj hj=>by rw[h 0 j J hj,Zr (A:=mn A j) (AP:=mn AP j) λi k hi hk=>h (i+1) (sk j k) J (OF hk)]
def Il:∀{n:A5}{A AP C:Mx}{c:A0}{i:A5},i<n->(∀r j,r<n->j<n->r≠i->A r j=AP r j/\A r j=C r j)->(∀j,j<n->A i j=c*AP i j+C i j)->det n A=c*det n AP+det n C
 |0,_,_,_,_,_,hi,_,_=>absurd hi (VW _)
 |n+1,A,AP,C,c,i,hi,h1,h2=>by
  change sm (n+1) (λj=>sg j*A 0 j*det n (mn A j))=c*sm (n+1) (λj=>sg j*AP 0 j*det n (mn AP j))+sm (n+1) λj=>sg j*C 0 j*det n (mn C j);rw[<-Ft,<-RO];show ZI λj hj=>?_;cases i with
  |zero=>
   let e1:det n (mn AP j)=det n (mn A j):=Zr λr k hr hk=>(h1 (r+1) (sk j k) rF (OF hk) J).1.symm;let e2:det n (mn C j)=det n (mn A j):=Zr λr k hr hk=>(h1 (r+1) (sk j k) J (OF hk) J).2.symm
   rw[e1,e2,h2 j hj];generalize det n (mn A j)=d;generalize sg j=s;rw[Sh,vX,<-RB s c,Ph s c,RB c s,RB c]
  |succ i=>
   let e:=Il (n:=n) (A:=mn A j) (AP:=mn AP j) (C:=mn C j) (c:=c) (i:=i) J (λr k hr hk XJ=>h1 (r+1) (sk j k) J (OF hk) J) λk hk=>h2 (sk j k) (OF hk);let e0:=h1 0 j J hj J
   rw[e,<-e0.1,<-e0.2];generalize det n (mn AP j)=d;generalize det n (mn C j)=d';generalize sg j*A 0 j=s;rw[Sh,<-RB,<-RB,Ph s c]
def BD(h:j<=k):mn (mn A j) k i l=mn (mn A (k+1)) j i l:=by
 change A (i+1+1) (sk j<|sk k l)=A (i+1+1) (sk (k+1)<|sk j l);show YI _ ?_;unfold sk;cases h1:l<j
 .rw[Yk (show l<k by lia),Yk h1,Yk (show l<k+1 by lia)]
 .rw[Yh h1];cases h2:l<k
  .rw[Yk h2,Yh h1,Yk (show l+1<k+1 by lia)]
  .rw[Yh h2,Yh (show ¬l+1<j by lia),Yh (show ¬l+1<k+1 by lia)]
def mv:∀{n:A5}{A:Mx}{i:A5},i+1<n->(∀j,j<n->A i j=A (i+1) j)->det n A=0
 |0,_,_,hi,_=>absurd hi (VW _)
 |n+1,A,i+1,hi,h=>RN λj hj=>by rw[mv (A:=mn A j) (i:=i) J λk hk=>h (sk j k)<|OF hk,RA]
 |1,_,0,hi,_=>absurd hi rF
 |n+2,A,0,_,h=>by
  obtain⟨t,ht⟩:∃t:A5->A5->A0,t=λj k=>sg j*A 0 j*(sg k*A 1 (sk j k)*det n (mn (mn A j) k)):={_,Z};let e1:det (n+2) A=sm (n+2) λj=>sm (n+1) (t j):=ZI λj hj=>by rw[ht,Ft];rfl
  let e2:∀j k,j<=k->k<n+1->t (k+1) j=- t j k:=λj k hjk hk=>by
   rw[ht];change sg (k+1)*A 0 (k+1)*(sg j*A 1 (sk (k+1) j)*det n (mn (mn A<|k+1) j))=- (sg j*A 0 j*(sg k*A 1 (sk j k)*det n (mn (mn A j) k)))
   let f1:sk (k+1) j=j:=by unfold sk;rw[Yk J]
   let f2:sk j k=k+1:=by unfold sk;rw[Yh J]
   let f3:det n (mn (mn A<|k+1) j)=det n (mn (mn A j) k):=Zr λi l _ _=>(BD hjk).symm;rw[f1,f2,f3,uR,<-h j J,<-h (k+1) J];generalize det n (mn (mn A j) k)=d;generalize A 0 j=x;generalize A 0 (k+1)=y;generalize sg j=s;generalize sg k=u;simp only[vY,Int.neg_inj];simp only[Ph,wz,RB]
  let e3:sm (n+2) (λj=>sm (n+1)<|t j)=sm (n+2) (λj=>sm (n+1) λk=>if k<j then t j k else 0)+sm (n+2) (λj=>sm (n+1) λk=>if k<j then 0 else t j k):=by rw[<-RO];show ZI λj _=>?_;rw[<-RO];show ZI λk _=>?_;split<;>lia
  let e4:sm (n+2) (λj=>sm (n+1) λk=>if k<j then t j k else 0)=sm (n+1) (λk=>sm (n+1) λj=>if k<=j then t (j+1) k else 0):=by
   rw[mw];show ZI λk _=>?_;rw[OG,Yh J,Lo];show ZI λj _=>?_;cases c:k<=j
   .rw[Yk c,Yk rF]
   .rw[Yh c,Yh J]
  let e5:sm (n+2) (λj=>sm (n+1) λk=>if k<j then 0 else t j k)=sm (n+1) (λj=>sm (n+1) λk=>if j<=k then t j k else 0):=by
   change sm (n+1) (λj=>sm (n+1) λk=>if k<j then 0 else t j k)+sm (n+1) (λk=>if k<n+1 then 0 else t (n+1) k)=_;rw[RN (f:=λk=>if k<n+1 then 0 else t (n+1) k) λk hk=>Yk hk,QR];show ZI λj _=>ZI λk _=>?_;cases c:j<=k
   .rw[Yk c,Yh J]
   .rw[Yh c,Yk J]
  rw[e1,e3,e4,e5,<-RO];show RN λj hj=>?_;rw[<-RO];show RN λk hk=>?_;cases c:j<=k
  .rw[Yk c,Yk c,e2 j k c hk];lia
  .rw[Yh c,Yh c];rfl
def put2(A:Mx)(i:A5)(x y:A5->A0):(Mx):=λr=>if r=i then x else if r=i+1 then y else A r
def mq{x x' y:A5->A0}(hi:i+1<n):det n (put2 A i (λj=>x j+x' j) y)=det n (put2 A i x y)+det n (put2 A i x' y):=by
 have:=Il (n:=n) (A:=put2 A i (λj=>x j+x' j) y) (AP:=put2 A i x y) (C:=put2 A i x' y) (c:=1) (i:=i) J (λr j _ _ XJ=>by unfold put2;rw[Yh XJ,Yh XJ,Yh XJ];exists Z,Z) (λj _=>by unfold put2;rw[Yk Z,Yk Z,Yk Z,Sm])
 rw[this,Sm]
def ae{x y y':A5->A0}(hi:i+1<n):det n (put2 A i x λj=>y j+y' j)=det n (put2 A i x y)+det n (put2 A i x y'):=by
 let ne:¬i+1=i:=J
 have:=Il (n:=n) (A:=put2 A i x λj=>y j+y' j) (AP:=put2 A i x y) (C:=put2 A i x y') (c:=1) (i:=i+1) J (λr j _ _ XJ=>by unfold put2;rw[Yh XJ,Yh XJ,Yh XJ];exists Z,Z) (λj _=>by unfold put2;rw[Yh ne,Yh ne,Yh ne,Yk Z,Yk Z,Yk Z,Sm])
 rw[this,Sm]
def ml{x:A5->A0}(hi:i+1<n):det n (put2 A i x x)=0:=mv hi λj _=>by unfold put2;rw[Yk Z,Yh J,Yk Z]
def mj{x y:A5->A0}(hi:i+1<n):det n (put2 A i y x)=- det n (put2 A i x y):=by let h:=ml (A:=A) (x:=λj=>x j+y j) hi;rw[mq hi,ae hi,ae hi,ml hi,ml hi]at h;lia
def mi:put2 A i (A i) (A (i+1))=A:=by
 funext r
 unfold put2;cases h:r=i
 .rw[Yk h,h]
 .rw[Yh h];cases h2:r=i+1
  .rw[Yk h2,h2]
  .rw[Yh h2]
def ab(hi:i+1<n):det n (put2 A i (A (i+1)) (A i))=- det n A:=by
 have:=mj (A:=A) (x:=A i) (y:=A<|i+1) hi
 rwa[mi]at this
def uQ:∀{d:A5}{A:Mx},a+d+1<n->(∀j,j<n->A a j=A (a+d+1) j)->det n A=0
 |0,A,hn,h=>mv hn h
 |d+1,A,hn,h=>by
  let e:=ab (n:=n) (A:=A) (i:=a+d+1) J;let z:det n (put2 A (a+d+1) (A<|a+d+1+1)<|A<|a+d+1)=0:=by show uQ (a:=a) (d:=d) J λj hj=>?_;unfold put2;rw[Yh J,Yh J,Yk Z];show h j hj
  lia
def rotN(k t i:A5):(A5):=if i<k then i else if i=k then k+t else if i<=k+t then i-1 else i
def Zp9(k i:A5):rotN k 0 i=i:=by
 unfold rotN;cases h:i<k
 .rw[Yk h]
 .rw[Yh h];cases h2:i=k
  .rw[Yk h2,h2];rfl
  .rw[Yh h2,Yh J]
def mh:∀{t:A5}{A:Mx},k+t<n->det n (λi=>A (rotN k t i))=sg t*det n A
 |0,A,_=>by rw[show sg 0=1 from Z,Sm];show Zr λi j _ _=>by rw[Zp9]
 |t+1,A,h=>by
  let e:=mh (n:=n) (k:=k) (t:=t) (A:=put2 A (k+t) (A<|k+t+1)<|A<|k+t) J;rw[ab J]at e;let f:det n (λi=>A<|rotN k (t+1) i)=det n (λi=>put2 A (k+t) (A<|k+t+1) (A<|k+t)<|rotN k t i):=Zr λi j _ _=>by
   show congrFun ?_ j;let r1:rotN k (t+1) i=if i<k then i else if i=k then k+(t+1) else if i<=k+(t+1) then i-1 else i:=rfl
   let r2:rotN k t i=if i<k then i else if i=k then k+t else if i<=k+t then i-1 else i:=rfl
   unfold put2;cases h1:i<k
   .rw[Yk h1]at r1 r2;rw[r1,r2,Yh J,Yh J]
   .rw[Yh h1]at r1 r2;cases h2:i=k
    .rw[Yk h2]at r1 r2;rw[r1,r2,Yk Z];rfl
    .rw[Yh h2]at r1 r2;cases h3:i<=k+t
     .rw[Yk J]at r1;rw[Yk h3]at r2;rw[r1,r2,Yh J,Yh J]
     .rw[Yh h3]at r2;cases h4:i=k+t+1
      .rw[Yk J]at r1;rw[r1,r2,Yh J,Yk h4];show YI A J
      .rw[Yh J]at r1;rw[r1,r2,Yh J,Yh h4]
  rw[f,e,uR,Int.mul_neg,vY]
def mf:∀{n:A5}{A:Mx},(∀i,i<n+1->A i 0=0)->det (n+1) A=0
 |0,A,h=>by change 0+sg 0*A 0 0*1=0;rw[h 0 rF,RA];rfl
 |n+1,A,h=>RN λj hj=>by
  cases j with
  |zero=>rw[h 0 J,RA,EB]
  |succ j=>
   rw[mf (A:=mn A<|j+1) λi hi=>?_,RA];change A (i+1) (sk (j+1) 0)=0
   rw[show sk (j+1) 0=0 from Z];show h (i+1) J
def BC(h:∀i,i<n->A (i+1) 0=0):det (n+1) A=A 0 0*det n (λi j=>A (i+1) (j+1)):=by
 change sm (n+1) (λj=>sg j*A 0 j*det n (mn A j))=_;rw[OG,RN λj hj=>?_]
 .rw[QR,show sg 0=1 from Z,Sm];show YI (A 0 0 * ·) (Zr λi j _ _=>?_);rfl
 .cases n with
  |zero=>show absurd hj (VW _)
  |succ n=>
   rw[mf (A:=mn A<|j+1) λi hi=>?_,RA];show h i hi
def aa{i:A5}(hi:i<n)(h:∀j,j<n->A i j=0):det n A=0:=by
 have:=Il (A:=A) (AP:=A) (C:=A) (c:=1) hi (λr j _ _ _=>⟨Z,Z⟩) (λj hj=>by rw[h j hj];rfl)
 lia
def Zn6{c:A0}:∀{n:A5}{A:Mx},det n (λi j=>c*A i j)=c^n*det n A
 |0,_=>by change(1:A0)=c^0*1;rw[JL];rfl
 |n+1,A=>by
  change sm (n+1) (λj=>sg j*(c*A 0 j)*det n (mn (λi j=>c*A i j) j))=c^(n+1)*sm (n+1) λj=>sg j*A 0 j*det n (mn A j);rw[<-Ft];show ZI λj _=>?_;let e:det n (mn (λi j=>c*A i j) j)=c^n*det n (mn A j):=Zn6 (A:=mn A j)
  rw[e,EA];generalize det n (mn A j)=d;generalize c^n=p;generalize sg j=s;generalize A 0 j=x;simp only[Ph,wz,RB]
def offN(R:Mx):(Mx):=λi j=>R 0 0*R (i+1) (j+1)-R (i+1) 0*R 0 (j+1)
def WJ(R:Mx)(k:A5):(Mx):=λr j=>if r=0 then R 0 j else if r<=k then R 0 0*R r j-R r 0*R 0 j else R r j
def ZJ8{m:A5}:∀{k:A5},k<m+1->det (m+1) (WJ R k)=R 0 0^k*det (m+1) R
 |0,_=>by
  rw[JL,Sm];show Zr λi j _ _=>?_;unfold WJ;cases h:i=0
  .rw[Yk h,h]
  .rw[Yh h,Yh J]
 |k+1,hk=>by
  let ih:=ZJ8 (m:=m) (R:=R) (k:=k) J;obtain⟨C,hC⟩:∃C:Mx,C=λr j=>if r=k+1 then-R (k+1) 0*R 0 j else WJ R k r j:={_,Z}
  obtain⟨AP,hB⟩:∃AP:Mx,AP=λr j=>if r=k+1 then R 0 j else WJ R k r j:={_,Z}
  obtain⟨rg,hZ⟩:∃rg:Mx,rg=λr j=>if r=k+1 then 0 else WJ R k r j:={_,Z}
  let hBz:det (m+1) AP=0:=uQ (n:=m+1) (a:=0) (d:=k) J λj hj=>by
   rw[hB];change(if 0=k+1 then _ else WJ R k 0 j)=if 0+k+1=k+1 then _ else _
   rw[Yh J,Yk J];rfl
  let hZz:det (m+1) rg=0:=aa (i:=k+1) hk λj hj=>by rw[hZ];show Yk rfl
  let hCz:det (m+1) C=0:=by
   have:=Il (A:=C) (AP:=AP) (C:=rg) (c:=- R (k+1) 0) hk (λr j _ _ XJ=>by
    rw[hC,hB,hZ];change(if r=k+1 then _ else WJ R k r j)=(if r=k+1 then _ else WJ R k r j)/\(if r=k+1 then _ else WJ R k r j)=(if r=k+1 then _ else WJ R k r j)
    rw[Yh XJ,Yh XJ,Yh XJ];exists Z,Z) (λj _=>by
    rw[hC,hB,hZ];change(if k+1=k+1 then _ else _)=_*(if k+1=k+1 then _ else _)+(if k+1=k+1 then _ else _)
    rw[Yk Z,Yk Z,Yk Z,QR])
   rw[this,hBz,hZz,RA];rfl
  have:=Il (A:=WJ R<|k+1) (AP:=WJ R k) (C:=C) (c:=R 0 0) hk (λr j _ _ XJ=>by
   let e1:WJ R (k+1) r j=WJ R k r j:=by
    unfold WJ;cases h0:r=0
    .rw[Yk h0,Yk h0]
    .rw[Yh h0,Yh h0];cases h1:r<=k
     .rw[Yk h1,Yk J]
     .rw[Yh h1,Yh J]
   exists e1,?_;rw[hC,e1];change _=if r=k+1 then _ else _
   rw[Yh XJ]) (λj _=>by
   let e1:WJ R (k+1) (k+1) j=R 0 0*R (k+1) j-R (k+1) 0*R 0 j:=by unfold WJ;rw[Yh J,Yk J]
   let e2:WJ R k (k+1) j=R (k+1) j:=by unfold WJ;rw[Yh rF,Yh J]
   rw[e1,e2,hC];change _=_+(if k+1=k+1 then-R (k+1) 0*R 0 j else _)
   rw[Yk Z,vY]
   rfl)
  rw[this,hCz,ih,QR,EA];rw[<-RB,Ph (R 0 0)]
def me:R 0 0*det m (offN R)=R 0 0^m*det (m+1) R:=by
 rw[<-ZJ8 (k:=m) J,BC λi hi=>?_]
 .let e0:WJ R m 0 0=R 0 0:=Yk rfl;rw[e0];show YI (R 0 0 * ·) (Zr λi j hi hj=>?_);unfold WJ offN;rw[Yh J,Yk J]
 .unfold WJ;rw[Yh J,Yk J,Ph];lia
def ex(k:A5)(r:A5->A5)(i:A5):(A5):=if i<k then i else k+r (i-k)
def Rk(A:Mx)(k M:A5)(R:Mx)(last:A0):(Prop):=last≠0/\∀m r c,(∀i,i<m+1->r i<M/\c i<M)->
 det (m+1) (λi j=>R (r i)<|c j)=det (k+m+1) (λi j=>A (ex k r i)<|ex k c j)*last^m
def md(A:Mx)(n:A5):Rk A 0 n A 1:={Ep,λm r c _=>by rw[Int.one_pow,Gk,QT];show Zr λi j _ _=>?_;unfold ex;rw[Yh (VW _),Yh<|VW _,QT,QT,Nb,Nb]}
def Ik{p:A0}(h:p≠0):∀n:A5,p^n≠0
 |0=>by rw[JL];decide
 |n+1=>by rw[EA];show Int.mul_ne_zero (Ik h n) h
def OE(r:A5->A5):(A5->A5)
 |0=>0
 |i+1=>r i+1
def BB(k:A5)(r:A5->A5)(i:A5):ex k (OE r) i=ex (k+1) r i:=by
 unfold ex;cases h:i<k
 .rw[Yk h,Yk J]
 .rw[Yh h];cases h2:i=k
  .rw[Yk J,h2,Uz];rfl
  .rw[Yh J];obtain⟨d,rfl⟩:∃d,i=k+d+1:={i-k-1,D};rw[show k+d+1-k=d+1 by lia,show k+d+1-(k+1)=d by lia];change k+(r d+1)=k+1+r d
   lia
def KC{k M:A5}(h:Rk A k (M+1) R last)(hp:R 0 0≠0){m:A5}{r c:A5->A5}(hb:∀i,i<m+1->r i<M/\c i<M):
  det (m+1) (λi j=>offN R (r i)<|c j)=R 0 0^m*(last^(m+1)*det (k+1+m+1) λi j=>A (ex (k+1) r i)<|ex (k+1) c j):=by
 let e1:=me (m:=m+1) (R:=λi j=>R (OE r i)<|OE c j);let e2:=h.2 (m+1) (OE r) (OE c) λi hi=>by
  cases i with
  |zero=>exists Nat.succ_pos _,Nat.succ_pos _
  |succ i=>have:=hb i J;exists JE this.1,JE this.2
 let e3:det (m+1) (offN λi j=>R (OE r i)<|OE c j)=det (m+1) (λi j=>offN R (r i)<|c j):=rfl;let e4:det (k+(m+1)+1) (λi j=>A (ex k (OE r) i)<|ex k (OE c) j)=det (k+1+m+1) (λi j=>A (ex (k+1) r i)<|ex (k+1) c j):=by rw[show k+(m+1)+1=k+1+m+1 by lia];show Zr λi j _ _=>by rw[BB,BB]
 rw[e3]at e1;rw[e4]at e2;let e5:R (OE r 0) (OE c 0)=R 0 0:=rfl
 rw[e5,e2]at e1;generalize det (m+1) (λi j=>offN R (r i)<|c j)=x at *;generalize det (k+1+m+1) (λi j=>A (ex (k+1) r i)<|ex (k+1) c j)=y at *;rw[EA]at e1;show cM hp ?_;rw[e1,Ph y,Ph<|R 0 0^m,RB]
def l9(A:Mx):det 1 A=A 0 0:=by change 0+sg 0*A 0 0*1=A 0 0;rw[show sg 0=1 from Z];lia
def BA{k M:A5}(h:Rk A k (M+1) R last)(hp:R 0 0≠0)(hi:i<M)(hj:j<M):
  offN R i j=last*det (k+2) (λa b=>A (ex (k+1) (λ_=>i) a)<|ex (k+1) (λ_=>j) b):=by
 have:=KC h hp (m:=0) (r:=λ_=>i) (c:=λ_=>j) λ_ _=>⟨hi,hj⟩
 rwa[l9,JL,Sm,EA,JL,Sm]at this
def l8(h:Rk A k (M+1) R last)(hp:R 0 0≠0)(hR:∀i j,i<M->j<M->R' i j=(offN R i j).fdiv last):Rk A (k+1) M R' (R 0 0):=by
 exists hp,λm r c hb=>?_;let l7:∀i j,i<M->j<M->offN R i j=last*R' i j:=λi j hi hj=>by rw[hR i j hi hj,BA h hp hi hj,Int.mul_fdiv_cancel_left _ h.1]
 let e1:=KC h hp hb;let e2:det (m+1) (λi j=>offN R (r i)<|c j)=last^(m+1)*det (m+1) (λi j=>R' (r i)<|c j):=by rw[<-Zn6];show Zr λi j hi hj=>l7 _ _ (hb i hi).1 (hb j hj).2
 rw[e2]at e1;show cM (Ik h.1<|m+1) ?_;rw[e1];generalize det (k+1+m+1) (λi j=>A (ex (k+1) r i)<|ex (k+1) c j)=y;rw[wz,Ph y]
def Bz(h:Rk A k M R last)(ht:t<M):Rk (λi=>A (rotN k t i)) k M (λi=>R (rotN 0 t i)) last:=by
 exists h.1,λm r c hb=>?_;let e:=h.2 m (λi=>rotN 0 t<|r i) c λi hi=>⟨by
  have:=(hb i hi).1
  unfold rotN;rw[Yh J];split
  .lia
  .split<;>lia,(hb i hi).2⟩
 rw[e];show YI (· * last^m) (Zr λi j _ _=>?_);show YI (λa=>A a<|ex k c j) ?_;unfold ex;cases hi:i<k
 .rw[Yk hi,Yk hi];unfold rotN;rw[Yk hi]
 .rw[Yh hi,Yh hi];change k+rotN 0 t (r<|i-k)=rotN k t (k+r (i-k))
  generalize r (i-k)=a;let r1:rotN 0 t a=if a<0 then a else if a=0 then 0+t else if a<=0+t then a-1 else a:=rfl
  let r2:rotN k t (k+a)=if k+a<k then k+a else if k+a=k then k+t else if k+a<=k+t then k+a-1 else k+a:=rfl
  rw[Yh J]at r1 r2;cases h1:a=0
  .rw[Yk h1]at r1;rw[Yk J]at r2;rw[r1,r2];lia
  .rw[Yh h1]at r1;rw[Yh J]at r2;cases h2:a<=t
   .rw[Yk J]at r1;rw[Yk J]at r2;rw[r1,r2];lia
   .rw[Yh J]at r1;rw[Yh J]at r2;rw[r1,r2]
def Mi(k i:A5):ex k (λi=>i) i=i:=by
 unfold ex;cases h:i<k
 .rw[Yk h]
 .rw[Yh h];change k+(i-k)=i
  grind
def l6{k M:A5}(h:Rk A k (M+1) R last)(h0:∀i,i<M+1->R i 0=0):det (k+M+1) A=0:=by
 let e:=h.2 M (λi=>i) (λi=>i) λi hi=>⟨hi,hi⟩;rw[mf (A:=λi j=>R i j) h0]at e;let e2:det (k+M+1) (λi j=>A (ex k (λi=>i) i)<|ex k (λi=>i) j)=det (k+M+1) A:=Zr λi j _ _=>by rw[Mi,Mi]
 rw[e2]at e;rcases Int.mul_eq_zero.S e.symm with z|z
 .show z
 .show absurd z (Ik h.1 M)
def By(h:Rk A k 1 R last):R 0 0=det (k+1) A:=by
 let e:=h.2 0 (λi=>i) (λi=>i) λi hi=>⟨J,rF⟩;rw[l9,JL,Gk]at e;let e2:det (k+0+1) (λi j=>A (ex k (λi=>i) i)<|ex k (λi=>i) j)=det (k+1) A:=Zr λi j _ _=>by rw[Mi,Mi]
 rwa[e2]at e
end My
namespace L2
open PySem PySem.Spec PyProof.Rows
def lZ(i j:A0):(Prop):=i.natAbs<2^9000/\j.natAbs<2^9000
def lY(i j:A0):(Prop):=j≠0/\j.natAbs<2^9000
def ZB6(h:a.natAbs<2^9000):Builtin.Int.intBits a<=9000:=PySem.intBits_le_iff.mpr h
section
variable{X:Cx}
def lX:WD X (binaryOp .Mult) (rI lZ λi j=>.int (i*j)):=Gb λ_ _ _ _ _ _ _ hc q=>mul_int q (.of_bits (Yq (ZB6 hc.1) Ep)<|Yq (ZB6 hc.2) Ep)
def lW:WD X (binaryOp .FloorDiv) (rI lY λi j=>.int (i.fdiv j)):=Gb λ_ _ _ _ _ _ _ hc q=>floordiv_int hc.1 q (.inl<|PyProof.noPylong_of_log2<|(Nat.log2_lt (by have:=hc.1;ext)).mpr hc.2)
end
end L2
namespace My
def fnL(L:Ab):(Mx):=λi j=>(L.R i []).R j 0
def Ny{l:Ac}{x:A0}(h:L[i]?=⇑l)(h2:l[j]?=⇑x):fnL L i j=x:=by
 let e:L.R i []=l:=by rw[Yb,h];rfl
 unfold fnL;rw[e,Yb,h2];rfl
def uP(AP:A5):(A5->A5)
 |0=>1
 |n+1=>(n+1)*(AP*uP AP n)
def Bx{f:A5->A0}{C:A5}:∀{n:A5},(∀i,i<n->(f i).natAbs<=C)->(sm n f).natAbs<=n*C
 |0,_=>by change(0:A0).natAbs<=0*C;rw[Nat.zero_mul];show XG 0
 |n+1,h=>by
  let h1:=Bx (n:=n) λi hi=>h i J;let h2:=h n J
  let h3:(sm n f+f n).natAbs<=(sm n f).natAbs+(f n).natAbs:=Int.natAbs_add_le ..;change(sm n f+f n).natAbs<=(n+1)*C
  rw[Nat.succ_mul];lia
def Bw:∀{n:A5}{A:Mx},(∀i j,i<n->j<n->(A i j).natAbs<=AP)->(det n A).natAbs<=uP AP n
 |0,_,_=>XG 1
 |n+1,A,h=>by
  show Bx λj hj=>?_;let e:(sg j).natAbs=1:=by unfold sg;split<;>rfl
  rw[rS,rS,e,Nat.one_mul];show Ni (h 0 j J hj) (Bw λi k hi hk=>h (i+1) (sk j k) J<|OF hk)
def Bv{b:A5}:∀{n:A5},n<=16->uP (2^b) n<=2^((b+4)*n)
 |0,_=>by change 1<=2^((b+4)*0);rw[Nat.mul_zero];show XG 1
 |n+1,h=>by
  let ih:=Bv (b:=b) (n:=n) J;let e:2^((b+4)*(n+1))=16*(2^b*2^((b+4)*n)):=by rw[Nat.mul_succ,Nat.pow_add,Nat.pow_add,EC<|2^((b+4)*n),EC (2^b)<|2^4,Nat.mul_assoc]
  rw[e];change(n+1)*(2^b*uP (2^b) n)<=_
  show Ni h (Ni (XG _) ih)
def Bu(hn:n<=16)(h:∀i j,i<n->j<n->(A i j).natAbs<=2^400):(det n A).natAbs<2^9000:=by
 let h1:=Bw h;let h2:=Bv (b:=400) hn
 let h3:2^((400+4)*n)<=2^(404*16):=wD Ep (Ni (XG _) hn);let h4:2^(404*16)<2^9000:=Nat.pow_lt_pow_right Ep Ep
 show EO (Yq h1<|Yq h2 h3) h4
def lV(h:Rk A k M R last){i j:A5}(hi:i<M)(hj:j<M):R i j=det (k+1) (λa b=>A (ex k (λ_=>i) a) (ex k (λ_=>j) b)):=by
 have:=h.2 0 (λ_=>i) (λ_=>j) λ_ _=>⟨hi,hj⟩
 rwa[l9,JL,Gk]at this
def lU{k M n:A5}(h:Rk A k M R last)(hn:k+M=n)(hn16:n<=16)(hA:∀i j,i<n->j<n->(A i j).natAbs<=2^400){i j:A5}(hi:i<M)(hj:j<M):(R i j).natAbs<2^9000:=by
 rw[lV h hi hj];show Bu J λa b ha hb=>hA _ _ ?_ ?_
 .let e:ex k (λ_=>i) a=if a<k then a else k+i:=rfl
  rw[e];split<;>lia
 .let e:ex k (λ_=>j) b=if b<k then b else k+j:=rfl
  rw[e];split<;>lia
def lT{L:Ab}{l:Ac}(h:L[t]?=⇑l)(i:A5):(l::L.eraseIdx t)[i]?=L[rotN 0 t i]?:=by
 let ht:=(Xx.S h).1;let r:rotN 0 t i=if i<0 then i else if i=0 then 0+t else if i<=0+t then i-1 else i:=rfl
 rw[Yh J]at r;cases i with
 |zero=>
  rw[Yk Z,QT]at r;rw[r,h];rfl
 |succ i=>
  rw[Yh J,QT]at r;rw[r,List.getElem?_cons_succ,sO];cases c:i+1<=t
  .rw[Yk c,Yk J];rfl
  .rw[Yh c,Yh J]
def lS{l:Ac}(h:L[t]?=⇑l):fnL (l::L.eraseIdx t)=λi=>fnL L (rotN 0 t i):=by
 funext i j
 change((l::L.eraseIdx t).R i []).R j 0=(L.R (rotN 0 t i) []).R j 0;show YI (λr:Ac=>r.R j 0) ?_;rw[Yb,Yb,lT h]
def OD(y:A0)(p:Ac)(last:A0)(l:Ac):(Ac):=List.zipWith (λown other=>(y*own-l.headD 0*other).fdiv last) l.tail p
def Bt(h:l.f=p.f+1):(OD y p last l).f=p.f:=by unfold OD;rw[QN,List.length_tail];lia
def lR{L:Ab}{M:A5}(hp:p.f=M)(hL:L.f=M)(hl:∀l∈L,l.f=M+1){i j:A5}(hi:i<M)(hj:j<M):
  fnL (L.G<|OD y p last) i j=(offN (fnL<|(y::p)::L) i j).fdiv last:=by
 obtain⟨l,KA⟩:∃l,L[i]?=⇑l:={_,Xv J};let VX:=hl l (Xo KA)
 obtain⟨x,l',rfl⟩:∃x l',l=x::l':=by
  cases l with
  |nil=>cases VX
  |cons x l'=>exists x,l',Z
 let Pb:l'.f=M:=by rw[YM]at VX;lia
 obtain⟨u,hu⟩:∃u,l'[j]?=⇑u:={_,Xv J};obtain⟨v,hv⟩:∃v,p[j]?=⇑v:={_,Xv J};let e1:fnL (L.G<|OD y p last) i j=(y*u-x*v).fdiv last:=Ny (l:=OD y p last<|x::l') (by rw[Yi,KA];rfl) (by
  change(List.zipWith _ l' p)[j]?=_;rw[JW,hu,hv]
  rfl)
 let e2:fnL ((y::p)::L) 0 0=y:=rfl;let e3:fnL ((y::p)::L) (i+1) (j+1)=u:=Ny (l:=x::l') KA hu
 let e4:fnL ((y::p)::L) (i+1) 0=x:=Ny (l:=x::l') KA rfl;let e5:fnL ((y::p)::L) 0 (j+1)=v:=Ny (l:=y::p) Z hv
 rw[e1];unfold offN;rw[e2,e3,e4,e5]
end My
namespace My
open PySem L2
def Bs(K:Ad)(H:Hp)(v:V)(l:Ac):(Prop):=∃r k,v=.ref r/\SqK k K H r (IL l)
def LiV(d:A7)(H:Hp)(v:V)(l:Ac):(Prop):=∃r,v=.ref r/\H r=⇑(.lst<|IL l)/\r≠d
def LiV.same(s:Same H H')(h:LiV d H v l):LiV d H' v l:=by let(r,e,h,n):=h;exists r,e,s _ _ h,n
def LiV.mut(h:LiV d H v l):LiV d (upd H d o) v l:=by let(r,e,h,n):=h;exists r,e,by rw[Zd n];show h,n
def LiV.list(h:LiV d H v l):QD H v l:=by let(r,e,h,_):=h;exists r,e,h
def Bears.erase{α:Type}[DecidableEq α]{R:V->α->Prop}{xs:A6 V}{l:A6 α}(h:Bears R xs l)(t:A5):Bears R (xs.eraseIdx t) (l.eraseIdx t):=by
 let hl:=h.1;show{by rw[sL,sL,hl],λi a e=>?_};rw[sO]at e;rw[sO];split at e
 .next c=>rw[Yk c];show h.2 _ _ e
 .next c=>rw[Yh c];show h.2 _ _ e
def ZN8(x:A0)(l:Ac):Xi (IL (x::l)) (some 1) none=IL l:=by rw[BJ Ep];rfl
def lQ(t:A5):sg t*sg t=1:=by unfold sg;split<;>rfl
end My
namespace My
def lP{f:A5->A5->A0}:sm n (λi=>sm m λj=>f i j)=sm m (λj=>sm n λi=>f i j):=mw
def Br:∀{n:A5}{A:Mx},det (n+1) A=sm (n+1) λi=>sg i*A i 0*det n (λr c=>A (sk i r) (c+1))
 |0,A=>rfl
 |n+1,A=>by
  let e1:det (n+2) A=sg 0*A 0 0*det (n+1) (mn A 0)+sm (n+1) λj=>sg (j+1)*A 0 (j+1)*det (n+1) (mn A<|j+1):=OG;let e2:sm (n+2) (λi=>sg i*A i 0*det (n+1) λr c=>A (sk i r)<|c+1)=sg 0*A 0 0*det (n+1) (λr c=>A (sk 0 r)<|c+1)+sm (n+1) λi=>sg (i+1)*A (i+1) 0*det (n+1) (λr c=>A (sk (i+1) r)<|c+1):=OG
  rw[e1,e2];let e3:det (n+1) (mn A 0)=det (n+1) (λr c=>A (sk 0 r)<|c+1):=Zr λr c _ _=>rfl
  rw[e3];show YI (λz:A0=>sg 0*A 0 0*det (n+1) (λr c=>A (sk 0 r)<|c+1)+z) ?_;obtain⟨rj,hD⟩:∃rj:A5->A5->A0,rj=λi j=>det n (λr c=>A (sk i r+1)<|sk (j+1)<|c+1):={_,Z};let e4:∀j,j<n+1->det (n+1) (mn A<|j+1)=sm (n+1) λi=>sg i*A (i+1) 0*rj i j:=λj _=>by rw[Br,hD];rfl
  let e5:∀i,i<n+1->det (n+1) (λr c=>A (sk (i+1) r)<|c+1)=sm (n+1) λj=>sg j*A 0 (j+1)*rj i j:=λi hi=>by
   change sm (n+1) (λj=>sg j*A (sk (i+1) 0) (j+1)*det n (mn (λr c=>A (sk (i+1) r)<|c+1) j))=_;show ZI λj _=>?_;rw[hD];change sg j*A (sk (i+1) 0) (j+1)*det n (mn (λr c=>A (sk (i+1) r)<|c+1) j)=sg j*A 0 (j+1)*det n (λr c=>A (sk i r+1)<|sk (j+1)<|c+1)
   rw[show sk (i+1) 0=0 from Z];show YI (sg j*A 0 (j+1) * ·) (Zr λr c _ _=>?_);change A (sk (i+1)<|r+1) (sk j c+1)=A (sk i r+1) (sk (j+1)<|c+1)
   let f1:sk (i+1) (r+1)=sk i r+1:=by
    unfold sk;cases h:r<i
    .rw[Yk h,Yk J]
    .rw[Yh h,Yh J]
   let f2:sk j c+1=sk (j+1) (c+1):=by
    unfold sk;cases h:c<j
    .rw[Yk h,Yk J]
    .rw[Yh h,Yh J]
   rw[f1,f2]
  let e6:sm (n+1) (λj=>sg (j+1)*A 0 (j+1)*det (n+1) (mn A<|j+1))=sm (n+1) λj=>sm (n+1) λi=>sg (j+1)*A 0 (j+1)*(sg i*A (i+1) 0*rj i j):=ZI λj hj=>by rw[e4 j hj,Ft]
  let e7:sm (n+1) (λi=>sg (i+1)*A (i+1) 0*det (n+1) λr c=>A (sk (i+1) r)<|c+1)=sm (n+1) λi=>sm (n+1) λj=>sg (i+1)*A (i+1) 0*(sg j*A 0 (j+1)*rj i j):=ZI λi hi=>by rw[e5 i hi,Ft]
  rw[e6,e7,lP];show ZI λi _=>ZI λj _=>?_;rw[uR,uR];generalize rj i j=d;generalize A 0 (j+1)=x;generalize A (i+1) 0=y;generalize sg i=s;generalize sg j=u;simp only[vY,Int.neg_inj];simp only[Ph,wz,RB]
def OC:∀{n:A5}{A:Mx},det n (λi j=>A j i)=det n A
 |0,_=>rfl
 |n+1,A=>by
  rw[Br (A:=A)];show ZI λj _=>?_;change sg j*A j 0*det n (λi k=>A (sk j k)<|i+1)=sg j*A j 0*det n (λr c=>A (sk j r)<|c+1)
  rw[<-OC (A:=λr c=>A (sk j r)<|c+1)]
def lO{n a b:A5}(ha:a<n)(hb:b<n)(XJ:a≠b)(h:∀j,j<n->A a j=A b j):det n A=0:=by
 rcases Nat.lt_or_gt_of_ne XJ with c|c
 .obtain⟨d,rfl⟩:∃d,b=a+d+1:={b-a-1,D};show uQ hb h
 .obtain⟨d,rfl⟩:∃d,a=b+d+1:={a-b-1,D};show uQ ha λj hj=>(h j hj).symm
def putr(A:Mx)(i:A5)(x:A5->A0):(Mx):=λr=>if r=i then x else A r
def ZH8{c:A0}{x y:A5->A0}(hi:i<n):det n (putr A i λj=>c*x j+y j)=c*det n (putr A i x)+det n (putr A i y):=
 Il hi (λr j _ _ XJ=>by unfold putr;rw[Yh XJ,Yh XJ,Yh XJ];exists Z,Z) (λj _=>by unfold putr;rw[Yk Z,Yk Z,Yk Z])
def ZO7:putr A i (A i)=A:=by
 funext r
 unfold putr;cases h:r=i
 .rw[Yk h,h]
 .rw[Yh h]
def ZL8{n a b:A5}{c:A0}(ha:a<n)(hb:b<n)(XJ:a≠b):det n (putr A a λj=>A a j+c*A b j)=det n A:=by
 let e:(λj=>A a j+c*A b j)=λj=>c*A b j+A a j:=by funext j;lia
 rw[e,ZH8 ha,ZO7,lO ha hb XJ (A:=putr A a<|A b) λj _=>?_,RA,Lo];unfold putr;rw[Yk Z,Yh (YZ XJ)]
def lN(a i:A5):rotN 0 a (i+1)=sk a i:=by
 let r:rotN 0 a (i+1)=if i+1<0 then i+1 else if i+1=0 then 0+a else if i+1<=0+a then i+1-1 else i+1:=rfl
 rw[Yh J,Yh J]at r;rw[r];unfold sk;cases h:i<a
 .rw[Yk h,Yk J];lia
 .rw[Yh h,Yh J]
def Bq{f:A5->A0}{a:A5}:∀{n:A5},a<n->(∀j,j<n->j≠a->f j=0)->sm n f=f a
 |0,h,_=>absurd h (VW _)
 |n+1,h,h0=>by
  change sm n f+f n=f a;cases c:a=n
  .rw[RN λi hi=>h0 i D J,c,Lo]
  .rw[Bq (n:=n) J λj hj XJ=>h0 j J XJ,h0 n J J,QR]
def lM(ha:a<n+1):det (n+1) (putr A a λj=>if j=a then 1 else 0)=det n (λi j=>A (sk a i) (sk a j)):=by
 let e:=mh (n:=n+1) (k:=0) (t:=a) (A:=putr A a λj=>if j=a then 1 else 0) J;let r0:rotN 0 a 0=a:=by change(if 0<0 then 0 else if 0=0 then 0+a else _)=a;rw[Yh J,Yk Z,QT]
 let top:det (n+1) (λi=>putr A a (λj=>if j=a then 1 else 0)<|rotN 0 a i)=sg a*det n (λi j=>A (sk a i)<|sk a j):=by
  change sm (n+1) (λj=>sg j*putr A a (λj=>if j=a then 1 else 0) (rotN 0 a 0) j*det n (mn (λi=>putr A a (λj=>if j=a then 1 else 0)<|rotN 0 a i) j))=_;rw[Bq ha λj _ XJ=>?_]
  .rw[r0];let e1:putr A a (λj=>if j=a then 1 else 0) a a=1:=by unfold putr;rw[Yk Z,Yk Z]
   rw[e1,Gk];show YI (sg a * ·) (Zr λi j _ _=>?_);change putr A a (λj=>if j=a then 1 else 0) (rotN 0 a<|i+1) (sk a j)=A (sk a i) (sk a j)
   rw[lN];unfold putr;rw[Yh (by unfold sk;split<;>lia)]
  .rw[r0];let e1:putr A a (λj=>if j=a then 1 else 0) a j=0:=by unfold putr;rw[Yk Z,Yh XJ]
   rw[e1,RA,EB]
 rw[top]at e;let h:=YI (sg a * ·) e
 simp only[<-RB]at h;rw[show sg a*sg a=1 by unfold sg;split<;>rfl,Sm,Sm]at h
 show h.symm
def ZK8{w:A0}(ha:a<n+1):det (n+1) (λi j=>A i j+w*((if i=a then 1 else 0)*(if j=a then 1 else 0)))=det (n+1) A+w*det n (λi j=>A (sk a i) (sk a j)):=by
 let e:det (n+1) (λi j=>A i j+w*((if i=a then 1 else 0)*(if j=a then 1 else 0)))=det (n+1) (putr A a λj=>w*(λj=>if j=a then 1 else 0) j+A a j):=Zr λi j _ _=>by
  unfold putr;cases h:i=a
  .subst h;rw[Yk Z,Yk Z,Sm];change A i j+w*(if j=i then 1 else 0)=w*(if j=i then 1 else 0)+A i j
   show Int.add_comm ..
  .rw[Yh h,Yh h,EB,RA,QR]
 rw[e,ZH8 ha,ZO7,lM ha];lia
def ind(u v i:A5):(A0):=(if i=u then 1 else 0)-(if i=v then 1 else 0)
def PH(A:Mx)(a b:A5):(Mx):=λi j=>(A i j+(if i=b then A a j else 0))+(if j=b then A i a+(if i=b then A a a else 0) else 0)
def Zp6(ha:a<n)(hb:b<n)(XJ:a≠b):det n (PH A a b)=det n A:=by
 let e1:det n A=det n (putr A b λj=>A b j+1*A a j):=(ZL8 hb ha<|YZ XJ).symm;obtain⟨R,hR⟩:∃R:Mx,R=putr A b (λj=>A b j+1*A a j):={_,Z};let e2:det n R=det n (putr (λi j=>R j i) b λj=>(λi j=>R j i) b j+1*(λi j=>R j i) a j):=by rw[ZL8 (A:=λi j=>R j i) hb ha (YZ XJ)];show OC.symm
 rw[e1,<-hR,e2,<-OC (A:=putr (λi j=>R j i) b λj=>(λi j=>R j i) b j+1*(λi j=>R j i) a j)];show Zr λi j _ _=>?_;let rv:∀r c,R r c=A r c+(if r=b then A a c else 0):=λr c=>by
  rw[hR];unfold putr;cases h:r=b
  .rw[Yk h,Yk h,h];lia
  .rw[Yh h,Yh h];lia
 unfold PH;change _=(putr (λi j=>R j i) b λj=>R j b+1*R j a) j i
 unfold putr;cases h:j=b
 .rw[Yk h,Yk h,rv,rv,h];cases h2:i=b
  .rw[Yk h2,Yk h2];lia
  .rw[Yh h2,Yh h2];lia
 .rw[Yh h,Yh h];change _=R i j
  rw[rv];lia
def lK{w:A0}(ha:a<n+1)(hb:b<n+1)(XJ:a≠b):det (n+1) (λi j=>A i j+w*(ind a b i*ind a b j))=det (n+1) A+w*det n (λi j=>PH A a b (sk a i) (sk a j)):=by
 let e1:=Zp6 (A:=λi j=>A i j+w*(ind a b i*ind a b j)) ha hb XJ;let e2:det (n+1) (PH (λi j=>A i j+w*(ind a b i*ind a b j)) a b)=det (n+1) (λi j=>PH A a b i j+w*((if i=a then 1 else 0)*(if j=a then 1 else 0))):=Zr λi j _ _=>by
  let na:¬a=b:=XJ;let nb:¬b=a:=YZ XJ
  unfold PH ind;cases hi:i=b
  .subst hi;cases hj:j=i
   .subst hj;simp[na,nb];lia
   .cases SM:j=a
    .subst SM;simp[na,nb,hj];lia
    .simp[na,nb,hj,SM]
  .cases Wu:i=a
   .subst Wu;cases hj:j=b
    .subst hj;simp[na,nb];lia
    .cases SM:j=i
     .subst SM;simp[na,nb]
     .simp[na,nb,hj,SM]
   .cases hj:j=b
    .subst hj;simp[na,nb,hi,Wu]
    .cases SM:j=a
     .subst SM;simp[na,nb,hi,Wu]
     .simp[na,nb,hi,Wu,hj,SM]
 rw[<-e1,e2,ZK8 ha,Zp6 ha hb XJ]
end My
namespace My
open PySem L2
abbrev Ed:=A5×A5×A0
def lapE:(A6 Ed->Mx)
 |[]=>λ_ _=>0
 |e::E=>λi j=>e.2.2*(ind e.1 e.2.1 i*ind e.1 e.2.1 j)+lapE E i j
def lJ(E:A6 Ed)(e:Ed)(i j:A5):lapE (E++[e]) i j=lapE E i j+e.2.2*(ind e.1 e.2.1 i*ind e.1 e.2.1 j):=by
 induction E with
 |nil=>show _+0=0+_;lia
 |cons f E ih=>
  change _+lapE (E++[e]) i j=_+lapE E i j+_;rw[ih];lia
def Td(E:A6 Ed)(z:A0):(A5×A5):=((E.R z.j (0,0,0)).1,(E.R z.j (0,0,0)).2.1)
def Ue(E:A6 Ed):(Ac->A0)
 |[]=>1
 |z::T=>(E.R z.j (0,0,0)).2.2*Ue E T
def Bp(E:A6 Ed)(S T:Ac):Ue E (S++T)=Ue E S*Ue E T:=by
 induction S with
 |nil=>show _=1*_;rw[Sm];rfl
 |cons z S ih=>show _*Ue E (S++T)=_*_*_;rw[ih,RB]
def IsT(k:A5)(E:A6 Ed)(T:Ac):(Prop):=IsSet E.f T/\T.f=k/\∀i j,i<k+1->j<k+1->Conn (T.G<|Td E) i j
def TW(k:A5)(E:A6 Ed)(s:A0):(Prop):=∃L:Ab,L.Nodup/\(∀T,T∈L↔IsT k E T)/\(L.G<|Ue E).sum=s
def Bo{E:A6 Ed}{e:Ed}{z:A0}(h0:0<=z)(h1:z<E⁻¹):(E++[e]).R z.j (0,0,0)=E.R z.j (0,0,0):=by rw[Yb,Yb,Yu J]
def Ze6(E:A6 Ed)(e:Ed):(E++[e]).R (E.f:A0).j (0,0,0)=e:=by rw[Yb,VP,Ys<|XG _,Uz];rfl
def OB{e:Ed}(h:IsSet E.f T):T.G (Td (E++[e]))=T.G (Td E):=Vp λz hz=>by
 have:=h.all z hz
 unfold Td;rw[Bo this.1 this.2]
def Ij{e:Ed}(h:∀z∈T,0<=z/\z<E⁻¹):Ue (E++[e]) T=Ue E T:=by
 induction T with
 |nil=>rfl
 |cons z T ih=>
  let hz:=h z Ya;change _*Ue (E++[e]) T=_*Ue E T
  rw[Bo hz.1 hz.2,ih λy hy=>h y (Yf _ hy)]
def uN{e:Ed}(h:IsSet E.f T):IsT k (E++[e]) T↔IsT k E T:=by
 let h2:IsSet (E++[e]).f T:=by rw[Xa];show h.up
 constructor
 .rintro⟨_,a,b⟩;exists h,a,by rwa[OB h]at b
 .rintro⟨_,a,b⟩;exists h2,a,by rwa[OB h]
def Bn{e:Ed}(h:IsSet E.f T):(T++[E⁻¹]).G (Td (E++[e]))=T.G (Td E)++[(e.1,e.2.1)]:=by
 rw[YE,OB h];change _++[Td (E++[e]) E⁻¹]=_
 unfold Td;rw[Ze6]
def sh(a x:A5):(A5):=if x<a then x else x-1
def dl(a b x:A5):(A5):=if x=a then sh a b else sh a x
def Ii(a y:A5):sh a (sk a y)=y:=by
 unfold sk;cases h:y<a
 .rw[Yk h];unfold sh;rw[Yk h]
 .rw[Yh h];unfold sh;rw[Yh J];lia
def Bm(a y:A5):sk a y≠a:=by unfold sk;split<;>lia
def Rj(h:x≠a):sk a (sh a x)=x:=by
 unfold sh;cases c:x<a
 .rw[Yk c];unfold sk;rw[Yk c]
 .rw[Yh c];unfold sk;rw[Yh J];lia
def Mh(a b y:A5):dl a b (sk a y)=y:=by unfold dl;rw[Yh (Bm a y),Ii]
def Ih(hx:x≠a)(hy:y≠a)(h:sh a x=sh a y):x=y:=by
 have:=YI (sk a) h
 rwa[Rj hx,Rj hy]at this
def lI(XJ:b≠a)(h:dl a b x=dl a b y):x=y\/(x=a/\y=b)\/(x=b/\y=a):=by
 unfold dl at h;cases hx:x=a
 .rw[Yk hx]at h;cases hy:y=a
  .show .inl (hx.l hy.symm)
  .rw[Yh hy]at h;show .inr (.inl {hx,(Ih XJ hy h).symm})
 .rw[Yh hx]at h;cases hy:y=a
  .rw[Yk hy]at h;show .inr (.inr {Ih hx XJ h,hy})
  .rw[Yh hy]at h;show .inl (Ih hx hy h)
def lH(a b:A5)(XJ:b≠a):dl a b a=dl a b b:=by unfold dl;rw[Yk Z,Yh XJ]
def lG{es:A6 (A5×A5)}{i j:A5}(XJ:b≠a)(c:Conn (es++[(a,b)]) i j):Conn (es.G λe=>(dl a b e.1,dl a b e.2)) (dl a b i) (dl a b j):=by
 induction c with
 |refl i=>show .refl _
 |edge q=>
  rcases Xn.S q with q|q
  .show .edge (YC.mpr {_,q,Z})
  .let e:=Xd.S q;injection e with e1 e2
   rw[e1,e2,lH a b XJ];show .refl _
 |symm _ ih=>show .symm ih
 |trans _ _ a b=>show .trans a b
def lF{es:A6 (A5×A5)}{u v:A5}(XJ:b≠a)(c:Conn (es.G λe=>(dl a b e.1,dl a b e.2)) u v):∀i j,dl a b i=u->dl a b j=v->Conn (es++[(a,b)]) i j:=by
 let he:Conn (es++[(a,b)]) a b:=.edge Eo;let same:∀i j,dl a b i=dl a b j->Conn (es++[(a,b)]) i j:=λi j e=>by
  rcases lI XJ e with e|⟨e1,e2⟩|⟨e1,e2⟩
  .rw[e];show .refl _
  .rw[e1,e2];show he
  .rw[e1,e2];show he.symm
 induction c with
 |refl u=>show λi j e1 e2=>same i j (e1.l e2.symm)
 |edge q=>
  intro i j e1 e2;let((x,y),Ip,e):=YC.S q;injection e with x1 x2
  show(same i x<|e1.l x1.symm).l (.trans (.edge<|Yl _ Ip)<|same y j<|x2.l e2.symm)
 |symm _ ih=>show λi j e1 e2=>(ih j i e2 e1).symm
 |@trans x y z _ _ NA RP=>show λi j e1 e2=>(NA i (sk a y) e1<|Mh a b y).l (RP (sk a y) j (Mh a b y) e2)
def Mg{a b x k:A5}(ha:a<k+1)(hb:b<k+2)(XJ:b≠a)(hx:x<k+2):dl a b x<k+1:=by
 unfold dl sh;cases h:x=a
 .rw[Yk h];split<;>lia
 .rw[Yh h];split<;>lia
def cdl{a b k:A5}{es:A6 (A5×A5)}(ha:a<k+1)(hb:b<k+2)(XJ:b≠a):(∀i j,i<k+2->j<k+2->Conn (es++[(a,b)]) i j)↔∀i j,i<k+1->j<k+1->Conn (es.G λe=>(dl a b e.1,dl a b e.2)) i j:=by
 constructor
 .intro c i j h1 h2
  have:=lG XJ (c (sk a i) (sk a j) (OF h1)<|OF h2)
  rwa[Mh,Mh]at this
 .show λc i j h1 h2=>lF XJ (c _ _ (Mg ha hb XJ h1)<|Mg ha hb XJ h2) i j Z rfl
def Su(a b:A5)(E:A6 Ed):(A6 Ed):=E.G λe=>(dl a b e.1,dl a b e.2.1,e.2.2)
def Bl{z:A0}(h0:0<=z)(h1:z<E⁻¹):(Su a b E).R z.j (0,0,0)=(dl a b (E.R z.j (0,0,0)).1,dl a b (E.R z.j (0,0,0)).2.1,(E.R z.j (0,0,0)).2.2):=by unfold Su;rw[Yb,Yb,Yi,Xv rF];rfl
def Bk(h:IsSet E.f T):T.G (Td (Su a b E))=(T.G (Td E)).G λe=>(dl a b e.1,dl a b e.2):=by
 rw[Nd];show Vp λz hz=>?_
 have:=h.all z hz
 unfold Td;rw[Bl this.1 this.2];rfl
def Bj(h:∀z∈T,0<=z/\z<E⁻¹):Ue (Su a b E) T=Ue E T:=by
 induction T with
 |nil=>rfl
 |cons z T ih=>
  let hz:=h z Ya;change _*Ue (Su a b E) T=_*Ue E T
  rw[Bl hz.1 hz.2,ih λy hy=>h y (Yf _ hy)]
def Bi{e:Ed}(ha:a<k+1)(hb:b<k+2)(XJ:b≠a)(he:(e.1=a/\e.2.1=b)\/(e.1=b/\e.2.1=a))(h:IsSet E.f T):IsT (k+1) (E++[e]) (T++[E⁻¹])↔IsT k (Su a b E) T:=by
 let hl:(Su a b E).f=E.f:=Xr ..;let hc:(∀i j,i<k+2->j<k+2->Conn ((T++[E⁻¹]).G (Td<|E++[e])) i j)↔∀i j,i<k+2->j<k+2->Conn (T.G (Td E)++[(a,b)]) i j:=by
  rw[Bn h];rcases he with ⟨e1,e2⟩|⟨e1,e2⟩
  .rw[e1,e2]
  .rw[e1,e2];exists λc i j x y=>ag<|c i j x y,λc i j x y=>ag<|c i j x y
 let h2:IsSet (E++[e]).f (T++[E⁻¹]):=by rw[Xa];show h.snoc
 constructor
 .rintro⟨_,x,y⟩;exists hl▸h,?_,?_
  .rw[Xa,YH]at x;lia
  .rw[Bk h];show(cdl ha hb XJ).S (hc.S y)
 .rintro⟨_,x,y⟩;rw[Bk h]at y;exists h2,by rw[Xa,YH,x],hc.mpr<|(cdl ha hb XJ).mpr y
def lE{E:A6 Ed}{e:Ed}(hE:∀f∈E,f.1<k+1/\f.2.1<k+1)(he:e.1=e.2.1)(h:IsSet E.f T):¬IsT k (E++[e]) (T++[E⁻¹]):=by
 rintro⟨_,x,y⟩;rw[Bn h]at y;let OI:∀i j,i<k+1->j<k+1->Conn (T.G<|Td E) i j:=λi j hi hj=>(y i j hi hj).lift λf hf=>by
  rcases Xn.S hf with q|q
  .show .edge q
  .rw[Xd.S q,he];show .refl _
 let Wo:InN (k+1) (T.G<|Td E):=λf hf=>by
  let(z,hz,rfl):=YC.S hf
  have:=h.all z hz
  unfold Td;rw[Yb,Xv J];show hE _ (JS _)
 let h2:=(KR J Wo).mpr OI;let h3:=vd _ Wo
 rw[Xr]at h3;rw[Xa,YH]at x;lia
def lD{e:Ed}(hE:∀f∈E,f.1<k+1/\f.2.1<k+1)(he:e.1=e.2.1)(h:TW k E s):TW k (E++[e]) s:=by
 let(L,a1,a2,a3):=h;exists L,a1,λT=>?_,?_
 .rw[a2];constructor
  .show λh=>(uN h.1).mpr h
  .intro h;let hs:=h.1
   rw[Xa]at hs;rcases Im hs with c|⟨T',c,c2⟩
   .show(uN c).S h
   .show absurd (c▸h) (lE hE he c2)
 .rw[<-a3];show YI List.sum (Vp λT hT=>Ij ((a2 T).S hT).1.all)
def lC(a b:Ac):(a++b).sum=a.sum+b.sum:=by
 induction a with
 |nil=>rw[Gs,List.sum_nil,Lo]
 |cons x a ih=>rw[JR,EE,EE,ih];lia
def Zi9(w:A0)(l:Ab)(f:Ac->A0):(l.G λT=>f T*w).sum=w*(l.G f).sum:=by
 induction l with
 |nil=>rw[List.map_nil,List.map_nil,List.sum_nil,RA]
 |cons x l ih=>rw[Pj,Pj,EE,EE,ih,Sh,Ph]
def lB{e:Ed}(ha:a<k+1)(hb:b<k+2)(XJ:b≠a)(he:(e.1=a/\e.2.1=b)\/(e.1=b/\e.2.1=a))(h1:TW (k+1) E s1)(h2:TW k (Su a b E) s2):TW (k+1) (E++[e]) (s1+e.2.2*s2):=by
 let(L,a1,a2,a3):=h1;let(M,b1,b2,b3):=h2;let hl:(Su a b E).f=E.f:=Xr ..
 exists L++M.G (·++[E⁻¹]),VQ.mpr {a1,?_,λx hx y hy c=>?_},λT=>?_,?_
 .show List.H.G _ (λx y h c=>h<|List.append_cancel_right c) b1
 .let⟨z,hz,c2⟩:=YC.S hy
  have:=((a2 x).S hx).1.all E⁻¹ (by rw[c,<-c2];simp)
  lia
 .rw[Xn,a2,YC];constructor
  .rintro(h|⟨T',hT,rfl⟩)
   .show(uN h.1).mpr h
   .have:=(b2 T').S hT
    show(Bi ha hb XJ he<|hl▸this.1).mpr this
  .intro h;let hs:=h.1
   rw[Xa]at hs;rcases Im hs with c|⟨T',c,c2⟩
   .show .inl ((uN c).S h)
   .show .inr {T',(b2 T').mpr ((Bi ha hb XJ he c2).S (c▸h)),c.symm}
 .rw[YE,lC,Nd];let e1:L.G (Ue<|E++[e])=L.G (Ue E):=Vp λT hT=>Ij ((a2 T).S hT).1.all
  let e2:M.G (Ue (E++[e])∘(·++[E⁻¹]))=M.G λT=>Ue (Su a b E) T*e.2.2:=Vp λT hT=>by
   let hs:IsSet E.f T:=hl▸((b2 T).S hT).1;change Ue (E++[e]) (T++[E⁻¹])=_
   rw[Bp,Ij hs.all,Bj hs.all];change _*(((E++[e]).R (E.f:A0).j (0,0,0)).2.2*1)=_
   rw[Ze6,Gk]
  rw[e1,e2,a3,Zi9,b3]
def Bh(XJ:b≠a):ind (dl a b u) (dl a b v) i=ind u v (sk a i)+(if sk a i=b then ind u v a else 0):=by
 let key:∀x:A5,((if i=dl a b x then 1 else 0:A0))=(if sk a i=x then 1 else 0)+(if sk a i=b then (if a=x then 1 else 0) else 0):=λx=>by
  unfold dl;cases hx:x=a
  .rw[Yk hx,Yh<|show ¬sk a i=x from hx▸Bm a i,Lo];cases h:sk a i=b
   .rw[Yk h,Yk hx.symm,Yk];rw[<-h,Ii]
   .rw[Yh h,Yh];intro e;show h (by rw[e,Rj XJ])
  .rw[Yh hx];let e2:(if sk a i=b then (if a=x then 1 else 0:A0) else 0)=0:=by rw[Yh (YZ hx)];split<;>rfl
   rw[e2,QR];cases h:sk a i=x
   .rw[Yk h,Yk];rw[<-h,Ii]
   .rw[Yh h,Yh];intro e;show h (by rw[e,Rj hx])
 unfold ind;rw[key u,key v];cases h:sk a i=b
 .rw[Yk h,Yk h,Yk h];lia
 .rw[Yh h,Yh h,Yh h];lia
def Bg(XJ:b≠a)(i j:A5):∀E:A6 Ed,lapE (Su a b E) i j=PH (lapE E) a b (sk a i) (sk a j)
 |[]=>by
  change(0:A0)=_;unfold PH lapE;cases h:sk a i=b
  .cases h2:sk a j=b
   .rw[Yk h,Yk h2];rfl
   .rw[Yk h,Yh h2];rfl
  .cases h2:sk a j=b
   .rw[Yh h,Yk h2];rfl
   .rw[Yh h,Yh h2];rfl
 |e::E=>by
  let ih:=Bg XJ i j E;change e.2.2*(ind (dl a b e.1) (dl a b e.2.1) i*ind (dl a b e.1) (dl a b e.2.1) j)+lapE (Su a b E) i j=_
  rw[ih,Bh XJ,Bh XJ];unfold PH;change _=(e.2.2*(ind e.1 e.2.1 (sk a i)*ind e.1 e.2.1 (sk a j))+lapE E (sk a i) (sk a j)+(if sk a i=b then e.2.2*(ind e.1 e.2.1 a*ind e.1 e.2.1 (sk a j))+lapE E a (sk a j) else 0))+(if sk a j=b then (e.2.2*(ind e.1 e.2.1 (sk a i)*ind e.1 e.2.1 a)+lapE E (sk a i) a)+(if sk a i=b then e.2.2*(ind e.1 e.2.1 a*ind e.1 e.2.1 a)+lapE E a a else 0) else 0)
  generalize ind e.1 e.2.1 (sk a i)=x;generalize ind e.1 e.2.1 (sk a j)=y;generalize ind e.1 e.2.1 a=z;generalize e.2.2=w;cases h:sk a i=b
  .cases h2:sk a j=b
   .simp only[Yk h,Yk h2,Sh,vX];lia
   .simp only[Yk h,Yh h2,Sh,vX,QR,RA];lia
  .cases h2:sk a j=b
   .simp only[Yh h,Yk h2,Sh,vX,QR,EB];lia
   .simp only[Yh h,Yh h2,QR]
def Zm8(u v i:A5):ind v u i=- ind u v i:=by unfold ind;lia
def lz{e:Ed}(ha:a<k+1)(hb:b<k+2)(XJ:b≠a)(he:(e.1=a/\e.2.1=b)\/(e.1=b/\e.2.1=a)):det (k+1) (lapE (E++[e]))=det (k+1) (lapE E)+e.2.2*det k (lapE (Su a b E)):=by
 let e1:det (k+1) (lapE<|E++[e])=det (k+1) (λi j=>lapE E i j+e.2.2*(ind a b i*ind a b j)):=Zr λi j _ _=>by
  rw[lJ];rcases he with ⟨x,y⟩|⟨x,y⟩
  .rw[x,y]
  .rw[x,y,Zm8 a b i,Zm8 a b j,Int.neg_mul_neg]
 let e2:det k (lapE<|Su a b E)=det k (λi j=>PH (lapE E) a b (sk a i)<|sk a j):=Zr λi j _ _=>Bg XJ i j E;rw[e1,e2];cases hk:b<k+1
 .show lK ha hk (YZ XJ)
 .let e3:det (k+1) (λi j=>lapE E i j+e.2.2*(ind a b i*ind a b j))=det (k+1) (λi j=>lapE E i j+e.2.2*((if i=a then 1 else 0)*(if j=a then 1 else 0))):=Zr λi j hi hj=>by unfold ind;rw[Yh (show ¬i=b by lia),Yh (show ¬j=b by lia),Int.sub_zero,Int.sub_zero]
  let e4:det k (λi j=>PH (lapE E) a b (sk a i)<|sk a j)=det k (λi j=>lapE E (sk a i)<|sk a j):=Zr λi j hi hj=>by
   let h1:=OF (j:=a) hi;let h2:=OF (j:=a) hj
   unfold PH;rw[Yh (show ¬sk a i=b by lia),Yh (show ¬sk a j=b by lia),QR,QR]
  rw[e3,e4];show ZK8 ha
def Bf{e:Ed}(he:e.1=e.2.1):lapE (E++[e])=lapE E:=by
 funext i j
 rw[lJ,he];unfold ind;rw[Int.sub_self,EB,RA,QR]
def uM:∀m k E,E.f=m->(∀e∈E,e.1<k+1/\e.2.1<k+1)->TW k E (det k (lapE E))
 |0,k,E,hm,_=>by
  let rfl:=YV.S hm;cases k with
  |zero=>
   exists [[]],Eo,λT=>?_,Z;rw[Xd];constructor
   .rintro rfl;show⟨IsSet.nil _,Z,λi j hi hj=>by
     have:i=j:=J
     rw[this];show .refl j⟩
   .intro h;show YV.S h.2.1
  |succ k=>
   exists [],.nil,λT=>{λh=>(by cases h),λh=>?_},?_
   .let h1:=h.1.len;let h2:=h.2.1
    rw[List.length_nil]at h1;lia
   .show(aa (i:=0) J λj _=>rfl).symm
 |m+1,k,E,hm,hE=>by
  obtain⟨E',e,rfl⟩:∃E' e,E=E'++[e]:={E.dropLast,E.getLast (λh=>by rw[h]at hm;cases hm),(Ew _).symm};let KY:E'.f=m:=by rw[Xa]at hm;simpa using hm
  let lu:∀f∈E',f.1<k+1/\f.2.1<k+1:=λf hf=>hE f (Yl _ hf);let he:=hE e Eo
  let ih:=uM m k E' KY lu;cases hl:e.1=e.2.1
  .rw[Bf hl];show lD lu hl ih
  .obtain⟨k',rfl⟩:∃k',k=k'+1:={k-1,J};obtain⟨a,b,ha,hb,XJ,Vl⟩:∃a b,a<k'+1/\b<k'+2/\b≠a/\((e.1=a/\e.2.1=b)\/(e.1=b/\e.2.1=a)):=by
    cases c:e.1<k'+1
    .exists e.1,e.2.1,c,he.2,λh=>hl h.symm,.inl ⟨Z,Z⟩
    .exists e.2.1,e.1,J,he.1,hl,.inr ⟨Z,Z⟩
   let RP:=uM m k' (Su a b E') (by unfold Su;rwa[Xr]) λf hf=>by
    let(g,hg,rfl):=YC.S hf
    have:=lu g hg
    exists Mg ha hb XJ this.1,Mg ha hb XJ this.2
   rw[lz ha hb XJ Vl];show lB ha hb XJ Vl ih RP
def Vt(ps:Aa)(ws:Ac):(A6 Ed):=List.zipWith (λp w=>(p.1.j,p.2.j,w)) ps ws
def Be(h1:1<=n)(hw:ws.f=ps.f):IsT (n-1).j (Vt ps ws) T↔Zn n ps T:=by
 let hl:(Vt ps ws).f=ps.f:=by unfold Vt;rw[QN];lia
 let hm:IsSet ps.f T->T.G (Td<|Vt ps ws)=XR ps T:=λhs=>Vp λz hz=>by
  have:=hs.all z hz
  unfold Td Vt;rw[Yb,JW,Xv J,Xv (show z.j<ws.f by lia),Yb,Xv rF];rfl
 unfold IsT Zn;rw[hl];constructor
 .rintro⟨a,b,c⟩;rw[hm a]at c;exists a,J,λi j hi hj=>c i j J J
 .rintro⟨a,b,c⟩;rw[hm a];exists a,J,λi j hi hj=>c i j J J
def Kz(h:∀e∈E,e.2.2=1):∀{T:Ac},(∀z∈T,0<=z/\z<E⁻¹)->Ue E T=1
 |[],_=>rfl
 |z::T,hb=>by
  let hz:=hb z Ya;change(E.R z.j (0,0,0)).2.2*Ue E T=1
  rw[Kz h λy hy=>hb y<|Yf _ hy,Gk,Yb,Xv J];show h _ (JS _)
def lr{l:Ab}{f:Ac->A0}(h:∀T∈l,f T=1):(l.G f).sum=l⁻¹:=by
 induction l with
 |nil=>rfl
 |cons x l ih=>
  rw[Pj,EE,ih λT hT=>h T<|Yf _ hT,h x Ya,YM];lia
def Bc(g:ZA n ps)(ws:Ac):∀e∈Vt ps ws,e.1<(n-1).j+1/\e.2.1<(n-1).j+1:=λe he=>by
 unfold Vt at he;let(i,hi):=YG he;rw[JW]at hi;let g1:=g.1
 cases h1:ps[i]? with
 |none=>rw[h1]at hi;cases hi
 |some p=>
  cases h2:ws[i]? with
  |none=>rw[h1,h2]at hi;cases hi
  |some w=>
   rw[h1,h2]at hi;let rfl:=Yn hi;let(a,b,c,d):=g.2.2.2 p (Xo h1);exists by change p.1.j<_;lia,by change p.2.j<_;lia
def lq(g:ZA n ps){L:Ab}(hL:L.Nodup)(hm:∀l,l∈L↔Zn n ps l):det (n-1).j (lapE (Vt ps (List.replicate ps.f 1)))=L⁻¹:=by
 let g1:=g.1;let hw:(List.replicate ps.f (1:A0)).f=ps.f:=NP
 let(M,a1,a2,a3):=uM _ (n-1).j (Vt ps<|List.replicate ps.f 1) Z (Bc g _);let hl:(Vt ps<|List.replicate ps.f 1).f=ps.f:=by unfold Vt;rw[QN,hw];lia
 let w1:∀e∈Vt ps (List.replicate ps.f (1:A0)),e.2.2=1:=λe he=>by
  unfold Vt at he;let(i,hi):=YG he;rw[JW]at hi;cases h1:ps[i]? with
  |none=>rw[h1]at hi;cases hi
  |some p=>
   cases h2:(List.replicate ps.f (1:A0))[i]? with
   |none=>rw[h1,h2]at hi;cases hi
   |some w=>
    rw[h1,h2]at hi;let rfl:=Yn hi;show List.eq_of_mem_replicate (Xo h2)
 rw[<-a3,lr λT hT=>Kz w1 ((a2 T).S hT).1.all];let hp:M.Perm L:=(SY a1 hL).mpr λl=>by rw[a2,hm,Be g1 hw]
 rw[hp.length_eq]
end My
namespace L2
open PySem PySem.Spec PyProof.Rows
section
variable{X:Cx}
def lp(K:Ad):(V->V->Hp->VK->Prop):=λx y H Q=>∃p xs i v,x=.ref p/\y=.int i/\SqL K H p xs/\0<=i/\xs[i.j]?=⇑v/\Q v H
def uL(K:Ad)(hk:X.K=K:=by rfl):Ec X (lp K):=by
 subst hk;intro pins s σ H o i ov iv Q I ro ri h;let(p,xs,j,z,rfl,rfl,hq,h0,he,q):=h;cases ro;let(t,rfl):=ri;let(XX,r,pl,hz):=I.list hq;let(w,ew,MO):=r.get he;let hn:=Jo
 let Xj:=(Xx.S he).1;show wpAny_getItem_list pl.isList h0 J (by simpa using ew) ⟨z,H,I,MO,q⟩
end
end L2
namespace My
open PySem L2
def lj{g:TG}{tb:TS}{rj:Ends}(Ip:xs.f=ys.f)(Pv:A5->St->Hp->Prop)(h0:Pv 0 σ H)(hl:∀i σ H,i<=xs.f->Pv i σ H->SqL K H a xs/\SqL K H b ys)
  (hs:∀(i:A5) x y σ H (p:A7),H p=A8->xs[i]?=⇑x->ys[i]?=⇑y->Pv i σ H->g ↑p σ (upd H p<|.tup [x,y]) λσ2 H2=>tb {rj with nx:=Pv<|i+1,ct:=Pv<|i+1,bk:=rj.nx} σ2 H2)(hd:∀σ H,Pv xs.f σ H->rj.nx σ H):
  ∃W:A5->A5->St->Hp->Prop,(∃m,W 0 m σ H)/\∀i m σ H,W i m σ H->
   ((Fu K a b).stop i H/\rj.nx σ H)\/((Fu K a b).go i H/\∃N:St->Hp->Prop,(∀σ' H',N σ' H'->∃m',m'<m/\W (i+1) m' σ' H')/\∀x H',(Fu K a b).yld i H x H'->g x σ H' λσ2 H2=>tb {rj with nx:=N,ct:=N,bk:=rj.nx} σ2 H2):=by
 exists λi m σ H=>m=xs.f-i/\i<=xs.f/\Pv i σ H,{xs.f,Eo,Qd _,h0},?_;rintro i m σ H ⟨rfl,hi,p⟩;let(q,q2):=hl i σ H hi p;cases Xj:i<xs.f
 .show .inr {{xs,ys,xs[i],ys[i]'(by lia),q,q2,by simp[Xj],Xv rF},Pv<|i+1,λσ' H' p'=>{xs.f-(i+1),D,Z,Xj,p'},λx H' ⟨T,u,v,hT,ex,eH,hu,hv⟩=>?_};subst ex eH;show hs i u v σ H T hT (hu xs q) (hv ys q2) p
 .let e:i=xs.f:=J;subst e;show .inl {{xs,ys,q,q2,.inl<|XG _},hd σ H p}
structure TabAt(H0:Hp)(r:A7)(n:A5)(H:Hp)(ys:A6 V)(L:Ab):Prop where
 tab:H r=⇑(.lst ys)
 rows:Bears (LiV r H) ys L
 len:L.f=n
 all:∀l∈L,l.f=n
 nd:ys.Nodup
 new:∀A,V.ref A∈ys->H0 A=A8
def TabAt.same(s:Same H H')(h:TabAt H0 r n H ys L):TabAt H0 r n H' ys L:={s _ _ h.tab,h.rows.imp λ_ _ q=>q.Y s,h.len,h.all,h.nd,h.new}
def TabAt.at(h:TabAt H0 r n H ys L){i:A5}(hi:i<n):∃A l,ys[i]?=some ↑A/\L[i]?=⇑l/\H A=⇑(.lst (IL l))/\l.f=n/\H0 A=A8/\A≠r:=by let hl:=h.len;obtain⟨l,e⟩:∃l,L[i]?=⇑l:={_,Xv J};let(v,e1,A,rfl,e2,e3):=h.rows.2 i l e;exists A,l,e1,e,e2,h.all l<|Xo e,h.new A<|Xo e1,e3
def TabAt.put(h:TabAt H0 r n H ys L){l l':Ac}(e1:ys[i]?=some ↑A)(e2:L[i]?=⇑l)(e3:A≠r)(hl:l'.f=n):TabAt H0 r n (upd H A (.lst (IL l'))) ys (L.set i l'):=by
 let hi:=(Xx.S e2).1;let Vs:=(Xx.S e1).1
 exists by rw[Zd (YZ e3)];show h.tab,{by rw[List.length_set];show h.rows.1,λj m em=>?_},by rw[List.length_set];show h.len,λm hm=>?_,h.nd,h.new
 .rw[EJ]at em;cases c:i=j
  .subst c;rw[Yk Z,Yk hi]at em;let rfl:=Yn em;exists _,e1,A,Z,XT,e3
  .rw[Yh c]at em;let(v,f1,AP,rfl,f2,f3):=h.rows.2 j m em;exists _,f1,AP,Z,?_,f3;rw[Zd]
   .show f2
   .intro e;rw[e]at f1;show c (FR h.nd e1 f1)
 .rcases List.mem_or_eq_of_mem_set hm with e|e
  .show h.all m e
  .rw[e];show hl
def lh{L:Ab}{l:Ac}(hi:L[i]?=⇑l)(hj:j<l.f)(a b:A5):fnL (L.set i (l.set j x)) a b=if a=i/\b=j then x else fnL L a b:=by
 let Vs:=(Xx.S hi).1;unfold fnL;cases ha:a=i
 .subst ha;let e1:(L.set a<|l.set j x).R a []=l.set j x:=by rw[Yb,EJ,Yk Z,Yk Vs];rfl
  let e2:L.R a []=l:=by rw[Yb,hi];rfl
  rw[e1,e2];cases hb:b=j
  .subst hb;rw[Yk ⟨Z,Z⟩,Yb,EJ,Yk Z,Yk hj];rfl
  .rw[Yh λh=>hb h.2,Yb,EJ,Yh<|YZ hb,<-Yb]
 .let e1:(L.set i<|l.set j x).R a []=L.R a []:=by rw[Yb,Yb,EJ,Yh (YZ ha)]
  rw[e1,Yh λh=>ha h.1]
def four{A:Mx}{u v:A5}{w:A0}(XJ:u≠v)(a b:A5){AP C rj E:Mx}(h1:∀a b,AP a b=if a=u/\b=u then A u u+w else A a b)(h2:∀a b,C a b=if a=v/\b=v then AP v v+w else AP a b)(h3:∀a b,rj a b=if a=u/\b=v then C u v-w else C a b)(h4:∀a b,E a b=if a=v/\b=u then rj v u-w else rj a b):E a b=A a b+w*(ind u v a*ind u v b):=by
 let nv:¬v=u:=YZ XJ;unfold ind;cases x1:a=u
 .subst x1;cases y1:b=a
  .subst y1;simp[h4,h3,h2,h1,XJ,nv]
  .cases y2:b=v
   .subst y2;simp[h4,h3,h2,h1,XJ,nv];lia
   .simp[h4,h3,h2,h1,XJ,nv,y1,y2]
 .cases x2:a=v
  .subst x2;cases y1:b=u
   .subst y1;simp[h4,h3,h2,h1,XJ,nv];omega
   .cases y2:b=a
    .subst y2;simp[h4,h3,h2,h1,XJ,nv]
    .simp[h4,h3,h2,h1,XJ,nv,y1,y2]
  .simp[h4,h3,h2,h1,XJ,nv,x1,x2]
def lg{ps:Aa}{ws:Ac}{p:A0×A0}{w:A0}(hp:ps[i]?=⇑p)(hw:ws[i]?=⇑w):Vt (ps.Q (i+1)) (ws.Q (i+1))=Vt (ps.Q i) (ws.Q i)++[(p.1.j,p.2.j,w)]:=by
 let h1:=(Xx.S hp).1;let h2:=(Xx.S hw).1
 unfold Vt;rw[YB,YB,hp,hw];rw[List.zipWith_append (by rw[Yw,Yw];grind)];rfl
def Conn.image{f:A5->A5}(h:∀e∈es,Conn fs (f e.1) (f e.2))(c:Conn es i j):Conn fs (f i) (f j):=by
 induction c with
 |refl i=>show .refl _
 |edge e=>show h _ e
 |symm _ ih=>show ih.symm
 |trans _ _ NA RP=>show NA.l RP
def lb(g:ZA n ps)(h:IsSet ps.f T)(c:∀i j,i<n.j->j<n.j->Conn (XR ps T) i j):n-1<=T⁻¹:=by
 let g1:=g.1;let Wo:=ZQ (ns:=T) g h.all
 let h2:=(KR J Wo).mpr c;let h3:=vd _ Wo
 rw[show(XR ps T).f=T.f from Xr ..]at h3;lia
end My
namespace L2
open PySem
def Qt(t:SetTable):(Prop):=t.place.m.H (·<·)
def uK{xs:B4 A5}(h:xs.m.H (·<·)){i k a b:A5}(hik:i<k)(ha:xs[i]?=⇑a)(hb:xs[k]?=⇑b):a<b:=by rw[<-YN]at ha hb;let(h1,e1):=Xx.S ha;let(h2,e2):=Xx.S hb;rw[<-e1,<-e2];show JZ.S h i k h1 h2 hik
def Ig(h:xs.m.H (·<·)):∀f lo hi,hi-lo<=f->lo<=hi->hi<=xs.o->(∀i v,xs[i]?=⇑v->i<lo->v<j)->(∀i v,xs[i]?=⇑v->hi<=i->j<=v)->
  SetTable.below.go xs j f lo hi<=xs.o/\∀i v,xs[i]?=⇑v->(i<SetTable.below.go xs j f lo hi↔v<j)
 |0,lo,hi,hf,hl,hs,a,b=>by unfold SetTable.below.go;grind
 |f+1,lo,hi,hf,hl,hs,a,b=>by
  unfold SetTable.below.go;cases c:lo<hi
  .rw[Yk c];dsimp only;obtain⟨m,hm⟩:∃m,xs[(lo+hi)/2]?=⇑m:={_,TK J};let em:xs.R ((lo+hi)/2) j=m:=by rw[QP,hm];rfl
   rw[em];cases d:m<j
   .rw[Yk d];show Ig h f _ hi D J hs (λi v hv Wu=>?_) b;cases e:i=(lo+hi)/2
    .ext
    .have:=uK h (show i<(lo+hi)/2 by lia) hv hm
     lia
   .rw[Yh d];show Ig h f lo _ D J J a λi v hv Wu=>?_;cases e:i=(lo+hi)/2
    .ext
    .have:=uK h (show(lo+hi)/2<i by lia) hm hv
     lia
  .rw[Yh c];grind
def Mf(h:xs.m.H (·<·))(j:A5):SetTable.below xs j<=xs.o/\∀i v,xs[i]?=⇑v->(i<SetTable.below xs j↔v<j):=
 Ig h xs.o 0 xs.o (by ext) (Qd _) (XG _) (λi v _ h=>absurd h<|VW _) λi v hv hi=>by
  ext
def k9(h:xs.m.H (·<·)){i v:A5}(hv:xs[i]?=⇑v):SetTable.below xs v=i:=by
 let(h1,h2):=Mf h v;let a:¬i<SetTable.below xs v:=λq=>by ext
 show sf J (wy λq=>?_);let Xj:=(Array.getElem?_eq_some_iff.S hv).1
 obtain⟨u,hu⟩:∃u,xs[SetTable.below xs v]?=⇑u:={_,TK J};let b:=uK h q hu hv
 grind
def k8(h:xs.m.H (·<·)){i v:A5}(hv:xs[i]?=⇑v):SetTable.below xs (v+1)=i+1:=by
 let(h1,h2):=Mf h (v+1);let a:=(h2 i v hv).mpr (Gv v)
 show sf (wy λq=>?_) a;obtain⟨u,hu⟩:∃u,xs[i+1]?=⇑u:={_,TK J};let b:=(h2 _ u hu).S q
 have:=uK h (Gv i) hv hu
 lia
def k7(h:xs.m.H (·<·)):SetTable.below xs 0=0:=by let(h1,h2):=Mf h 0;show Nat.le_zero.S (wy λq=>?_);obtain⟨u,hu⟩:∃u,xs[0]?=⇑u:={_,TK J};show VW _ ((h2 _ u hu).S q)
def Qs(t:SetTable)(j:A5):(Prop):=t.place[SetTable.below t.place j]?≠⇑j
def k6(h:Qt t)(hn:Qs t j):Qt (t.put j).1:=by
 let(h1,h2):=Mf h j;let up:∀i v,t.place[i]?=⇑v->SetTable.below t.place j<=i->j<v:=λi v hv hi=>by
  let a:¬v<j:=λq=>by have:=(h2 i v hv).mpr q;lia
  let b:v≠j:=λe=>hn (by rw[e]at hv;rwa[k9 h hv]);lia
 change(SetTable.insertAt t.place (SetTable.below t.place j) j).m.H (·<·);rw[SetTable.toList_insertAt];let dn:∀x∈t.place.m.Q (SetTable.below t.place j),x<j:=λx hx=>by
  let(i,hi):=YG hx;rw[EN]at hi;split at hi
  .ext
  ext
 let ub:∀x∈t.place.m.drop (SetTable.below t.place j),j<x:=λx hx=>by let(i,hi):=YG hx;rw[JU,YN]at hi;show up _ x hi (Nat.le_add_right _ _)
 show Np.mpr {cf (List.take_sublist _ _) h,YS.mpr {ub,cf (List.drop_sublist _ _) h},λa ha b hb=>?_};grind
def Zj4(h:t.slot j=.empty\/t.slot j=.dummy):Qs t j:=λe=>by
 let e2:t.slot j=.live (SetTable.below t.place j):=by unfold SetTable.slot;dsimp only;rw[Yk (by rw[e];simp)]
 lia
def Ie{f:A5->A0}:∀n p j d,(∀e,p.dummy=⇑e->Qs t e)->SetTable.probe.go t f h n p=⇑(.empty j d)->Qs t j/\∀e,d=⇑e->Qs t e
 |0,p,j,d,_,h=>by cases h
 |n+1,p,j,d,hp,h=>by
  let adv:∀q:SetTable.Probe,(t.advance q).dummy=q.dummy:=λq=>by unfold SetTable.advance;split<;>rfl
  unfold SetTable.probe.go at h;split at h
  .rename_i hs;cases h;exists Zj4<|.inl hs,hp
  .rename_i hs;show Ie n _ j d (λe he=>by rw[adv]at he;cases he;show Zj4<|.inr hs) h
  .split at h
   .cases h
   .show Ie n _ j d (λe he=>hp e<|by ext) h
def Bb{b:B3}(e:t.freeSlot h=⇑(s,b)):Qs t s:=by
 unfold SetTable.freeSlot at e;split at e
 .rename_i j d hp;let(a1,a2):=Ie _ _ j d (λe he=>by cases he) hp;let e1:=YI Prod.fst (Yn e)
  dsimp only at e1;rw[<-e1];cases d with
  |none=>show a1
  |some x=>show a2 x rfl
 ext
def uJ(t:SetTable)(n:A5):Qt (t.standIn n):=by change(Array.range n).m.H (·<·);rw[Array.toList_range];show ES
def k5(h:Qt t)(es:B4 (A0×B1))(k:A0)(x:B1):Qt (layNew t es k x).2.1/\(layNew t es k x).2.1.led=t.led:=by
 unfold layNew;split
 .rename_i s b e;dsimp only;unfold SetTable.orStandIn;split
  .exists k6 h<|Bb e,Z
  .exists uJ _ _,Z
 .exists uJ _ _,Z
def Zq9(h:Qt t)(es:B4 (A0×B1))(n:A5):Qt (relayAll t es n).2.1/\(relayAll t es n).2.1.led=t.led:=by
 unfold relayAll;split
 .rename_i t' order e;dsimp only;split
  .unfold SetTable.relaid SetTable.laid at e;cases ho:SetTable.layClean (SetTable.sizeAbove n-1) (es.G (·.1)) with
   |none=>rw[ho]at e;cases e
   |some owner=>
    rw[ho]at e;let e1:=YI Prod.fst (Yn e)
    rw[<-e1];exists ?_,Z;change(List.G _<|List.filterMap _ _).r.m.H (·<·)
    rw[List.toList_toArray,Nn,List.pairwise_filterMap];show ES.imp λ{a b} Vl x hx y hy=>?_;let ex:x.1=a:=by
     cases q:owner.R a none with
     |none=>ext
     |some z=>rw[q]at hx;cases hx;rfl
    let ey:y.1=b:=by
     cases q:owner.R b none with
     |none=>ext
     |some z=>rw[q]at hy;cases hy;rfl
    ext
  .exists uJ _ _,Z
 .exists uJ _ _,Z
end L2
namespace L2
open PySem PySem.Spec PyProof.Rows
def SetR(P:Program)(w:World)(h:Heap)(a:A7)(led:B3)(S:A0->B3)(n:A5):(Prop):=
 ∃o es ep t,h.E a=⇑o/\o.ExactSet/\o.data=.set es ep t/\ElemsOf (intKind P w) es.m/\(∀z,S z=A9↔∃y∈es.m,(intKind P w).is z y.2=A9)/\es.o<scanBound/\t.fits es.o=A9/\es.o=n/\Qt t/\t.led=led
def SetR.at{S:A0->B3}(q:SetR P w h a led S n)(k:∀o,h.E a=⇑o->h'.E a=⇑o):SetR P w h' a led S n:=
 let ⟨o,es,ep,t,ho,r⟩:=q
 {o,es,ep,t,k o ho,r}
section
variable{prog:Program}{w:World}{A:Around}{E:Ae}{s:B6}
def Zl4{h:Heap}{o:Obj}{es:B4 (A0×B1)}{ep:A5}{t:SetTable}(ho:h.E a=⇑o)(hx:o.ExactSet)(hd:o.data=.set es ep t)(fs:B4 (A0×B1))(u:SetTable):
  (h.update a<|Obj.putSet fs u).E a=⇑{o with data:=.set fs (ep+1) u}/\({o with data:=.set fs (ep+1) u}:Obj).ExactSet:=by let q:=UZ (Obj.putSet fs u) ho (by rw[putSet_of fs u hd];rfl);rw[putSet_of fs u hd]at q;exists q,hx
def kZ{gv:B3->Sem Unit}(hgv:∀b s1 R,R () s1->wpAny (model prog w) A (gv b) R E s1)
 {o:Obj}{es fs:B4 (A0×B1)}{ep:A5}{t u:SetTable}(ho:s.C.E a=⇑o)(hx:o.ExactSet)(hd:o.data=.set es ep t)
  {S:A0->B3}(he:ElemsOf (intKind prog w) fs.m)(hm:∀z,S z=A9↔∃y∈fs.m,(intKind prog w).is z y.2=A9)(hb:fs.o<scanBound)(hf:u.fits fs.o=A9)(hr:Qt u){dm:B3}{R:Option B3->B6->Prop}
  (k:∀h',Heap.SameBut a s.C h'->SetR prog w h' a u.led S fs.o->R ⇑true {s with heap:=h'}):
  wpAny (model prog w) A (do
   storeSet a fs u
   if (!dm&&u.tooFull)=A9 then do
    gv (relayAll u fs<|SetTable.grown fs.o).2.2
    storeSet a (relayAll u fs<|SetTable.grown fs.o).1 (relayAll u fs<|SetTable.grown fs.o).2.1
    pure ⇑true
   else pure ⇑true) R E s:=by
 let(h1,x1):=Zl4 ho hx hd fs u;let b1:=Lu s.C a (Obj.putSet fs u)
 show XU (wpAny_storeSet_of ho hd ?_<|fits_of_scanBound hb);cases c:(!dm&&u.tooFull)=A9
 .rw[Yk c];let p:=relayAll_perm u fs (SetTable.grown fs.o)
  let f:=relayAll_fits u fs (SetTable.grown fs.o);let(r,l):=Zq9 hr fs (SetTable.grown fs.o);generalize relayAll u fs (SetTable.grown fs.o)=rg at p f r l ⊢;let(gs,v,gave):=rg;let ez:gs.o=fs.o:=by rw[<-YU,p.length_eq,YU]
  let(h2,x2):=Zl4 h1 x1 Z gs v;show XU (hgv _ _ _<|XU<|wpAny_storeSet_of h1 Z (Yg ?_)<|fits_of_scanBound<|by rwa[ez]);show k _ (b1.l<|Lu _ a _) ⟨_,gs,_,v,h2,x2,Z,he.perm p,λz=>(hm z).l {λzz=>by let(y,hy,q):=zz;show{y,p.mem_iff.mpr hy,q},λzz=>by let(y,hy,q):=zz;exists y,p.mem_iff.S hy,q},by rw[ez];show hb,f,ez,r,l⟩
 .rw[Yh c];show Yg (k _ b1 {_,fs,_,u,h1,x1,Z,he,hm,hb,hf,Z,hr,Z})
def Ba{S:A0->B3}{z:A0}{x:B1}{R:B3->B6->Prop}(hz:(intKind prog w).is z x=A9)(PM:x.scannable=A9)(hS:SetR prog w s.C a led S n)(room:n+1<scanBound)
  (k:∀h',Heap.SameBut a s.C h'->SetR prog w h' a led (λy=>S y||decide (y=z)) (if S z then n else n+1)->R (!S z) {s with heap:=h'}):
  wpAny (model prog w) A (setAddHashed a x<|(intKind prog w).hash z) R E s:=by
 let(o,es,ep,t,ho,hx,hd,he,hm,hb,hf,hn,hr,hl):=hS;show SE (XU<|Gu ho hd hf ?_);dsimp only;rw[Yk (byScan_of PM hb he)];show XU (XU<|PZ<|XU<|wpAny_setScan_of hz ho hd hf he ?_);cases hw:List.findIdx? (λy=>(intKind prog w).is z y.2) es.m with
 |some j=>
  let(j1,j2,_):=List.findIdx?_eq_some_iff_getElem.S hw;let yes:S z=A9:=(hm z).mpr {es.m[j],JS j1,j2}
  let fin:=k s.C (Heap.SameBut.refl a s.C) {o,es,ep,t,ho,hx,hd,he,λy=>by rw[Bool.or_eq_true,decide_eq_true_eq,<-hm y];show{λq=>q.elim id λq=>q▸yes,.inl},hb,hf,by rw[yes];show hn,hr,hl}
  rw[yes]at fin;show Yg (Yg fin)
 |none=>
  let no:S z=B0:=sr.mpr λq=>by grind
  dsimp only;let p:=layNew_perm t es ((intKind prog w).hash z) x
  let f:=layNew_fits t es ((intKind prog w).hash z) x;let(r,l):=k5 hr es ((intKind prog w).hash z) x;generalize layNew t es ((intKind prog w).hash z) x=rg at p f r l ⊢;let(fs,u,dm,gave):=rg;dsimp only at p f r l ⊢;rw[NM]at p;let ez:fs.o=n+1:=by rw[<-YU,p.length_eq,Xa,YU,hn];rfl
  let gw:∀(b:B3){s1:B6}{R':Unit->B6->Prop},R' () s1->wpAny (model prog w) A (match b with|true=>rule "set.scan.the-table-gave-way" | false=>pure ()) R' E s1:=λb s1 R' q=>by
   cases b
   .show Yg q
   .show PZ q
  let fin:∀h',Heap.SameBut a s.C h'->SetR prog w h' a led (λy=>S y||decide (y=z)) fs.o->R true {s with heap:=h'}:=λh' q1 q2=>by
   ext
  let AZ:=(he.push hz PM).perm p;let Sv:∀y,(S y||decide (y=z))=A9↔∃v∈fs.m,(intKind prog w).is y v.2=A9:=mem_push_iff hz hm p
  let uH:fs.o<scanBound:=by ext
  show XU (gw _ ?_);let tail:∀v:SetTable,v.fits fs.o=A9->Qt v->v.led=led->wpAny (model prog w) A (do
    storeSet a fs v
    if (!dm&&v.tooFull)=A9 then do
     (match (relayAll v fs<|SetTable.grown fs.o).2.2 with|true=>rule "set.scan.the-table-gave-way" | false=>pure ())
     storeSet a (relayAll v fs<|SetTable.grown fs.o).1 (relayAll v fs<|SetTable.grown fs.o).2.1
     pure ⇑true
    else pure ⇑true) (λy s1=>wpAny (model prog w) A (match y with|some added=>pure added|none=>setAddHashedIn a x ((intKind prog w).hash z) 99999) R E s1) E s:=λv a1 a2 a3=>
   kZ (gv:=λb=>match b with|true=>rule "set.scan.the-table-gave-way" | false=>pure ()) (λb s1 R' q=>gw b q) ho hx hd AZ Sv uH a1 a2 λh' q1 q2=>Yg (fin h' q1<|a3▸q2)
  split
  .show XU ?_;rw[hashByValue_scannable 8 PM];show Yg ?_;split
   .show tail u f r (l.l hl)
   .show tail _ (SetTable.fits_plain_off f) r (l.l hl)
  .show XU (Yg ?_);show tail u f r (l.l hl)
end
section
variable{prog:Program}{w:World}{A:Around}{R:Result->B6->Prop}{I:A7}{fp wr:A6 A7}{G:B4 GenState->B4 GenState->Prop}{n:A5}{P:A5->B1->Prop}{St:A5->B6->Prop}
def Za8(W:WalksS prog w A.in1 I fp wr G n P St)(b:A7)(Ky:b∉fp)(val:A5->A0)(hv:∀i v,P i v->∃t,v=.int (val i) t)(hn:n+1<scanBound):
  ∀k i s,n-i=k->i<=n->St i s->SetR prog w s.C b led (λz=>(firstMet val i).any (· == z)) (firstMet val i).f->
   (∀s',Moved (b::wr) G s s'->SetR prog w s'.C b led (λz=>(firstMet val n).any (· == z)) (firstMet val n).f->R (.ok<|.ret .none) s')->
   codeAny (model prog w) A (.builtin "set.update.loop" {[.ref b,.ref I],[]}) R s
 |0,i,s,hk,hi,st,hS,q=>by let e:i=n:=D;subst e;show Qa F.entry_set_update_loop ?_;show XU (W.done s _ _ st λs1 m=>?_);show Yg (q s1 (m.mono λc hc=>.tail _ hc)<|hS.at λo ho=>m.C b o (λhc=>Ky<|W.sub _ hc) ho)
 |k+1,i,s,hk,hi,st,hS,q=>by
  let Xj:i<n:=D;show Qa F.entry_set_update_loop ?_;show XU (W.item i s _ _ Xj st λv s1 hP Ve m=>?_);let(t,rfl):=hv i v hP;let AY:=hS.at (h':=s1.C) λo ho=>m.C b o (λhc=>Ky<|W.sub _ hc) ho
  show XU (SE ?_);show SE (XU<|(intKind prog w).pyHash (k:=val i) (intKind_is _ _ _ _) ?_);let fm:=firstMet_length_le val i
  show Ba (s:={s1 with toks:=s1.toks+1}) (intKind_is _ _ _ _) Z AY J λh2 sb CB=>?_;let hS3:SetR prog w h2 b led (λz=>(firstMet val<|i+1).any (· == z)) (firstMet val<|i+1).f:=by
   let e1:(λz=>(firstMet val<|i+1).any (· == z))=λy=>((firstMet val i).any (· == y)||decide (y=val i)):=funext λy=>by rw[Pd,step_any]
   rwa[e1,Pd,step_length]
  let kept:∀c o,c≠b->s1.C.E c=⇑o->h2.E c=⇑o:=λc o hc e=>(sb.2 c hc).l e;show Yg {Ng F.plain_set_update_loop _,Za8 W b Ky val hv hn k (i+1) _ D Xj (W.frame _ s1 _ _ Ve (SX _) λc hc o e=>kept c o (λe'=>Ky<|e'▸hc) e) hS3 λs2 m2 hS4=>?_};show q s2 (Moved.l W.gtrans ((m.mono λc hc=>.tail _ hc).then_heap (SX _) λc o hc e=>kept c o (λe'=>hc<|e'▸.head _) e) m2) hS4
end
section
variable{prog:Program}{w:World}{A:Around}{E:Ae}{s:B6}
def Ic(w:World):(Obj):={cls:=.type "set",dict:=A8,data:=.set #[] 0 (.fresh 0 0<|!w.params.followText "set-order")}
def AX(a:B1){Q:Ae}(k:Q (.ref (~~~s)) {s with heap:=s.C.push (Ic w)}):
  codeAny (model prog w) A (.call (.builtin "set.__new__") {[.type "set",a],[]}) (wants Q E) s:=by
 show codeAny_of_tree ?_;show XU (Nc (F.newCall_set_1 a)<|Yg ⟨Ng F.plain_set_new _,Qa F.entry_set_new ?_⟩);let BK:=sub_set_self
 wp_walk
 show Gr (Yg ?_);show XU (wpAny_alloc<|Yg<|Yg k)
def Zr9(e:h.E a=⇑(Ic w)):SetR prog w h a (!w.params.followText "set-order") (λz=>(firstMet (λ_=>0) 0).any (· == z)) 0:=by exists _,#[],0,_,e,⟨Z,Z,Z⟩,Z,λy hy=>(by cases hy),λz=>{λq=>(by cases q),λzz=>by let(y,hy,_):=zz;show(by cases hy)},Ep,by simp[SetTable.fits,SetTable.fresh,SetTable.fill],Z,.nil,Z
def kY{h0:Heap}{Q:Ae}(hh:A.handled=A8)(Me:h0.E b=⇑(Ic w))(hl:h0.IsList l items)(XJ:l≠b)(hi:IntsAre items.m ns)(hn:items.o+1<scanBound)
  (k:∀h' tk,SetR prog w h' b (!w.params.followText "set-order") (λz=>(firstMet (λi=>ns.R i 0) items.o).any (· == z)) (firstMet (λi=>ns.R i 0) items.o).f->(∀c o,c≠b->h0.E c=⇑o->h'.E c=⇑o)->Q .none {s with heap:=h',toks:=tk}):
  wpAny (model prog w) A.in1 (Builtin.«set.__init__» {[.ref b,.ref l],[]}) (λfin s'=>match fin with | .done f=>wants Q E (.ok f) s' | .again c'=>c'.quiet=A9/\codeAny (model prog w) A c' (wants Q E) s') (λe s'=>wants Q E (.error e) s') {s with heap:=h0}:=by
 let hT:Shared.TypeIs {s with heap:=h0} ↑b "set":={_,Me,Z};let Nx:=hl
 let((ocls,odict,odata,kX),MG,OA,nl,kW):=hl;simp only at OA kW;subst OA kW;let q1:=F.sub_list_set
 let q2:=F.sub_list_frozenset;unfold Builtin.«set.__init__» noKeywords Builtin.Frozenset.updateFrom;generalize hPI:pyIter=PI
 wp_walk
 subst hPI;show wq Nx ?_;show XU (wpAny_runValue ?_);let kT:l<h0.objs.o:=Ym MG
 let ltb:b<h0.objs.o:=Ym Me;let bf:b∉[h0.objs.o,l]:=λq=>by grind
 show Za8 ((Walks.list (A:=A.in1.in1) (by simp[hh]) _ l (Yx kT) items).toS) b bf (led:=!w.params.followText "set-order") (λi=>ns.R i 0) (λi v hv=>IntsAre.int_at hi i v<|by ext) hn (items.o-0) 0 _ (by ext) (Qd _)
  {{_,Yj _ Z,Z,Z},Nx.push _} ?_ ?_
 .show Zr9 (Xf _ Me)
 .rintro⟨h',g',d',tk',qq⟩ m hS;let e1:g'=s.gens:=m.gens
  let e2:d'=s.drawn:=m.drawn;let e3:qq=s.os:=m.os
  subst e1 e2 e3;show Yg ?_;show Yg (k h' tk' hS λc o hc e=>m.C c o (λq=>?_)<|Xf _ e);rcases Yo.S q with e'|e'
  .lia
  .show Yx (Ym e) (Xd.S e')
set_option maxRecDepth 100000 in
set_option maxHeartbeats 3000000 in
def kR{Q:Ae}(hh:A.handled=A8)(hl:s.C.IsList l items)(hi:IntsAre items.m ns)(hn:items.o+1<scanBound)
  (k:∀h' tk,SetR prog w h' (~~~s) (!w.params.followText "set-order") (λz=>(firstMet (λi=>ns.R i 0) items.o).any (· == z)) (firstMet (λi=>ns.R i 0) items.o).f->(∀c o,s.C.E c=⇑o->h'.E c=⇑o)->Q (.ref (~~~s)) {s with heap:=h',toks:=tk}):
  wpAny (model prog w) A (call (.type "set") [.ref l]) Q E s:=by
 let(c,tl,hmro):=Ln.mro;let a1:=Ln.made
 let a2:=Ln.sub;let a3:=Ln.notType
 let a4:=Ln.canCreate;let a5:=F.typeCall_set_1 ↑l
 show Et (codeAny_of_tree ?_);show Yg {rY _ B,Qa F.entry_type_call ?_};rw[Around.under_plain (weight_type_call_type "set" [.ref l] []) Z]
 repeat any_goals first|assumption|wp_step
 show Si (AX ↑l (E:=E) (Q:=λob s1=>ob=.ref (~~~s)/\s1={s with heap:=s.C.push (Ic w)}) ⟨Z,Z⟩) λr s1 hr=>?_
 match r,hr with
 | .error e,hr=>show hr
 | .ok (.ret ob),hr=>
  let(rfl,rfl):=hr;let Me:(s.C.push<|Ic w).E (~~~s)=⇑(Ic w):=Yj _ rfl
  let hT:Shared.TypeIs {s with heap:=s.C.push (Ic w)} (.ref (~~~s)) "set":={_,Me,Z};let a6:=Ln.init.U
  let a7:=Ln.init.bind (.ref (~~~s))
  repeat any_goals first|assumption|wp_step
  let kT:l<(~~~s):=by let(_,e,_):=hl;show Ym e
  show Si (codeAny_call_builtin (R:=wants (λr s2=>r=.none/\Q (.ref (~~~s)) s2) E) Ln.init.plain F.entry_set_init<|check_set_init_1 hT<|kY (A:=_) (s:=s) ?_ Me (hl.push _) (Yx kT) hi hn λh' tk hS kp=>{Z,k h' tk hS λc o e=>kp c o (Yx<|Ym e)<|Xf _ e}) λr2 s2 Vc=>?_
  .simp[hh]
  .match r2,Vc with
   | .error e,Vc=>show Vc
   | .ok (.ret v),Vc=>
    let(rfl,q):=Vc
    repeat any_goals first|assumption|wp_step
end
def Xb:PySem.Slot "set_iterator" "__next__" "set_iterator.__next__":=
 .of (owner:="set_iterator") (n:="__next__") rG B B B
  (by first|show .inl B|show .inr B) rG
def uG:entryFor table "set_iterator.__next__"=some Builtin.«set_iterator.__next__»:=entryFor_of_tree rG
def uE(a:B1):argsOk "set_iterator.__next__" {[a],[]}:=by kernel_rfl
def AW:PySem.Slot "set_iterator" "__iter__" "set_iterator.__iter__":=
 .of (owner:="set_iterator") (n:="__iter__") rG B B B
  (by first|show .inl B|show .inr B) rG
def kQ(a:B1):argsOk "set_iterator.__iter__" {[a],[]}:=by kernel_rfl
def kP:entryFor table "set_iterator.__iter__"=some Builtin.«dict_keyiterator.__iter__»:=
 entryFor_alias (id':="dict_keyiterator.__iter__") rG (by first|rfl|decide +kernel|(unfold String.splitOn;simp +decide [String.splitOnAux])) B rG
def AV:PySem.Slot "set" "__iter__" "set.__iter__":=
 .of (owner:="set") (n:="__iter__") rG B B B
  (by first|show .inl B|show .inr B) rG
def kO(a:B1):argsOk "set.__iter__" {[a],[]}:=by kernel_rfl
def kN:entryFor table "set.__iter__"=some Builtin.«frozenset.__iter__»:=
 entryFor_alias (id':="frozenset.__iter__") rG (by first|rfl|decide +kernel|(unfold String.splitOn;simp +decide [String.splitOnAux])) B rG
def IsSi(h:Heap)(I a:A7)(f:B1)(i n ep:A5):(Prop):=∃o,h.E I=⇑o/\o.cls=.type "set_iterator"/\o.data=.fields #[f,rawInt (i:A0),.ref a,rawInt (n:A0),rawInt (ep:A0)]
def IsSi.ty{s:B6}(x:IsSi s.C I a f i n ep):s.TypeIs ↑I "set_iterator":=by let(o,p,q,_):=x;exists o,p,q
def IsSi.keep(x:IsSi h I a f i n ep)(e:∀o,h.E I=⇑o->h'.E I=⇑o):IsSi h' I a f i n ep:=by let(o,p,q):=x;exists o,e _ p,q
def SetIs(h:Heap)(a:A7)(es:B4 (A0×B1))(ep:A5)(t:SetTable):(Prop):=∃o,h.E a=⇑o/\o.ExactSet/\o.data=.set es ep t
def SetIs.keep(x:SetIs h a es ep t)(e:∀o,h.E a=⇑o->h'.E a=⇑o):SetIs h' a es ep t:=by let(o,p,q):=x;exists o,e _ p,q
section
variable{prog:Program}{w:World}{A:Around}{E:Ae}{s:B6}
def ZZ8{Q:A5->B6->Prop}(hn:n≠0)(k:∀i,i<n->∀d,Q i {s with drawn:=d}):wpAny M A (choose src n) Q E s:=
 λΓ p _=>{hn,k _ (Nat.mod_lt _<|Nat.pos_of_ne_zero hn) _}
def kM{α:Type}:∀{l:A6 α}{i:A5}{y:α},l[i]?=⇑y->(y::l.eraseIdx i).Perm l
 |[],_,_,h=>by simp at h
 |x::l,0,y,h=>by
  ext
 |x::l,i+1,y,h=>(List.Perm.swap x y<|l.eraseIdx i).l ((kM (l:=l) (i:=i) h).cons x)
def ZD8{α:Type}:∀(n:A5)(xs:A6 α)(s:B6)(Q:A6 α->B6->Prop),n=xs.f->(∀ys d,ys.Perm xs->Q ys {s with drawn:=d})->wpAny M A (drawOrder n xs) Q E s
 |0,xs,s,Q,h,k=>by let e:xs=[]:=YV.S h.symm;subst e;show Yg (k [] s.drawn .rfl)
 |n+1,[],s,Q,h,k=>by cases h
 |n+1,x::xs,s,Q,h,k=>by show XU (ZZ8 Eo λi hi d=>?_);obtain⟨y,hy⟩:∃y,(x::xs)[i]?=⇑y:={_,Xv hi};rw[hy];show XU (ZD8 n ((x::xs).eraseIdx i) _ _ (by rw[List.length_eraseIdx_of_lt hi];ext) λys d' hp=>Yg<|k (y::ys) d' ?_);show(hp.cons y).l (kM hy)
def ZT5{α:Type}{f:A5->A5}:∀(n k:A5)(l:A6 α)(out:B4 α),n=l.f->(pickOrder.go f n k l out).m.Perm (out.m++l)
 |0,k,l,out,h=>by rw[YV.S h.symm,YO];show .rfl
 |n+1,k,l,out,h=>by let hi:f k%l.f<l.f:=Nat.mod_lt _ J;obtain⟨y,hy⟩:∃y,l[f k%l.f]?=⇑y:={_,Xv hi};unfold pickOrder.go;rw[hy];show(ZT5 n (k+1) _ _ D).l ?_;rw[NM,YT];show cg _ ?_;show kM hy
def AU{Q:Ae}(hr:IsSi s.C I a f i n ep)(h:Q ↑I s):wpAny (model prog w) A (pyIter ↑I) Q E s:=by show wpAny_pyIter_slot hr.ty AW (Nk AW hr.ty kP ?_<|kQ _);show Yg {_,Z,"set_iterator",_,hr.ty,Xb.U,h}
def Fs(prog:Program)(w:World)(a:A7)(es:B4 (A0×B1))(ep:A5)(t:SetTable)(ord:Ag)(sl:A5->A5):(Prop):=
 ∀A E s i Q,SetIs s.C a es ep t->i<=ord.f->Q ((ord[i]?).G λx=>(x,sl<|i+1)) s->wpAny (model prog w) A (setNext a (sl i) i ep) Q E s
def kJ{sl:A5->A5}{i:A5}{x:B1}{Q:Option B1->B6->Prop}(hN:Fs prog w a es ep t ord sl)(hS:SetIs s.C a es ep t)(hf:t.fits es.o=A9)(hi:IsSi s.C I a (rawInt (sl i:A5)) i es.o ep)(hx:ord[i]?=⇑x)
  (k:∀h',IsSi h' I a (rawInt (sl (i+1):A5)) (i+1) es.o ep->Heap.SameBut I s.C h'->Q ⇑x {s with heap:=h'}):wpAny (model prog w) A (pyNext<|.ref I) Q E s:=by
 let(o,ho,hc,hd):=id hi;let(oa,Kx,kI,Qr):=id hS;show XU (Gm<|wI (name:=Str.M "__next__") hi.ty Xb<|Nk Xb hi.ty uG ?_<|uE _);show XU (Nc (a:=(Value.ref I,[])) Z ?_);show XU (vZ ho hd ?_);dsimp only[rawInt];show XU (EL Kx Qr hf ?_);rw[Yh Eo];show XU (hN _ _ s i _ hS (Uy (Xx.S hx).1) ?_);rw[hx];show XU (Gn ho hd Eo ?_);let Tf:=UZ (Obj.mapFields λvs=>vs.setIfInBounds 0<|rawInt (sl (i+1):A5)) ho (wC<|NN hd _)
 show XU (Gn Tf (NN hd _) Eo ?_);show Yg {x,Z,Yg<|k _ ⟨_,UZ _ Tf<|wC<|NN (NN hd _) _,?_,?_⟩<|(Lu ..).l (Lu ..)}
 .rw[rW,rW];show hc
 .rw[NN (NN hd _)];rfl
def kH{sl:A5->A5}{Q:Option B1->B6->Prop}(hh:A.handled=A8)(hN:Fs prog w a es ep t ord sl)(hS:SetIs s.C a es ep t)(hf:t.fits es.o=A9)(hi:IsSi s.C I a (rawInt (sl ord.f:A5)) ord.f es.o ep)
  (k:∀h',Heap.ExtBut I s.C h'->Q none {s with heap:=h'}):wpAny (model prog w) A (pyNext<|.ref I) Q E s:=by let(o,ho,hc,hd):=id hi;let(oa,Kx,kI,Qr):=id hS;show XU (Gm<|wI (name:=Str.M "__next__") hi.ty Xb<|Nk Xb hi.ty uG ?_<|uE _);show XU (Nc (a:=(Value.ref I,[])) rfl ?_);show XU (vZ ho hd ?_);show XU (EL Kx Qr hf ?_);rw[Yh Eo];show XU (hN _ _ s ord.f _ hS (XG _) ?_);rw[wF (XG _)];show XU (Gn ho hd Eo ?_);show XU ?_;show XU (Lr ?_<|by size_fits);show XU (m:=firstArgMember _ _) (Nc (a:=Value.none) (by first|rfl|(simp only[firstArgMember];rfl)) ?_);show Lr ?_ (by size_fits);show XU (wpAny_handled ?_);rw[show A.in1.handled=A8 from hh];show XU (Yg<|wpAny_throw ?_);show XU (wj (T:="StopIteration") (b:=A9) {_,Yj _ rfl,rfl} isSubtype_stop ?_);show Yg (k _<|(((Lu ..).extBut).push _).push _)
def kG{sl:A5->A5}(hh:A.handled=A8)(hN:Fs prog w a es ep t ord sl)(hf:t.fits es.o=A9)(XJ:a≠I):
  Walks prog w A I [I,a] [I] ord.f (λi v=>ord[i]?=⇑v) (λi h=>i<=ord.f/\IsSi h I a (rawInt (sl i:A5)) i es.o ep/\SetIs h a es ep t) where
 sub:=λb hb=>Yo.mpr (.inl<|Xd.S hb)
 frame:=λ_ _ _ x hk=>{x.1,x.2.1.keep λo e=>hk I Eo o e,x.2.2.keep λo e=>hk a Eo o e}
 item:=λi s Q E hi ⟨_,x1,x2⟩ hQ=>by let hx:ord[i]?=⇑(ord[i]'hi):=Xv hi;show kJ hN x2 hf x1 hx λh' y hs=>hQ _ h' s.toks hx {hi,y,x2.keep λo e=>(hs.2 a XJ).l e} λb o hb eo=>hs.extBut b o (λe=>hb<|by simp[e]) eo
 done:=λs Q E zz hQ=>by let(_,x1,x2):=zz;show kH hh hN x2 hf x1 λh' he=>hQ h' s.toks λb o hb eo=>he b o (λe=>hb<|by simp[e]) eo
 self:=λ_ _ _ _ x hQ=>AU x.2.1 hQ
def kF(hf:t.fits es.o=A9)(hr:Qt t)(hb:w.params.followText "set-order"=B0)(hl:t.led=A9)(hd:(!t.plain&&decide (es.o>1))=B0):
  Fs prog w a es ep t (es.m.G (·.2)) (λi=>if i=0 then 0 else (t.place.R (i-1) 0)+1):=by
 intro A E s i Q ⟨o,ho,hx,Qr⟩ hi q;let hps:t.place.o=es.o:=by unfold SetTable.fits at hf;simp only[wu,Pe]at hf;show hf.1
 rw[Xr,YU]at hi;show XU (Gu ho Qr hf ?_);show XU ?_;unfold setsByText;show XU (Gr<|Yg ?_);change wpAny _ _ (if (w.params.followText "set-order")=A9 then _ else _) _ _ _
 rw[Yh J];change wpAny _ _ (if (!t.plain&&decide (es.o>1))=A9 then _ else _) _ _ _
 rw[Yh (by rw[hd];decide)];show XU ?_;change wpAny _ _ (if (!t.led && !es.isEmpty)=A9 then _ else _) _ _ _
 rw[Yh J];show Yg ?_;let eb:SetTable.below t.place (if i=0 then 0 else (t.place.R (i-1) 0)+1)=i:=by
  cases c:i=0
  .rw[Yk c,c];show k7 hr
  .rw[Yh c];obtain⟨v,hv⟩:∃v,t.place[i-1]?=⇑v:={_,TK J};let e:t.place.R (i-1) 0=v:=by rw[QP,hv];rfl
   rw[e,k8 hr hv];lia
 rw[eb];show Yg ?_;cases c:i<es.o
 .ext
 ext
def next_text(hf:t.fits es.o=A9)(hb:w.params.followText "set-order"=A9):
  Fs prog w a es ep t ((pickOrder (w.params.setOrder a ep) es).m.G (·.2)) (λ_=>0):=by
 intro A E s i Q ⟨o,ho,hx,Qr⟩ hi q;show XU (Gu ho Qr hf ?_);show XU ?_;show XU (Gr<|Yg ?_);change wpAny _ _ (if (w.params.followText "set-order")=A9 then _ else _) _ _ _
 rw[Yk hb,Yh Eo];show XU ?_;show XU (Gu ho Qr hf ?_);show XU ?_;show XU (Gr<|Yg ?_);change wpAny _ _ (if (w.params.followText "set-order")=A9 then _ else _) _ _ _
 rw[Yk hb];show XU (Gr<|Yg ?_);rw[Yi,YN,Option.map_map]at q;show Yg q
def IsPl(h:Heap)(b:A7)(pl:A6 A5):(Prop):=∃o n,h.E b=⇑o/\o.data=.seq (pl.G λ(i:A5)=>rawInt (i:A0)).r n
def IsPl.keep(x:IsPl h b pl)(e:∀o,h.E b=⇑o->h'.E b=⇑o):IsPl h' b pl:=by let(o,n,p,q):=x;exists o,n,e _ p,q
def kE{i j:A5}{x:A0×B1}{Q:Option B1->B6->Prop}(hS:SetIs s.C a es ep t)(hf:t.fits es.o=A9)(hi:IsSi s.C I a ↑b i es.o ep)(hb:IsPl s.C b pl)(hj:pl[i]?=⇑j)(hx:es[j]?=⇑x)
  (k:∀h',IsSi h' I a ↑b (i+1) es.o ep->Heap.SameBut I s.C h'->Q (some x.2) {s with heap:=h'}):wpAny (model prog w) A (pyNext<|.ref I) Q E s:=by
 let(o,ho,hc,hd):=id hi;let(oa,Kx,kI,Qr):=id hS;let(ob,nb,Md,RX):=hb;show XU (Gm<|wI (name:=Str.M "__next__") hi.ty Xb<|Nk Xb hi.ty uG ?_<|uE _);show XU (Nc (a:=(Value.ref I,[])) Z ?_);show XU (vZ ho hd ?_);dsimp only[rawInt];show XU (EL Kx Qr hf ?_);rw[Yh Eo];show XU (JO Md RX ?_);dsimp only;let e:(pl.G λ(i:A5)=>rawInt (i:A0)).r[(i:A0).j]?=⇑(.int (j:A0) 0):=by rw[VP,cq,Yi,hj];rfl
 rw[e];dsimp only;rw[VP,VP];show XU ?_;show XU (Gu Kx Qr hf ?_);dsimp only;rw[Yh Eo,hx];show Yg ?_;show XU (Gn ho hd Eo ?_);show Yg {x.2,Z,Yg<|k _ ⟨_,UZ _ ho<|wC<|NN hd _,?_,?_⟩<|Lu ..}
 .rw[rW];show hc
 .rw[NN hd];rfl
def kD{Q:Option B1->B6->Prop}(hh:A.handled=A8)(hS:SetIs s.C a es ep t)(hf:t.fits es.o=A9)(hi:IsSi s.C I a ↑b pl.f es.o ep)(hb:IsPl s.C b pl)
  (k:∀h',Heap.ExtBut I s.C h'->Q none {s with heap:=h'}):wpAny (model prog w) A (pyNext<|.ref I) Q E s:=by
 let(o,ho,hc,hd):=id hi;let(oa,Kx,kI,Qr):=id hS;let(ob,nb,Md,RX):=hb;show XU (Gm<|wI (name:=Str.M "__next__") hi.ty Xb<|Nk Xb hi.ty uG ?_<|uE _);show XU (Nc (a:=(Value.ref I,[])) Z ?_);show XU (vZ ho hd ?_);show XU (EL Kx Qr hf ?_);rw[Yh Eo];show XU (JO Md RX ?_);dsimp only;let e:(pl.G λ(i:A5)=>rawInt (i:A0)).r[(pl.f:A0).j]?=A8:=by rw[VP,cq];show wF Eo
 rw[e];show XU (Gn ho hd Eo ?_);let Tf:=UZ (Obj.mapFields λvs=>vs.setIfInBounds 0<|rawInt 0) ho (wC<|NN hd _)
 show XU (Gn Tf (NN hd _) Eo ?_);show XU ?_;show XU (Lr ?_<|by size_fits);show XU (m:=firstArgMember _ _) (Nc (a:=Value.none) (by first|rfl|(simp only[firstArgMember];rfl)) ?_)
 show Lr ?_ (by size_fits);show XU (wpAny_handled ?_);rw[show A.in1.handled=A8 from hh];show XU (Yg<|wpAny_throw ?_);show XU (wj (T:="StopIteration") (b:=A9) {_,Yj _ Z,Z} isSubtype_stop ?_);show Yg (k _<|((((Lu ..).l (Lu ..)).extBut).push _).push _)
def kC(hh:A.handled=A8)(hp:pl.Perm (List.range es.o))(hf:t.fits es.o=A9)(XJ:a≠I)(hnb:b≠I):
  Walks prog w A I [I,a,b] [I] pl.f (λi v=>(pl.filterMap λj=>(es[j]?).G (·.2))[i]?=⇑v) (λi h=>i<=pl.f/\IsSi h I a ↑b i es.o ep/\SetIs h a es ep t/\IsPl h b pl) where
 sub:=λc hc=>Yo.mpr (.inl<|Xd.S hc)
 frame:=λ_ _ _ x hk=>{x.1,x.2.1.keep λo e=>hk I Eo o e,x.2.2.1.keep λo e=>hk a Eo o e,x.2.2.2.keep λo e=>hk b Eo o e}
 item:=λi s Q E hi ⟨_,x1,x2,x3⟩ hQ=>by
  let hj:pl[i]?=⇑(pl[i]'hi):=Xv hi;let Xj:=YX.S (hp.mem_iff.S<|Xo hj)
  let hx:es[pl[i]'hi]?=⇑(es[pl[i]'hi]'Xj):=TK Xj;let fm:∀(l:A6 A5),(∀j∈l,j<es.o)->l.filterMap (λj=>(es[j]?).G (·.2))=l.G λj=>(es.R j (0,.none)).2:=λl hl=>by
   induction l with
   |nil=>rfl
   |cons y l ih=>
    ext
  let hv:(pl.filterMap λj=>(es[j]?).G (·.2))[i]?=some (es[pl[i]'hi]'Xj).2:=by rw[fm pl λj hj=>YX.S<|hp.mem_iff.S hj,Yi,hj,Option.map_some,QP,hx];rfl
  show kE x2 hf x1 x3 hj hx λh' y hs=>hQ _ h' s.toks hv {hi,y,x2.keep λo e=>(hs.2 a XJ).l e,x3.keep λo e=>(hs.2 b hnb).l e} λc o hc eo=>hs.extBut c o (λe=>hc<|by simp[e]) eo
 done:=λs Q E zz hQ=>by let(_,x1,x2,x3):=zz;show kD hh x2 hf x1 x3 λh' he=>hQ h' s.toks λc o hc eo=>he c o (λe=>hc<|by simp[e]) eo
 self:=λ_ _ _ _ x hQ=>AU x.2.1 hQ
end
section
variable{prog:Program}{w:World}{A AP:Around}{E:Ae}{s:B6}
def SetIs.ty(x:SetIs s.C a es ep t):s.TypeIs ↑a "set":=by let(o,p,q,_):=x;exists o,p,q.1
def kB{Q:Ae}(hh:A.handled=A8)(hS:SetIs s.C a es ep t)(hf:t.fits es.o=A9)(hr:Qt t)(hl:t.led=!w.params.followText "set-order")(hz:es.o<=sizeLine)
  (k:∀(I:A7)(h':Heap) d (ord:Ag) (fp:A6 A7) (St:A5->Heap->Prop),ord.Perm (es.m.G (·.2))->Walks prog w A I fp [I] ord.f (λi v=>ord[i]?=⇑v) St->St 0 h'->(∀b∈fp,b<h'.objs.o/\(b=a\/(~~~s)<=b))->I∈fp->(~~~s)<=I->(∀c o,s.C.E c=⇑o->h'.E c=⇑o)->Q ↑I {s with heap:=h',drawn:=d}):
  wpAny (model prog w) AP (pyIter<|.ref a) Q E s:=by
 let(o,ho,hx,hd):=id hS;let uD:a<(~~~s):=Ym ho
 show wpAny_pyIter_slot hS.ty AV (Nk AV hS.ty kN ?_<|kO _);show XU (Nc (a:=a) rfl ?_);show XU ?_;show XU (EL ho hd hf<|Yg ?_);show XU ?_;show XU (Gu ho hd hf ?_);show XU ?_;show XU (Gr<|Yg<|Yg ?_);let num:∀ord sl,sl 0=0->Fs prog w a es ep t ord sl->ord.Perm (es.m.G (·.2))->wpAny (model prog w) AP.in1 (pure (rawInt 0) >>= λfirst=>setEpoch a >>= λe=>newFields "set_iterator" [first,rawInt 0,.ref a,rawInt (es.o:A0),rawInt (e:A0)] >>= λit=>ret it)
   (λfin s'=>∃v,fin=Fin.done (Flow.ret v)/\∃T' r,s'.TypeIs v T'/\typeLookup (Value.type T') (Str.M "__next__")=pure ⇑r/\Q v s') E s:=λord sl h0 hN hp=>by
  show XU (Yg<|XU<|wpAny_setEpoch_of ho hd hf<|XU ?_);show Lr ?_ (by size_fits);let hI:IsSi (s.C.push {cls:=.type "set_iterator",data:=.fields [rawInt 0,rawInt 0,.ref a,rawInt (es.o:A0),rawInt (ep:A0)].r}) (~~~s) a (rawInt (sl 0:A5)) 0 es.o ep:={_,Yj _ Z,Z,by rw[h0];rfl}
  show Yg {_,Z,"set_iterator",_,IsSi.ty (s:={s with heap:=_}) hI,Xb.U,?_};let ne:a≠(~~~s):=Yx uD
  show k _ _ s.drawn ord _ _ hp (kG hh hN hf ne) {Qd _,hI,hS.keep λo e=>Xf _ e} (λb hb=>?_) Eo (XG _) λc o e=>Xf _ e;rw[Lq];grind
 cases hb:w.params.followText "set-order"=A9
 .rw [Yh (by change ¬(!w.params.followText "set-order" && _)=A9;ext)];show num _ (λ_=>0) Z (next_text hf hb) ?_
  have:=ZT5 (f:=w.params.setOrder a ep) es.o 0 es.m #[] (by ext)
  show this.G _
 .let Rq:w.params.followText "set-order"=B0:=by simpa using hb
  rw[Rq]at hl;cases c:(!t.plain&&decide (es.o>1))=A9
  .rw [Yk (by change(!w.params.followText "set-order" && (!t.plain&&decide (es.o>1)))=A9;rw[Rq,c];rfl)];show XU (ZD8 es.o (List.range es.o) s _ (by ext) λpl d hp=>?_);let UG:pl.f=es.o:=by rw[hp.length_eq,Nm]
   show XU (wpAny_newTuple ?_<|by ext);let hoS:∀(h:Heap) o,h.E a=⇑o->(h.push {cls:=.type "tuple",data:=.seq (List.G (λi=>rawInt ((i:A5):A0)) pl).r}).E a=⇑o:=λh o e=>Xf _ e
   show XU (wpAny_setEpoch_of (hoS s.C o ho) hd hf<|XU ?_);show Lr ?_ (by size_fits);generalize ku:s.C.push {cls:=.type "tuple",data:=.seq (List.G (λi=>rawInt ((i:A5):A0)) pl).r}=h1;let s1:h1.objs.o=(~~~s)+1:=by rw[<-ku];show Lq ..
   let AS:∀c o,s.C.E c=⇑o->h1.E c=⇑o:=λc o e=>by rw[<-ku];show Xf _ e
   let Mc:IsPl h1 (~~~s) pl:=by rw[<-ku];exists _,0,Yj _ Z,Z
   let hI:IsSi (h1.push {cls:=.type "set_iterator",data:=.fields [Value.ref (~~~s),rawInt 0,.ref a,rawInt (es.o:A0),rawInt (ep:A0)].r}) h1.objs.o a (.ref (~~~s)) 0 es.o ep:={_,Yj _ Z,Z,Z};show Yg {_,Z,"set_iterator",_,IsSi.ty (s:={s with heap:=_,drawn:=d}) hI,Xb.U,?_};let Oz:(pl.filterMap λj=>(es[j]?).G (·.2)).Perm (es.m.G (·.2)):=by show(hp.filterMap _).l ?_;rw[<-filterMap_getElem?_range es,List.map_filterMap]
   let MG:(pl.filterMap λj=>(es[j]?).G (·.2)).f=pl.f:=by rw[Oz.length_eq,Xr,YU,UG]
   let W:=kC (prog:=prog) (w:=w) (A:=A) (I:=h1.objs.o) (a:=a) (b:=(~~~s)) (es:=es) (ep:=ep) (t:=t) hh hp hf J J;rw[<-MG]at W;show k _ _ d _ _ _ Oz W {Qd _,hI,hS.keep λo e=>Xf _<|AS _ o e,Mc.keep λo e=>Xf _ e} (λb hb=>?_) Eo (by rw[s1];show SX _) λc o e=>Xf _ (AS c o e);rw[Lq,s1];grind
  .let c':(!t.plain&&decide (es.o>1))=B0:=by simpa using c
   rw[Yh (by change ¬(!w.params.followText "set-order" && (!t.plain&&decide (es.o>1)))=A9;rw[c'];simp)];show num _ _ Z (kF hf hr Rq hl c') .rfl
end
def kq:typeLookup (.type "set") "__len__"=pure ⇑(.builtin "set.__len__"):=by kernel_rfl
section
variable{prog:Program}{w:World}{A:Around}{E:Ae}{s:B6}
def ko{r:A7}{Q:B3->B6->Prop}(hT:s.TypeIs ↑r "set")(h:Q false s):wpAny (model prog w) A (Builtin.List.listLengthHint ↑r) Q E s:=by show XU (wpAny_specialOf hT kq ?_);generalize nY:("set.__len__":B2)=id0;subst nY;show XU (wj (T:="set") (b:=A9) hT sub_set_self ?_);show XU (vV (T:="set") hT<|Yg h)
def km{Q:A6 B1->B6->Prop}(hh:A.handled=A8)(hS:SetIs s.C a es ep t)(hf:t.fits es.o=A9)(hr:Qt t)(hl:t.led=!w.params.followText "set-order")(hz:es.o<=sizeLine)
  (k:∀(out:Ag) h' tk d,out.Perm (es.m.G (·.2))->(~~~s)<=h'.objs.o->(∀c o,s.C.E c=⇑o->h'.E c=⇑o)->Q out {s with heap:=h',toks:=tk,drawn:=d}):wpAny (model prog w) A (collect<|.ref a) Q E s:=by
 let Cy:(s.C.push<|seqObj "list" #[] 0).E (~~~s)=⇑(seqObj "list" #[] 0):=Yj _ rfl;let AY:SetIs (s.C.push<|seqObj "list" #[] 0) a es ep t:=hS.keep λo e=>Xf _ e
 let uD:a<(~~~s):=by let(_,e,_):=hS;show Ym e
 show XU (wpAny_runValue<|Qa entry_proto_collect' ?_);show XU (Lp<|Yg ⟨rY _ B,Qa entry_list_iadd' ?_⟩);change wpAny _ _ (Builtin.List.listExtendWith (.ref (~~~s)) ↑a<|.ref (~~~s)) _ _ {s with heap:=s.C.push (seqObj "list" #[] 0)}
 show XU (vV (T:="set") (SetIs.ty (s:={s with heap:=s.C.push (seqObj "list" #[] 0)}) AY) ?_);let e1:Builtin.List.listSameRef (.ref (~~~s)) ↑a=B0:=by change((~~~s) == a)=B0;show JB (QS uD)
 rw[Yh (by rw[e1];decide)];show XU (kB (A:=A.in1) (by simp[hh]) AY hf hr hl hz λI h' d ord fp St Oz W FJ uC hI Rm kp=>?_);let hT':Shared.TypeIs {s with heap:=h',drawn:=d} ↑a "set":=SetIs.ty (s:={s with heap:=h',drawn:=d}) (AY.keep λo e=>kp a o e)
 show XU (SE<|ko hT' ?_);let hL2:=kp _ _ Cy
 show XU (PZ<|XU ?_);show XU (NK (xs:=#[]) (n:=0) hL2 Z ?_ (Qd _)<|by ext);let hL3:=UZ (Obj.mapSeq (·.push Value.none)) hL2 rfl
 show NK (xs:=#[].push Value.none) (n:=1) hL3 Z ?_ Ep (by ext);let hL4:=UZ (Obj.mapSeq Array.pop) hL3 rfl
 let old:∀c o,c≠(~~~s)->h'.E c=⇑o->((h'.update (~~~s) (Obj.mapSeq (·.push Value.none))).update (~~~s) (Obj.mapSeq Array.pop)).E c=⇑o:=λc o hc e=>by rwa[YK _ _ (YZ hc),YK _ _ (YZ hc)]
 let RS:(~~~s)∉fp:=λq=>by
  rcases(uC _ q).2 with e|e
  .show QS uD e
  .rw [show({s with heap:=s.C.push (seqObj "list" #[] 0)}:B6).C.objs.o=(~~~s)+1 from Lq ..] at e;lia
 let kl:ord.f=es.o:=by rw[Oz.length_eq,Xr,YU]
 show Yg {Ng cN _,codeAny_extend_loopS W.toS (by rwa[kl]) (~~~s) RS _ ord.f 0 _ #[] _ Z (Qd _) (W.frame 0 _ _ FJ λb hb o e=>old b o (λq=>RS<|q▸hb) e) hL4 (ItemsOf.nil _) λs2 acc c m hL5 Tz=>?_};let eo:acc.m=ord:=by
  show Sl λi=>?_;rw[YN];cases hi:i<ord.f
  .let q:acc[i]?=⇑(acc[i]'(by rwa[Tz.1])):=TK _;rw[q,Tz.2 i _ q]
  .rw[wF (by ext),cx (by rw[Tz.1];ext)]
 show XU (wpAny_load hL5 ?_);show Yg ?_;rw[eo,Moved.eq_with m];show k ord s2.C s2.toks d Oz (Uy<|Ym hL5) λc o e=>?_;let lt:=Ym e
 show m.C c o (λq=>?_) (old c o (Yx lt)<|kp c o<|Xf _ e);rcases Yo.S q with e'|e'
 .show Yx lt e'
 .rw[Xd.S e']at lt
  have:=Yp lt (Yq (SX _)<|Lq .. ▸ Rm)
  ext
end
def Zu3:∀{l:Ac},m.Nodup->l.f=m.f->(∀x∈m,x∈l)->l.Perm m:=by
 induction m with
 |nil=>ext
 |cons x m ih=>
  intro l hn hl hs;let hx:=hs x Ya
  let PY:=Qb.S hn;show(List.perm_cons_erase hx).l ((ih PY.2 (by ext) λy hy=>?_).cons x);grind
def ZV9(p:us.Perm vs):∀{ns:Ac},IntsAre vs ns->∃ms,IntsAre us ms/\ms.Perm ns:=by
 induction p with
 |nil=>intro ns h;exists ns,h,.rfl
 |cons x _ ih=>
  intro ns h;cases h with
  |cons n t h=>
   let(ms,h1,h2):=ih h;exists n::ms,.cons n t h1,h2.cons n
 |swap x y l=>
  intro ns h;cases h with
  |cons n t h=>
   cases h with
   |cons m u h=>exists m::n::_,.cons m u<|.cons n t h,.swap n m _
 |trans _ _ NA RP=>
  grind
def kj(h:IntsAre vs ns):vs.f=ns.f:=by
 induction h with
 |nil=>rfl
 |cons n t _ ih=>ext
def uB(val:A5->A0):∀i,(firstMet val i).Nodup
 |0=>.nil
 |i+1=>by
  rw[Pd];unfold step_dedup;split
  .show uB val i
  .rename_i h;show VQ.mpr {uB val i,Eo,λa ha b hb e=>?_}
   ext
section
variable{prog:Program}{w:World}{A:Around}{E:Ae}{s:B6}
def Zc3:∀{l:A6 (A0×B1)},ElemsOf (intKind prog w) l->∃ms,IntsAre (l.G (·.2)) ms/\∀z,z∈ms↔∃y∈l,(intKind prog w).is z y.2=A9
 |[],_=>{[],.nil,λz=>{λh=>(by cases h),λzz=>by let(y,h,_):=zz;show(by cases h)}}
 |y::l,h=>by
  let(ms,h1,h2):=Zc3 h.tail;let((z,hz,_),_):=h.head;let(hy,v):=y;let(u,rfl):=Value.isInt_shape (show Value.isInt z v=A9 from hz);exists z::ms,.cons z u h1,λx=>?_;rw[Yo,h2];constructor
  .rintro(e|⟨y,hy,q⟩)
   .ext
   grind
  .rintro⟨y,hy,q⟩;rcases Yo.S hy with e|e
   .rw[e]at q;show .inl ((intKind prog w).inj _ _ _ q hz)
   .show .inr ⟨y,e,q⟩
def ZD7{led:B3}{S:A0->B3}{Q:Ae}(hh:A.handled=A8)(hS:SetR prog w s.C a (!w.params.followText "set-order") S n)(PJ:n<64)
  (k:∀(ms:Ac)(out:Ag) r h' tk d c,IntsAre out ms->ms.H (·<=·)->ms.f=n->(∀z,z∈ms↔S z=A9)->(~~~s)<=r->h'.E r=⇑(seqObj "list" out.r c)->(∀c o,s.C.E c=⇑o->h'.E c=⇑o)->Q ↑r {s with heap:=h',toks:=tk,drawn:=d}):
  wpAny (model prog w) A (call (.builtin "sorted") [.ref a]) Q E s:=by
 let(o,es,ep,t,ho,hx,hd,he,hm,hb,hf,hn,hr,hl):=hS;let(ns,hI,hmem):=Zc3 he;let IE:sizeLine=16777216:=Rz
 show sN kind_sorted plain_sorted entry_sorted (args_sorted1 _) ?_;show XU (m:=checkCount "sorted" 1 1 _) (Yg ?_);show XU (km (A:=A.in1) (by simp[hh]) ⟨o,ho,hx,hd⟩ hf hr hl J λout h1 tk d hp Rm kp=>?_);let(ls,hI2,Wn):=ZV9 hp hI;let lo:=kj hI2
 let ll:ls.f=n:=by rw[<-lo,hp.length_eq,Xr,YU,hn]
 show XU (Lp ?_);let hL:(h1.push<|seqObj "list" out.r 0).E h1.objs.o=⇑(seqObj "list" out.r 0):=Yj _ rfl
 show XU (SE<|Nk vT ⟨_,hL,Z⟩ vW (list_sort_tree hL hI2 (by ext) λres ms b1 b2 b3=>{_,Z,?_})<|args_list_sort _);let(c,hc):=sortedHeap_at (out:=res) hL;show Yg {_,Z,k ms res.m h1.objs.o _ tk d c b1 b3 (by rw[b2.length_eq,ll]) (λz=>by rw[b2.mem_iff,Wn.mem_iff,hmem,hm]) Rm (by show hc) λb ob e=>?_};let lt:=Ym (kp b ob e)
 rw[sortedHeap_old (Yx lt) (by rw[size_push'];show Nat.lt_succ_of_lt lt)];show Xf _ (kp b ob e)
end
section
variable{X:Cx}{p p2 pos Tw:Pos}{e:B5}{t:TA}
def Inv.drew(I:Inv X pins σ H s)(d:Drawn):Inv X pins σ H {s with drawn:=d}:=
 I.step (g':=s.gens) (d':=d) (t':=s.toks) (h':=s.C) (ch:=[]) (λb hb=>(by cases hb)) (λb o _ _ _ q _=>q) (λb o _ _ _ q _=>⟨o.slots,q⟩) (λb o _ _ n=>n) (λb o _ q=>⟨o,q⟩) (λb xs q=>q) (λb o u q=>q) (λb ps q=>{#[],by rw[q];simp}) (λm hm=>hm) I.hok I.bare
def Yz7(K:Ad)(t:TA):(TE):=λσ H Q=>t σ H λvs H1=>∃(a:A7)(ns:Ac),vs=[.ref a]/\SqL K H1 a (ns.G V.int)/\ns.f<64/\∀ms:Ac,ms.H (·<·)->(∀z,z∈ms↔z∈ns)->∀l,H1 l=A8->Q ↑l (upd H1 l<|.lst<|ms.G V.int)
def ki(K:Ad)(hc:X.calm=A9)(g1:Gl X "sorted")(m1:X.mg "sorted"=A8)(g2:Gl X "set")(m2:X.mg "set"=A8)(ha:PA X [e] t)(hk:X.K=K:=by rfl)
  (he:starEach [e] X.X=[(false,eval e X.X)]:=by rfl)
  (Ja:starEach [.Call (.Name "set" p2) [e] [] Tw] X.X=[(false,eval (.Call (.Name "set" p2) [e] [] Tw) X.X)]:=by rfl):
  PE X (.Call (.Name "sorted" p) [.Call (.Name "set" p2) [e] [] Tw] [] pos) (Yz7 K t):=by
 subst hk;intro pins s σ H Q I h;show NO (PX I g1 m1 Boot.«sorted» ?_);show cP ?_ rC rfl;show rX ?_;show NO (PX I g2 m2 Boot.«set» ?_);show Ta (thn (ha Tw pins s σ H _ I h) λus s1 zz=>?_) (by rw[he];rfl) rfl;let(vs,H1,I1,r1,q1):=zz;let(a,ns,rfl,hq,hn,q):=q1;let(u,rfl,ru):=Ur r1;let rfl:u=Value.ref a:=ru;let(XX,rv,pl,hz):=I1.list hq;let hi:=ZL rv
 let el:XX.r.o=ns.f:=by rw[YJ,<-rv.f,Xr]
 let sb:scanBound=4096:=rfl;show kR (I.ok.hd hc) pl.isList (ns:=ns) rF J λh2 tk hS kp=>?_;show rQ ?_;let fl:=firstMet_length_le (λi=>ns.R i 0) XX.r.o
 show ZD7 (led:=A9) (s:={s1 with heap:=h2,toks:=tk}) (I.ok.hd hc) hS J λms out r h3 tk3 d c hI hs hl hmem Rm hr kp3=>?_;let em:∀z,z∈ms↔z∈ns:=λz=>by
  rw[hmem,firstMet_any,el];let e1:(List.range ns.f).G (λi=>ns.R i 0)=ns:=by
   show Sl λi=>?_;rw[Yi];cases c:i<ns.f
   .ext
   .ext
  rw[e1];simp
 let Ss:ms.Nodup:=(Zu3 (uB _ _) hl λx hx=>(hmem x).mpr (EG.mpr ⟨x,hx,Eo⟩)).nodup_iff.mpr (uB _ _);let Xj:(~~~s1)<=h2.objs.o:=by let(_,_,_,_,e,_):=hS;show Uy (Ym e)
 let AR:(~~~s1)<=r:=Yq Xj Rm;let I2:=(I1.laid (o:=.lst<|ms.G V.int) (h':=h3) (t':=tk3) (λb o e=>kp3 b o<|kp b o e) AR ⟨D,out,c,CH hI,hr⟩).drew d
 exists .ref r,_,I2,Z,q ms (My.UL hs Ss) em r<|I1.hok.fresh AR
end
end L2
namespace My
open PySem L2
def ZR8{f g:A5->A5}{N k:A5}(hf:∀i j,i<N->j<N->(f i=f j↔Conn A i j))(hk:∀i,i<N->f i<k)(hg:∀a,a<k->g a<N/\f (g a)=a)(hA:InN N A)(hB:InN N AP):
  (∀i j,i<N->j<N->Conn (A++AP) i j)↔∀a b,a<k->b<k->Conn (AP.G λe=>(f e.1,f e.2)) a b:=by
 let gi:∀i,i<N->Conn A (g<|f i) i:=λi hi=>by grind
 constructor
 .intro c a b ha hb;let(a1,a2):=hg a ha;let(b1,b2):=hg b hb;let q:=(c (g a) (g b) a1 b1).image (f:=f) (fs:=AP.G λe=>(f e.1,f e.2)) λe he=>by
   rcases Xn.S he with q|q
   .let⟨e1,e2⟩:=hA e q;rw[(hf _ _ e1 e2).mpr (.edge q)];show .refl _
   .show .edge (YC.mpr ⟨e,q,Z⟩)
  ext
 .intro c i j hi hj;let up:∀{i j:A5},Conn A i j->Conn (A++AP) i j:=λq=>q.mono λe he=>Yl _ he
  let q:=(c (f i) (f j) (hk i hi)<|hk j hj).image (f:=g) (fs:=A++AP) λe he=>by let(d,hd,rfl):=YC.S he;let(d1,d2):=hB d hd;show(up<|gi _ d1).l ((Conn.edge<|Yc _ hd).l (up<|gi _ d2).symm)
  show(up<|gi i hi).symm.l (q.l<|up<|gi j hj)
def PC(n:A0)(ps:Aa)(I O:Ac)(c:A5):(Prop):=∃L:Ab,L.Nodup/\(∀l,l∈L↔Zn n ps l/\(∀z∈I,z∈l)/\∀z∈O,z∉l)/\L.f=c
def PC.uniq(h1:PC n ps I O c)(h2:PC n ps I O d):c=d:=by
 let(L,a1,a2,a3):=h1;let(M,b1,b2,b3):=h2
 have:L.Perm M:=(SY a1 b1).mpr λl=>by rw[a2,b2]
 rw[<-a3,<-b3,this.length_eq]
def XE(m:A5)(gone:Ac):(Ac):=(Vu m).filter λz=>decide (z∉gone)
def WT{z:A0}:z∈XE m gone↔(0<=z/\z<(m:A0))/\z∉gone:=by unfold XE;rw[Ye,VR,Xh]
def Zx8(m:A5)(gone:Ac):(XE m gone).H (·<·):=(XW.S<|va m).2.filter _
def SK(f:A5->A5)(ps:Aa)(R:Ac):(Aa):=R.G λz=>((f (ZB ps z).1:A0),(f (ZB ps z).2:A0))
def Qq(R:Ac)(S:Ac):(Ac):=S.G λt=>R.R t.j 0
def AQ(hR:R.H (·<·))(hS:IsSet R.f S):(Qq R S).H (·<·):=by
 let(a1,a2):=XW.S hS;show Nn.mpr (a2.imp_of_mem λ{a b} ha hb Vl=>?_);let h1:=a1 a ha
 let h2:=a1 b hb;rw[Yb,Yb,Xv (by ext),Xv (by ext)];show JZ.S hR a.j b.j (by ext) (by ext) D
def AO(hS:IsSet R.f S){z:A0}(h:z∈Qq R S):z∈R:=by
 let(t,ht,rfl):=YC.S h;let h1:=hS.all t ht
 ext
def kh{f:A5->A5}(hS:IsSet R.f S):XR (SK f ps R) S=(XR ps (Qq R S)).G λe=>(f e.1,f e.2):=by
 unfold XR Qq;rw[Nd,Nd];show Vp λt ht=>?_;let h1:=hS.all t ht
 let e:(SK f ps R).R t.j (0,0)=((f (ZB ps<|R.R t.j 0).1:A0),(f (ZB ps<|R.R t.j 0).2:A0)):=by unfold SK;rw[Yb,Yi,Yb,Xv (by ext)];rfl
 rw[e];rfl
def Ri(m:A5)(I R S:Ac):(Ac):=(Vu m).filter λz=>decide (z∈I\/z∈Qq R S)
def Ib(m:A5)(I R S:Ac):(Ri m I R S).H (·<·):=(XW.S<|va m).2.filter _
def WY{z:A0}:z∈Ri m I R S↔(0<=z/\z<(m:A0))/\(z∈I\/z∈Qq R S):=by unfold Ri;rw[Ye,VR,Xh]
section
variable{n:A0}{ps:Aa}{I O S:Ac}{f g:A5->A5}{k:A5}
def kg(hI:IsSet ps.f I)(hS:IsSet (XE ps.f (I++O)).f S):(Ri ps.f I (XE ps.f (I++O)) S).Perm (I++Qq (XE ps.f (I++O)) S):=by
 let ua:=AQ (Zx8 ps.f<|I++O) hS;show(SY (IG<|Ib _ _ _ _)<|VQ.mpr {hI.nodup,IG ua,λa ha b hb e=>?_}).mpr λz=>?_
 .have:=(WT.S<|AO hS hb).2
  ext
 .rw[WY,Xn];exists λh=>h.2,λh=>{?_,h};rcases h with q|q
  .show hI.all z q
  .show(WT.S<|AO hS q).1
theorem ZT8(g0:ZA n ps)(hI:IsSet ps.f I)(hf:∀i j,i<n.j->j<n.j->(f i=f j↔Conn (XR ps I) i j))(hk:∀i,i<n.j->f i<k)(hg:∀a,a<k->g a<n.j/\f (g a)=a)(hS:IsSet (XE ps.f (I++O)).f S):
  ((∀i j,i<n.j->j<n.j->Conn (XR ps<|Ri ps.f I (XE ps.f<|I++O) S) i j)↔∀a b,a<k->b<k->Conn (XR (SK f ps<|XE ps.f<|I++O) S) a b):=by
 let hp:=kg (O:=O) hI hS;let hA:=ZQ (ns:=I) g0 hI.all
 let hB:=ZQ (ns:=Qq (XE ps.f<|I++O) S) g0 λz hz=>(WT.S<|AO hS hz).1;let e:XR ps (I++Qq (XE ps.f<|I++O) S)=XR ps I++XR ps (Qq (XE ps.f<|I++O) S):=by unfold XR;show YE
 rw[kh hS,<-ZR8 hf hk hg hA hB,<-e];exists λc i j hi hj=>(KU λz=>hp.mem_iff).S (c i j hi hj),λc i j hi hj=>(KU λz=>hp.mem_iff).mpr (c i j hi hj)
def AN(hI:IsSet ps.f I)(hT:IsSet ps.f T)(h1:∀z∈I,z∈T)(h2:∀z∈O,z∉T):∃S,IsSet (XE ps.f (I++O)).f S/\T=Ri ps.f I (XE ps.f (I++O)) S:=by
 exists (Vu (XE ps.f<|I++O).f).filter λt=>decide<|(XE ps.f<|I++O).R t.j 0∈T,XW.mpr {λt ht=>Xh.S (Ye.S ht).1,(XW.S<|va _).2.filter _},Ir (XW.S hT).2 (Ib _ _ _ _) λz=>?_;rw[WY];constructor
 .intro hz;exists hT.all z hz,?_;cases c:z∈I
  .show .inl c
  .right;let hR:z∈XE ps.f (I++O):=WT.mpr ⟨hT.all z hz,λq=>by
    ext⟩
   let(t,ht):=YG hR;let e:(XE ps.f<|I++O).R ((t:A0)).j 0=z:=by rw[VP];show Wf ht
   show YC.mpr {(t:A0),Ye.mpr {Xh.mpr {by ext,D},YA<|by rwa[e]},e}
 .rintro⟨_,q|q⟩
  .show h1 z q
  .let⟨t,ht,rfl⟩:=YC.S q;grind
def kf{S':Ac}(hS:IsSet (XE ps.f (I++O)).f S)(Ug:IsSet (XE ps.f (I++O)).f S')(e:Ri ps.f I (XE ps.f (I++O)) S=Ri ps.f I (XE ps.f (I++O)) S'):S=S':=by
 let key:∀{A AP:Ac},IsSet (XE ps.f<|I++O).f A->IsSet (XE ps.f<|I++O).f AP->Ri ps.f I (XE ps.f<|I++O) A=Ri ps.f I (XE ps.f<|I++O) AP->∀t,t∈A->t∈AP:=λ{A AP} hA hB e t ht=>by
  let h1:=hA.all t ht;let hm:(XE ps.f<|I++O).R t.j 0∈Qq (XE ps.f<|I++O) A:=YC.mpr ⟨t,ht,Z⟩
  let hR:=WT.S (AO hA hm);let h2:(XE ps.f<|I++O).R t.j 0∈Ri ps.f I (XE ps.f<|I++O) AP:=e▸WY.mpr {hR.1,.inr hm}
  rcases(WY.S h2).2 with q|q
  .show absurd (Yl _ q) hR.2
  .let⟨u,hu,e2⟩:=YC.S q;let h3:=hB.all u hu
   rw[Yb,Yb,Xv (by ext),Xv (by ext)]at e2
   have:=FR (IG<|Zx8 ps.f<|I++O) (i:=u.j) (j:=t.j) (Xv<|by ext) (by ext)
   grind
 show Ir (XW.S hS).2 (XW.S Ug).2 λt=>{key hS Ug e t,key Ug hS e.symm t}
def uz(f:A5->A5)(ps:Aa)(R:Ac):(SK f ps R).f=R.f:=Xr ..
def j9(g0:ZA n ps)(hI:IsSet ps.f I)(UK:∀z∈I,z∉O)(hf:∀i j,i<n.j->j<n.j->(f i=f j↔Conn (XR ps I) i j))(hk:∀i,i<n.j->f i<k)(hg:∀a,a<k->g a<n.j/\f (g a)=a)(hn:(k:A0)+I⁻¹=n)(h:TC k (SK f ps (XE ps.f (I++O))) c):PC n ps I O c:=by
 let(L,h1,h2,h3):=h;let hs:∀l∈L,IsSet (XE ps.f<|I++O).f l:=λl hl=>uz f ps _▸((h2 l).S hl).1
 let len:∀{S:Ac},IsSet (XE ps.f<|I++O).f S->(Ri ps.f I (XE ps.f<|I++O) S).f=I.f+S.f:=λ{S} hS=>by rw[(kg hI hS).length_eq,Xa];unfold Qq;rw[Xr]
 let iff:∀{S:Ac},IsSet (XE ps.f<|I++O).f S->(Zn n ps (Ri ps.f I (XE ps.f<|I++O) S)↔Zn k (SK f ps<|XE ps.f<|I++O) S):=λ{S} hS=>by
  let l:=len hS;let q:=ZT8 (O:=O) g0 hI hf hk hg hS
  constructor
  .rintro⟨a1,a2,a3⟩;exists by rw[uz];show hS,J,λa b ha hb=>q.S a3 a b (by ext)<|by ext
  .rintro⟨a1,a2,a3⟩;exists XW.mpr {λz hz=>(WY.S hz).1,Ib _ _ _ _},J,q.mpr λa b ha hb=>a3 a b (by ext)<|by ext
 show{L.G<|Ri ps.f I<|XE ps.f<|I++O,Nn.mpr<|h1.imp_of_mem λ{a b} ha hb Vl e=>Vl<|kf (hs a ha) (hs b hb) e,λT=>?_,by ext};rw[YC];constructor
 .rintro⟨S,hS,rfl⟩;exists (iff<|hs S hS).mpr ((h2 S).S hS),λz hz=>WY.mpr {hI.all z hz,.inl hz},λz hz q=>?_;rcases(WY.S q).2 with q|q
  .show UK z q hz
  .show(WT.S<|AO (hs S hS) q).2 (Yc _ hz)
 .rintro⟨hT,q1,q2⟩;let(S,hS,rfl):=AN hI hT.1 q1 q2;exists S,(h2 S).mpr ((iff hS).S hT),Z
def ZU8(g0:ZA n ps)(gone:Ac)(hk:∀i,i<n.j->f i<k)(k1:1<=k)(kn:k<=n.j):ZA k (SK f ps (XE ps.f gone)):=by
 let(g1,g2,g3,g4):=g0;exists J,J,?_,λp hp=>?_
 .rw[uz]
  have:(XE ps.f gone).f<=(Vu ps.f).f:=YW ..
  have:=(va ps.f).len
  lia
 .let⟨z,hz,rfl⟩:=YC.S hp;let hz1:=(WT.S hz).1
  obtain⟨q,hq⟩:∃q,ps[z.j]?=⇑q:={_,Xv<|by ext};let ee:ZB ps z=(q.1.j,q.2.j):=by unfold ZB;rw[Wf hq]
  grind
def j8(g0:ZA n ps)(hI:IsSet ps.f I)(hf:∀i j,i<n.j->j<n.j->(f i=f j↔Conn (XR ps I) i j))(hk:∀i,i<n.j->f i<k)(hg:∀a,a<k->g a<n.j/\f (g a)=a)(k1:1<=k)(kn:k<=n.j)(hn:n<(k:A0)+I⁻¹):PC n ps I O 0:=by
 exists [],.nil,λT=>{λh=>(by cases h),λzz=>?_},Z;let(hT,q1,q2):=zz;let(S,hS,rfl):=AN hI hT.1 q1 q2;let q:=(ZT8 (O:=O) g0 hI hf hk hg hS).S hT.2.2
 let gg:=ZU8 (f:=f) g0 (I++O) hk k1 kn;let l:=lb gg (by rwa[uz]) λa b ha hb=>q a b (by ext) (by ext)
 let l2:=hT.2.1;rw[(kg hI hS).length_eq,Xa]at l2;unfold Qq at l2;grind
end
def UC:(Ac->A0->A5)
 |[],_=>0
 |x::l,z=>if x=z then 0 else UC l z+1
def Ia:∀{l:Ac}{z:A0},z∈l->l[UC l z]?=⇑z
 |x::l,z,h=>by
  unfold UC;cases c:x=z
  .rw[Yk c,c];rfl
  .rw[Yh c];show Ia ((Yo.S h).resolve_left λe=>c e.symm)
def j7(h:z∈l):UC l z<l.f:=(Xx.S<|Ia h).1
def AM(hz:z∈l)(hy:y∈l):UC l z=UC l y↔z=y:=by
 show{λe=>?_,λe=>by rw[e]};let h1:=Ia hz
 rw[e,Ia hy]at h1;lia
def j6(hn:l.Nodup){i:A5}{z:A0}(h:l[i]?=⇑z):UC l z=i:=FR hn (Ia<|Xo h) h
def Kw(h:i<M.f):mk M i∈M:=by
 ext
section
variable{N:A5}{es:A6 (A5×A5)}{F:Ac}
def j5(h:InN N es)(hF:F.H (·<·))(hm:∀z,z∈F↔z∈Xu N es):
  ∃g:A5->A5,(∀i j,i<N->j<N->(UC F (mk (Xu N es) i)=UC F (mk (Xu N es) j)↔Conn es i j))/\(∀i,i<N->UC F (mk (Xu N es) i)<F.f)/\∀a,a<F.f->g a<N/\UC F (mk (Xu N es)<|g a)=a:=by
 let hl:=ZF N es;let j4:∀i,i<N->mk (Xu N es) i∈F:=λi hi=>(hm _).mpr (Kw<|by ext)
 let ex:∀a,∃i,a<F.f->i<N/\UC F (mk (Xu N es) i)=a:=λa=>by
  cases c:a<F.f
  .let q:=(hm _).S (JS c);let(i,hi):=YG q;let Wu:=(Xx.S hi).1
   exists i,λ_=>{by ext,?_};let e:mk (Xu N es) i=F[a]:=by unfold mk;show Wf hi
   rw[e];show j6 (IG hF) (Xv c)
  .exists 0,λh=>absurd h c
 exists λa=>Classical.choose<|ex a,λi j hi hj=>?_,λi hi=>j7<|j4 i hi,λa ha=>Classical.choose_spec (ex a) ha;rw[AM (j4 i hi) (j4 j hj)];show QC h hi hj
def j3:∀i,∃p,p<=i/\We M p=A9/\mk M p=mk M i:=by
 intro i
 induction i using Nat.strongRecOn with
 |_ i ih=>
  cases c:We M i=A9
  .grind
  .obtain⟨j,hj,e⟩:∃j,j<i/\mk M j=mk M i:=Yy λno=>c (XF.mpr λj hj e=>no ⟨j,hj,e⟩);grind
def AL(hF:F.H (·<·))(hm:∀z,z∈F↔z∈M):F.f=cnt M:=by
 let e:F.Perm ((Uh M M.f).G (mk M)):=by
  show(SY (IG hF) ?_).mpr λz=>?_
  .show Nn.mpr ?_;show(ES.filter<|We M).imp_of_mem λ{a b} ha hb Vl=>?_;show XF.S (Ye.S hb).2 a Vl
  .rw[hm,YC];constructor
   .intro hz;let(i,hi):=YG hz;let Wu:=(Xx.S hi).1
    let(p,h1,h2,h3):=j3 (M:=M) i;exists p,Ye.mpr {YX.mpr J,h2},h3.l ?_;show Wf hi
   .rintro⟨p,hp,rfl⟩;show Kw (YX.S (Ye.S hp).1)
 rw[e.length_eq,Xr];rfl
def Zk5(h:InN N es)(hN:1<=N)(hF:F.H (·<·))(hm:∀z,z∈F↔z∈Xu N es):1<=F.f/\F.f<=N/\N<=F.f+es.f:=by
 let e:=AL hF hm;let hl:=ZF N es
 let e2:=mQ (vo (n:=N) (es:=es) h);let e3:=vd es h
 let e4:=nM (M:=Xu N es) (by ext);let e5:cnt (Xu N es)<=N:=by
  unfold cnt Uh;show Yq (YW ..) ?_;rw[Nm]
  ext
 ext
end
def FD(A AP:Ac)(t:A0):(Prop):=t∈A/\t∉AP/\∀s,s<t->(s∈A↔s∈AP)
def j0:∀{A AP:Ac},A.H (·<·)->AP.H (·<·)->A.f=AP.f->(HT.lexLt A AP=A9↔∃t,FD A AP t)
 |[],[],_,_,_=>{λh=>(by cases h),λzz=>by let(t,h,_):=zz;show(by cases h)}
 |x::A,y::AP,hA,hB,hl=>by
  let(a1,a2):=YS.S hA;let(b1,b2):=YS.S hB;let Pb:A.f=AP.f:=Nf hl
  change(if x=y then HT.lexLt A AP else decide (x<y))=A9↔_;cases c:x=y
  .subst c;rw[Yk Z,j0 a2 b2 Pb];constructor
   .rintro⟨t,h1,h2,h3⟩;exists t,Yf _ h1,λq=>?_,λs hs=>?_
    .grind
    ext
   .rintro⟨t,h1,h2,h3⟩;let tx:t≠x:=λe=>h2 (e▸Ya)
    let AK:=(Yo.S h1).resolve_left tx;exists t,AK,λq=>h2<|Yf _ q,λs hs=>?_;grind
  .constructor
   .intro h;exists x,Ya,λq=>?_,λs hs=>{λq=>?_,λq=>?_}
    .grind
    .grind
    grind
   .rintro⟨t,h1,h2,h3⟩;grind
def ZA7{α:Type}[DecidableEq α]:∀{l m:A6 α},l.Nodup->(∀x∈l,x∈m)->l.f<=m.f
 |[],_,_,_=>Qd _
 |x::l,m,hn,hs=>by
  let(h1,h2):=Qb.S hn
  have:=ZA7 (m:=m.erase x) h2 λy hy=>(List.mem_erase_of_ne λe=>h1<|by ext).mpr (hs y<|Yf _ hy)
  grind
def jZ{s rest:TS}{rj:Ends}{σ:L2.St}{H:Hp}(P:L2.St->Hp->Prop)(h1:∀σ' H',P σ' H'->rest rj σ' H')(h2:∀K:L2.St->Hp->Prop,(∀σ' H',P σ' H'->K σ' H')->s {rj with nx:=K} σ H):MX s rest rj σ H:=h2 _ h1
def Zx6{m:A5}(hm:m<=30):∀k,(TU (m:A0) k).f<=30^k
 |0=>XG 1
 |k+1=>by
  let h1:=Mq (m:=m) (TU (m:A0) k) λs hs=>(WV.S hs).2;let h2:=Zx6 hm k
  let h3:m*(TU (m:A0) k).f<=30*30^k:=Ni hm h2;rw[Nat.pow_succ,EC];show Yq h1 h3
def jY(g:ZA n ps)(h:TC n ps c):c<10^20:=by
 let(L,hn,hm,rfl):=h;let(g1,g2,g3,_):=g;show EO (m:=30^13) (Yq (ZA7 (m:=TU ps⁻¹ (n-1).j) hn λx hx=>WV.mpr {?_,((hm x).S hx).1})<|Yq (Zx6 rF _)<|wD Ep<|by ext) Ep
 have:=((hm x).S hx).2.1
 lia
def jX(g:ZA n ps):∃L:Ab,(∀l,l∈L↔Zn n ps l)/\L.H UM:={Th n.j ps (n-1).j,λ_=>mN g,(mX _ _).filter _}
def ev(b:A0):(Ac->A0)
 |[]=>0
 |d::l=>d+b*ev b l
def subs:(A5->Ab)
 |0=>[[]]
 |m+1=>subs m++(subs m).G (·++[(m:A0)])
def VH:∀{m:A5}{F:Ac},F∈subs m↔IsSet m F
 |0,F=>by
  change F∈[[]]↔_;rw[Xd];constructor
  .rintro rfl;show IsSet.nil _
  .intro h;show YV.S (Nat.le_zero.S h.len)
 |m+1,F=>by
  change F∈subs m++(subs m).G (·++[(m:A0)])↔_;rw[Xn,YC,VH];constructor
  .rintro(h|⟨G,h,rfl⟩)
   .show h.up
   .show(VH.S h).snoc
  .intro h;rcases Im h with c|⟨G,e,c⟩
   .show .inl c
   .show .inr {G,VH.mpr c,e.symm}
abbrev HY(ls:Ac)(z:A0):A0:=ls.R z.j 0
def lwS(ls:Ac)(x:A0):(Ac):=(Vu ls.f).filter λz=>decide (HY ls z<x)
def mA(N:A5)(ps:Aa)(ls:Ac)(x:A0):(Ac):=Xu N (XR ps<|lwS ls x)
def lvl(ls:Ac)(x:A0)(i:A5):(Ac):=(Vu i).filter λz=>decide (HY ls z=x)
def AJ(ls T:Ac):(A0):=(T.G<|HY ls).sum
section
variable{n:A0}{ps:Aa}{T:Ac}(g:ZA n ps)
include g
def jW(hT:Zn n ps T)(hW:Zn n ps W)(h:∀z∈T,z∈W):T.Perm W:=by
 have:=Zu3 (l:=W) hT.1.nodup (by have:=hT.2.1;have:=hW.2.1;lia) h
 show this.symm
end
def Zm6(hT:Zn n ps T)(hW:Zn n ps W):(T.filter λy=>decide (y∉W)).f=(W.filter λy=>decide (y∉T)).f:=by
 let e1:=ai (λy=>decide<|y∈W) T;let e2:=ai (λy=>decide<|y∈T) W
 let p:(T.filter λy=>decide<|y∈W).Perm (W.filter λy=>decide<|y∈T):=(SY (hT.1.nodup.filter _)<|hW.1.nodup.filter _).mpr λy=>by rw[Ye,Ye,VR,VR];show And.comm
 let f1:(T.filter λy=>decide<|y∉W)=T.filter λy=>!decide (y∈W):=Ls λy _=>Eo;let f2:(W.filter λy=>decide<|y∉T)=W.filter λy=>!decide (y∈T):=Ls λy _=>Eo
 have:=p.length_eq
 let h1:=hT.2.1;let h2:=hW.2.1
 rw[f1,f2];lia
end My
namespace HT
open PySem PyProof.Rows
section
def ltP(x y:A0×Ac):(B3):=decide (x.1<y.1)||(decide (x.1=y.1)&&lexLt x.2 y.2)
end
end HT
namespace My
open PySem L2
section
variable{one d0 d1:A0}{other:Option A0}
def bO(one:A0)(other:Option A0)(d0 d1 y:A0):(A0):=if y=one then d0 else if some y=other then d1 else y
end
end My
namespace L2
open PySem PySem.Spec PyProof.Rows
def TL(l:A6 C0):(A6 V):=l.G V.str
def Zc4:∀{l:A6 C0}{us:Ag},Vals (TL l) us->∃k:A6 (C0×Tok),us=strValues k/\k.G (λx=>x.fst)=l
 |[],_,.nil=>{[],Z,Z}
 |x::l,_,.cons r t=>by let(tk,rfl):=r;let(k,rfl,h):=Zc4 (l:=l) t;exists (x,tk)::k,Z,by ext
section
variable{X:Cx}
def jV(K:Ad):(V->A6 V->Hp->VK->Prop):=λx vs H Q=>∃sep a l,x=.str sep/\vs=[.ref a]/\SqL K H a (TL l)/\JoinOk sep l=A9/\Q (.str<|sep.join l) H
def uw(K:Ad)(h:X.K=K:=by rfl):OV X "str.join" (jV K):=by subst h;intro pins s σ H x vs v us Q I rx rv h;let(sep,a,l,rfl,rfl,hq,hj,q):=h;let(tk,rfl):=rx;let(u,rfl,ru):=rv.one;cases ru;let(XX,r,pl,hz):=I.list hq;let(k,rfl,hk):=Zc4 r;show PySem.SC.join pl.isList hk hj λt' n=>{.str _,H,I.tok n,⟨t',Z⟩,?_};rwa[show Txt.join sep l=sep.join l from PySem.StrLaws.glued_eq_join sep l]
def ZY:Vv X (.type "str") (λxs H Q=>∃i:A0,xs=[.int i]/\-(10^70)<i/\i<10^70/\Q (.str (Str.M (toString i))) H):=by intro pins s σ H xs us Q I r h;let(i,rfl,h1,h2,q):=h;show Zt5 pins s σ H _ us Q I r {i,Z,ZI9 h1 h2,q}
end
def ZD5:∀l n,Vals (TL l) (strsFrom n l)
 |[],_=>.nil
 |_::l,n=>.cons ⟨n,Z⟩ (ZD5 l<|n+1)
section
variable{X:Cx}
def jU:(V->A6 V->Hp->VK->Prop):=λx vs H Q=>∃z y,x=.str z/\vs=[.str y]/\(y.f == 0)=B0/\z.f<=sizeLine/\(Txt.split z y).f<=sizeLine/\∀p,H p=A8->Q ↑p (upd H p<|.lst<|TL<|Txt.split z y)
def jT:OV X "str.split" jU:=by
 intro pins s σ H x vs v us Q I rx rv h;let(z,y,rfl,rfl,hy,hz,hl,q):=h;let(t,rfl):=rx;let(u,rfl,ru):=rv.one;let(u',rfl):=ru;let self:Txt.split z y=[z]->EP X pins σ Q (.ref (~~~s)) {s with heap:=s.C.push {cls:=.type "list",data:=.seq #[.str z t]} }:=λe=>by rw[e]at q;exists .ref (~~~s),_,I.laid (t':=s.toks) (o:=.lst<|TL [z]) (λb ob q=>Xf _ q) (XG _) ?_,Z,q _<|I.hok.fresh<|XG _;exists by rw[e]at hl;show hl,[.str z t],0,.cons ⟨t,Z⟩ .nil,Yj _ Z
 cases c1:(decide (z.f<y.f)||decide (Builtin.Str.strKind z<Builtin.Str.strKind y))=A9
 .let e:Txt.split z y=[z]:=by unfold Txt.split;rw[Yk c1]
  show Pg GB (Gg _ _ _) sS (JH _ _) (meets_str_split_cannot_occur z y t u' c1) (self e)
 .let c1':=sr.mpr c1;cases c2:(Builtin.Str.occurrences z y 0 z.f<|z.f+1).isEmpty=A9
  .let e:Txt.split z y=[z]:=by unfold Txt.split;rw[Yh c1,Yk c2]
   show Pg GB (Gg _ _ _) sS (JH _ _) (meets_str_split_not_found z y t u' c1' hy c2) (self e)
  .let e:Txt.split z y=Builtin.Str.partsBetween z (Builtin.Str.occurrences z y 0 z.f<|z.f+1) y.f:=by unfold Txt.split;rw[Yh c1,Yh c2]
   rw[e]at hl q;show Pg GB (Gg _ _ _) sS (JH _ _) (meets_str_split_sep z y t u' c1' hy (sr.mpr c2) hz hl) ?_;exists .ref (~~~s),_,I.laid (o:=.lst<|TL<|Builtin.Str.partsBetween z (Builtin.Str.occurrences z y 0 z.f<|z.f+1) y.f) (λb ob q=>Xf _ q) (XG _) ?_,Z,q _<|I.hok.fresh<|XG _;exists by unfold TL;ext,_,0,ZD5 _ _,Yj _ Z
def jS:(V->A6 V->Hp->VK->Prop):=λx vs H Q=>∃z y,x=.str z/\vs=[.str y]/\Q (.bl<|Txt.startswith z y) H
def Yz9:OV X "str.startswith" jS:=by intro pins s σ H x vs v us Q I rx rv h;let(z,y,rfl,rfl,q):=h;let(t,rfl):=rx;let(u,rfl,ru):=rv.one;let(u',rfl):=ru;show PySem.SC.startswith {.bl _,H,I,Z,q}
def jR:Vv X (.type "int") (λxs H Q=>∃z n,xs=[.str z]/\intText? z=⇑n/\z.f<=640/\Q (.int n) H):=by intro pins s σ H xs us Q I r h;let(z,n,rfl,hz,hl,q):=h;let(u,rfl,ru):=Ur r;let(t,rfl):=ru;show PySem.W.KIN.call_text hz hl {.int n,H,I.tok _,{_,Z},q}
def jQ(z:C0):(It):={λi _=>i<z.cps.o,λi H x H'=>H'=H/\∃c,z.cps[i]?=⇑c/\x=.str {#[c]},λi _=>z.cps.o<=i}
def Zc9{P:Program}{w:World}{K:Ad}{tg:B5}(z:C0)(t:Tok)(it:A7):Turn P w K tg (jQ z) [it] it (λi h=>h.IsStrIter it "str_ascii_iterator" z t i) where
 mem:=Eo
 obj:=λi h st b hb=>by
  let e:b=it:=by simpa using hb
  subst e;let(o,e,c,d):=st;exists o,e,λv z=>by ext
 keep:=λi h h' st k=>by let(o,e,c,d):=st;exists o,k it Eo o e,c,d
 item:=by
  intro X hP hw hK hc i pins s σ H E I hf st hg;obtain⟨c,Wi⟩:∃c,z.cps[i]?=⇑c:={_,TK hg};let(f0,f1,f2,f3,f4,f5):=hf it Eo;show wpAny_pyNext_ascii_item st Wi λh' XS sb=>?_;let I1:Inv X pins σ H {s with heap:=h',toks:=s.toks+1}:=I.turned (λb o hb e=>(sb.2 b hb).l e) f0 f1 f3 f4 f5
  let(o,e,c',d):=id XS;exists _,Z,Rx (s:={s with heap:=h',toks:=s.toks+1}) e c' d Ep {.str {#[c]},H,I1,{_,Z},⟨Z,c,Wi,Z⟩,XS,λb hb=>(hf b hb).1}
 done:=by intro X hP hw hK hc i pins s σ H E I hf st hg;let(f0,f1,f2,f3,f4,f5):=hf it Eo;show wpAny_pyNext_ascii_end (I.ok.hd hc) st (cx hg) λh' eb=>{Z,I.turned (t':=s.toks) (λb o hb e=>eb b o hb e) f0 f1 f3 f4 f5}
 self:=λ_ _ _ _ _ st h=>wpAny_pyIter_striter_ascii st h
def AI(tl:TE):(TI):=λσ H R=>tl σ H λx H1=>∃z:C0,x=.str z/\(z.cps.all λc=>decide<|c<128)=A9/\R (jQ z) H1
def jP{l tg:B5}{tl:TE}(hl:PE X l tl):PI X tg l (AI tl):=by
 intro pins s σ H R I h;show thn (hl pins s σ H _ I h) λv s1 XB=>?_;let(x,H1,I1,r1,q1):=XB;let(z,e,ha,q):=q1;subst e;let(t,rfl):=r1;show wpAny_pyIter_ascii ha ?_;exists (~~~s1),[(~~~s1)],_,_,H1,Z,I1.kept (t':=s1.toks) λb o e=>Xf _ e,Zc9 z t _,{_,Yj _ Z,Z,Z},λb hb=>?_,q;let e:b=(~~~s1):=by simpa using hb
 subst e;show I1.fpOk (XG _) (I1.hok.fresh<|XG _)
def jO:(V->Option A0->Option A0->Hp->VK->Prop):=λx lo hi H Q=>∃z:C0,x=.str z/\(StrLaws.sliceText z lo hi).f<=sizeLine/\Q (.str<|StrLaws.sliceText z lo hi) H
def AH(h:IsPart v o):∃l:Option (A0×Tok),v=partValue l/\l.G (λx=>x.fst)=o:=by
 cases h with
 |none=>exists none,Z,Z
 |int i t=>exists some (i,t),Z,Z
def jN:vD X jO:=by
 intro pins s σ H x v vl vu lo hi sl Q I rx hs pl pu h;let(z,rfl,hz,q):=h;let(t,rfl):=rx;exists "str",_,slot_str_getitem.U,Gg s z t,?_;let(l,rfl,e1):=AH pl;let(u,rfl,e2):=AH pu;subst e1 e2;show wpAny_getItem_str_slice (l:=l) (u:=u) (st:=A8) hs rC ?_;unfold StrLaws.sliceText at hz q;change Made.post (if (1 == 1&&(Builtin.Str.strSliceIndices (l.G λx=>x.fst) (u.G λx=>x.fst) 1 z.f).f == z.f)=A9 then _ else _) _ s
 split at hz
 .rename_i c;rw[Yk c]at q;rw[Yk c];exists .str z,H,I,⟨t,Z⟩,q
 .rename_i c;rw[Yh c]at q;rw[Yh c];exists hz,.str _,H,I.tok _,{_,Z},q
end
end L2
namespace My
open PySem L2
section
variable{g:TG}{tt:TT}{te:TE}{o:A5}{fr:A6 A5}{σ:L2.St}{H:Hp}{Q:VK}
def AG(Pv:A5->A6 V->Hp->Prop)(h0:Pv 0 [] H)(hz:z.cps.o<sizeLine)(hl:∀i ys H,i<=z.cps.o->Pv i ys H->ys.f<=i)
  (hs:∀i c ys H,z.cps[i]?=⇑c->Pv i ys H->IT Pv g tt te o fr σ i (.str {#[c]}) ys H)(hd:∀ys H,Pv z.cps.o ys H->∀p,H p=A8->Q ↑p (upd H p<|.lst ys)):MJ (jQ z) g tt te o fr σ H Q:=by
 exists λi m ys H=>m=z.cps.o-i/\i<=z.cps.o/\Pv i ys H,{z.cps.o,Eo,Qd _,h0},?_;rintro i m ys H ⟨rfl,hi,p⟩;let hy:=hl i ys H hi p
 cases Xj:i<z.cps.o
 .show .inr {Xj,J,λx H' zz=>?_};let(e,c,hc,y):=zz;subst e;subst y;show hs i c ys _ hc p (λj ys H=>∃m',m'<z.cps.o-i/\m'=z.cps.o-j/\j<=z.cps.o/\Pv j ys H) λys H p'=>{z.cps.o-(i+1),D,Z,Xj,p'}
 .let e:i=z.cps.o:=J;subst e;show .inl {XG _,J,hd ys H p}
end
def nT(i:A0):(C0):=Str.M (toString i)
def dg(m:A5):(A6 A5):=(Nat.toDigits 10 m).G Char.j
def PF(i:A0):(A6 A5):=if i<0 then 45::dg i.natAbs else dg i.natAbs
def Kv(i:A0):(nT i).cps.m=PF i:=by
 unfold nT PF;cases i with
 |ofNat m=>
  show W.KIN.signs_num m
 |negSucc m=>
  rw[Yk (Int.negSucc_lt_zero m)];let e:(Str.M<|toString ((m+1:A5):A0)).cps.m=dg (m+1):=W.KIN.signs_num (m+1)
  rw[Str.ofString_eq_toList]at e ⊢;let e2:(toString<|Int.negSucc m).m='-'::(toString ((m+1:A5):A0)).m:=by change("-"++toString (m+1)).m='-'::(toString<|m+1).m;rw[String.toList_append];rfl
  ext
def dgc{d:A5}(h:d<10):(Nat.digitChar d).j=48+d:=(by decide:∀d<10,(Nat.digitChar d).j=48+d) d h
def Oy(h:m<10):dg m=[48+m]:=by unfold dg;rw[Nat.toDigits_of_lt_base h,List.map_singleton,dgc h]
def Ox(h:10<=m):dg m=dg (m/10)++[48+m%10]:=by unfold dg;rw[Nat.toDigits_of_base_le Ep h,YE,List.map_singleton,dgc (Nat.mod_lt _ Ep)]
def Qp(m:A5):NumText.AllDigits (dg m):=by
 induction m using Nat.strongRecOn with
 |ind m ih=>
  intro c hc;cases h:m<10
  .rw[Oy h]at hc;grind
  .rw[Ox (by ext)]at hc;rcases Xn.S hc with q|q
   .show ih (m/10) J c q
   grind
def Mb(m:A5):dg m≠[]:=by
 cases h:m<10
 .rw[Oy h];simp
 .rw[Ox (by ext)];simp
def AF(m:A5):NumText.digitsVal (dg m)=m:=by
 induction m using Nat.strongRecOn with
 |ind m ih=>
  cases h:m<10
  .rw[Oy h];change 0*10+(48+m-48)=m
   ext
  .rw[Ox J,sH,ih (m/10) D];lia
def AE{m k:A5}(hk:1<=k)(h:m<10^k):(dg m).f<=k:=by unfold dg;rw[Xr];show toDigits_len_pow Ep hk h
def jM(h:0<m):∃c r,dg m=c::r/\c≠48:=by
 induction m using Nat.strongRecOn with
 |ind m ih=>
  cases c:m<10
  .exists 48+m,[],Oy c,J
  .let⟨a,r,e,ne⟩:=ih (m/10) J (by ext);exists a,r++[48+m%10],by rw[Ox rF,e];rfl,ne
def Ku(x:C0):x.f=x.cps.m.f:=by
 change x.cps.o=_
 ext
def uu{x y:C0}(h:x.cps.m=y.cps.m):x=y:=Str.ext' (JC.S h)
def jL{k:A5}(hk:1<=k)(h1:-(10^k)<i)(h2:i<10^k):(PF i).f<=k+1:=by
 have:=AE hk (m:=i.natAbs) D
 unfold PF;grind
def HX{k:A5}(hk:1<=k)(h1:-(10^k)<i)(h2:i<10^k):(nT i).f<=k+1:=by rw[Ku,Kv];show jL hk h1 h2
def jK{k:A5}(hk:1<=k)(h4:k<=4000)(h1:-(10^k)<i)(h2:i<10^k):intText? (nT i)=⇑i:=by
 let hl:=HX hk h1 h2;let e:=Kv i
 unfold PF at e;split at e
 .rw[intText_neg e (Qp _) (Mb _) J,AF];grind
 .rw[intText_digits (by rw[e];show Qp _) (by rw[e];show Mb _) D,e,AF];lia
def jJ{k:A5}(hk:1<=k)(h4:k<=4000)(h1:-(10^k)<i)(h2:i<10^k)(h3:-(10^k)<j)(h5:j<10^k)(e:nT i=nT j):i=j:=by let a:=jK hk h4 h1 h2;rw[e,jK hk h4 h3 h5]at a;lia
def WS(cs:A6 A5):(A6 A5):=if cs.head?=some 45 then cs.tail else cs
def Kt(cs:A6 A5):(B3):=decide (1<=(WS cs).f/\(WS cs).f<=60/\(∀c∈WS cs,48<=c/\c<=57)/\(cs=[48]\/(WS cs).head?≠some 48))
def jI(m:A5):(dg m).head?≠some 45:=λh=>by
 cases e:dg m with
 |nil=>show Mb m e
 |cons c r=>
  rw[e]at h
  have:=Qp m c (by ext)
  ext
def jH(i:A0):WS (PF i)=dg i.natAbs:=by
 unfold WS PF;split
 .rfl
 .rw[Yh (jI _)]
def AD(h1:-(10^60)<i)(h2:i<10^60):Kt (PF i)=A9:=by
 show YA ?_;rw[jH];exists wA.mpr<|Mb _,AE (k:=60) Ep J,Qp _,?_;cases c:i=0
 .subst c;show .inl rfl
 .let⟨a,r,e,ne⟩:=jM (m:=i.natAbs) (by ext)
  ext
def jn(c:A5):(A6 (A6 A5)->A6 A5)
 |[]=>[]
 |[a]=>a
 |a::b::l=>a++c::jn c (b::l)
def AB(c:A5):∀l:A6 C0,(Str.join {#[c]} l).cps.m=jn c (l.G λx=>x.cps.m)
 |[]=>rfl
 |[a]=>rfl
 |a::b::l=>by
  let ih:=AB c (b::l);change((a++{#[c]}++Str.join {#[c]} (b::l)):C0).cps.m=a.cps.m++c::jn c ((b::l).G λx=>x.cps.m)
  rw[<-ih,Str.cps_append,Str.cps_append,Yr,Yr,YT];rfl
def ZC4{c:A5}:∀{a b x y:A6 A5},c∉a->c∉b->a++c::x=b++c::y->a=b/\x=y
 |[],[],_,_,_,_,e=>{Z,(JM e).2}
 |[],b::bs,_,_,_,hb,e=>absurd (Ya) ((JM e).1▸hb)
 |a::as,[],_,_,ha,_,e=>absurd (Ya) ((JM e).1▸ha)
 |a::as,b::bs,x,y,ha,hb,e=>by
  let(e1,e2):=JM e;let(h1,h2):=ZC4 (a:=as) (b:=bs) (λh=>ha<|Yf _ h) (λh=>hb<|Yf _ h) e2
  ext
def AA:∀{A AP:A6 (A6 A5)},A≠[]->AP≠[]->(∀a∈A,c∉a)->(∀b∈AP,c∉b)->jn c A=jn c AP->A=AP
 |[],_,h,_,_,_,_=>absurd Z h
 |_,[],_,h,_,_,_=>absurd Z h
 |[a],[b],_,_,_,_,e=>by let e:a=b:=e;rw[e]
 |[a],b::b'::AP,_,_,ha,_,e=>by
  let e:a=b++c::jn c (b'::AP):=e
  ext
 |a::a'::A,[b],_,_,_,hb,e=>by let e:a++c::jn c (a'::A)=b:=e;show absurd D (hb b Ya)
 |a::a'::A,b::b'::AP,_,_,ha,hb,e=>by let(e1,e2):=ZC4 (ha a Ya) (hb b Ya) (show a++c::jn c (a'::A)=b++c::jn c (b'::AP) from e);rw[e1,AA (A:=a'::A) (AP:=b'::AP) Eo Eo (λx hx=>ha x<|Yf _ hx) (λx hx=>hb x<|Yf _ hx) e2]
def jG(x y:C0):Txt.split x y≠[]:=by
 unfold Txt.split;split
 .simp
 .split
  .simp
  .rw[StrLaws.partsBetween_eq];let(p,r,e):=StrLaws.partsFrom_ne x y.f 0 (Builtin.Str.occurrences x y 0 x.f<|x.f+1)
   ext
def ur{c:A5}{l:A6 C0}(hl:l≠[])(hf:∀p∈l,c∉p.cps.m):Txt.split (Str.join {#[c]} l) {#[c]}=l:=by
 let e:=StrLaws.join_split (Str.join {#[c]} l) {#[c]};let e2:=YI (λx:C0=>x.cps.m) e
 rw[AB,AB]at e2;let m:=AA (by simpa using jG _ _) (by ext) (λa ha=>by
  let(p,hp,rfl):=YC.S ha;show StrLaws.split_free _ c p hp) (λa ha=>by
  grind) e2
 show(List.map_inj_right λx y h=>uu h).S m
def Qo{mg:Af}{z:C0}{v:B1}(X:K.In h)(G:h.Ns mainGlobals mg)(a:PySem.W.nsIn K mainGlobals x=⇑(⇑v))(e:∃tk,v=.str z tk):∃tk,mg x=⇑(.str z tk):=by let(tk,rfl):=e;exists tk,JN X G a
def UB:(C0):=Str.M " "
def uq:(C0):=Str.M "\n"
def PD(p:A0×A0)(l:A0):(C0):=Str.join UB [Str.M "tie",nT p.1,nT p.2,nT l]
def Ws(n:A0)(ps:Aa)(ls:Ac):(A6 C0):=(Str.M "places "++nT n)::List.zipWith PD ps ls
def RM(n:A0)(ps:Aa)(ls:Ac):(C0):=Str.join uq (Ws n ps ls)
def Az:UB={#[32]}:=by rfl
def jF:uq={#[10]}:=by rfl
def Zt9(n:A0):Str.M "places "++nT n=Str.join UB [Str.M "places",nT n]:=by rfl
def ZM5{c:A5}(h:c∈PF i):c=45\/48<=c/\c<=57:=by
 unfold PF at h;split at h
 .rcases Yo.S h with e|e
  .show .inl e
  .show .inr (Qp _ c e)
 .show .inr (Qp _ c h)
def uo{c:A5}(h1:c≠45)(h2:c<48\/57<c):c∉(nT i).cps.m:=λh=>by rw[Kv]at h;rcases ZM5 h with e|e<;>lia
def jE(i:A0):((nT i).cps.all λc=>decide (c<128))=A9:=by rw[<-Array.all_toList,Kv,Pm];intro c hc;show YA ?_;rcases ZM5 hc with e|e<;>lia
def Ay{c x:A5}:∀{A:A6 (A6 A5)},x∈jn c A->x=c\/∃a∈A,x∈a
 |[],h=>by cases h
 |[a],h=>.inr ⟨a,Ya,h⟩
 |a::b::A,h=>by
  rcases Xn.S h with h|h
  .ext
  .rcases Yo.S h with h|h
   .show .inl h
   .rcases Ay h with e|⟨y,hy,hx⟩
    .show .inl e
    grind
def Ax{c AP:A5}:∀{A:A6 (A6 A5)},(∀a∈A,a.f<=AP)->(jn c A).f<=A.f*(AP+1)
 |[],_=>Qd _
 |[a],h=>by
  have:=h a Ya
  change a.f<=1*(AP+1);lia
 |a::b::A,h=>by
  let h1:=h a Ya;let ih:=Ax (c:=c) (A:=b::A) λx hx=>h x (Yf _ hx)
  change(a++c::jn c (b::A)).f<=_;rw[Xa,YM,YM,Nat.add_mul];lia
def Aw{c AP:A5}{l:A6 C0}(h:∀a∈l,a.f<=AP):(Str.join {#[c]} l).f<=l.f*(AP+1):=by rw[Ku,AB];show Yq (Ax (AP:=AP) λa ha=>?_) (by ext);let(p,hp,rfl):=YC.S ha;show h p hp
def Ma{c AP:A5}{l:A6 C0}(h:∀a∈l,a.f<=AP)(hl:l.f*AP+l.f<=16777216):JoinOk {#[c]} l=A9:=by unfold JoinOk;rw[StrLaws.joinFits h (by change l.f*AP+l.f*1<=_;ext)];rfl
def Told(l:Ac):(Prop):=∀z∈l,-(10^60)<z/\z<(10:A0)^60
def RL(h:Told l):∀a∈l.G nT,a.f<=61:=λa ha=>by let(z,hz,rfl):=YC.S ha;show HX (k:=60) Ep (h z hz).1 (h z hz).2
def Av{name:C0}{l:Ac}(hn:32∉name.cps.m):Txt.split (Str.join UB (name::l.G nT)) UB=name::l.G nT:=by
 show ur Eo λp hp=>?_;rcases Yo.S hp with e|e
 .rw[e];show hn
 .let⟨z,_,rfl⟩:=YC.S e;show uo Ep (.inl Ep)
def Au{name:C0}{l:Ac}(hn:10∉name.cps.m):10∉(Str.join UB (name::l.G nT)).cps.m:=λh=>by
 rw[Az,AB]at h;rcases Ay h with e|⟨a,ha,hx⟩
 .cases e
 .let⟨p,hp,rfl⟩:=YC.S ha;rcases Yo.S hp with e|e
  .lia
  .let⟨z,_,rfl⟩:=YC.S e;show uo Ep (.inl Ep) hx
def As:Txt.split (RM n ps ls) uq=Ws n ps ls:=by
 show ur (by unfold Ws;simp) λp hp=>?_;rcases Yo.S hp with e|e
 .rw[e,Zt9];show Au (l:=[n]) Ep
 .let⟨i,hi,e⟩:=QM e;rw[List.getElem_zipWith]at e;rw[<-e];show Au (l:=[_,_,_]) Ep
def Zk9(w:C0):Txt.startswith w (Str.M "-")=decide (w.cps.m.head?=some 45):=by
 let h:=StrLaws.subAt_one w 45 0;let e:Str.M "-"=⟨#[45]⟩:=rC
 rw[e];unfold Txt.startswith;rw[List.head?_eq_getElem?];lia
def ZG7(h:1<=w.cps.m.f):(StrLaws.sliceText w (some 1) none).cps.m=w.cps.m.tail:=by
 rw[StrLaws.sliceText_from (i:=1) ⟨Ep,J⟩];change(List.Q _<|List.drop 1 _)=_
 rw[List.drop_one];show YF ?_
 ext
def Ar(c:A5):(!(!(Builtin.Str.occurrences (Str.M "0123456789") {#[c]} 0 (Str.M "0123456789").f 1).isEmpty))=!decide (48<=c/\c<=57):=by
 rw[StrLaws.found_one];congr 1;let e:(Str.M "0123456789").cps.m=[48,49,50,51,52,53,54,55,56,57]:=rC
 rw[e];show Sk.mpr {λh=>?_,λh=>?_}
 .simp at h;omega
 .simp;lia
def Aq{i:A5}{v:V}(h:(TL l)[i]?=⇑v):∃x,v=.str x/\l[i]?=⇑x:=by unfold TL at h;grind
def Zq(l:A6 C0):(TL l).f=l.f:=by unfold TL;grind
def Ap(l:A6 C0)(x:C0):TL l++[.str x]=TL (l++[x]):=by unfold TL;ext
def jD{ps:Aa}{ls:Ac}{p:A0×A0}{l:A0}(hp:ps[i]?=⇑p)(hl:ls[i]?=⇑l):Ws n (ps.Q (i+1)) (ls.Q (i+1))=Ws n (ps.Q i) (ls.Q i)++[PD p l]:=by unfold Ws;rw[YB,YB,hp,hl];rw[List.zipWith_append D];rfl
def jC(hl:ls.f=ps.f):(Ws n ps ls).f=ps.f+1:=by
 unfold Ws
 ext
def Ao(h:Told [p.1,p.2,l]):(PD p l).f<=400:=by
 show Yq (Aw (AP:=61) (l:=Str.M "tie" :: [p.1,p.2,l].G nT) λa ha=>?_) (show 4*(61+1)<=400 by decide);rcases Yo.S ha with e|e
 .rw[e];decide
 .show RL h a e
def jB(g:ZA n ps)(hT:Told ls){i:A5}{p:A0×A0}{l:A0}(hp:ps[i]?=⇑p)(hl:ls[i]?=⇑l):Told [p.1,p.2,l]:=λz hz=>by
 have:=g.2.2.2 p (Xo hp)
 have:=g.2.1
 rcases Yo.S hz with e|e
 .grind
 .rcases Yo.S e with e|e
  .grind
  .rw[Xd.S e];show hT l (Xo hl)
def Zk7(g:ZA n ps)(hT:Told ls):∀a∈Ws n ps ls,a.f<=400:=λa ha=>by
 rcases Yo.S ha with e|e
 .rw[e,Ku,Str.cps_append,Yr,Xa,<-Ku,<-Ku]
  have:=HX (i:=n) (k:=60) Ep (by have:=g.1;omega) (by have:=g.2.1;omega)
  let e2:(Str.M "places ").f=7:=Ep;lia
 .let⟨i,hi,e⟩:=QM e;rw[List.getElem_zipWith]at e;rw[<-e];show Ao (jB g hT (i:=i) (Xv D)<|Xv D)
def um(K:Ad)(mg:Af)(x m qual:C0)(st:B8):(Prop):=∃C f fd,mg x=some ↑C/\Fun K m qual st f fd/\Meth K C m f
def Ow{K:Ad}{h:Heap}{mg:Af}{x m qual:C0}{st:B8}{C f:A7}{oc:B1}{od an:Option A7}{Vf:B4 (Option B1)}{kV doc pm XI ct:B1}(X:K.In h)(G:h.Ns mainGlobals mg)
  (aC:PySem.W.nsIn K mainGlobals x=⇑(some<|.ref C))(a:PySem.W.findIn K ↑C m=⇑(some<|.ref f))(i:PySem.W.isFn K ↑f=A9)
  (l:K.U f=⇑{oc,od,.func<|PySem.W.fnOf m qual (MM st) (Rt st) (Za st) .none kV doc pm an XI ct,Vf})(c:PySem.W.codeIn K XI qual=A9)(k:PySem.W.keepIn K ↑f=A9):um K mg x m qual st:=
 {C,f,_,JN X G aC,Dp l c k,⟨a,i,k⟩}
abbrev Tr:=A0×Aa×Ac
def jA(T:Tr):(Prop):=ZA T.1 T.2.1/\T.2.2.f=T.2.1.f/\Told T.2.2
def StageV(C:A7)(H:Hp)(v:V)(T:Tr):(Prop):=∃t w a,v=.ref t/\H t=⇑(.tup [.ref w,.ref a])/\WebAt C H w T.1 T.2.1/\H a=⇑(.lst<|IL T.2.2)
def StageV.same{C:A7}{H H':Hp}{v:V}{T:Tr}(s:Same H H')(h:StageV C H v T):StageV C H' v T:=by let(t,w,a,e,h1,h2,h3):=h;exists t,w,a,e,s _ _ h1,h2.Y s,s _ _ h3
def DeskAt(C:A7)(H:Hp)(x d:A7)(zs:A6 V):(Prop):=∃dx,H x=⇑(.ins C dx<|XC "stages" ↑d [])/\H d=⇑(.lst zs)
def DeskAt.same{C:A7}{H H':Hp}{x d:A7}{zs:A6 V}(s:Same H H')(h:DeskAt C H x d zs):DeskAt C H' x d zs:=by let(dx,h1,h2):=h;exists dx,s _ _ h1,s _ _ h2
def uj(d:A7):(XC "stages" (V.ref d) []).U ("stages":C0)=some ↑d:=by rw[Ga,Yk Z]
def WL(l:Ac):(C0):=if l=[] then Str.M "-" else Str.join UB (l.G nT)
def jz(h:l.f<=1000)(hl:Told l):(WL l).f<=62000:=by
 unfold WL;split
 .decide
 .show Yq (Aw (AP:=61)<|RL hl) ?_;grind
def An:∀k l,l.f=k->(∀c∈l,48<=c/\c<=57)->NumText.digitsVal l<10^k
 |0,l,h,_=>by let rfl:=YV.S h;show Nat.one_pos
 |k+1,l,h,hd=>by
  rcases cn l with rfl|⟨L,c,e⟩
  .cases h
  .rw[cm]at e;subst e;let hL:L.f=k:=by rw[Xa,YH]at h;lia
   let ih:=An k L hL λc hc=>hd c (Yl _ hc)
   have:=hd c (Yc _ Ya)
   rw[sH,Nat.pow_succ];grind
def Ov:∀k l,l.f=k->l≠[]->(∀c∈l,48<=c/\c<=57)->(l=[48]\/l.head?≠some 48)->dg (NumText.digitsVal l)=l
 |0,l,h,hn,_,_=>absurd (YV.S h) hn
 |k+1,l,h,_,hd,hz=>by
  rcases cn l with rfl|⟨L,c,e⟩
  .cases h
  .rw[cm]at e;subst e;let hL:L.f=k:=by rw[Xa,YH]at h;omega
   let hc:=hd c (Yc _ Ya);rw[sH];cases L with
   |nil=>
    change dg (0*10+(c-48))=[c];rw[Oy D];grind
   |cons a r=>
    let ha:(a::r).head?≠some 48:=by
     rcases hz with e|e
     .ext
     .show e
    let ih:=Ov k (a::r) hL Eo (λc hc=>hd c<|Yl _ hc) (.inr ha);let pos:NumText.digitsVal (a::r)≠0:=λz=>by rw[z]at ih;rw[<-ih]at ha;show ha rfl
    rw[Ox J,show(NumText.digitsVal (a::r)*10+(c-48))/10=NumText.digitsVal (a::r) by grind,ih];congr 2;grind
def jy{w:C0}(h:Kt w.cps.m=A9):∃i:A0,w=nT i/\-(10^60)<i/\i<10^60:=by
 let(h1,h2,h3,h4):=Yz h;let ne:WS w.cps.m≠[]:=λz=>by ext
 let lt:NumText.digitsVal (WS w.cps.m)<10^60:=Yp (An _ _ Z h3) (wD Ep h2);cases hm:w.cps.m.head?=some 45
 .let hf:WS w.cps.m=w.cps.m.tail:=Yk hm;let hcs:w.cps.m=45::WS w.cps.m:=by
   rw[hf];cases e:w.cps.m with
   |nil=>ext
   |cons a r=>ext
  let hz:(WS w.cps.m).head?≠some 48:=h4.elim (λe=>J) id;let hv:=Ov _ _ Z ne h3 (.inr hz)
  let pos:NumText.digitsVal (WS w.cps.m)≠0:=λz=>by rw[z]at hv;rw[<-hv]at hz;show hz rfl
  exists -(NumText.digitsVal (WS w.cps.m):A0),uu ?_,J,J;rw[Kv];unfold PF;grind
 .let hf:WS w.cps.m=w.cps.m:=Yh hm;rw[hf]at h3 h4 ne lt;let hv:=Ov _ _ Z ne h3 h4
  exists (NumText.digitsVal w.cps.m:A0),uu ?_,J,J;rw[Kv];unfold PF
  ext
def Rh{w:C0}:Kt w.cps.m=A9↔∃i:A0,w=nT i/\-(10^60)<i/\i<10^60:=
 {jy,λzz=>by let(i,e,h1,h2):=zz;rw[e,Kv];show AD h1 h2}
end My
namespace My
open PySem PySem.W PyProof.Rows
def Tc{α:Type}(c:A5->A5->B3):(KasT α->α)
 | .ret a=>a
 | .ask i j k=>Tc c (k<|c i j)
def Fq{α β:Type}{c:A5->A5->B3}{f:α->KasT β}:∀t:KasT α,Tc c (t.bind f)=Tc c (f (Tc c t))
 | .ret _=>rfl
 | .ask i j k=>Fq (k<|c i j)
section
variable{n:A5}{key:A5->A0}
def Ahd(key:A5->A0)(i j:A5):(Prop):=key i<key j\/(key i=key j/\i<j)
def Ahd.trans{i j k:A5}(h1:Ahd key i j)(h2:Ahd key j k):Ahd key i k:=by unfold Ahd at *;grind
structure Ord(n m:A5)(p:B4 A5):Prop where
 perm:p.Perm (List.range n).r
 suf:∀i,m<=i->i<n->p.R i 0=i
def Ord.size(h:Ord n m p):p.o=n:=by rw[h.perm.size_eq];simp
def Rg{p:B4 A5}(h:i<p.o):p[i]?=⇑(p.R i 0):=by
 ext
def Ord.inj(h:Ord n m p)(hi:i<n)(hj:j<n)(e:p.R i 0=p.R j 0):i=j:=by
 let hn:p.m.Nodup:=(Lw.S h.perm).nodup_iff.mpr List.nodup_range;let hs:=h.o
 let e1:=Rg (p:=p) (i:=i) (by ext);let e2:=Rg (p:=p) (i:=j) J
 rw[<-YN]at e1 e2;show(Gw (i:=i) (j:=j) (by ext) hn).S (by rw[e1,e2,e])
def Ord.lt(h:Ord n m p)(hm:m<=n)(hi:i<m):p.R i 0<m:=by
 cases hc:p.R i 0<m
 .show hc
 .let hs:=h.o;let hb:p.R i 0<n:=by let e1:=Rg (p:=p) (i:=i) D;rw[<-YN]at e1;show YX.S ((Lw.S h.perm).mem_iff.S (Xo e1))
  let e:=h.inj J hb (h.suf _ (by ext) hb).symm;grind
def Ord.mono(h:Ord n m p)(hk:m<=k):Ord n k p:={h.perm,λi hi=>h.suf i J}
def Nw{i j k:A5}(hj:j<=p.o):(kas_rev p i j).R k 0=if i<=k/\k<j then p.R (i+j-1-k) 0 else p.R k 0:=by unfold kas_rev;rw[QP,rM hj,apply_ite λo:Option A5=>o.R 0,<-QP,<-QP]
def Ord.rev(h:Ord n m p)(hj:j<=m)(hm:m<=n):Ord n m (kas_rev p i j):=by let hs:=h.o;exists (mirror_perm _ _ _ _).l h.perm,λk hk hn=>?_;rw[Nw J,Yh J];show h.suf k hk hn
def Asc(key:A5->A0)(m:A5)(p:B4 A5):(Prop):=∀i j,i<j->j<m->Ahd key (p.R i 0) (p.R j 0)
def Asc.more(hm:1<=m)(h:Asc key m p)(h2:Ahd key (p.R (m-1) 0) (p.R m 0)):Asc key (m+1) p:=λi j WG hj=>by
 cases e:j=m
 .subst e;cases e2:i=j-1
  .rw[e2];show h2
  .show(h i (j-1) J rF).l h2
 .show h i j WG J
def HW:∀f m p,m+f=n->1<=m->Ord n m p->Asc key m p->∃k,Tc (λi j=>decide (key i<key j)) (kas_asc p f m)=k/\m<=k/\k<=n/\Asc key k p/\(k<n->key (p.R k 0)<key (p.R (k-1) 0))
 |0,m,p,hf,h1,ho,ha=>{m,Z,XG _,by ext,ha,λh=>by ext}
 |f+1,m,p,hf,h1,ho,ha=>by
  change ∃k,Tc _ (if decide (key (p.R m 0)<key (p.R (m-1) 0))=A9 then KasT.ret m else kas_asc p f (m+1))=k/\_;cases hc:key (p.R m 0)<key (p.R (m-1) 0)
  .rw[Yk (YA hc)];exists m,Z,XG _,J,ha,λ_=>hc
  .rw[Yh λz=>hc (Yz z)];let e:=ho.suf m (XG _) J
   let l:=ho.lt J (i:=m-1) J;let(k,e1,e2,e3,e4,e5):=HW f (m+1) p J (by ext) (ho.mono<|by ext) (ha.more h1<|by unfold Ahd;rw[e]at hc ⊢;lia);exists k,e1,J,e3,e4,e5
structure Dsc(key:A5->A0)(m g:A5)(p:B4 A5):Prop where
 le:g+1<=m
 old:∀i j,i<j->j<m-(g+1)->Ahd key (p.R j 0) (p.R i 0)
 mid:∀i j,i<m-(g+1)->m-(g+1)<=j->j<m->key (p.R j 0)<key (p.R i 0)
 own:∀i j,m-(g+1)<=i->i<j->j<m->key (p.R i 0)=key (p.R j 0)/\p.R i 0<p.R j 0
def Fall(key:A5->A0)(m:A5)(p:B4 A5):(Prop):=∀i j,i<j->j<m->Ahd key (p.R j 0) (p.R i 0)
def Dsc.turn(h:Dsc key m g p)(hs:m<=p.o):Fall key m (kas_rev p (m-(g+1)) m):=λi j WG hj=>by
 rw[Nw hs,Nw hs];cases c1:m-(g+1)<=j
 .rw[Yk ⟨c1,hj⟩];cases c2:m-(g+1)<=i
  .rw[Yk ⟨c2,J⟩];show .inr (h.own (m-(g+1)+m-1-j) (m-(g+1)+m-1-i) J J J)
  .rw[Yh J];show .inl (h.mid i _ J J J)
 .rw[Yh J,Yh J];show h.old i j WG J
def Dsc.last(h:Dsc key m g p)(hs:m<=p.o):key ((kas_rev p (m-(g+1)) m).R (m-1) 0)=key (p.R (m-1) 0):=by
 let hl:=h.le;rw[Nw hs,Yk D];cases e:g=0
 .congr 2;grind
 .show(h.own (m-(g+1)+m-1-(m-1)) (m-1) rF D J).1
def Dsc.fall(h:Dsc key m 0 p):Fall key m p:=λi j WG hj=>by
 cases e:j<m-(0+1)
 .show h.old i j WG e
 .show .inl (h.mid i j D (by ext) hj)
def Fall.new(hm:1<=m)(h:Fall key m p)(hk:key (p.R m 0)<key (p.R (m-1) 0)):Dsc key (m+1) 0 p:=by
 show{by ext,λi j WG hj=>h i j WG (by ext),λi j hi h1 h2=>?_,λi j h1 h2 h3=>D};let e:j=m:=J
 subst e;cases c:i=j-1
 .rw[c];show hk
 .have:=h i (j-1) J D
  unfold Ahd at this;omega
def Fall.rev(h:Fall key m p)(hs:m<=p.o):Asc key m (kas_rev p 0 m):=λi j WG hj=>by rw[Nw hs,Nw hs,Yk {Qd _,J},Yk {Qd _,hj}];show h _ _ D D
def Asc.rev(h:Asc key m p)(hs:m<=p.o):Fall key m (kas_rev p 0 m):=λi j WG hj=>by rw[Nw hs,Nw hs,Yk {Qd _,hj},Yk {Qd _,D}];show h _ _ J J
def ui:∀f m g p,m+f=n->Ord n m p->Dsc key m g p->∃p' m' g',Tc (λi j=>decide (key i<key j)) (kas_desc f p m g)=(p',m',g')/\m<=m'/\m'<=n/\Ord n m' p'/\Dsc key m' g' p'
 |0,m,g,p,hf,ho,hd=>{p,m,g,Z,XG _,by ext,ho,hd}
 |f+1,m,g,p,hf,ho,hd=>by
  let hl:=hd.le;let hs:=ho.o
  let em:=ho.suf m (XG _) J;let ll:=ho.lt J (i:=m-1) J
  change ∃p' m' g',Tc _ (if decide (key (p.R m 0)<key (p.R (m-1) 0))=A9 then (if g>0 then kas_desc f (kas_rev p (m-(g+1)) m) (m+1) 0 else kas_desc f p (m+1) 0) else KasT.ask (p.R (m-1) 0) (p.R m 0) λd=>if d=A9 then .ret (p,m,g) else kas_desc f p (m+1) (g+1))=_/\_;cases hc:key (p.R m 0)<key (p.R (m-1) 0)
  .rw[Yk (YA hc)];cases hg:g>0
   .rw[Yk hg];let hr:=ho.rev (i:=m-(g+1)) (XG m) J
    let em2:=hr.suf m (XG _) J;let(p',m',g',e1,e2,e3,e4,e5):=ui f (m+1) 0 (kas_rev p (m-(g+1)) m) J (hr.mono J) ((hd.turn J).new J (by rw[hd.last J,em2];rwa[em]at hc));exists p',m',g',e1,J,e3,e4,e5
   .let rfl:g=0:=by ext
    let(p',m',g',e1,e2,e3,e4,e5):=ui f (m+1) 0 p D (ho.mono D) (hd.fall.new rF hc);exists p',m',g',e1,J,e3,e4,e5
  .rw[Yh λz=>hc (Yz z)];change ∃p' m' g',Tc _ (if decide (key (p.R (m-1) 0)<key (p.R m 0))=A9 then KasT.ret (p,m,g) else kas_desc f p (m+1) (g+1))=_/\_
   cases Vm:key (p.R (m-1) 0)<key (p.R m 0)
   .rw[Yk (YA Vm)];exists p,m,g,Z,XG _,J,ho,hd
   .rw[Yh λz=>Vm (Yz z)];let ek:key (p.R (m-1) 0)=key (p.R m 0):=J
    let(p',m',g',e1,e2,e3,e4,e5):=ui f (m+1) (g+1) p D (ho.mono D) ⟨by ext,λi j h1 h2=>hd.old i j h1 (by ext),λi j h1 h2 h3=>by
     cases c:j=m
     .rw[c,<-ek];show hd.mid i (m-1) (by ext) J J
     .show hd.mid i j J (by ext) J,λi j h1 h2 h3=>by
     cases c:j=m
     .rw[c];cases c2:i=m-1
      .rw[c2,em];rw[em]at ek;exists ek,ll
      .have:=hd.own i (m-1) (by ext) J D
       lia
     .show hd.own i j J h2 D⟩
    exists p',m',g',e1,J,e3,e4,e5
def Am(hm:1<=m)(hn:m<=n)(ho:Ord n m p)(hf:Fall key m p):∃k p',Tc (λi j=>decide (key i<key j)) (kas_tail3 m n p)=(k,p')/\1<=k/\k<=n/\Ord n k p'/\Asc key k p':=by
 let hs:=ho.o;unfold kas_tail3;rw[Fq];let hr:=ho.rev (i:=0) (XG m) hn
 let(k,e1,e2,e3,e4,_):=HW (n-m) m (kas_rev p 0 m) (by ext) hm hr (hf.rev<|by ext);rw[e1];exists k,_,Z,J,e3,hr.mono e2,e4
def Al(hm:1<=m)(hn:m<n)(ho:Ord n m p)(hf:Fall key m p)(hk:key (p.R m 0)<key (p.R (m-1) 0)):∃k p',Tc (λi j=>decide (key i<key j)) (kas_descPart m n p)=(k,p')/\1<=k/\k<=n/\Ord n k p'/\Asc key k p':=by
 unfold kas_descPart;rw[Fq];let(p',m',g',e1,e2,e3,e4,e5):=ui (n-(m+1)) (m+1) 0 p D (ho.mono J) (hf.new hm hk);rw[e1];let hs:=e4.o
 cases hg:g'>0
 .rw[Yk hg];show Am J e3 (e4.rev (XG _) e3) (e5.turn<|by ext)
 .let rfl:g'=0:=by ext
  show Am J e3 e4 e5.fall
def jx(hn:1<=n)(ho:Ord n 1 p):∃k p',Tc (λi j=>decide (key i<key j)) (kas_count n p)=(k,p')/\1<=k/\k<=n/\Ord n k p'/\Asc key k p':=by
 unfold kas_count;rw[Fq];let(k,e1,e2,e3,e4,e5):=HW (key:=key) (n-1) 1 p (by ext) (XG _) ho λi j h1 h2=>by ext
 rw[e1];let hs:=ho.o
 let hk:=ho.mono e2;cases c:k=n
 .rw[Yk (by ext)];exists k,p,Z,e2,e3,hk,e4
 .rw[Yh λz=>c (Pe.S z)];let Xj:k<n:=J
  let h5:=e5 Xj;cases c1:k>1
  .rw[Yk c1];change ∃k' p',Tc _ (if decide (key (p.R 0 0)<key (p.R (k-1) 0))=A9 then KasT.ret (k,p) else kas_descPart k n (kas_rev p 0 k))=_/\_
   cases c2:key (p.R 0 0)<key (p.R (k-1) 0)
   .rw[Yk (YA c2)];exists k,p,Z,e2,e3,hk,e4
   .rw[Yh λz=>c2 (Yz z)];let a0:=e4 0 (k-1) J J
    let eq:key (p.R 0 0)=key (p.R (k-1) 0):=by unfold Ahd at a0;lia
    let hr:=hk.rev (i:=0) (XG k) rF;show Al e2 Xj hr (e4.rev<|by ext) ?_;rwa[Nw (by ext),Nw J,Yh (by ext),Yk J,show 0+k-1-(k-1)=0 by ext,eq]
  .let rfl:k=1:=J;show Al (XG _) Xj hk (λi j h1 h2=>by ext) h5
def HV(hk:Asc key k p):∀f l r,r-l<=f->l<=r->r<=k->(∀i,i<l->¬key (p.R k 0)<key (p.R i 0))->(∀i,r<=i->i<k->key (p.R k 0)<key (p.R i 0))->∃l',Tc (λi j=>decide (key i<key j)) (kas_place p k f l r)=l'/\l'<=k/\(∀i,i<l'->¬key (p.R k 0)<key (p.R i 0))/\(∀i,l'<=i->i<k->key (p.R k 0)<key (p.R i 0))
 |0,l,r,hf,h1,h2,ha,hb=>{l,Z,J,ha,λi hi=>hb i D}
 |f+1,l,r,hf,h1,h2,ha,hb=>by
  let mono:∀i j,i<=j->j<k->key (p.R i 0)<=key (p.R j 0):=λi j WG hj=>by
   cases e:i=j
   .rw[e];show Gj _
   .have:=hk i j J hj
    unfold Ahd at this;lia
  unfold kas_place;cases c:l >= r
  .rw[Yk c];exists l,Z,D,ha,λi hi=>hb i J
  .rw[Yh c];change ∃l',Tc _ (if decide (key (p.R k 0)<key (p.R ((l+r)/2) 0))=A9 then kas_place p k f l ((l+r)/2) else kas_place p k f ((l+r)/2+1) r)=l'/\_
   cases c2:key (p.R k 0)<key (p.R ((l+r)/2) 0)
   .rw[Yk (YA c2)];show HV hk f l ((l+r)/2) D J J ha λi hi hik=>by grind
   .rw[Yh λz=>c2 (Yz z)];show HV hk f ((l+r)/2+1) r J J rF (λi hi=>by
     grind) hb
def HU{k d x:A5}(hk:k<p.o)(hd:d<=k):(bubble p k d).R x 0=if x=k-d then p.R k 0 else if k-d<x/\x<=k then p.R (x-1) 0 else p.R x 0:=by rw[QP,getElem?_bubble hk d hd,apply_ite λo:Option A5=>o.R 0,apply_ite λo:Option A5=>o.R 0,<-QP,<-QP,<-QP]
def Ak:∀f k p,k+f=n->Ord n k p->Asc key k p->∃p',Tc (λi j=>decide (key i<key j)) (kas_bin f p k)=p'/\Ord n n p'/\Asc key n p'
 |0,k,p,hf,ho,ha=>by let rfl:k=n:=rF;exists p,Z,ho,ha
 |f+1,k,p,hf,ho,ha=>by
  let hs:=ho.o;let ek:=ho.suf k (XG _) J
  unfold kas_bin;rw[Fq];let(l,e1,e2,e3,e4):=HV ha k 0 k (by ext) (by ext) (XG _) (λi hi=>by ext) λi hi Wu=>D;rw[e1];show Ak f (k+1) (bubble p k<|k-l) J {(bubble_perm _ _ _).l ho.perm,λi hi hn=>?_} λi j WG hj=>?_
  .rw[HU J (by ext),Yh J,Yh J];show ho.suf i J hn
  .let low:∀x,x<k->p.R x 0<k:=λx hx=>ho.lt J hx;rw[HU J (by ext),HU J (by ext)];let ekl:k-(k-l)=l:=J
   rw[ekl];cases c1:i=l
   .rw[Yk c1,Yh J,Yk J];show .inl (e4 (j-1) D J)
   .rw[Yh c1];cases c2:j=l
    .rw[Yk c2,Yh J];let a:=e3 i (by ext)
     let b:=low i J;rw[ek]at a ⊢;unfold Ahd;lia
    .rw[Yh c2];cases c3:l<i
     .rw[Yk ⟨c3,J⟩,Yk ⟨J,J⟩];show ha _ _ J J
     .rw[Yh J];cases c4:l<j
      .rw[Yk ⟨c4,D⟩];show ha _ _ J J
      .rw[Yh J];show ha _ _ WG J
def LZ(hn:1<=n):∃p,Tc (λi j=>decide (key i<key j)) (kas_sort n)=p/\p.m.Perm (List.range n)/\p.m.H (Ahd key):=by
 let fin:∀p,Ord n n p->Asc key n p->p.m.Perm (List.range n)/\p.m.H (Ahd key):=λp ho ha=>by
  let hs:=ho.o;exists Lw.S ho.perm,JZ.mpr λi j hi hj WG=>?_;rw[YU]at hi hj
  have:=ha i j WG (by ext)
  ext
 unfold kas_sort;rw[Fq];let(k,p,e1,e2,e3,e4,e5):=jx (key:=key) hn (p:=(List.range n).r) {EF _,λi _ hi=>by ext};rw[e1];cases c:k<n
 .rw[Yk c,Nat.max_eq_left e2];let(q,h1,h2,h3):=Ak (n-k) k p (by ext) e4 e5;exists q,h1,fin q h2 h3
 .rw[Yh c];let rfl:k=n:=J;exists p,Z,fin p e4 e5
end
end My
namespace L2
open PySem PySem.Spec PyProof.Rows
def Ou(P:Program)(w:World)(K:Ad)(mg:Af)(base:Heap)(N:A6 C0)(qual:C0)(scope:C1)(f:A7)(cd:B1)(cl:A6 (C0×A7))(A:Around)(outer:A6 Env)(s:B6)(H:Hp):(Cx) where
 prog:=P
 w:=w
 K:=K
 mg:=mg
 base:=base
 A:=A.deeper (PySem.W.envX qual scope (~~~s) f cd cl)
 N:=N
 s₀:=s
 H₀:=H
 env:=PySem.W.envX qual scope (~~~s) f cd cl
 outer:=outer
 stack:=PySem.W.envX qual scope (~~~s) f cd cl::outer
 ex:=[]
 calm:=A9
 fn:=λ_=>false
 pn:=[]
 xe:=λ_ _=>False
structure LamScope(v x:C0)(sc:C1):Prop where
 kind:sc.kind=.function
 co:sc.isCoroutine=B0
 gen:sc.isGenerator=B0
 nocell:∀y∈sc.names,y.2≠.cell
 par:sc.names.U v=some .local
 free:sc.names.U x=some .free
 only:∀y,sc.names.U y=some .free->y=x
 ne:v≠x
section
variable{P:Program}{w:World}{K:Ad}{mg:Af}{base:Heap}{qual name v x:C0}{scope:C1}{f c c':A7}{cd pm Rf u ux:B1}{A:Around}{outer:A6 Env}{s:B6}{H:Hp}{vv vx:V}{params:Arguments}{body:B5}{k:A5}{t:TE}{Q:VK}
def uh{c2:A7}(h:List.U y [(x,c)]=⇑c2):y=x/\c2=c:=by grind
def jw(S:LamScope v x scope)(hd:A.handled=A8)(e0:Env0 P w K mg base A outer s H)(hc:s.C.IsCell c ⇑ux)(rx:RelV vx ux)(jv:H c=A8)(rv:RelV vv u){h1:Heap}{tk:A5}
  (Qn:h1.Ns (~~~s) λy=>[(v,u)].reverse.U y)(hk:∀b o,s.C.E b=⇑o->h1.E b=⇑o):
  Inv (Ou P w K mg base [v,x] qual scope f cd [(x,c)] A outer s H) [] [⇑vv,⇑vx] H {s with heap:=h1,toks:=tk}:=by
 let Jk:∀b:A7,b∉(Ou P w K mg base [v,x] qual scope f cd [(x,c)] A outer s H).ex:=λb z=>absurd (show b∈([]:A6 A7) from z) Eo;let hck:h1.IsCell c ⇑ux:=by let(o,e,d):=hc;exists o,hk _ _ e,d
 let lk:List.U x [(x,c)]=⇑c:=by unfold List.lookup;rw[EI]
 show⟨{e0.mod,S.kind,Z,Z,XG _,λy z c2 h1 h2=>?_,λy hy=>?_,λy c2 z _=>(nomatch z),λ_=>hd,Around.frames_deeper e0.frames,.inr ⟨Z,Z⟩,λb z=>absurd z<|Jk b,e0.bs,e0.bsz,λb _ _=>Jk b,λb z=>absurd z<|Jk b,e0.funs,e0.frf},
  rfl,e0.bare,Un.kept hk,{_,Qn,λi y v' h1 h2 h3=>?_},λy c2 h=>?_,e0.hok.fresh<|XG _,λy c2 h=>?_,λp hp=>absurd (show p∈([]:A6 (A7×Obj)) from hp) Eo,e0.hok.kept hk,Z⟩
 .rw[(uh h1).1,(uh h2).1]
 .rcases hy with hy|hy
  .show absurd Z (S.nocell _<|JV hy)
  .rw[S.only y hy];exists c,lk
 .match i,h1,h2 with
  |0,h1,h2=>
   let rfl:v=y:=Yn h1;let rfl:vv=v':=Yn (Yn h2);exists u,rv,.inl {S.par,?_}
   ext
  |1,h1,h2=>
   let rfl:x=y:=Yn h1;let rfl:vx=v':=Yn (Yn h2);exists ux,rx,.inr {.inr S.free,c,lk,hck}
  |i+2,h1,h2=>cases h1
 .rw[(uh h).2];grind
 .rw[(uh h).2];show jv
def ju(S:LamScope v x scope)(hr:Room (k+1) A)(e0:Env0 P w K mg base A outer s H)(ho:s.C.E f=⇑(PySem.W.kla_obj name qual params body scope [(x,c)] pm c' Rf))(SA:s.C.CodeRec ↑c' qual)
  (SJ:bindArgs (PySem.W.kla_fn name qual params body scope [(x,c)] pm ↑c' Rf) {[u],[]}=pure [(v,u)])(hc:s.C.IsCell c ⇑ux)(rx:RelV vx ux)(jv:H c=A8)(rv:RelV vv u)
  (hb:PE (Ou P w K mg base [v,x] qual scope f ↑c' [(x,c)] A outer s H) body t)(hq:t [⇑vv,⇑vx] H Q):
  codeAny (model P w) A (.call ↑f {[u],[]}) (λr s'=>∃u',r=.ok (.ret u')/\CE outer P w H s Q u' s') s:=by
 let lim:s.C.NoLimit:=e0.mod.nolimit.keeps λb o e=>(e0.bs b o e).1;show PySem.W.kla_callFunE hr.depth ho Z S.co S.gen Z SA ?_;rw[SJ];show Yg (wpAny_newFunctionEnv S.nocell (λy hy=>?_) (λh1 Qn hsb=>{lim.fresh _ hsb,?_}) S.kind)
 .rw[Xd.S hy];show S.par
 let hk:∀b o,s.C.E b=⇑o->h1.E b=⇑o:=λb o e=>hsb.extBut b o (Yx<|Ym e) (Xf _ e);let I:Inv (Ou P w K mg base [v,x] qual scope f ↑c' [(x,c)] A outer s H) [] [⇑vv,⇑vx] H {s with heap:=h1,toks:=s.toks+[(v,u)].f}:=jw S hr.hd e0 hc rx jv rv Qn hk
 show PySem.W.kla_codeExpr (SD (hb [] _ _ H _ I hq) (λu' s' h=>?_) λe s' h=>False.elim h);let(y,H',tB,r,q):=h;exists u',Z,y,H',tB.os,tB.bare,tB.base,tB.hok,r,q
end
end L2
namespace My
open PySem PySem.W PyProof.Rows
def Asks{α:Type}(n:A5)(R:α->Prop):(KasT α->Prop)
 | .ret a=>R a
 | .ask i j k=>i<n/\j<n/\∀b,Asks n R (k b)
def Asks.bind{α β:Type}{R:α->Prop}{S:β->Prop}{f:α->KasT β}:∀{t:KasT α},Asks n R t->(∀a,R a->Asks n S (f a))->Asks n S (t.bind f)
 | .ret a,h,hf=>hf a h
 | .ask _ _ _,h,hf=>{h.1,h.2.1,λb=>Asks.bind (h.2.2 b) hf}
def goT_wp'{α:Type}{R:α->Prop}{c:A5->A5->B3}{cmp:A5->A5->(B3->B6->Prop)->B6->Prop}{tB:B6->Prop}(h:∀i j C s,i<n->j<n->tB s->(∀s',tB s'->C (c i j) s')->cmp i j C s){Q:α->B6->Prop}:∀t s,Asks n R t->tB s->(∀s',tB s'->Q (Tc c t) s')->t.kasWp cmp Q s
 | .ret _,s,_,hs,q=>q s hs
 | .ask i j k,s,ha,hs,q=>h i j _ s ha.1 ha.2.1 hs λs' VZ=>goT_wp' h (k<|c i j) s' (ha.2.2 _) VZ q
section
variable{n:A5}
def Bd(n:A5)(p:B4 A5):(Prop):=p.Perm (List.range n).r
def Bd.lt(h:Bd n p)(hn:1<=n)(i:A5):p.R i 0<n:=by
 cases hi:i<p.o
 .let e1:=Rg (p:=p) hi;rw[<-YN]at e1;show YX.S ((Lw.S h).mem_iff.S (Xo e1))
 lia
def Bd.rev(h:Bd n p)(i j:A5):Bd n (kas_rev p i j):=(mirror_perm _ _ _ _).l h
def jt(hn:1<=n)(hp:Bd n p):∀f m:A5,Asks n (λ_=>True) (kas_asc p f m)
 |0,m=>trivial
 |f+1,m=>⟨hp.lt hn _,hp.lt hn _,λb=>by
  cases b with
  |true=>show trivial
  |false=>show jt hn hp f<|m+1⟩
def ug(hn:1<=n):∀f p m q,Bd n p->Asks n (λr=>Bd n r.1) (kas_desc f p m q)
 |0,p,m,q,hp=>hp
 |f+1,p,m,q,hp=>⟨hp.lt hn _,hp.lt hn _,λb=>by
  cases b with
  |true=>
   split
   .show ug hn f _ _ _ (hp.rev _ _)
   .show ug hn f _ _ _ hp
  |false=>
   exists hp.lt hn _,hp.lt hn _,λd=>?_;cases d with
   |true=>show hp
   |false=>show ug hn f _ _ _ hp⟩
def ZI5(hn:1<=n)(hp:Bd n p)(m r:A5):Asks n (λz=>Bd n z.2) (kas_tail3 m r p):=
 (jt hn (hp.rev _ _) _ _).bind λ_ _=>hp.rev _ _
def ZW5(hn:1<=n)(hp:Bd n p)(m r:A5):Asks n (λz=>Bd n z.2) (kas_descPart m r p):=
 (ug hn _ p _ _ hp).bind λz hz=>by
  split
  .show ZI5 hn (hz.rev _ _) _ _
  .show ZI5 hn hz _ _
def ZQ8(hn:1<=n)(hp:Bd n p)(r:A5):Asks n (λz=>Bd n z.2) (kas_count r p):=
 (jt hn hp _ _).bind λz _=>by
  split
  .show hp
  .split
   .exists hp.lt hn _,hp.lt hn _,λb=>?_;cases b with
    |true=>show hp
    |false=>show ZW5 hn (hp.rev _ _) _ _
   .show ZW5 hn hp _ _
def HS(hn:1<=n)(hp:Bd n p)(k:A5):∀f l r:A5,Asks n (λ_=>True) (kas_place p k f l r)
 |0,l,r=>trivial
 |f+1,l,r=>by
  unfold kas_place;split
  .show trivial
  .exists hp.lt hn _,hp.lt hn _,λb=>?_;cases b with
   |true=>show HS hn hp k f _ _
   |false=>show HS hn hp k f _ _
def Aj(hn:1<=n):∀f p k,Bd n p->Asks n (λz=>Bd n z) (kas_bin f p k)
 |0,p,k,hp=>hp
 |f+1,p,k,hp=>(HS hn hp k _ _ _).bind λl _=>Aj hn f _ _ ((bubble_perm _ _ _).l hp)
def Qm(hn:1<=n):Asks n (λz=>Bd n z) (kas_sort n):=
 (ZQ8 hn (p:=(List.range n).r) (EF _) n).bind λz hz=>by
  split
  .show Aj hn _ _ _ hz
  .show hz
end
end My
namespace L2
open PySem PySem.Spec PyProof.Rows PySem.W
def Rc(key:A0->A0)(ns ms:Ac):(Prop):=∃p:A6 A5,p.Perm (List.range ns.f)/\p.H (My.Ahd λi=>key<|ns.R i 0)/\ms=p.G λi=>ns.R i 0
section
variable{X:Cx}{pins:A6 (A7×Obj)}{σ:St}{H:Hp}{s:B6}{b:A7}{o:Obj}
def Inv.pin1(I:Inv X pins σ H s)(F:FpOk X pins H b)(e:s.C.E b=⇑o)(hd:∀v,o.data≠.cell v):Inv X (pins++[(b,o)]) σ H s:=I.pins_of λp hp=>by
 rcases Xn.S hp with hp|hp
 .show I.pin p (Yc _ hp)
 .rw[Xd.S hp];exists e,F.1,F.2.1,F.2.2.1,hd
def FpOk.more{pl:A6 (A7×Obj)}(F:FpOk X pins H b)(hn:∀p∈pl,p.1≠b):FpOk X (pins++pl) H b:=⟨F.1,F.2.1,F.2.2.1,F.2.2.2.1,F.2.2.2.2.1,λp hp=>by
 rcases Xn.S hp with hp|hp
 .show F.2.2.2.2.2 p (Yl _ hp)
 .rcases Xn.S hp with hp|hp
  .show F.2.2.2.2.2 p (Yc _ hp)
  .show hn p hp⟩
def Inv.changed{h':Heap}{t':A5}(I:Inv X pins σ H s)(F:FpOk X pins H b)(k:∀c o,c≠b->s.C.E c=⇑o->h'.E c=⇑o):Inv X pins σ H {s with heap:=h',toks:=t'}:=
 I.turned k F.1 F.2.1 F.2.2.2.1 F.2.2.2.2.1 F.2.2.2.2.2
def Inv.adopt(I:Inv X pins σ H s)(hex:X.ex=[])(F:FpOk X pins H b)(new:ObjOk X.prog X.w (upd H b u) s.C b u):Inv X pins σ (upd H b u) s:=by
 let f4:(~~~X.s₀)<=b:=F.2.2.2.1.resolve_left (by ext);let hn:=F.1
 exists I.ok,I.os,I.bare,{I.base.keep,I.base.slot,λc o e n hc=>?_,I.base.there,λc xs q=>?_,λc o w q=>?_,λc ps q=>?_},I.loc,I.cell,?_,λx c e=>?_,λp hp=>?_,λc w e=>?_,I.len
 .rw[Zd (Yx<|Yp (Ym e) f4)];show I.base.free c o e n hc
 .have:=I.base.tups c xs q
  rwa[Zd (Ze this hn)]
 .have:=I.base.frzs c o w q
  rwa[Zd (Ze this hn)]
 .let⟨m,this⟩:=I.base.tbls c ps q;exists m,by rwa[Zd (Ze this hn)]
 .rw[Zd (YZ F.2.1)];show I.free
 .rw[Zd (F.2.2.2.2.1 x c e)];show I.freeC x c e
 .have:=I.pin p hp
  exists this.1,by rw[Zd (F.2.2.2.2.2 p hp)];show this.2.1,this.2.2
 .cases hb:c=b
  .subst hb;rw[XT]at e;lia
  .rw[Zd hb]at e;show(I.hok c w e).stay (λ_ _ _ q=>q) (λd q=>by rwa[Zd (Ze q hn)]) λd xs q=>by rwa[Zd (Ze q hn)]
end
section
variable{X:Cx}{pins:A6 (A7×Obj)}{σ:St}{H:Hp}{s:B6}{a kS:A7}{A:Around}{E:Ae}{P:PySem.Fin->B6->Prop}{kA:B4 B1}{e e1:A5}{ns:Ac}{vs:Ag}
def Zk8{st:SortSt}{out:Ag}(I:Inv X (pins++[(a,seqObj "list" #[] e1),(kS,seqObj "list" kA e)]) σ H s)(Fa:FpOk X pins H a)(Fk:FpOk X pins H kS)(NB:a≠kS)(hz:kA.o<64)(NG:failedOf st=A8)
  (HR:(arrOf st).G (·.2)=out.r)(hlen:out.f<64)(h:∀s' m,Inv X pins σ H s'->s'.C.E a=⇑(seqObj "list" out.r m)->P (.done<|.ret .none) s'):
  wpAny (model X.prog X.w) A (ksk_tail a false e1 ↑kS st) P E s:=by
 let IE:sizeLine=16777216:=Rz;let pa:=(I.pin (a,seqObj "list" #[] e1) Eo).1
 let pk:=(I.pin (kS,seqObj "list" kA e) Eo).1;let I0:Inv X pins σ H s:=I.unpinned
 let js:(s.C.update kS<|Obj.mapSeq λ_=>(#[]:B4 B1)).E a=⇑(seqObj "list" #[] e1):=(YK _ _<|YZ NB).l pa;obtain⟨m,hm⟩:∃m,((s.C.update kS<|Obj.mapSeq λ_=>(#[]:B4 B1)).update a (Obj.mapSeq λ_=>out.r)).E a=⇑(seqObj "list" out.r m):={_,Ey js λ_=>out.r};unfold ksk_tail;dsimp only;rw[HR];show XU (NK pk Z ?_ J<|Qd _);show XU (Gh ?_);show XU (seqEpoch_at js Z ?_);show XU (NK js Z ?_ (Qd _)<|by simp;lia);rw[NG];simp only[sv,EM,if_false];show Yg (h _ m ?_ hm);let I1:Inv X pins σ H {s with heap:=s.C.update kS<|Obj.mapSeq λ_=>(#[]:B4 B1),toks:=s.toks}:=I0.changed Fk λc o hc q=>(YK _ _<|YZ hc).l q
 show I1.changed (t':=s.toks) Fa λc o hc q=>(YK _ _<|YZ hc).l q
def Ai{vs:Ag}{ns:Ac}(h0:IntsAre vs ns):∀i,i<ns.f->∃t,vs[i]?=⇑(.int (ns.R i 0) t):=by
 induction h0 with
 |nil=>show λi h=>absurd h (VW _)
 |cons n t r ih=>
  intro i h;cases i with
  |zero=>exists t,Z
  |succ i=>show ih i (by rw[YM]at h;lia)
end
def Fp(c:A7)(qual:C0):(HO):=.ext λh=>h.CodeRec ↑c qual
def TabH(H:Hp)(Pt:A7)(pos:Pos)(qual:C0):(Prop):=∃ps:B4 B1,H Pt=⇑(.tbl ps)/\TriplesOk ps.m/\(codeAmong pos ps.m=A8\/∃c,codeAmong pos ps.m=some ↑c/\H c=⇑(Fp c qual))
def SameX(Pt:A7)(H H':Hp):(Prop):=∀b o,b≠Pt->H b=⇑o->H' b=⇑o
def Zg3{c:A7}(h1 h2:Heap)(r:h1.CodeRec ↑c qual)(k:∀o,h1.E c=⇑o->h2.E c=⇑o):h2.CodeRec ↑c qual:=by let(c2,o,vs,t,e,g,r):=r;cases e;exists c,o,vs,t,Z,k _ g,r
section
variable{X:Cx}{pins:A6 (A7×Obj)}{σ:St}{H:Hp}{s:B6}{c Pt cc:A7}{x:C0}{params:Arguments}{body:B5}{scope:C1}{pos:Pos}{E:Ae}{Q:Ae}
def Inv.builtinsAt(I:Inv X pins σ H s)(hB:X.base.BuiltinsAt X.mg Pt):s.C.BuiltinsAt X.mg Pt:=by let(bm,o,h1,h2,h3,h4,h5,h6):=hB;exists bm,o,h1,h2,h3,h4,I.bk _ _ h5,h6
def jr(I:Inv X pins σ H s)(TQ:X.X.code=.ref c)(hC:codeHdIn X.K c Pt=A9)(hB:X.base.BuiltinsAt X.mg Pt)(hT:TabH H Pt pos (X.X.qual++Str.M "<lambda>"))(OA:closureFor scope X.X=pure [(x,cc)])(HP:defaultsOf params X.X=([],[]))(Ah:mainGlobals≠Pt)
  (h:∀f c' pm Rf s' H',SameX Pt H H'->TabH H' Pt pos (X.X.qual++Str.M "<lambda>")->FpOk X pins H' f->Inv X pins σ H' s'->s'.C.E f=⇑(kla_obj (Str.M "<lambda>") (X.X.qual++Str.M "<lambda>") params body scope [(x,cc)] pm c' Rf)->H' c'=⇑(Fp c'<|X.X.qual++Str.M "<lambda>")->Q ↑f s'):
  wpAny (model X.prog X.w) X.A (eval (.Lambda params body scope pos) X.X) Q E s:=by
 let(ps,hP,z9,z8):=hT;let Ud:s.C.E Pt=⇑(tabObj ps):=I.hok Pt _ hP
 let Qn:s.C.Ns mainGlobals X.mg:=I.mod.glob.keeps I.bk;let hHd:=codeHd_of_K I.kIn hC
 show kla_eval HP ?_;rcases z8 with hnf|⟨c',hf,Wi⟩
 .show kla_makeFunction OA I.ok.glob Qn TQ hHd Ud z9 hnf Ah (I.builtinsAt hB) λc' Rf h' tk hx Rm Xj LY htb=>?_;let hPl:Pt<(~~~s):=Ym Ud
  let uf:H c'=A8:=I.hok.fresh Rm;let hcP:c'≠Pt:=QS (Yp hPl Rm)
  let keep:∀b o,b≠Pt->s.C.E b=⇑o->(h'.push<|kla_obj (Str.M "<lambda>") (X.X.qual++Str.M "<lambda>") params body scope [(x,cc)] ((X.mg "__name__").R .none) c' Rf).E b=⇑o:=λb o hb e=>Xf _ (hx b o hb e);let sx:SameX Pt H (upd (upd H Pt<|.tbl<|ps++#[rawInt pos.line,rawInt pos.col,.ref c']) c'<|Fp c'<|X.X.qual++Str.M "<lambda>"):=λb o hb e=>by rwa[Zd (Ze e uf),Zd hb]
  let tb:TabH (upd (upd H Pt<|.tbl<|ps++#[rawInt pos.line,rawInt pos.col,.ref c']) c'<|Fp c'<|X.X.qual++Str.M "<lambda>") Pt pos (X.X.qual++Str.M "<lambda>"):=by let et:(ps++#[rawInt pos.line,rawInt pos.col,Value.ref c']).m=ps.m++[rawInt pos.line,rawInt pos.col,.ref c']:=Eo;exists ps++#[rawInt pos.line,rawInt pos.col,.ref c'],by rw[Zd (YZ hcP),XT],by rw[et];show TriplesOk_snoc _ _ _ _ z9,.inr {c',by rw[et];show codeAmong_snoc _ z9 hnf,XT}
  let HM:∀b,H b=A8->b≠Pt:=λb n z=>J;show h h'.objs.o c' _ Rf _ _ sx tb ?_ (I.un {λb o e n _ _=>keep b o (HM b n) e,λb o e n _ _=>{o.slots,keep b o (HM b n) e},λb o e n _=>?_,λb o e _=>?_,λb xs e=>?_,λb o u e=>?_,λb qs e=>?_} λb u e=>?_) (Yj _ Z) XT
  .let jq:(~~~s)<=h'.objs.o:=J;show I.fpOk jq ?_;rw[Zd (QS Xj),Zd (QS<|Yp hPl jq)];show I.hok.fresh jq
  .rw[Zd (Yx<|Yp (Ym e) Rm),Zd (HM b n)];show n
  .cases hb:b=Pt
   .rw[hb];exists _,Xf _ htb
   .exists o,keep b o hb e
  .show sx b _ (λz=>by ext) e
  .show sx b _ (λz=>by ext) e
  .cases hb:b=Pt
   .subst hb;rw[hP]at e;let rfl:ps=qs:=J;exists #[rawInt pos.line,rawInt pos.col,.ref c'],by rw[Zd (YZ hcP),XT]
   .exists #[],by rw[sx b _ hb e];simp
  .cases hb:b=c'
   .subst hb;rw[XT]at e;cases e;exists Zg3 _ _ LY λo g=>Xf _ g,?_,Zg3;let(c2,o,_,_,e2,g,_):=LY;cases e2;exists o,Xf _ g
   .rw[Zd hb]at e;cases Ks:b=Pt
    .subst Ks;rw[XT]at e;cases e;show Xf _ htb
    .rw[Zd Ks]at e;show(I.hok b u e).stay (λd o hd g=>keep d o (λz=>?_) g) (λd g=>sx d _ (λz=>by ext) g) λd xs g=>sx d _ (λz=>J) g;lia
 .show kla_makeFunctionHit OA I.ok.glob Qn TQ hHd Ud z9 hf (I.builtinsAt hB) λRf h' tk hk hsz=>?_;show h h'.objs.o c' _ Rf _ H (λ_ _ _ e=>e) {ps,hP,z9,.inr ⟨c',hf,Wi⟩} (I.fpOk hsz<|I.hok.fresh hsz) (I.kept λb o e=>Xf _<|hk b o e) (Yj _ Z) Wi
end
section
variable{Uc:Pos}{Pt:A7}
def SqT.samex{K:Ad}{H H2:Hp}{a:A7}{xs:A6 V}{qual:C0}(h:SqT K H a xs)(t:TabH H Pt Uc qual)(sx:SameX Pt H H2):SqT K H2 a xs:=by
 let(ps,hP,_):=t;rcases h with (h|⟨o,h⟩)|h
 .show .inl (.inl<|sx _ _ (λz=>J) h)
 .show .inl (.inr {o,sx _ _ (λz=>by ext) h})
 .show .inr h
end
def HL(Pt:A7)(H:Hp):(Prop):=H Pt=⇑(.tbl #[])/\∀b,b=Pt\/H b=A8\/∃o xs,H b=⇑(.frz o<|.lst xs)
def ZN9{P:Program}{w:World}{K:Ad}{mg mb:Af}{CX:PU}{k:A5}{fa a Pt c:A7}{fd:B9}{x:C0}{sp:Sp}{s₁:B6}{vs:Ag}{ns:Ac}
  (KX:K.In s₁.C)(Qn:s₁.C.Ns mainGlobals mg)(hb:s₁.C.Ns builtinsNs mb)(mM:∀x:C0,x≠"__name__"->mb x=bootBuiltins x)(jo:s₁.C.NoLimit)(hg:s₁.gens=#[])
  (hT:s₁.C.E Pt=⇑(tabObj #[]))(hC:codeHdIn K c Pt=A9)(jm:K.U Pt=A8)(hbm:∃bm ob,mg (Str.M "__builtins__")=some ↑bm/\bm≠builtinsNs/\s₁.C.E bm=⇑ob/\ob.cls=.type "module"/\ob.dict=⇑builtinsNs/\ob.data=.plain)
  (ha:s₁.C.E a=⇑{cls:=.type "list",data:=.seq vs.r})(hi:IntsAre vs ns)(hl:ns.f<=sizeLine)(hr:Room k callerA)
  (F:∀base:Heap,K.In base->base.Ns mainGlobals mg->base.BuiltinsAt mg Pt->FnOk P w K mg base CX k fa fd [x] sp)(SJ:∀s u,BindsTo s fd {[u],[]} [(x,u)])
  (Tg:∀H:Hp,HL Pt H->SqL K H a (ns.G V.int)->sp [.ref a] H (λv _=>v=.bl true) λ_ _ _=>False)
  (jk:∀H e s',CX [] H s₁ (λ_ _ _=>False) e s'->False):
  codeAny (model P w) callerA (.call ↑fa {[.ref a],[]}) (λr s'=>r=.ok (.ret<|.bool true)/\OldK s₁.C s'.C/\s'.os=s₁.os/\AllBare s'.gens) s₁:=by
 let rv:=Za9 hi;let jj:=hi.f
 let haP:a≠Pt:=λz=>by rw[z,hT]at ha;cases ha
 let core:∀H:Hp,HL Pt H->SqL K H a (ns.G V.int)->HOk P w H s₁.C->(∀b,H b≠A8->b=a\/b=Pt)->(H a≠A8->K.U a=A8)->
   codeAny (model P w) callerA (.call ↑fa {[.ref a],[]}) (λr s'=>r=.ok (.ret<|.bool true)/\OldK s₁.C s'.C/\s'.os=s₁.os/\AllBare s'.gens) s₁:=by
  intro H hO hS hok hA hK;let base_of:∀{b:A7}{o:Obj},s₁.C.E b=⇑o->H b=A8->(Uw s₁.C H).E b=⇑o:=λe n=>Zaf e n
  let free:∀{b:A7}{o:Obj},s₁.C.E b=⇑o->(∀XX n,o.data≠.seq XX n)->(∀vs,o.data≠.fields vs)->H b=A8:=λ{b o} e d1 d2=>by
   cases q:H b with
   |none=>rfl
   |some u=>
    rcases hA b (by rw[q];simp) with e'|e'
    .subst e';rw[ha]at e;cases e;show absurd Z (d1 _ _)
    .subst e';rw[hT]at e;cases e;show absurd Z (d2 _)
  let ue:∀{b:A7}{m:Af},s₁.C.Ns b m->(Uw s₁.C H).Ns b m:=λ{b m} ⟨o,es,ep,e,d,r⟩=>{o,es,ep,base_of e (free e (λ_ _ z=>by rw[d]at z;cases z) λ_ z=>by rw[d]at z;cases z),d,r};let hKb:K.In (Uw s₁.C H):=λb o e=>base_of (KX b o e) (by
   cases q:H b with
   |none=>rfl
   |some u=>
    rcases hA b (by rw[q];simp) with e'|e'
    .subst e';rw[hK (by rw[q];simp)]at e;cases e
    .subst e';rw[jm]at e;cases e)
  let hM:Mod K mg (Uw s₁.C H):={hKb,ue Qn,{mb,ue hb,mM},by let(mc,h1,h2):=jo;exists mc,ue h1,h2};let hB:(Uw s₁.C H).BuiltinsAt mg Pt:=by
   let(bm,ob,b1,b2,b3,b4,b5,b6):=hbm;exists bm,ob,b1,b2,λz=>?_,λz=>?_,base_of b3 (free b3 (λ_ _ z=>by rw[b6]at z;cases z) λ_ z=>by rw[b6]at z;cases z),b4,b5,b6
   .let⟨o,es,ep,e,d,_⟩:=Qn;rw[z,e]at b3;cases b3;rw[d]at b6;cases b6
   .rw[z,hT]at b3;cases b3;cases b4
  let e0:Env0 P w K mg (Uw s₁.C H) callerA [] s₁ H:={Z,hM,λb o e=>Zag e,Nat.le_of_eq<|ZW9 _ _,trivial,λb hb=>absurd (show b∈([]:A6 A7) from hb) Eo,hok,.of_eq hg};show Si ((F _ hKb (ue Qn) hB).run callerA [] s₁ H {[.ref a],[]} [.ref a] [.ref a] _ _ hr e0 (SJ s₁<|.ref a) (.cons Z .nil) (Tg H hO hS)) λr s' h=>?_;cases r with
  |error e=>show(jk H e s' h).elim
  |ok fl=>
   cases fl with
   |next=>show False.elim h
   |brk=>show False.elim h
   |cont=>show False.elim h
   |ret u=>
    let(v,H',os,bare,un,z7,r',q):=h;let q':v=.bl true:=q
    subst q';let rfl:u=Value.bool true:=r';let(more,eP):=un.tbls Pt #[] hO.1;let hP':s'.C.E Pt=⇑{cls:=.none,data:=.fields (#[]++more)}:=z7 Pt _ eP
    let kept:∀b o,b≠Pt->s₁.C.E b=⇑o->s'.C.E b=⇑o:=λb o VG e=>by
     cases q:H b with
     |none=>show un.keep b o e q (by intro z;show absurd (show b∈([]:A6 A7) from z) Eo) Eo
     |some u=>
      rcases hO.2 b with z|z|⟨ob,xs,z⟩
      .show absurd z VG
      .rw[q]at z;cases z
      .let z2:=un.frzs b ob _ z;let(e1,_):=hok b _ z;let(e2,_):=z7 b _ z2;rw[e]at e1;cases e1;show e2
    exists Z,{λb o e=>?_,λb o e=>?_},os,bare
    .cases VG:b=Pt
     .subst VG;rw[hT]at e;let rfl:=Yn e;let(oc,vsc,_,_,_,_,_,_,_,c1,c2,c3,c4,_):=codeHd_of_K KX hC;show .inr (.inl {⟨c,oc,vsc,c1,c2,c3,c4⟩,Z,#[],more,Z,hP'})
     .show .inl (kept b o VG e)
    .cases VG:b=Pt
     .rw[VG];exists _,hP'
     .exists o,kept b o VG e
 cases hk:K.U a with
 |some o=>
  let e:=KX a o hk;rw[ha]at e;cases e;show core (λb=>if b=Pt then some (.tbl #[]) else none) {Yk Z,λb=>?_} (.inr {_,vs.r,_,hk,Z,Z,Z,by rw[YJ,jj];show hl,by simpa using rv}) (λb u z=>?_) (λb z=>?_) λz=>absurd (Yh haP) z
  .cases VG:b=Pt
   .show .inl VG
   .show .inr (.inl<|Yh VG)
  .cases VG:b=Pt
   .let z':=(Yk VG).symm.l z;cases z';subst VG;show hT
   .let z':=(Yh VG).symm.l z;cases z'
  .cases VG:b=Pt
   .show .inr VG
   .show absurd (Yh VG) z
 |none=>
  show core (λb=>if b=Pt then some (.tbl #[]) else if b=a then some (.frz {cls:=.type "list",data:=.seq vs.r} (.lst<|ns.G V.int)) else none) {Yk Z,λb=>?_} (.inl<|.inr {{cls:=.type "list",data:=.seq vs.r},(Yh haP).l (Yk Z)}) (λb u z=>?_) (λb z=>?_) λ_=>hk
  .cases VG:b=Pt
   .show .inl VG
   .cases hb:b=a
    .show .inr (.inr {_,_,(Yh VG).l (Yk hb)})
    .show .inr (.inl<|(Yh VG).l (Yh hb))
  .cases VG:b=Pt
   .let z':=(Yk VG).symm.l z;cases z';subst VG;show hT
   .cases hb:b=a
    .let z':=((Yh VG).l (Yk hb)).symm.l z;cases z';subst hb;exists ha,by rw[Xr];show hl,vs,_,rv,ha
    .let z':=((Yh VG).l (Yh hb)).symm.l z;cases z'
  .cases VG:b=Pt
   .show .inr VG
   .cases hb:b=a
    .show .inl hb
    .show absurd ((Yh VG).l (Yh hb)) z
def Ot{l:PySem.W.OpenLaw}{n k:A5}{q:Program}{loose:A6 C0}{XP:Af->Heap->Prop}{YP:World->Heap->Prop}{d:DefRec}{K:Params->Ad}{CX:PU}{sp:Ad->Sp}{x:C0}{c Pt:A7}
  (hn:l.most=⇑n)(Rw:n<=sizeLine)(pI:d.params.defaults=[])(hr:Room k callerA)
  (hY:∀(w:World)(h:Heap),YP w h->(K w.params).In h/\h.E Pt=⇑(tabObj #[]))(hC:∀w:World,codeHdIn (K w.params) c Pt=A9)(jm:∀w:World,(K w.params).U Pt=A8)
  (F:∀(w:World)(mg:Af)(fa:A7)(h:Heap),(K w.params).In h->h.Ns mainGlobals mg->mg d.name=some ↑fa->
   ∃fd:B9,(∀(s:B6)(u:B1),BindsTo s fd {[u],[]} [(x,u)])/\
    ∀base:Heap,(K w.params).In base->base.Ns mainGlobals mg->base.BuiltinsAt mg Pt->FnOk l.prog w (K w.params) mg base CX k fa fd [x] (sp<|K w.params))
  (Tg:∀(w:World)(H:Hp)(a:A7)(ns:Ac),ns.f<=n->HL Pt H->SqL (K w.params) H a (ns.G V.int)->sp (K w.params) [.ref a] H (λv _=>v=.bl true) λ_ _ _=>False)
  (jk:∀(H:Hp)(s:B6)(e:B1)(s':B6),CX [] H s (λ_ _ _=>False) e s'->False):
  PySem.W.WalkO q loose XP YP l.row.toRowW d [] (λf vs=>PySem.call f vs):=by show Att.SR hn pI λw s₀ s₁ mg mb fa o pm cd doc a vs ns G Y ho hd SA Dq Je hints hlen hg=>?_;let(KX,hT):=hY w _ Y;let(fd,hb,hF):=F w mg fa _ KX G.T.g Dq;show ZN9 KX G.T.g G.T.b G.T.builtins G.T.nolimit hg hT (hC w) (jm w) G.T.bmain Je hints (Yq hlen Rw) hr hF hb (λH hO hS=>Tg w H a ns hlen hO hS) λH e s'=>jk H s₁ e s'
def Wr(K:Ad)(mg:Af)(base:Heap)(fd:B9)(Pt:A7):(Prop):=∃c,fd.code=.ref c/\codeHdIn K c Pt=A9/\base.BuiltinsAt mg Pt/\mainGlobals≠Pt
def LamScope.of(h1:sc.kind=.function)(h2:sc.isCoroutine=B0)(h3:sc.isGenerator=B0)(h4:sc.names=[(v,.local),(x,.free)]\/sc.names=[(x,.free),(v,.local)])(hn:v≠x):LamScope v x sc:=by
 exists h1,h2,h3,λy hy=>?_,?_,?_,λy hy=>?_,hn
 .grind
 .grind
 .grind
 grind
section
variable{P:Program}{w:World}{K:Ad}{mg:Af}{base:Heap}
def Fun.okL{x qual:C0}{st:B8}{f c:A7}{fd:B9}{N ps:A6 C0}{k:A5}{sp:Sp}(F:Fun K x qual st f fd)(hc:fd.code=.ref c)(S:FnScope N ps (Za st))(len:∀vs H Q E,sp vs H Q E->vs.f=ps.f)
  (VO:∀A outer s H vs Q E,Room k (A.deeper<|envOfC qual (Za st) (~~~s) f<|.ref c)->sp vs H Q E->
   ∃t,PSs (TF XA P w K mg base N qual (Za st) f ↑c A outer s H E).nox (Rt st) t/\t {nx:=λ_ H'=>Q .non H',rt:=Q} (start N vs) H):FnOk P w K mg base XA (k+1) f fd ps sp:=by let(oc,od,kV,doc,pm,an,XI,ct,Vf,rfl,lk,SA):=F.ex;let rfl:XI=.ref c:=hc;show DI lk SA S len λA outer s H vs Q E hr Tg=>?_;let(t,h,q):=VO A outer s H vs Q E hr Tg;exists t,h.nox,q
end
end L2
namespace My
open PySem L2
def pl(ls T U:Ac):(Prop):=HT.ltP (AJ ls T,T) (AJ ls U,U)=A9
def OrdL(ls:Ac)(m:A5)(os:Ac):(Prop):=os.Perm (Vu m)/\os.H λx y=>HY ls x<HY ls y\/(HY ls x=HY ls y/\x<y)
def ji(g:ZA n ps)(hT:Zn n ps T)(hW:Zn n ps W)(h:∀z∈T,z∈W):T=W:=
 Ir (uV hT) (uV hW) λz=>(jW g hT hW h).mem_iff
structure Ent where
 T:Ac
 I:Ac
 O:Ac
deriving DecidableEq
end My
namespace L2
open PySem PySem.Spec PyProof.Rows PySem.W My
def SameX.same(s:Same H H'):SameX Pt H H':=λb o _ e=>s b o e
def SameX.trans{Pt:A7}{H H1 H2:Hp}(a:SameX Pt H H1)(b:SameX Pt H1 H2):SameX Pt H H2:=λc o hc e=>b c o hc (a c o hc e)
def TabH.same(t:TabH H Pt pos qual)(s:Same H H'):TabH H' Pt pos qual:=by
 let(ps,h1,h2,h3):=t;exists ps,s _ _ h1,h2,?_;rcases h3 with h|⟨c,h,h'⟩
 .show .inl h
 .show .inr {c,h,s _ _ h'}
def TabH.ne{Pt a:A7}{o:HO}(t:TabH H Pt pos qual)(h:H a=⇑o)(hn:∀ps,o≠.tbl ps):a≠Pt:=λe=>by let(ps,h1,_):=t;grind
def TabH.put{Pt r:A7}{zs:A6 V}{u:A6 V}(t:TabH H Pt pos qual)(hr:H r=⇑(.lst zs)):TabH (upd H r (.lst u)) Pt pos qual:=by
 let(ps,h1,h2,h3):=t;show{ps,by rw[Zd (Ux h1 hr Eo)];show h1,h2,?_};rcases h3 with h|⟨c,h,h'⟩
 .show .inl h
 .show .inr {c,h,by rwa[Zd (Ux h' hr<|by unfold Fp;simp)]}
end L2
namespace My
open PySem L2
def SqK.samex(h:SqK kd K H a xs)(t:TabH H Pt pos qual)(sx:SameX Pt H H2):SqK kd K H2 a xs:=by
 cases kd with
 |true=>show SqT.samex (show SqT K H a xs from h) t sx
 |false=>
  rcases(show SqL K H a xs from h) with (h|⟨o,h⟩)|h
  .show .inl (.inl<|sx _ _ (t.ne h Eo) h)
  .show .inl (.inr {o,sx _ _ (t.ne h Eo) h})
  .show .inr h
def WebAt.samex(h:WebAt C H w n ps)(t:TabH H Pt pos qual)(sx:SameX Pt H H2):WebAt C H2 w n ps:=by let(dx,tl,xs,h1,h2,h3):=h;exists dx,tl,xs,sx _ _ (t.ne h1 Eo) h1,sx _ _ (t.ne h2 Eo) h2,h3.1,λi p hp=>?_;let(x,hx,q,e,hq):=h3.2 i p hp;exists x,hx,q,e,sx _ _ (t.ne hq Eo) hq
end My
namespace My
def jh{α:Type}{P:A6 α->Prop}(h:∀a,P [a])(l:A6 α)(e:l.f=1):P l:=by let(a,rfl):=BI e;show h a
def Di{α:Type}{P:A6 α->Prop}(h:∀a b,P [a,b])(l:A6 α)(e:l.f=2):P l:=by let(a,b,rfl):=BH e;show h a b
def un3{α:Type}{P:A6 α->Prop}(h:∀a b c,P [a,b,c])(l:A6 α)(e:l.f=3):P l:=by let(a,b,c,rfl):=BG e;show h a b c
def un4{α:Type}{P:A6 α->Prop}(h:∀a b c d,P [a,b,c,d])(l:A6 α)(e:l.f=4):P l:=by let(a,b,c,d,rfl):=BF e;show h a b c d
def un5{α:Type}{P:A6 α->Prop}(h:∀a b c d e,P [a,b,c,d,e])(l:A6 α)(e:l.f=5):P l:=by
 cases l with
 |nil=>cases e
 |cons x r=>
  let(a,b,c,d,rfl):=BF (Nf e);show h x a b c d
end My
namespace My
open PySem L2
def Zh9(h:TC n ps c):c=0↔∀T,¬Zn n ps T:=by
 let(L,a1,a2,a3):=h;constructor
 .intro e T hT
  ext
 .intro e;rw[<-a3,YV];show Nh.mpr λT hT=>e T ((a2 T).S hT)
end My
namespace L2
open PySem PySem.Spec PyProof.Rows PySem.W
def Yz3:∀bs:A6 B3,(bs.G Value.bool).mapM firstOfTuple'=(pure ((bs.G Value.bool).G λ_=>none):Sem _)
 |[]=>Eo
 |b::bs=>by rw[Pj,List.mapM_cons,Yz3 bs];change(pure none >>= λb=>pure _ >>= λbs=>pure<|b::bs)=_;simp
def z6:∀bs:A6 B3,(bs.G Value.bool).mapM typeOf=(pure ((bs.G Value.bool).G λ_=>Value.type "bool"):Sem _)
 |[]=>Eo
 |b::bs=>by rw[Pj,List.mapM_cons,z6 bs];change(pure (Value.type "bool") >>= λb=>pure _ >>= λbs=>pure<|b::bs)=_;simp
def Zj8{ns:Ac}{key:A0->B3}(hk:kA.m=ns.G λz=>Value.bool (key z))(h2:2<=ns.f):keyKind' kA=pure oneType':=by
 let e:kA=((ns.G key).G Value.bool).r:=by rw[<-Array.toArray_toList (xs:=kA),hk,Nd];rfl
 rw[e];obtain⟨b1,b2,bs,eb⟩:∃b1 b2 bs,ns.G key=b1::b2::bs:=by
  match ns,h2 with
  |x::y::l,_=>exists _,_,_,Z
 rw[eb,keyKind'_eq,List.mapM_toArray,Yz3];simp only[map_pure,pure_bind];rw[Yh Eo,Yh Eo];rw[oneTypeOnly'_eq,List.mapM_toArray,z6];simp only[map_pure,pure_bind];grind
def z5{E:Ae}{s:B6}{Q:B3->B6->Prop}(h:Q (decide (b2i p<b2i q)) s):wpAny (model prog w) A (keyLt' oneType' (.bool p) (.bool q)) Q E s:=by show XU (wpAny_cRoomFor_byValue Z ?_);show XU (wpAny_callSpecialIfBound?_slot (typeIs_bool' s p) F.slot_bool_lt<|call_gives F.slot_bool_lt (typeIs_bool' s p) F.entry_int_lt (F.args_int_lt_2 _ _) (gives_int_lt_bools p q) ?_);show Pn h
section
variable{X:Cx}{pins:A6 (A7×Obj)}{σ:St}{H:Hp}{s:B6}{a kS:A7}{A:Around}{E:Ae}{P:PySem.Fin->B6->Prop}{kA:B4 B1}{e e1:A5}{f:B1}{key:A0->B3}{ns:Ac}{vs:Ag}
def jg(hv:IntsAre vs ns)(hk:kA.m=ns.G λz=>Value.bool (key z))(hi:i<ns.f):∃u,kas_item (kA.zip vs.r) i=(.bool (key (ns.R i 0)),.int (ns.R i 0) u):=by
 let(u,hu):=Ai hv i hi;let ht:kA.m[i]?=⇑(Value.bool<|key<|ns.R i 0):=by rw[hk,Yi,Yb,Xv hi];rfl
 exists u,?_;unfold kas_item;rw[QP,<-YN,ksk_zip,(List.getElem?_zip_eq_some (z:=(Value.bool<|key<|ns.R i 0,Value.int (ns.R i 0) u))).mpr ⟨ht,hu⟩];rfl
def z4(hv:IntsAre vs ns)(hk:kA.m=ns.G λz=>Value.bool (key z)):∀l:A6 A5,(∀i∈l,i<ns.f)->IntsAre (l.G λi=>(kas_item (kA.zip vs.r) i).2) (l.G λi=>ns.R i 0)
 |[],_=>.nil
 |i::l,h=>by
  let(u,e):=jg hv hk (h i Ya);let r:=z4 hv hk l λj hj=>h j (Yf _ hj)
  rw[Pj,Pj,e];show .cons _ u r
def jf(I:Inv X (pins++[(a,seqObj "list" #[] e1),(kS,seqObj "list" kA e)]) σ H s)(Fa:FpOk X pins H a)(Fk:FpOk X pins H kS)(NB:a≠kS)(hv:IntsAre vs ns)(PJ:ns.f<64)(hk:kA.m=ns.G λz=>Value.bool (key z))
  (h:∀s' m out ms,Inv X pins σ H s'->s'.C.E a=⇑(seqObj "list" out m)->IntsAre out.m ms->Rc (λz=>b2i<|key z) ns ms->P (.done<|.ret .none) s'):
  wpAny (model X.prog X.w) A (ksk_end a false vs.r e1 ↑kS kA) P E s:=by
 let z3:=hv.f;let hkl:=YI List.f hk
 rw[YU,Xr]at hkl;let hzs:(kA.zip vs.r).o=ns.f:=by rw[Array.size_zip,show vs.r.o=vs.f from YJ];ext
 unfold ksk_end;dsimp only;cases h2:vs.r.o<2
 .rw[Yk h2,Yk h2];show XU (Yg ?_);show XU (Yg ?_);show Zk8 (out:=vs) I Fa Fk NB (by ext) Z ?_ (by ext) λs' m tB e=>h s' m vs.r ns tB e rF ?_
  .grind
  .exists List.range ns.f,we _,?_,?_
   .match ns.f,(show ns.f<2 by ext) with
    |0,_=>ext
    |1,_=>grind
   .match ns,(show ns.f<2 by ext) with
    |[],_=>rfl
    |[x],_=>rfl
 .rw[Yh h2,Yh h2];rw[YJ]at h2;rw[Zj8 hk (by ext)];show XU (Yg ?_);let(p,VD,Wn,Tb):=My.LZ (n:=ns.f) (key:=λi=>b2i<|key<|ns.R i 0) J;let runs:=kas_runs (prog:=X.prog) (w:=X.w) (A:=A) (E:=E) (κ:=oneType') (it:=kA.zip vs.r) (n:=ns.f) (s:=s) (Q:=λ_ st s'=>s'=s/\failedOf st=A8/\arrOf st=p.G (kas_item<|kA.zip vs.r))
   (G:=λq s'=>s'=s/\q=p) (by ext) PJ (λq st s' _ e2 e3 e4=>{e4.1,e3,by rw[e2,e4.2]})
   (My.goT_wp' (c:=λi j=>decide<|b2i (key<|ns.R i 0)<b2i (key<|ns.R j 0)) (tB:=λs'=>s'=s) (λi j C s' hi hj hs hC=>by let(u,e):=jg hv hk hi;let(u',e'):=jg hv hk hj;unfold kas_cmp;rw[e,e'];show z5<|hC s' hs) _ s (My.Qm D) Z λs' hs=>⟨hs,VD⟩)
  unfold kasC kas_st at runs;rw[<-hzs,kas_range]at runs;show XU (SD runs ?_ λ_ _ z=>z);rintro⟨⟨⟩,st⟩ s' ⟨rfl,hf,ha⟩;dsimp only;let hb:∀i∈p.m,i<ns.f:=λi hi=>YX.S (Wn.mem_iff.S hi)
  let UG:p.m.f=ns.f:=by rw[Wn.length_eq,Nm]
  show Zk8 (out:=p.m.G λi=>(kas_item (kA.zip vs.r) i).2) I Fa Fk NB (by ext) hf ?_ (by ext) λSy m tB e=>h Sy m _ _ tB e (by simpa using z4 hv hk p.toList hb) ⟨p.m,Wn,Tb,Z⟩;rw[ha,Array.map_map];show JC.S Eo
def ZP9(I:Inv X (pins++[(a,seqObj "list" #[] e1),(kS,seqObj "list" #[] 0)]) σ H s)(Fa:FpOk X pins H a)(Fk:FpOk X pins H kS)(NB:a≠kS)(hv:IntsAre vs ns)(PJ:ns.f<64)
  (turn:∀pl z t s',z∈ns->Inv X (pins++pl) σ H s'->wpAny (model X.prog X.w) A (call f [.int z t]) (λv Sy=>v=.bool (key z)/\Inv X (pins++pl) σ H Sy) (λ_ _=>False) s')
  (h:∀s' m out ms,Inv X pins σ H s'->s'.C.E a=⇑(seqObj "list" out m)->IntsAre out.m ms->Rc (λz=>b2i<|key z) ns ms->P (.done<|.ret .none) s'):
  wpAny (model X.prog X.w) A (ksk_rest a f false vs.r e1<|.ref kS) P E s:=by
 let IE:sizeLine=16777216:=Rz;let z3:=hv.f
 show XU (PZ ?_);rw[<-Array.forIn_toList];show XU (ksk_fold (λi s'=>∃kA e,Inv X (pins++[(a,seqObj "list" #[] e1),(kS,seqObj "list" kA e)]) σ H s'/\kA.m=(ns.Q i).G λz=>Value.bool<|key z) vs 0 s ⟨#[],0,I,Z⟩ ?step ?done)
 case step=>
  rintro j x s' hx ⟨kA,e,tB,hk⟩;rw[QT]at hk ⊢;let hj:j<ns.f:=by rw[<-z3];show(Xx.S hx).1
  let(t,ht):=Ai hv j hj;rw[hx]at ht;let rfl:=Yn ht;let hz:kA.o<=j:=by let h1:=YI List.f hk;rw[YU,Xr,Yw]at h1;lia
  let eg:ns.R j 0=ns[j]:=by rw[Yb,Xv hj];rfl
  let hmem:ns.R j 0∈ns:=by rw[eg];show JS hj
  show XU (Gm<|SD (turn _ _ t s' hmem tB) (λv Sy he=>?_) λ_ _ hF=>hF.elim);let(rfl,J2):=he;let pk:=(J2.pin (kS,seqObj "list" kA e) Eo).1
  obtain⟨c2,Vm⟩:∃c2,(Sy.C.update kS (Obj.mapSeq (·.push (.bool<|key<|ns.R j 0)))).E kS=⇑(seqObj "list" (kA.push<|.bool<|key<|ns.R j 0) c2):={_,Ey pk (·.push (.bool<|key<|ns.R j 0))};show XU (NK pk Z ?_ J<|by rw[Array.size_push];lia);show Yg {Z,kA.push<|.bool<|key<|ns.R j 0,c2,?_,?_}
  .let J3:Inv X (pins++[(a,seqObj "list" #[] e1)]) σ H Sy:=J2.pins_of λp hp=>J2.pin p (Yc _ (by
    grind))
   let Fk2:FpOk X (pins++[(a,seqObj "list" #[] e1)]) H kS:=Fk.more λp hp=>by ext
   let J4:=(J3.changed (t':=Sy.toks) Fk2 λc o hc q=>(YK Sy.C (Obj.mapSeq (·.push (.bool<|key<|ns.R j 0)))<|YZ hc).l q).pin1 Fk2 Vm λv z=>by cases z
   rwa[YT]at J4
  .let ek:((ns.Q<|j+1).G λz=>Value.bool<|key z)=((ns.Q j).G λz=>Value.bool<|key z)++[Value.bool (key<|ns.R j 0)]:=by rw[List.take_add_one,Xv hj,YE,eg];rfl
   grind
 case done=>
  rintro s' ⟨kA,e,tB,hk⟩;rw[QT,z3,Yv]at hk;let pk:=(tB.pin (kS,seqObj "list" kA e) Eo).1
  show XU (Eu pk Z ?_);show jf tB Fa Fk NB hv PJ hk h
def ZO9(I:Inv X pins σ H s)(Fa:FpOk X pins H a)(ho:s.C.E a=⇑(seqObj "list" vs.r n))(hv:IntsAre vs ns)(PJ:ns.f<64)
  (turn:∀pl z t s',z∈ns->Inv X (pins++pl) σ H s'->wpAny (model X.prog X.w) A (call f [.int z t]) (λv Sy=>v=.bool (key z)/\Inv X (pins++pl) σ H Sy) (λ_ _=>False) s')
  (h:∀s' m out ms,Inv X pins σ H s'->s'.C.E a=⇑(seqObj "list" out m)->IntsAre out.m ms->Rc (λz=>b2i<|key z) ns ms->P (.done<|.ret .none) s'):
  wpAny (model X.prog X.w) A (ksk_tree a f false) P E s:=by
 let IE:sizeLine=16777216:=Rz;let z3:=hv.f
 obtain⟨e1,zw⟩:∃e1,(s.C.update a<|Obj.mapSeq λ_=>(#[]:B4 B1)).E a=⇑(seqObj "list" #[] e1):={_,Ey ho λ_=>#[]};let I1:Inv X pins σ H {s with heap:=s.C.update a<|Obj.mapSeq λ_=>(#[]:B4 B1),toks:=s.toks}:=I.changed Fa λc o hc q=>(YK _ _<|YZ hc).l q
 let I2:Inv X pins σ H {s with heap:=(s.C.update a<|Obj.mapSeq λ_=>(#[]:B4 B1)).push (seqObj "tuple" vs.r 0),toks:=s.toks}:=I1.kept λc o q=>Xf _ q;let Tf:((s.C.update a<|Obj.mapSeq λ_=>(#[]:B4 B1)).push (seqObj "tuple" vs.r 0)).E a=⇑(seqObj "list" #[] e1):=Xf _ zw
 show XU (Eu ho Z ?_);show XU (NK ho Z ?_ D<|Qd _);show XU (seqEpoch_at zw Z ?_);show XU (wpAny_newTuple ?_ J);show XU (Lp ?_<|Qd _);show SE ?_;let Fk:FpOk X pins H ((s.C.update a<|Obj.mapSeq λ_=>(#[]:B4 B1)).push (seqObj "tuple" vs.r 0)).objs.o:=I2.fpOk (XG _) (I2.hok.fresh<|XG _)
 let NB:a≠((s.C.update a<|Obj.mapSeq λ_=>(#[]:B4 B1)).push (seqObj "tuple" vs.r 0)).objs.o:=Yx (Ym Tf);let I3:Inv X pins σ H {s with heap:=((s.C.update a<|Obj.mapSeq λ_=>(#[]:B4 B1)).push (seqObj "tuple" vs.r 0)).push (seqObj "list" #[] 0),toks:=s.toks}:=I2.kept λc o q=>Xf _ q
 let I4:=(I3.pin1 Fa (Xf _ Tf) λv z=>by cases z).pin1 (Fk.more (pl:=[(a,seqObj "list" #[] e1)]) λp hp=>by rw[Xd.S hp];show NB) (Yj _ Z) λv z=>by cases z
 rw[YT]at I4;show ZP9 I4 Fa Fk NB hv PJ turn h
def ZR6{tp q:A7}{Q:Ae}(I:Inv X pins σ H s)(ht:s.C.IsList tp vs.r)(hv:IntsAre vs ns)(PJ:ns.f<64)
  (turn:∀pl z t s',z∈ns->Inv X (pins++pl) σ H s'->wpAny (model X.prog X.w) A.in1.in1 (call ↑q [.int z t]) (λv Sy=>v=.bool (key z)/\Inv X (pins++pl) σ H Sy) (λ_ _=>False) s')
  (h:∀s' a m out ms,FpOk X pins H a->Inv X pins σ H s'->s'.C.E a=⇑(seqObj "list" out m)->IntsAre out.m ms->Rc (λz=>b2i<|key z) ns ms->Q ↑a s'):
  wpAny (model X.prog X.w) A (call (.builtin "sorted") [.ref tp] [(Str.M "key",.ref q)]) Q E s:=by
 let IE:sizeLine=16777216:=Rz;let z3:=hv.f
 show call_function_entry_kw kind_sorted plain_sorted entry_sorted (ksk_s1 _ _) ?_;show XU (m:=checkCount "sorted" 1 1 _) (Yg ?_);show XU (collect_list ht ?_ J);show XU (Lp ?_ J);let hsz:((s.C.push<|seqObj "list" #[] 0).update (~~~s) (Obj.mapSeq (·++vs.r))).objs.o=(~~~s)+1:=by rw[rN,size_push']
 let NJ:(((s.C.push<|seqObj "list" #[] 0).update (~~~s) (Obj.mapSeq (·++vs.r))).push (seqObj "list" vs.r 0)).E ((~~~s)+1)=⇑(seqObj "list" vs.r 0):=by rw[<-hsz];show Yj _ rfl
 let keep:∀b o,s.C.E b=⇑o->(((s.C.push<|seqObj "list" #[] 0).update (~~~s) (Obj.mapSeq (·++vs.r))).push (seqObj "list" vs.r 0)).E b=⇑o:=λb o q=>by let Xj:b<(~~~s):=Ym q;show Xf _ ((YK _ _<|QS Xj).l (Xf _ q))
 rw[hsz];let Fa:FpOk X pins H ((~~~s)+1):=I.fpOk (SX _) (I.hok.fresh<|SX _)
 show XU (SE<|wpAny_call_entry_kw vT ⟨_,NJ,Z⟩ vW ?body (ksk_l1 _ _));show ZO9 (s:={s with heap:=((s.C.push<|seqObj "list" #[] 0).update (~~~s) (Obj.mapSeq (·++vs.r))).push (seqObj "list" vs.r 0),toks:=s.toks}) (I.kept keep) Fa NJ hv PJ turn λs' m out ms tB e hi hs=>{_,Z,?_};show Yg {_,Z,h s' _ m out ms Fa tB e hi hs}
end
def je(K:Ad)(Pt:A7)(Uc:Pos)(qual:C0)(i:A5)(te tb:TE):(TE):=λσ H Q=>te σ H λy H1=>∃(p:A7)(ns:Ac)(vx:V)(key:A0->B3),y=.ref p/\SqL K H1 p (ns.G V.int)/\ns.f<64/\TabH H1 Pt Uc qual/\σ[i]?=⇑(⇑vx)/\
 (∀H2,SameX Pt H1 H2->∀z∈ns,tb [⇑(.int z),⇑vx] H2 λr H3=>r=.bl (key z)/\H3=H2)/\
 ∀(ms:Ac)(l:A7)(H2:Hp),Rc (λz=>b2i<|key z) ns ms->SameX Pt H1 H2->TabH H2 Pt Uc qual->H2 l=A8->Q ↑l (upd H2 l<|.lst<|ms.G V.int)
section
variable{X:Cx}{p kp pos Uc:Pos}{e body:B5}{params:Arguments}{scope:C1}{te tb:TE}{v x:C0}{i k:A5}{c Pt cc:A7}
def SqL.samexT{K:Ad}{H H2:Hp}{a:A7}{xs:A6 V}{qual:C0}(h:SqL K H a xs)(t:TabH H Pt Uc qual)(sx:SameX Pt H H2):SqL K H2 a xs:=by
 let(ps,hP,_):=t;rcases h with (h|⟨o,h⟩)|h
 .show .inl (.inl<|sx _ _ (λz=>by ext) h)
 .show .inl (.inr {o,sx _ _ (λz=>by ext) h})
 .show .inr h
def ZW6(he:PE X e te)(hg:Gl X (Str.M "sorted"))(hm:X.mg (Str.M "sorted")=A8)(hr:Room (k+3) X.A)(hex:X.ex=[])(TQ:X.X.code=.ref c)(hC:codeHdIn X.K c Pt=A9)(hB:X.base.BuiltinsAt X.mg Pt)(Ah:mainGlobals≠Pt)
  (S:LamScope v x scope)(OA:closureFor scope X.X=pure [(x,cc)])(HP:defaultsOf params X.X=([],[]))(SJ:∀(c':A7)(pm Rf u:B1),bindArgs (kla_fn (Str.M "<lambda>") (X.X.qual++Str.M "<lambda>") params body scope [(x,cc)] pm ↑c' Rf) {[u],[]}=pure [(v,u)])
  (hi:X.N[i]?=⇑x)(hkx:X.X.kindOf x=some .cell)(VY:X.X.cells.U x=⇑cc)
  (hb:∀(f c':A7)(A:Around)(outer:A6 Env)(s:B6)(H:Hp),Room k (A.deeper<|envX (X.X.qual++Str.M "<lambda>") scope (~~~s) f ↑c' [(x,cc)])->PE (Ou X.prog X.w X.K X.mg X.base [v,x] (X.X.qual++Str.M "<lambda>") scope f ↑c' [(x,cc)] A outer s H) body tb)(hs:starEach [e] X.X=[(false,eval e X.X)]:=by rfl):
  PE X (.Call (.Name (Str.M "sorted") p) [e] [{some<|Str.M "key",.Lambda params body scope Uc,kp}] pos) (je X.K Pt Uc (X.X.qual++Str.M "<lambda>") i te tb):=by
 intro pins s σ H Q I h;show NO (PX I hg hm Boot.«sorted» ?_ Ep Ep);let ha:PA X [e] (Jm te MQ):=XZ he XY hs
 show callWith_kw (thn (ha pos pins s σ H (λvs H1=>match vs with
  |[y]=>∃(p:A7)(ns:Ac)(vx:V)(key:A0->B3),y=.ref p/\SqL X.K H1 p (ns.G V.int)/\ns.f<64/\TabH H1 Pt Uc (X.X.qual++Str.M "<lambda>")/\σ[i]?=⇑(⇑vx)/\
   (∀H2,SameX Pt H1 H2->∀z∈ns,tb [⇑(.int z),⇑vx] H2 λr H3=>r=.bl (key z)/\H3=H2)/\
   ∀(ms:Ac)(l:A7)(H2:Hp),Rc (λz=>b2i<|key z) ns ms->SameX Pt H1 H2->TabH H2 Pt Uc (X.X.qual++Str.M "<lambda>")->H2 l=A8->Q ↑l (upd H2 l<|.lst<|ms.G V.int)
  |_=>False) I h) λus s1 hh=>?_) (by rw[hs];rfl) (by rw[hs];rfl) Z rfl
 let(vs,H1,I1,r,q):=hh
 match vs,r,q with
 |[],_,q=>show False.elim q
 |_::_::_,_,q=>show False.elim q
 |[y],r,q=>
  let(p2,ns,vx,key,rfl,hq,PJ,hT,hσ,hk,q):=q;let(u,rfl,ru):=Ur r;let rfl:u=Value.ref p2:=ru;show kws_cons (jr I1 TQ hC hB hT OA HP Ah λf c' pm Rf s2 H2 sx tab F I2 hf Wi=>kws_nil ?_);let I3:=I2.pin1 F hf λv z=>by cases z
  let Tt:=SqL.samexT hq hT sx;let(XX,rv,g1,hz):=I2.list Tt;let hv:=ZL rv
  show ZR6 I3 g1.isList hv PJ (key:=key) (λpl z t s3 hmem tB=>?_) λs3 a m out ms Fa tB LX HR WE=>?_
  .-- the lambda called
   let Md:s3.C.E f=⇑(kla_obj (Str.M "<lambda>") (X.X.qual++Str.M "<lambda>") params body scope [(x,cc)] pm c' Rf):=(tB.pin (f,_)<|Yc _<|Yl _<|Yc _ Ya).1;let(mm,_,jd):=tB.loc;let(ux,rx,zv):=jd i x vx hi hσ (.inr<|.inl hkx);let Ry:s3.C.IsCell cc ⇑ux:=by
    rcases zv with ⟨kz,_⟩|⟨_,c2,e2,Vm⟩
    .ext
    .ext
   let LY:s3.C.CodeRec ↑c' (X.X.qual++Str.M "<lambda>"):=(tB.hok c' _ Wi).1;let Vc:Room (k+1) X.A.in1.in1:=(hr.in1).in1
   show Et (Si (ju (u:=.int z t) (vv:=.int z) S Vc tB.env0.in1.in1 Md LY (SJ c' pm Rf _) Ry rx (tB.freeC x cc VY) ⟨t,Z⟩ (hb f c' _ _ s3 H2<|Vc.deeper _)<|hk H2 sx z hmem) λrr s4 hh=>?_);let(u',rfl,ce):=hh;let(v',H',J',mC,e1,e2):=tB.after ce;subst e1 e2;let rfl:=mC;exists Z,J'
  .let J0:Inv X pins σ H2 s3:=tB.unpinned;let Fa0:FpOk X pins H2 a:=⟨Fa.1,Fa.2.1,Fa.2.2.1,Fa.2.2.2.1,Fa.2.2.2.2.1,λp hp=>Fa.2.2.2.2.2 p (by
    grind)⟩
   let CG:ms.f=ns.f:=by let(pp,h1,_,rfl):=WE;rw[Xr,h1.length_eq,Nm]
   exists .ref a,_,J0.adopt hex Fa0 (u:=.lst<|ms.G V.int) {?_,out.m,m,CH HR,by simpa using LX},Z,q ms a H2 WE sx tab Fa.1
   ext
end
abbrev Oq:A6 (C0×B1):=[(Str.M "default",.none)]
section
variable{prog:Program}{w:World}{A:Around}{I S:A7}{fp wr:A6 A7}{n:A5}{P:A5->B1->Prop}{St:A5->Heap->Prop}{R:Result->B6->Prop}
def ZF9(W:Walks prog w A.in1 I fp wr n P St)(lt:A5->A5->B3)(C:Heap->Prop)(ck:∀h h',C h->(∀b o,b≠S->b∉wr->h.E b=⇑o->h'.E b=⇑o)->C h')(cc:∀s i j v u E Q,C s.C->i≠j->P i v->P j u->Q (.bool (lt i j)) s->wpAny (model prog w) A.in1 (compareOp .Lt v u) Q E s)(RS:S∉fp):∀k j s vb c,n-(j+1)=k->j+1<=n->St (j+1) s.C->P (argBest lt j) vb->C s.C->
  s.C.E S=⇑{cls:=.type "list",dict:=A8,data:=.seq #[vb,vb] c,slots:=#[]}->
  (∀v h' tk,P (argBest lt<|n-1) v->(∀b o,b≠S->b∉wr->s.C.E b=⇑o->h'.E b=⇑o)->R (.ok<|.ret v) {s with heap:=h',toks:=tk})->
  codeAny (model prog w) A (.builtin "min.loop" {[.ref I,.none,.ref S],Oq}) R s:=by
 let ud:S∉wr:=λh=>RS (W.sub _ h);let nm:(toString "min"++toString ".loop":B2)="min.loop":=Ep
 intro k
 induction k with
 |zero=>
  intro j s vb c hk hj st pb ta hS hR;let ej:j+1=n:=D
  show Qa wd ?_;show XU (JO hS Z ?_);show XU (ED<|W.done s _ _ (ej▸st) λh' tk VS=>?_);let Ug:=VS S _ ud hS
  show XU (wc Ug Z<|XU<|Gh<|Yg ?_);show hR vb _ tk (by rwa[<-ej]) λb o b1 b2 e=>(YK _ _<|YZ b1).l (VS b o b2 e)
 |succ k ih=>
  intro j s vb c hk hj st pb ta hS hR;let Xj:j+1<n:=rF
  show Qa wd ?_;show XU (JO hS Z ?_);show XU (ED<|W.item (j+1) s _ _ Xj st λv h' tk pv XS VS=>?_);let Ug:=VS S _ ud hS
  let jc:=ck _ h' ta λb o _ b2 e=>VS b o b2 e;change wpAny _ A.in1 (tryCatch (holding [v,v]<|richCompare .Lt (v) (vb) >>= _) _ >>= _) _ _ _
  show XU (ED<|SE<|XU<|show wpAny _ _ (compareOp .Lt (v)<|vb) _ _ _ from cc {s with heap:=h',toks:=tk} (j+1) _ v vb _ _ jc (QS<|Nat.lt_succ_of_le<|My.Ro _ _) pv pb ?_);show XU (SE<|Pn ?_);show XU (Gh<|Yg ?_);cases hb:lt (j+1) (argBest lt j) with
  |true=>
   show XU (wc Ug Z<|XU<|Gh ?_);let up:∀b o,b≠S->h'.E b=⇑o->(h'.update S<|Obj.mapSeq λ_=>#[v,v]).E b=⇑o:=λb o b1 e=>(YK _ _<|YZ b1).l e
   show Yg {Ng Gq _,ih (j+1) _ (v) _ D Xj (W.frame _ h' _ XS λb Ky o e=>up b o (λh=>RS<|h▸Ky) e) ?_ (ck _ _ jc λb o b1 _ e=>up b o b1 e) (UZ _ Ug Z) λv' zu Oo zt zr=>?_}
   .unfold argBest;lia
   .show hR v' zu Oo zt λb o b1 b2 e=>zr b o b1 b2 (up b o b1<|VS b o b2 e)
  |false=>
   show XU (Gh ?_);show Yg {Ng Gq _,ih (j+1) _ (vb) c J Xj XS ?_ jc Ug λv' zu Oo zt zr=>?_}
   .unfold argBest;lia
   .show hR v' zu Oo zt λb o b1 b2 e=>zr b o b1 b2 (VS b o b2 e)
def jb(W:Walks prog w A.in1 I fp wr n P St)(lt:A5->A5->B3)(C:Heap->Prop)(ck:∀h h',C h->(∀b o,b≠S->b∉wr->h.E b=⇑o->h'.E b=⇑o)->C h')(cc:∀s i j v u E Q,C s.C->i≠j->P i v->P j u->Q (.bool (lt i j)) s->wpAny (model prog w) A.in1 (compareOp .Lt v u) Q E s)(RS:S∉fp)(hn:0<n){c:A5}(st:St 0 s.C)(ta:C s.C)(hS:s.C.E S=⇑{cls:=.type "list",dict:=A8,data:=.seq #[] c,slots:=#[]})
  (hR:∀v h' tk,P (argBest lt<|n-1) v->(∀b o,b≠S->b∉wr->s.C.E b=⇑o->h'.E b=⇑o)->R (.ok<|.ret v) {s with heap:=h',toks:=tk}):
  codeAny (model prog w) A (.builtin "min.loop" {[.ref I,.none,.ref S],Oq}) R s:=by
 let ud:S∉wr:=λh=>RS (W.sub _ h);let nm:(toString "min"++toString ".loop":B2)="min.loop":=Ep
 show Qa wd ?_;rw[Around.under_plainId Gq _];change wpAny _ A.in1 (seqItems? ↑S >>= _) _ _ s
 show XU (JO hS Z ?_);change wpAny _ A.in1 (tryCatch (pyNext<|.ref I) _ >>= _) _ _ s
 show XU (ED<|W.item 0 s _ _ hn st λv h' tk pv XS VS=>?_);let Ug:=VS S _ ud hS
 change wpAny _ A.in1 (updateSeq S (λ_=>#[v,v]) >>= _) _ _ _;show XU (wc Ug Z ?_);let up:∀b o,b≠S->h'.E b=⇑o->(h'.update S<|Obj.mapSeq λ_=>#[v,v]).E b=⇑o:=λb o b1 e=>(YK _ _<|YZ b1).l e
 show Yg {Ng Gq _,ZF9 W lt C ck cc RS _ 0 _ v _ Z hn (W.frame _ h' _ XS λb Ky o e=>up b o (λh=>RS<|h▸Ky) e) pv (ck _ _ ta λb o b1 b2 e=>up b o b1<|VS b o b2 e) (UZ _ Ug Z) λv' zu Oo zt zr=>?_};show hR v' zu Oo zt λb o b1 b2 e=>zr b o b1 b2 (up b o b1<|VS b o b2 e)
def ZE9(W:Walks prog w A.in1 I fp wr n P St)(hn:n=0)(RS:S∉fp){c:A5}(st:St 0 s.C)(hS:s.C.E S=⇑{cls:=.type "list",dict:=A8,data:=.seq #[] c,slots:=#[]})
  (hR:∀h' tk,(∀b o,b≠S->b∉wr->s.C.E b=⇑o->h'.E b=⇑o)->R (.ok<|.ret .none) {s with heap:=h',toks:=tk}):
  codeAny (model prog w) A (.builtin "min.loop" {[.ref I,.none,.ref S],Oq}) R s:=by subst hn;show Qa wd ?_;show XU (JO hS Z ?_);show XU (ED<|W.done s _ _ st λh' tk VS=>?_);show XU (PZ<|Yg ?_);show hR h' tk λb o _ b2 e=>VS b o b2 e
def Zs5{E:Ae}{s:B6}{id:B2}{b:Builtin}{args:Ag}{kw:A6 (C0×B1)}{Q:Ae}(hk:builtinKind id=A8)(hp:plainId id=A9)(hb:entryFor table id=⇑b)(ha:argsOk id ⟨args,kw⟩)
  (hc:wpAny (model prog w) A.in1 (b ⟨args,kw⟩) (λfin s'=>match fin with
   | .done f=>(match (Except.ok f:Result) with | .ok (.ret v)=>Q v s' | .ok _=>False | .error e=>E e s')
   | .again c'=>c'.quiet=A9/\codeAny (model prog w) A c' (λr s'=>match r with | .ok (.ret v)=>Q v s' | .ok _=>False | .error e=>E e s') s') E s):wpAny (model prog w) A (call (.builtin id) args kw) Q E s:=by
 show Et (codeAny_call_builtin hp hb ?_);simp only[checkBuiltinCall,hk];cases ja:Manifest.signature? id with
 |none=>show Yg hc
 |some sig=>
  let vh:Bind.checkArgs id sig ⟨args,kw⟩=pure ():=by simpa only[argsOk,ja] using ha
  simp only[vh];show Yg hc
def i9(a:B1):argsOk "min" {[a],Oq}:=by kernel_rfl
def i8{E:Ae}{s:B6}{Q:Ae}(hh:A.handled=A8)(hl:s.C.IsList l (intItems xs))
  (h0:xs.o=0->∀h' tk,(∀b o,s.C.E b=⇑o->h'.E b=⇑o)->Q .none {s with heap:=h',toks:=tk})
  (h:0<xs.o->∀v h' tk,(intItems xs)[argBest (λi j=>decide<|numAt xs i<numAt xs j) (xs.o-1)]?=⇑v->(∀b o,s.C.E b=⇑o->h'.E b=⇑o)->Q v {s with heap:=h',toks:=tk}):
  wpAny (model prog w) A (call (.builtin "min") [.ref l] Oq) Q E s:=by
 show Zs5 F.kind_min F.plain_min F.entry_min (i9 _) ?_;show XU (Nc (a:=[none,some .none]) Z ?_);show XU (Yg ?_);show XU (iter_intList hl λs₂ e st uC hlI=>?_);subst e;show XU (Lr ?_);let W:=Walks.list (prog:=prog) (w:=w) (A:=A.in1) hh (~~~s) l hlI (intItems xs)
 obtain⟨G,hG⟩:∃G,G=s.C.push {cls:=.type "list_iterator",data:=.fields #[.ref l,.int 0 0]}:={_,Z};let hold:∀b o,s.C.E b=⇑o->b≠G.objs.o/\b∉[(~~~s)]/\(G.push {cls:=.type "list",data:=.seq #[] 0}).E b=⇑o:=λb o e=>by
  let Xj:=Ym e;let i7:b<G.objs.o:=by rw[hG];show Yp Xj (by ext)
  exists Yx i7,λhm=>by ext,Xf _<|by rw[hG];show Xf _ e
 rw[<-hG]at st uC ⊢;let RS:G.objs.o∉[(~~~s),l]:=λhm=>Pk _ (uC _ hm)
 let WU:=W.frame 0 G (G.push {cls:=.type "list",data:=.seq #[] 0}) st λb _ o e=>Xf _ e;let i6:(intItems xs).o=xs.o:=by simp[intItems]
 rcases Nat.eq_zero_or_pos xs.o with hz|hz
 .show Yg {Ng Gq _,ZE9 W (i6.l hz) RS WU (Yj _ Z) λh' tk hk=>?_};show h0 hz h' tk λb o e=>by let(a1,a2,a3):=hold b o e;show hk b o a1 a2 a3
 .show Yg {Ng Gq _,jb W (λi j=>decide<|numAt xs i<numAt xs j) (λ_=>True) (λ_ _ _ _=>trivial) (λs i j v u E Q _ _ pv pu q=>?_) RS (by rwa[i6]) WU trivial (Yj _ Z) λv h' tk pv hk=>?_}
  .let⟨t1,rfl⟩:=intItems_at pv;let(t2,rfl):=intItems_at pu;show lt_int q
  .rw[i6]at pv;show h hz v h' tk pv λb o e=>by let(a1,a2,a3):=hold b o e;show hk b o a1 a2 a3
end
def i5(K:Ad)(te:TE):(TE):=λσ H Q=>te σ H λy H1=>∃p ns,y=.ref p/\SqL K H1 p (ns.G V.int)/\(ns=[]->Q .non H1)/\∀m:A0,m∈ns->(∀a∈ns,m<=a)->Q (.int m) H1
def zq{p kp pos cp:Pos}{j:A5}(hc:X.calm=A9)(hg:Gl X (Str.M "min"))(hm:X.mg (Str.M "min")=A8)(he:PE X e te)(hs:starEach [e] X.X=[(false,eval e X.X)]:=by rfl):
  PE X (.Call (.Name (Str.M "min") p) [e] [{some<|Str.M "default",.Constant .none j cp,kp}] pos) (i5 X.K te):=by
 intro pins s σ H Q I h;show NO (PX I hg hm Boot.«min» ?_ Ep Ep);let ha:PA X [e] (Jm te MQ):=XZ he XY hs
 show callWith_kw (thn (ha pos pins s σ H (λvs H1=>match vs with
  |[y]=>∃p ns,y=.ref p/\SqL X.K H1 p (ns.G V.int)/\(ns=[]->Q .non H1)/\∀m:A0,m∈ns->(∀a∈ns,m<=a)->Q (.int m) H1
  |_=>False) I h) λus s1 hh=>?_) (by rw[hs];rfl) (by rw[hs];rfl) Z rfl
 let(vs,H1,I1,r,q):=hh
 match vs,r,q with
 |[],_,q=>show False.elim q
 |_::_::_,_,q=>show False.elim q
 |[y],r,q=>
  let(p2,ns,rfl,hq,q0,q1):=q;let(u,rfl,ru):=Ur r;let rfl:u=Value.ref p2:=ru;show kws_cons (Constant_none<|kws_nil ?_);let(XX,rv,pl,hz):=I1.list hq;let hi:=ZL rv
  let(xs,e'):=hi.allInts.items;let Qn:ns=xs.m.G (·.1):=by rw[<-hi.numsOf,<-nums_intItems,<-e']
  let hl:=pl.isList;rw[e']at hl;show i8 (I1.ok.hd hc) hl (λhsz h' tk hk=>?_) λhsz v h' tk hv hk=>?_
  .exists .non,H1,I1.kept (t':=tk) hk,Z,q0 ?_
   ext
  .let⟨t,rfl⟩:=intItems_at hv;let(h1,h2):=argBest_lt (numAt xs) (xs.o-1);exists .int _,H1,I1.kept (t':=tk) hk,⟨t,Z⟩,q1 _ ?_ λa ha=>?_
   .rw[Qn,numAt_eq];grind
   .rw[Qn]at ha;let(j,hj,rfl):=mem_getD ha;rw[Xr,YU]at hj;rw[<-numAt_eq];show h2 j D
end L2
namespace My
open PySem L2
def zp(K:Ad)(mg:Af)(x qual:C0)(st:B8)(fs:A6 C0)(Pt:A7):(Prop):=∃C f fd c,mg x=some ↑C/\Fun K "__init__" qual st f fd/\Cls K C/\Mk K C f/\(∀a∈fs,NoAttr K C a)/\fd.code=.ref c/\PySem.W.codeHdIn K c Pt=A9
def HK{mg:Af}{oc:B1}{od an:Option A7}{Vf:B4 (Option B1)}{kV doc pm ct:B1}(X:K.In h)(G:h.Ns mainGlobals mg)
  (aC:PySem.W.nsIn K mainGlobals x=⇑(some<|.ref C))(a:PySem.W.findIn K ↑C "__init__"=⇑(some<|.ref f))(i:PySem.W.isFn K ↑f=A9)
  (l:K.U f=⇑{oc,od,.func<|PySem.W.fnOf "__init__" qual (MM st) (Rt st) (Za st) .none kV doc pm an ↑cA ct,Vf})(c:PySem.W.codeIn K ↑cA qual=A9)(k:PySem.W.keepIn K ↑f=A9)
  (pg:PySem.W.plainGet K C Str.empty=A9)(hd:PySem.W.hasDictIn K C=A9)(po:PySem.W.plainOver K C=A9)(sa:PySem.W.findIn K ↑C "__setattr__"=⇑(some<|.builtin "object.__setattr__"))(mk:PySem.W.makesIn K C=A9)(kc:PySem.W.keepIn K ↑C=A9)
  (na:∀a∈fs,PySem.W.findIn K ↑C a=⇑none)(z:PySem.W.codeHdIn K cA Pt=A9):zp K mg x qual st fs Pt:=
 {C,f,_,cA,JN X G aC,Dp l c k,⟨pg,hd,po,sa⟩,⟨mk,a,i,kc⟩,na,Z,z}
def LW(M:Ac)(ps:Aa)(g:Ac)(i:A5):(Ac):=(Vu i).filter λz=>decide (z∉g/\mk M (ps.R z.j (0,0)).1.j≠mk M (ps.R z.j (0,0)).2.j)
def i4(M:Ac)(ps:Aa)(g:Ac)(i:A5):LW M ps g (i+1)=LW M ps g i++if (i:A0)∉g/\mk M (ps.R i (0,0)).1.j≠mk M (ps.R i (0,0)).2.j then [(i:A0)] else []:=by
 unfold LW;rw[ao,Vo];congr 1;rw[List.filter_cons,List.filter_nil]
 ext
def i3(M:Ac)(ps:Aa)(g:Ac)(i:A5):(LW M ps g i).f<=i:=Yq (YW ..) (by rw[ZZ];ext)
def WK:(Option A0->V)
 |none=>.non
 |some z=>.int z
def uc(w k s ld l i fu:V):(A6 (C0×V)):=[("web",w),("kept",k),("shut",s),("lead",ld),("least",l),("incoming",i),("further",fu)]
def WB:SameX x H (upd H x o):=λb o' hb e=>by rwa[Zd hb]
def WebAt.but{C CP w x dx:A7}(h:WebAt C H w n ps)(hx:H x=⇑(.ins CP dx []))(s:SameX x H H1):WebAt C H1 w n ps:=by
 let(d,tl,xs,h1,h2,h3):=h;exists d,tl,xs,s _ _ (λe=>?_) h1,s _ _ (λe=>?_) h2,h3.1,λi p e=>?_
 .rw[e,hx]at h1
  have:=YI (λo=>match o with|some (HO.ins _ _ fs)=>fs.f|_=>0) h1
  show absurd this (by change ¬0=2;decide)
 .ext
 .let⟨v,a1,tt,a2,a3⟩:=h3.2 i p e;exists v,a1,tt,a2,s _ _ (λe=>by ext) a3
def zm{CP a x dx:A7}(h:SqT K H a xs)(hx:H x=⇑(.ins CP dx []))(s:SameX x H H1):SqT K H1 a xs:=by
 rcases h with (h|⟨o,h⟩)|h
 .show .inl (.inl<|s _ _ (λz=>by ext) h)
 .show .inl (.inr {o,s _ _ (λz=>by ext) h})
 .show .inr h
def iZ{CP Pt x dx:A7}(t:TabH H Pt pos qual)(hx:H x=⇑(.ins CP dx []))(s:SameX x H H1):TabH H1 Pt pos qual:=by
 let(ps,h1,h2,h3):=t;exists ps,s _ _ (λe=>by ext) h1,h2,?_;rcases h3 with h|⟨c,h,h'⟩
 .show .inl h
 .show .inr {c,h,s _ _ (λe=>by rw[e,hx]at h';cases h') h'}
def zk(ha:SqT K H a (IL l))(hb:SqT K H b (IL m))(hl:l.f+m.f<=1000)(k:∀r H',Same H H'->SqT K H' r (IL (l++m))->Q ↑r H'):ID K ↑a ↑b H Q:=by
 exists a,b,_,_,Z,Z,ha,hb,by rw[Xc,Xc];show Yq hl Ep,λe=>?_,λ_ e=>?_,λ_ _ p hp=>?_
 .let el:l=[]:=wB.S e;rw[el,Gs]at k;show k b H (Same.refl _) hb
 .let em:m=[]:=wB.S e;rw[em,YO]at k;show k a H (Same.refl _) ha
 .show k p _ (XO hp) (SqT.of ?_);rw[XT,oS]
def TN(M:Ac)(ps:Aa)(z:A0):(A0×A0):=(min (mk M (ps.R z.j (0,0)).1.j)<|mk M (ps.R z.j (0,0)).2.j,max (mk M (ps.R z.j (0,0)).1.j)<|mk M (ps.R z.j (0,0)).2.j)
def Zh4{l:Ac}(hp:l.Perm [a,b])(hs:l.H (·<=·)):l=[min a b,max a b]:=by
 cases c:a<=b
 .rw[r6 c,Int.max_eq_right c];show ve hp hs (by ext)
 .rw[Int.min_eq_right J,Int.max_eq_left D];show ve (hp.l<|List.Perm.swap b a []) hs (by simp;lia)
def zj{z:A0}(h:z∈LW M ps g i):0<=z/\z<(i:A0):=Xh.S (Ye.S h).1
def WQ(n:A0)(ps:Aa)(I O F:Ac):(Ac):=LW (Xu n.j<|XR ps I) ps (I++O++F) ps.f
def Sr(n:A0)(ps:Aa)(I O F:Ac)(ld:Option A0):(Ac):=(WQ n ps I O F).filter λz=>decide (∃y,ld=⇑y/\TN (Xu n.j<|XR ps I) ps z=TN (Xu n.j<|XR ps I) ps y)
def VC(n:A0)(ps:Aa)(I O F:Ac)(ld:Option A0):(Ac):=(WQ n ps I O F).filter λz=>decide (z∉Sr n ps I O F ld)
def PartAt(K:Ad)(CP C:A7)(H:Hp)(x:A7)(n:A0)(ps:Aa)(I O F inc:Ac)(ld fu:Option A0):(Prop):=∃dx w a b l i,H x=⇑(.ins CP dx<|uc ↑w ↑a ↑b (WK ld) ↑l ↑i<|WK fu)/\WebAt C H w n ps/\SqT K H a (IL I)/\SqT K H b (IL O)/\H l=⇑(.tup<|IL F)/\H i=⇑(.lst<|IL inc)
def PartAt.samex(h:PartAt K CP C H x n ps I O F inc ld fu)(t:TabH H Pt pos qual)(sx:SameX Pt H H2):PartAt K CP C H2 x n ps I O F inc ld fu:=by let(dx,w,a,b,l,i,h1,h2,h3,h4,h5,h6):=h;exists dx,w,a,b,l,i,sx _ _ (t.ne h1 Eo) h1,h2.samex t sx,SqK.samex (kd:=A9) h3 t sx,SqK.samex (kd:=A9) h4 t sx,sx _ _ (t.ne h5 Eo) h5,sx _ _ (t.ne h6 Eo) h6
structure PartOk(n:A0)(ps:Aa)(I O:Ac)(ld:Option A0)(F inc:Ac)(fu:Option A0):Prop where
 tr:With n ps I O F
 least:∀U,With n ps I O U->HT.lexLt U F=B0
 inc:Rc (λz=>PyProof.Rows.b2i<|decide<|ld=⇑z) (Sr n ps I O F ld) inc
 none:fu=A8↔VC n ps I O F ld=[]
 some:∀y,fu=⇑y->y∈VC n ps I O F ld/\∀z∈VC n ps I O F ld,y<=z
def xchT(F:Ac)(o z:A0):(Ac):=(wo F o++[z]).mergeSort λa b=>decide (a<=b)
def Kr(F:Ac)(o z:A0):(xchT F o z).Perm (wo F o++[z]):=List.mergeSort_perm _ _
def Fo(F:Ac)(o z:A0):(xchT F o z).H (·<=·):=by
 show(cE (le:=λa b:A0=>decide<|a<=b) (λa b c h1 h2=>?_) (λa b=>?_) _).imp λh=>Yz h
 .lia
 lia
def WA(n:A0)(ps:Aa)(I F:Ac)(z:A0):(Ac):=(SQ n ps F z F).filter λt=>decide (t∉I)
section
variable{n:A0}{ps:Aa}{I O F T M:Ac}{x y z:A0}(g:ZA n ps)
include g
def zh(hF:With n ps I O F)(he:exg n ps F x y)(hx:x∉I)(hy:y∉O)(hp:M.Perm (wo F x++[y]))(hs:M.H (·<=·)):With n ps I O M:=by
 exists Ms g hF.1 he hp hs,λv hv=>(vc g hF.1 he hp hs).mpr (.inl {hF.2.1 v hv,λe=>hx<|e▸hv}),λv hv h=>?_;rcases(vc g hF.1 he hp hs).S h with h|h
 .show hF.2.2 v hv h.1
 lia
def zg(hF:Zn n ps F)(he:exg n ps F x y)(h:y<x)(hp:M.Perm (wo F x++[y]))(hs:M.H (·<=·)):HT.lexLt M F=A9:=by
 let tM:=Ms g hF he hp hs;let yF:y∉F:=((Cv g hF).S he).2.1
 show(j0 (XW.S tM.1).2 (XW.S hF.1).2 (by have:=tM.2.1;have:=hF.2.1;lia)).mpr ⟨y,(vc g hF he hp hs).mpr (.inr Z),yF,λs VZ=>?_⟩;rw[vc g hF he hp hs];lia
def HJ(hF:With n ps I O F)(VB:∀U,With n ps I O U->HT.lexLt U F=B0)(hT:With n ps (I++[z]) O T)(HI:∀U,With n ps (I++[z]) O U->HT.lexLt U T=B0):∀v∈T,v∈F\/v=z:=λv hv=>Yy λno=>by
 let vF:v∉F:=λh=>no (.inl h);let(u,e1,e2):=Iq g hT.1 hF.1 hv vF;let uF:u∈F:=e2.1
 let uT:u∉T:=((Cv g hT.1).S e1).2.1;let uI:u∉I:=λh=>uT (hT.2.1 u<|Yl _ h)
 let vO:v∉O:=λh=>hT.2.2 v h hv;let uO:u∉O:=λh=>hF.2.2 u h uF
 let vI:v∉I++[z]:=λh=>by
  rcases Xn.S h with h|h
  .show vF (hF.2.1 v h)
  ext
 let uv:u≠v:=λe=>uT (e▸hv);let(M1,p1,q1):=mR (wo F u++[v]);let w1:=zh g hF e2 uI vO p1 q1
 let(M2,p2,q2):=mR (wo T v++[u]);let w2:=zh g hT e1 vI uO p2 q2
 rcases Int.lt_or_lt_of_ne uv with h|h
 .have:=zg g hT.1 e1 h p2 q2
  ext
 .have:=zg g hF.1 e2 h p1 q1
  ext
def t9(hF:With n ps I O F)(VB:∀U,With n ps I O U->HT.lexLt U F=B0)(hz:z∉F):With n ps I (O++[z]) F/\∀U,With n ps I (O++[z]) U->HT.lexLt U F=B0:=
 {{hF.1,hF.2.1,λv hv=>(Xn.S hv).elim (hF.2.2 v) λh=>by ext},λU hU=>VB U {hU.1,hU.2.1,λv hv=>hU.2.2 v<|Yl _ hv}}
end
def Wz{z:A0}:With n ps I O T↔With n ps I (O++[z]) T\/With n ps (I++[z]) O T:=by
 constructor
 .intro h;cases c:z∈T
  .show .inr {h.1,λv hv=>(Xn.S hv).elim (h.2.1 v) λe=>by ext,h.2.2}
  .show .inl {h.1,h.2.1,λv hv=>(Xn.S hv).elim (h.2.2 v) λe=>D}
 .rintro(h|h)
  .exists h.1,h.2.1,λv hv=>h.2.2 v<|Yl _ hv
  .exists h.1,λv hv=>h.2.1 v<|Yl _ hv,h.2.2
def RowAll(n:A0)(ps:Aa)(I O:Ac)(R:Ab):(Prop):=R.Nodup/\∀T,T∈R↔With n ps I O T
def RowAll.pc(h:RowAll n ps I O R):PC n ps I O R.f:={R,h.1,λl=>h.2 l,Z}
def ZJ7{z:A0}(hA:RowAll n ps I (O++[z]) A)(hB:RowAll n ps (I++[z]) O AP):RowAll n ps I O (A++AP.reverse):=by
 exists VQ.mpr {hA.1,(EK AP).nodup_iff.mpr hB.1,λa ha b hb e=>?_},λT=>?_
 .subst e;show((hA.2 a).S ha).2.2 z Eo (((hB.2 a).S (Nl.S hb)).2.1 z Eo)
 .rw[Xn,Nl,hA.2,hB.2];show Wz.symm
def zf{a b c d:A0}(h1:min a b=min c d)(h2:max a b=max c d):(a=c/\b=d)\/(a=d/\b=c):=by lia
section
variable{n:A0}{ps:Aa}{I O F T:Ac}{o t t':A0}(g:ZA n ps)
include g
def Zv7(hT:Zn n ps T)(ho:o∈T):¬Conn (XR ps (wo T o)) (ZB ps o).1 (ZB ps o).2:=by let(o0,o1):=hT.1.all o ho;show(Vk g hT o0 o1).S ((Cu g hT ho ho).mpr Z)
def Zf9(hT:Zn n ps T)(hI:∀v∈I,v∈T)(ht:t∈T)(hn:t∉I):¬Conn (XR ps I) (ZB ps t).1 (ZB ps t).2:=λc=>
 Zv7 g hT ht (c.mono<|ZX λv hv=>Xk.mpr {hI v hv,λe=>hn<|by ext})
def ZC8(Xt:∀z∈I,0<=z/\z<ps⁻¹)(t0:0<=t)(t1:t<ps⁻¹)(s0:0<=t')(s1:t'<ps⁻¹)(h:TN (Xu n.j (XR ps I)) ps t=TN (Xu n.j (XR ps I)) ps t'):
  (Conn (XR ps I) (ZB ps t).1 (ZB ps t').1/\Conn (XR ps I) (ZB ps t).2 (ZB ps t').2)\/(Conn (XR ps I) (ZB ps t).1 (ZB ps t').2/\Conn (XR ps I) (ZB ps t).2 (ZB ps t').1):=by
 let Wo:=ZQ g Xt;let a:=SO (z:=t) g t0 t1
 let b:=SO (z:=t') g s0 s1;let(h1,h2):=Prod.mk.inj h;rw[<-QC Wo a.1 b.1,<-QC Wo a.2 b.2,<-QC Wo a.1 b.2,<-QC Wo a.2 b.1];show zf h1 h2
def iY(Xt:∀z∈I,0<=z/\z<ps⁻¹)(hT:Zn n ps T)(hI:∀v∈I,v∈T)(ht:t∈T)(hs:t'∈T)(hn:t∉I)(PY:t'∉I)(h:TN (Xu n.j (XR ps I)) ps t=TN (Xu n.j (XR ps I)) ps t'):t=t':=Yy λne=>by
 let(t0,t1):=hT.1.all t ht;let(s0,s1):=hT.1.all t' hs;let sub:∀v∈I++[t],v∈wo T t':=λv hv=>by
  rcases Xn.S hv with hv|hv
  .show Xk.mpr {hI v hv,λe=>PY J}
  .rw[Xd.S hv];show Xk.mpr ⟨ht,ne⟩
 let up:∀{i j},Conn (XR ps I) i j->Conn (XR ps<|I++[t]) i j:=λc=>c.mono (ZX λv hv=>Yl _ hv);let ed:Conn (XR ps<|I++[t]) (ZB ps t).1 (ZB ps t).2:=.edge (YC.mpr ⟨t,Eo,Z⟩)
 let c:Conn (XR ps<|I++[t]) (ZB ps t').1 (ZB ps t').2:=by
  rcases ZC8 g Xt t0 t1 s0 s1 h with ⟨a,b⟩|⟨a,b⟩
  .show((up a).symm.l ed).l (up b)
  .show((up b).symm.l ed.symm).l (up a)
 show Zv7 g hT hs (c.mono<|ZX sub)
def iX(Xt:∀z∈I,0<=z/\z<ps⁻¹)(hT:With n ps I O T)(hF:∀v∈I,v∈F)(ht:t∈T)(hn:t∉F):t∈WQ n ps I O F:=by
 let(t0,t1):=hT.1.1.all t ht;let a:=SO (z:=t) g t0 t1
 let hI:t∉I:=λh=>hn (hF t h);show Ye.mpr {Xh.mpr ⟨t0,t1⟩,YA {λh=>?_,λe=>?_}}
 .rcases Xn.S h with h|h
  .rcases Xn.S h with h|h
   .show hI h
   .show hT.2.2 t h ht
  lia
 .show Zf9 g hT.1 hT.2.1 ht hI ((QC (ZQ g Xt) a.1 a.2).S e)
end
def VA(n:A0)(ps:Aa)(I F:Ac)(asc:B3)(z:A0):(Ab):=if asc then (WA n ps I F z).G λo=>xchT F o z else ((WA n ps I F z).G λo=>xchT F o z).reverse
def Vh(n:A0)(ps:Aa)(I F:Ac):(Ac->B3->Ab)
 |[],_=>[]
 |z::r,asc=>VA n ps I F asc z++Vh n ps I F r (!asc)
def iW(n:A0)(ps:Aa)(I F:Ac)(z:A0):∀l asc,Vh n ps I F (l++[z]) asc=Vh n ps I F l asc++VA n ps I F (asc != (l.f%2 == 1)) z
 |[],asc=>by
  change VA n ps I F asc z++[]=[]++VA n ps I F (asc != false) z
  ext
 |y::l,asc=>by change VA n ps I F asc y++Vh n ps I F (l++[z]) (!asc)=VA n ps I F asc y++Vh n ps I F l (!asc)++_;rw[iW n ps I F z l,YT,YM];congr 3;lia
def ze(n:A0)(ps:Aa)(I F:Ac)(asc:B3)(z:A0):(VA n ps I F asc z).f<=F.f:=by
 unfold VA;let h:(WA n ps I F z).f<=F.f:=Yq (YW ..) (FH n ps F z F)
 grind
def zd(n:A0)(ps:Aa)(I F:Ac):∀l asc,(Vh n ps I F l asc).f<=l.f*F.f
 |[],_=>Qd _
 |z::l,asc=>by
  change(VA n ps I F asc z++Vh n ps I F l (!asc)).f<=_;rw[Xa,YM,Nat.succ_mul]
  have:=ze n ps I F asc z
  have:=zd n ps I F l (!asc)
  lia
def zb(n:A0)(ps:Aa)(I F inc:Ac):(Ab):=F::Vh n ps I F inc (inc.f%2 == 1)
def Xe:o∈SQ n ps F t F↔o∈F/\t∈UP n ps F o:=by unfold SQ;rw[Ye,VR];show Iff.rfl
def XH{o t v:A0}:v∈xchT F o t↔(v∈F/\v≠o)\/v=t:=by rw[(Kr F o t).mem_iff,Xn,Xk,Xd]
section
variable{n:A0}{ps:Aa}{I O F T:Ac}{ld:Option A0}{o t:A0}(g:ZA n ps)
include g
def iV(Xt:∀z∈I,0<=z/\z<ps⁻¹)(hF:With n ps I O F)(hu:VC n ps I O F ld=[])(hT:With n ps I O T):T=F\/∃t∈WQ n ps I O F,∃o∈WA n ps I F t,T=xchT F o t:=by
 cases c:∀v∈T,v∈F
 .show .inl (ji g hT.1 hF.1 c)
 .obtain⟨t,ht,hn⟩:∃t,t∈T/\t∉F:=Yy λno=>c λv hv=>Yy λhn=>no ⟨v,hv,hn⟩;let hto:=iX g Xt hT hF.2.1 ht hn
  let alike:∀v∈WQ n ps I O F,∃y,ld=⇑y/\TN (Xu n.j<|XR ps I) ps v=TN (Xu n.j<|XR ps I) ps y:=λv hv=>by
   let hm:v∈Sr n ps I O F ld:=Yy λno=>by
    have:v∈VC n ps I O F ld:=Ye.mpr {hv,YA no}
    ext
   show Yz (Ye.S hm).2
  let only:∀v∈T,v∉F->v=t:=λv hv hvn=>by let(y,e1,e2):=alike v (iX g Xt hT hF.2.1 hv hvn);let(y',e3,e4):=alike t hto;rw[e1]at e3;cases e3;show iY g Xt hT.1 hT.2.1 hv ht (λh=>hvn<|hF.2.1 v h) (λh=>hn<|hF.2.1 t h) (e2.l e4.symm)
  let(o,e1,e2):=Iq g hT.1 hF.1 ht hn;let oT:o∉T:=((Cv g hT.1).S e1).2.1
  let hM:=Ms g hF.1 e2 (Kr F o t) (Fo F o t);show .inr {t,hto,o,Ye.mpr {Xe.mpr ⟨e2.1,e2.2.2⟩,YA λh=>oT<|hT.2.1 o h},ji g hT.1 hM λv hv=>XH.mpr ?_};grind
def Zq7(hF:With n ps I O F)(ht:t∈WQ n ps I O F)(ho:o∈WA n ps I F t):With n ps I O (xchT F o t):=by
 let(h1,h2):=Ye.S ht;let(hg,_):=Yz h2;let(h3,h4):=Ye.S ho;let(h5,h6):=Xe.S h3;let tF:t∉F:=λh=>hg (Yc _ h)
 show zh g hF {h5,λe=>tF J,h6} (Yz h4) (λh=>hg<|Yl _<|Yc _ h) (Kr F o t) (Fo F o t)
end
def Rb{I F T:Ac}:T∈VA n ps I F asc z↔∃o∈WA n ps I F z,T=xchT F o z:=by
 let h:T∈((WA n ps I F z).G λo=>xchT F o z)↔∃o∈WA n ps I F z,T=xchT F o z:=by rw[YC];exists λzz=>by let(o,h1,h2):=zz;show⟨o,h1,h2.symm⟩,λzz=>by let(o,h1,h2):=zz;exists o,h1,h2.symm
 unfold VA;split
 .show h
 .rw[Nl];show h
def VF{I F T:Ac}:∀{l:Ac}{asc:B3},T∈Vh n ps I F l asc↔∃z∈l,∃o∈WA n ps I F z,T=xchT F o z
 |[],_=>{λh=>(by cases h),λzz=>by let(_,h,_):=zz;show(by cases h)}
 |z::l,asc=>by
  change T∈VA n ps I F asc z++Vh n ps I F l (!asc)↔_;rw[Xn,Rb,VF]
  ext
def y9(ht:t∉F)(e:xchT F o t=xchT F o' t'):t=t':=by
 have:t∈xchT F o' t':=e▸XH.mpr (.inr Z)
 rcases XH.S this with h|h
 .ext
 lia
def y8(ho:o∈F)(ht:t∉F)(e:xchT F o t=xchT F o' t):o=o':=Yy λne=>by
 let h1:o∈xchT F o' t:=XH.mpr (.inl ⟨ho,ne⟩);rw[<-e]at h1;rcases XH.S h1 with h|h
 .lia
 ext
def ZG9(hF:F.Nodup)(hz:z∉F):(VA n ps I F asc z).Nodup:=by
 let hm:∀v∈WA n ps I F z,v∈F:=λv hv=>(Xe.S (Ye.S hv).1).1;let h:((WA n ps I F z).G λo=>xchT F o z).Nodup:=by let hd:(WA n ps I F z).H (·≠·):=(hF.filter _).filter _;show Nn.mpr (JF (λ{a b} ha hb Vl e=>Vl<|y8 (hm a ha) hz e) hd)
 unfold VA;split
 .show h
 .show(EK _).nodup_iff.mpr h
def ZE5(hF:F.Nodup):∀{l:Ac}{asc:B3},l.Nodup->(∀z∈l,z∉F)->(Vh n ps I F l asc).Nodup
 |[],_,_,_=>.nil
 |z::l,asc,hn,hl=>by
  let(n1,n2):=Qb.S hn;show VQ.mpr {ZG9 hF<|hl z Ya,ZE5 hF n2 λv hv=>hl v<|Yf _ hv,λa ha b hb e=>?_};let(o,_,h1):=Rb.S ha;let(z',iU,o',_,h2):=VF.S hb;rw[h1,h2]at e
  have:=y9 (hl z Ya) e
  lia
def iT(g:ZA n ps)(Xt:∀z∈I,0<=z/\z<ps⁻¹)(hF:With n ps I O F)(hu:VC n ps I O F ld=[])(SI:∀z,z∈inc↔z∈WQ n ps I O F)(hn:inc.Nodup):RowAll n ps I O (zb n ps I F inc):=by
 let t8:∀z∈inc,z∉F:=λz hz h=>(Yz (Ye.S<|(SI z).S hz).2).1 (Yc _ h);exists Qb.mpr {λh=>?_,ZE5 hF.1.1.nodup hn t8},λT=>?_
 .let⟨z,hz,o,_,e⟩:=VF.S h;show t8 z hz (by rw[e];show XH.mpr<|.inr Z)
 .unfold zb;rw[Yo,VF];constructor
  .rintro(h|⟨z,hz,o,ho,rfl⟩)
   .ext
   .show Zq7 g hF ((SI z).S hz) ho
  .intro h;rcases iV g Xt hF hu h with e|⟨t,ht,o,ho,e⟩
   .show .inl e
   .show .inr {t,(SI t).mpr ht,o,ho,e}
def Zs6{u v i j:A5}(c:Conn (es++[(u,v)]) i j):Conn es i j\/(Conn es i u/\Conn es v j)\/(Conn es i v/\Conn es u j):=by
 induction c with
 |refl i=>show .inl (.refl i)
 |edge h=>
  rcases Xn.S h with h|h
  .show .inl (.edge h)
  .cases Xd.S h;show .inr (.inl {.refl _,.refl _})
 |symm _ ih=>
  rcases ih with a|⟨a,b⟩|⟨a,b⟩
  .show .inl a.symm
  .show .inr (.inr ⟨b.symm,a.symm⟩)
  .show .inr (.inl ⟨b.symm,a.symm⟩)
 |trans _ _ NA RP=>
  rcases NA with a|⟨a,b⟩|⟨a,b⟩<;>rcases RP with c|⟨c,d⟩|⟨c,d⟩
  .show .inl (a.l c)
  .show .inr (.inl {a.l c,d})
  .show .inr (.inr {a.l c,d})
  .show .inr (.inl {a,b.l c})
  .show .inr (.inl ⟨a,d⟩)
  .show .inl (a.l d)
  .show .inr (.inr {a,b.l c})
  .show .inl (a.l d)
  .show .inr (.inr ⟨a,d⟩)
def y7{key:A0->A0}(h:Rc key ns ms):ms.Perm ns:=by
 let(p,h1,_,rfl):=h;let e:(List.range ns.f).G (λi=>ns.R i 0)=ns:=by
  show Sl λi=>?_;rw[Yi];cases c:i<ns.f
  .ext
  .ext
 grind
def iS(key:A0->A0)(ns:Ac):∃ms,Rc key ns ms:=by
 let hp:=List.mergeSort_perm (List.range ns.f) λi j=>decide (key (ns.R i 0)<key (ns.R j 0)\/(key (ns.R i 0)=key (ns.R j 0)/\i<=j));let hs:=cE (le:=λi j=>decide<|key (ns.R i 0)<key (ns.R j 0)\/(key (ns.R i 0)=key (ns.R j 0)/\i<=j)) (λa b c h1 h2=>D) (λa b=>D) (List.range ns.f)
 exists _,_,hp,?_,Z;show(hs.and<|hp.nodup_iff.mpr List.nodup_range).imp λ{a b} h=>?_;change key (ns.R a 0)<key (ns.R b 0)\/(key (ns.R a 0)=key (ns.R b 0)/\a<b)
 grind
def iR(n:A0)(ps:Aa)(I O F:Ac)(ld:Option A0):(VC n ps I O F ld).H (·<·):=((FF _).filter _).filter _
def Kq(g:ZA n ps)(ld:Option A0)(h:∃U,With n ps I O U):∃F inc fu,PartOk n ps I O ld F inc fu:=by
 let(L,l1,l2):=jX g;let(U,hU):=h;obtain⟨F,hF,hm⟩:∃F,With n ps I O F/\∀U,With n ps I O U->HT.lexLt U F=B0:=by
  let key:∀M:Ab,M.H UM->(∃U∈M,With n ps I O U)->∃F∈M,With n ps I O F/\∀U∈M,With n ps I O U->HT.lexLt U F=B0:=by
   intro M
   induction M with
   |nil=>rintro _ ⟨U,h,_⟩;cases h
   |cons x M ih=>
    intro hp hex;let(p1,p2):=YS.S hp;cases c:With n ps I O x
    .exists x,Ya,c,λV hV _=>?_;rcases Yo.S hV with e|e
     .rw[e];show Cs x
     .cases q:HT.lexLt V x with
      |false=>rfl
      |true=>
       let z:=nI q (p1 V e);rw[Cs]at z;cases z
    .let⟨V,hV,hw⟩:=hex;let(F,hF,a,b):=ih p2 {V,(Yo.S hV).resolve_left λe=>c<|e▸hw,hw};grind
  let(F,_,a,b):=key L l2 {U,(l1 U).mpr hU.1,hU};exists F,a,λV hV=>b V ((l1 V).mpr hV.1) hV
 let(inc,hi):=iS (λz=>PyProof.Rows.b2i<|decide<|ld=⇑z) (Sr n ps I O F ld);let Ub:=iR n ps I O F ld
 cases hu:VC n ps I O F ld with
 |nil=>exists F,inc,none,hF,hm,hi,{λ_=>hu,λ_=>rfl},λy h=>by cases h
 |cons y l=>
  rw[hu]at Ub;exists F,inc,⇑y,hF,hm,hi,{λh=>(by cases h),λh=>(by ext)},λv h=>?_;cases h;rw[hu];exists Ya,λv hv=>?_;rcases Yo.S hv with e|e
  .rw[e];show Gj _
  .show QL ((YS.S Ub).1 v e)
inductive RowR(n:A0)(ps:Aa):A5->Ac->Ac->Option A0->Ab->Prop
 |und {d:A5} {I O F inc:Ac} {ld:Option A0}:PartOk n ps I O ld F inc none->inc.f<=30->(∀z∈inc,z∉F/\0<=z/\z<ps⁻¹)->RowR n ps d I O ld (zb n ps I F inc)
 |div {d:A5} {I O F inc:Ac} {z y:A0} {A AP:Ab}:PartOk n ps I O ⇑z F inc ⇑y->(I++[z]).Nodup->(∀v∈I++[z],0<=v/\v<ps⁻¹)->(∀v∈I++[z],v∉O)->(O++[z]).f<=30->(∃U,With n ps (I++[z]) O U)->(∃U,With n ps I (O++[z]) U)->0<=y->y<ps⁻¹->PC n ps I (O++[z]) A.f->RowR n ps d I (O++[z]) ⇑y A->RowR n ps d (I++[z]) O ⇑y AP->RowR n ps (d+1) I O ⇑z (A++AP.reverse)
def Zl9{key:A0->A0}(h:Rc key ns ms)(h':Rc key ns ms'):ms=ms':=by
 let(p,h1,h2,rfl):=h;let(p',AK,h2',rfl):=h';let e:p=p':=cH (le:=Ahd λi=>key<|ns.R i 0) (λa b _ _ x y=>by unfold Ahd at x y;lia) h2 h2' (h1.l AK.symm)
 rw[e]
def PartOk.uniq{n:A0}{ps:Aa}{I O F F' inc Ww:Ac}{ld fu LV:Option A0}(h1:PartOk n ps I O ld F inc fu)(h2:PartOk n ps I O ld F' Ww LV):F=F'/\inc=Ww/\fu=LV:=by
 let eF:F=F':=Wc (h2.least F h1.tr) (h1.least F' h2.tr);subst eF;exists Z,Zl9 h1.inc h2.inc,?_;cases fu with
 |none=>
  cases LV with
  |none=>rfl
  |some y=>
   have:=(h2.some y Z).1
   rw[h1.none.S Z]at this
   ext
 |some y=>
  cases LV with
  |none=>
   have:=(h1.some y Z).1
   rw[h2.none.S Z]at this
   ext
  |some y'=>
   let(a1,a2):=h1.some y rfl;let(b1,b2):=h2.some y' rfl;grind
def RowW(n:A0)(ps:Aa)(R:Ab):(Prop):=∃ld F inc fu,PartOk n ps [] [] ld F inc fu/\(ld=A8↔WQ n ps [] [] F=[])/\(∀y,ld=⇑y->y∈WQ n ps [] [] F/\∀z∈WQ n ps [] [] F,y<=z)/\RowR n ps 31 [] [] ld R/\TC n ps R.f
section
variable{n:A0}{ps:Aa}{I O F:Ac}{y z:A0}(g:ZA n ps)
include g
def Vg(Xt:∀v∈I,0<=v/\v<ps⁻¹):z∈WQ n ps I O F↔(0<=z/\z<ps⁻¹)/\z∉I/\z∉O/\z∉F/\¬Conn (XR ps I) (ZB ps z).1 (ZB ps z).2:=by
 unfold WQ LW;rw[Ye,Xh,VR];constructor
 .rintro⟨h,h1,h2⟩;let a:=SO (z:=z) g h.1 h.2
  exists h,λq=>h1<|Yl _<|Yl _ q,λq=>h1<|Yl _<|Yc _ q,λq=>h1<|Yc _ q,λc=>h2<|(QC (ZQ g Xt) a.1 a.2).mpr c
 .rintro⟨h,h1,h2,h3,h4⟩;let a:=SO (z:=z) g h.1 h.2
  exists h,λq=>?_,λe=>h4<|(QC (ZQ g Xt) a.1 a.2).S e;grind
def t7(Xt:∀v∈I,0<=v/\v<ps⁻¹)(hF:With n ps I O F)(hz:z∈WQ n ps I O F):∃U,With n ps (I++[z]) O U:=by
 let((z0,z1),zI,zO,zF,hc):=(Vg g Xt).S hz;obtain⟨o,ho,hoI⟩:∃o,o∈SQ n ps F z F/\o∉I:=Yy λno=>hc ((aq g hF.1 z0 z1).mono (ZX λv hv=>Yy λh=>no ⟨v,hv,h⟩));let(h5,h6):=Xe.S ho;let he:exg n ps F o z:={h5,λe=>zF J,h6}
 let hw:=zh g hF he hoI zO (Kr F o z) (Fo F o z);exists xchT F o z,hw.1,λv hv=>?_,hw.2.2;rcases Xn.S hv with hv|hv
 .show hw.2.1 v hv
 .rw[Xd.S hv];show XH.mpr (.inr Z)
def y6(Xt:∀v∈I,0<=v/\v<ps⁻¹)(y0:0<=y/\y<ps⁻¹)(z0:0<=z/\z<ps⁻¹)(h:(Conn (XR ps I) (ZB ps y).1 (ZB ps z).1/\Conn (XR ps I) (ZB ps z).2 (ZB ps y).2)\/(Conn (XR ps I) (ZB ps y).1 (ZB ps z).2/\Conn (XR ps I) (ZB ps z).1 (ZB ps y).2)):TN (Xu n.j (XR ps I)) ps y=TN (Xu n.j (XR ps I)) ps z:=by
 let Wo:=ZQ g Xt;let a:=SO (z:=y) g y0.1 y0.2
 let b:=SO (z:=z) g z0.1 z0.2;rw[<-QC Wo a.1 b.1,<-QC Wo b.2 a.2,<-QC Wo a.1 b.2,<-QC Wo b.1 a.2]at h;change(min (mk (Xu n.j<|XR ps I) (ZB ps y).1)<|mk (Xu n.j<|XR ps I) (ZB ps y).2,max (mk (Xu n.j<|XR ps I) (ZB ps y).1)<|mk (Xu n.j<|XR ps I) (ZB ps y).2)=(min (mk (Xu n.j<|XR ps I) (ZB ps z).1)<|mk (Xu n.j<|XR ps I) (ZB ps z).2,max (mk (Xu n.j<|XR ps I) (ZB ps z).1)<|mk (Xu n.j<|XR ps I) (ZB ps z).2)
 grind
end
section
variable{n:A0}{ps:Aa}(g:ZA n ps)
include g
def yZ(d:A5)(hP:PartOk n ps I O ld F inc fu)(Xt:∀v∈I,0<=v/\v<ps⁻¹)(hu:VC n ps I O F ld=[]):∃R,RowR n ps d I O ld R/\RowAll n ps I O R:=by
 let rfl:=hP.none.mpr hu;let hp:=y7 hP.inc
 let Ss:(Sr n ps I O F ld).Nodup:=((((FF _).imp λh e=>by simp_all:(Vu ps.f).Nodup)).filter _).filter _;let SI:∀z,z∈inc↔z∈WQ n ps I O F:=λz=>by
  rw[hp.mem_iff];constructor
  .show λh=>(Ye.S h).1
  .intro h;show Yy λno=>?_
   have:z∈VC n ps I O F ld:=Ye.mpr {h,YA no}
   ext
 let hlen:inc.f<=30:=by rw[hp.length_eq];show Yq (YW ..) (Yq (i3 _ _ _ _) g.2.2.1)
 exists _,.und hP hlen λz hz=>by let(h1,_,_,h2,_):=(Vg g Xt).S ((SI z).S hz);show⟨h2,h1⟩,iT g Xt hP.tr hu SI<|hp.nodup_iff.mpr Ss
def iQ:∀d I O F inc ld fu,PartOk n ps I O ld F inc fu->I.Nodup->(∀v∈I,0<=v/\v<ps⁻¹)->(∀v∈I,v∉O)->O.Nodup->(∀v∈O,0<=v/\v<ps⁻¹)->(ld=A8->WQ n ps I O F=[])->(∀z,ld=⇑z->z∈WQ n ps I O F)->ps.f<=d+I.f+O.f->∃R,RowR n ps d I O ld R/\RowAll n ps I O R:=by
 intro d
 induction d with
 |zero=>
  intro I O F inc ld fu hP hIn Xt UK t6 t5 _ _ hm;show yZ g 0 hP Xt ?_;let t8:WQ n ps I O F=[]:=Nh.mpr λz hz=>by
   let(h1,h2,h3,_):=(Vg g Xt).S hz;let nd:(z::(I++O)).Nodup:=Qb.mpr {λh=>(Xn.S h).elim h2 h3,VQ.mpr {hIn,t6,λa ha b hb e=>UK a ha<|e▸hb}}
   have:=Fv (m:=Vu ps.f) nd λv hv=>Xh.mpr (by
    rcases Yo.S hv with e|e
    .rw[e];show h1
    .show(Xn.S e).elim (Xt v) (t5 v))
   rw[ZZ,YM,Xa]at this;lia
  unfold VC;rw[t8];rfl
 |succ d ih=>
  intro I O F inc ld fu hP hIn Xt UK t6 t5 Nx SH hm;cases hu:VC n ps I O F ld=[]
  .show yZ g _ hP Xt hu
  obtain⟨y,rfl⟩:∃y,fu=⇑y:=by
   cases fu with
   |none=>show absurd (hP.none.S Z) hu
   |some y=>lia
  let(yu,_):=hP.some y rfl;let(yo,ya):=Ye.S yu;let ya:=Yz ya
  obtain⟨z,rfl⟩:∃z,ld=⇑z:=by
   cases ld with
   |none=>ext
   |some z=>lia
  let zo:=SH z rfl;let(LU,yI,yO,yF,yc):=(Vg g Xt).S yo;let(Kp,zI,zO,zF,zc):=(Vg g Xt).S zo;let XJ:TN (Xu n.j<|XR ps I) ps y≠TN (Xu n.j<|XR ps I) ps z:=λe=>ya (Ye.mpr {yo,YA ⟨z,Z,e⟩})
  let yz:y≠z:=λe=>XJ (by rw[e]);let hIz:(I++[z]).Nodup:=VQ.mpr {hIn,Eo,λa ha b hb e=>zI D}
  let hOz:(O++[z]).Nodup:=VQ.mpr {t6,Eo,λa ha b hb e=>zO D};let Tp:∀v∈I++[z],0<=v/\v<ps⁻¹:=λv hv=>(Xn.S hv).elim (Xt v) λh=>by rwa[Xd.S h]
  let yY:∀v∈O++[z],0<=v/\v<ps⁻¹:=λv hv=>(Xn.S hv).elim (t5 v) λh=>by rwa[Xd.S h]
  let Om:(O++[z]).f<=30:=by
   have:=Fv (m:=Vu ps.f) hOz λv hv=>Xh.mpr (yY v hv)
   rw[ZZ]at this
   have:=g.2.2.1
   lia
  let yX:∀v∈I++[z],v∉O:=λv hv=>(Xn.S hv).elim (UK v) λh=>D;let iP:∀v∈I,v∉O++[z]:=λv hv h=>(Xn.S h).elim (UK v hv) λh=>zI D
  let(s1,s2):=t9 g hP.tr hP.least zF;let(F1,RJ,HH,Mc):=Kq g ⇑y ⟨F,s1⟩;let e1:F1=F:=Wc (s2 F1 Mc.tr) (Mc.least F s1)
  subst e1;let hW:=t7 g Xt hP.tr zo
  let(F2,Ol,yW,RI):=Kq g ⇑y hW;let yF2:y∉F2:=λh=>(HJ g hP.tr hP.least RI.tr RI.least y h).elim yF yz
  let(A,Tv,Sw):=ih I (O++[z]) F1 RJ ⇑y HH Mc hIn Xt iP hOz yY (λh=>by cases h) (λv h=>by cases h;show(Vg g Xt).mpr {LU,yI,λh=>(Xn.S h).elim yO λh=>yz<|Xd.S h,yF,yc}) (by rw[Xa,YH];lia)
  let(AP,aP,IF):=ih (I++[z]) O F2 Ol ⇑y yW RI hIz Tp yX t6 t5 (λh=>by cases h) (λv h=>by
   cases h;show(Vg g Tp).mpr {LU,λh=>(Xn.S h).elim yI λh=>yz<|Xd.S h,yO,yF2,λc=>?_};let e:XR ps (I++[z])=XR ps I++[((ZB ps z).1,(ZB ps z).2)]:=YE
   rw[e]at c;rcases Zs6 c with h|h
   .show yc h
   .show XJ<|y6 g Xt LU Kp h) (by rw[Xa,YH];lia)
  exists _,.div hP hIz Tp yX Om hW ⟨F1,s1⟩ LU.1 LU.2 Sw.pc Tv aP,ZJ7 Sw IF
def iO(h:∃U,Zn n ps U):∃R,RowW n ps R/\R.Nodup/\∀T,T∈R↔Zn n ps T:=by
 let(U,hU):=h;let hw:∀T,With n ps [] [] T↔Zn n ps T:=λT=>{λh=>h.1,λh=>{h,λz q=>(by cases q),λz q=>(by cases q)}}
 let(F,_,_,hP0):=Kq g none {U,(hw U).mpr hU};let Ub:(WQ n ps [] [] F).H (·<·):=(FF _).filter _
 obtain⟨ld,h1,h2⟩:∃ld:Option A0,(ld=A8↔WQ n ps [] [] F=[])/\∀y,ld=⇑y->y∈WQ n ps [] [] F/\∀z∈WQ n ps [] [] F,y<=z:=by
  cases ho:WQ n ps [] [] F with
  |nil=>exists none,{λ_=>rfl,λ_=>rfl},λy h=>by cases h
  |cons y l=>
   rw[ho]at Ub;exists some y,{λh=>(by cases h),λh=>(by cases h)},λv h=>?_;cases h;exists Ya,λv hv=>?_;rcases Yo.S hv with e|e
   .rw[e];show Gj _
   .show QL ((YS.S Ub).1 v e)
 let(F',inc,fu,hP):=Kq g ld {U,(hw U).mpr hU};let eF:F'=F:=Wc (hP0.least F' hP.tr) (hP.least F hP0.tr)
 subst eF;let(R,r1,r2):=iQ g 31 [] [] F' inc ld fu hP .nil (λv h=>by cases h) (λv h=>by cases h) .nil (λv h=>by cases h) (λe=>h1.S e) (λz e=>(h2 z e).1) (by have:=g.2.2.1;simp;lia);exists R,{ld,F',inc,fu,hP,h1,h2,r1,R,r2.1,λl=>(r2.2 l).l (hw l),Z},r2.1,λT=>(r2.2 T).l (hw T)
end
end My
namespace L2
open PySem PySem.Spec PyProof.Rows PySem.MeetsSeq
section
variable{X:Cx}
def iN(K:Ad):(V->A6 V->Hp->VK->Prop):=λx vs H Q=>∃(n:A5)(l:A7)(xs:A6 V)(y:V)(e:A7->B3)(j:A5)(a:A7),x=.ref l/\vs=[y]/\H l=⇑(.lst xs)/\n<=6/\(∀v∈xs,∃a,v=.ref a/\EqD K H n v y (e a))/\xs[j]?=some ↑a/\e a=A9/\(∀m b,m<j->xs[m]?=some ↑b->e b=B0)/\Q (.int j) H
def ZB9(K:Ad)(hu:X.A.units+8<cLine)(hk:X.K=K:=by rfl):OV X "list.index" (iN K):=by
 subst hk;intro pins s σ H x vs v us Q I rx rv h;let(n,l,xs,y,e,j,a,rfl,rfl,hH,hn,he,hj,hy,Sx,q):=h;cases rx;let(u,rfl,ru):=rv.one;let(z,XX,m,r,hl,ho):=I.lstM hH;let hsz:sizeLine=16777216:=Rz
 let RU:j<xs.f:=(Xx.S hj).1;let at_:∀(i:A5)(hi:i<XX.r.o),∃b,xs[i]?=some ↑b/\XX.r[i]=.ref b:=λi hi=>by
  let Wu:i<XX.f:=by simpa using hi
  let(w,ew,MO):=r.at Wu;let(b,rfl,_):=he w (Xo ew);let e3:XX[i]=Value.ref b:=MO
  exists b,ew,by simpa using e3
 let hjs:j<XX.r.o:=by rw[YJ];lia
 show Pg rR {_,ho,Z} rZ (JD _ _) (so l XX.r m none #[] u (λw=>match w with | .ref b=>e b|_=>false) j hjs J ?_ ?_) {ho,λw hw=>?_,?_}
 .let⟨b,e1,e2⟩:=at_ j hjs;rw[hj]at e1;cases e1;rwa[e2]
 .intro i hi WG;let(b,e1,e2):=at_ i hi;rw[e2];show Sx i b WG e1
 .show nK I (by change X.A.units+1+n<cLine;lia) ru r he w (by simpa using hw)
 .exists .int j,H,I.tok _,{_,Z},q
end
end L2
namespace My
open PySem L2
def yV{mg:Af}:FnOk P w K mg base XA k f fd ps λ_ _ _ _=>False:={λ_ _ _ _ h=>h.elim,λ_ _ _ _ _ _ _ _ _ _ _ _ _ h=>h.elim}
def ZA8{α:Type}[DecidableEq α]{x:α}:∀{l:A6 α},x∈l->∃j:A5,l[j]?=⇑x/\∀i:A5,i<j->l[i]?≠⇑x
 |y::l,h=>by
  cases c:y=x
  .exists 0,by rw[c];rfl,λi hi=>absurd hi<|VW _
  .let⟨j,h1,h2⟩:=ZA8 ((Yo.S h).resolve_left λe=>c e.symm);exists j+1,h1,λi hi=>?_
   match i,hi with
   |0,_=>show λe=>c (Yn e)
   |i+1,hi=>show h2 i J
def Ze9(hX:Bears (WH H) xs L)(tZ:SqT K H ta (IL U))(hU:U∈L):∃(e:A7->B3)(j:A5)(a:A7),(∀v∈xs,∃a,v=.ref a/\EqD K H 1 v ↑ta (e a))/\xs[j]?=some ↑a/\e a=A9/\(∀m b,m<j->xs[m]?=some ↑b->e b=B0)/\L[j]?=⇑U:=by
 let key:∀{c:A7}{w:Ac},H c=⇑(.tup<|IL w)->(WH H ↑c U↔w=U):=λ{c w} hc=>by
  constructor
  .rintro⟨c',e,h⟩;cases e;rw[hc]at h;injection h with h
   injection h with h;show(List.map_inj_right λ_ _ h=>by injection h).S h
  .rintro rfl;exists c,Z,hc
 let(j,h1,h2):=ZA8 hU;let(v,hv,c,rfl,hc):=hX.2 j U h1;exists λa=>@decide (WH H ↑a U)<|Classical.propDecidable _,j,c,λv hv=>?_,hv,?_,λm b hm hb=>?_,h1
 .let⟨i,hi⟩:=YG hv;let(w,hw,c',rfl,Wi):=hX.at hi;exists c',Z,?_;let e:@decide (WH H ↑c' U) (Classical.propDecidable _)=decide (w=U):=by rw[Sk];show key Wi
  change EqD K H 1 ↑c' ↑ta (@decide (WH H ↑c' U)<|Classical.propDecidable _);rw[e];show aS (SqT.of Wi) tZ
 .show @YA _ (Classical.propDecidable _) ((key hc).mpr Z)
 .let⟨w,hw,c',e,Wi⟩:=hX.at hb;cases e;show @JQ _ (Classical.propDecidable _) λh=>h2 m hm (by rw[hw,(key Wi).S h])
def yU(g:ZA n ps)(h:RowR n ps d I O ld R):∀T∈R,With n ps I O T:=by
 induction h with
 |und hP _ _=>
  intro T hT;rcases Yo.S hT with e|e
  .rw[e];show hP.tr
  .let⟨z,hz,o,ho,rfl⟩:=VF.S e;show Zq7 g hP.tr (Ye.S<|(y7 hP.inc).mem_iff.S hz).1 ho
 |div _ _ _ _ _ _ _ _ _ _ _ _ yT iM=>
  intro T hT;rcases Xn.S hT with h|h
  .show Wz.mpr (.inl<|yT T h)
  .show Wz.mpr (.inr<|iM T<|Nl.S h)
def iL{key:A0->A0}(h:Rc key ns ms):ms.H λa b=>key a<=key b:=by
 let(p,h1,h2,rfl):=h;show Nn.mpr (h2.imp λ{a b} h=>?_);let h:key (ns.R a 0)<key (ns.R b 0)\/(key (ns.R a 0)=key (ns.R b 0)/\a<b):=h
 lia
def Zs7{k:A0->A0}:∀{l:Ac},(∀a∈l,k a=0\/k a=1)->l.H (λa b=>k a<=k b)->∃l1 l2,l=l1++l2/\(∀a∈l1,k a=0)/\∀a∈l2,k a=1
 |[],_,_=>{[],[],Z,λa h=>(by cases h),λa h=>(by cases h)}
 |a::l,h0,h=>by
  let(p1,p2):=YS.S h;rcases h0 a Ya with e|e
  .let⟨l1,l2,rfl,q1,q2⟩:=Zs7 (λb hb=>h0 b<|Yf _ hb) p2;exists a::l1,l2,Z,λb hb=>(Yo.S hb).elim (λz=>z▸e) (q1 b),q2
  .exists [],a::l,Z,λa h=>(by cases h),λb hb=>?_;rcases Yo.S hb with z|z
   .rw[z];show e
   .have:=p1 b z
    have:=h0 b (Yf _ z)
    lia
def Vb{z a:A0}:(PyProof.Rows.b2i (decide (⇑z=⇑a))=0↔a≠z)/\(PyProof.Rows.b2i (decide (⇑z=⇑a))=1↔a=z):=by
 cases c:a=z
 .subst c;simp[PyProof.Rows.b2i]
 .simp[PyProof.Rows.b2i,c,YZ c]
def ZL9{ns ms:Ac}{z:A0}(h:Rc (λa=>PyProof.Rows.b2i (decide (⇑z=⇑a))) ns ms):∃l1 l2,ms=l1++l2/\(∀a∈l1,a≠z)/\∀a∈l2,a=z:=by
 let(l1,l2,e,h1,h2):=Zs7 (λa _=>by
  cases c:a=z
  .show .inr (Vb.2.mpr c)
  .show .inl<|Vb.1.mpr c) (iL h)
 exists l1,l2,e,λa ha=>Vb.1.S<|h1 a ha,λa ha=>Vb.2.S<|h2 a ha
def Fn{z:A0}(h:z∈WQ n ps I O F):z∉F:=λq=>(Yz (Ye.S h).2).1 (Yc _ q)
def tY{y z:A0}(h:y∈VC n ps I O F ⇑z):y∉F/\y≠z:=by let(h1,h2):=Ye.S h;exists Fn h1,λe=>Yz h2<|Ye.mpr {h1,YA {z,Z,by rw[e]}}
section
variable{n:A0}{ps:Aa}{d:A5}{I O:Ac}{R:Ab}(g:ZA n ps)
include g
def ZO5(h:RowR n ps d I O ld R):∀F,With n ps I O F->(∀U,With n ps I O U->HT.lexLt U F=B0)->(∀z,ld=⇑z->z∉F)->R[0]?=⇑F:=by
 induction h with
 |und hP _ _=>
  intro F hF hm _;rw[Wc (hP.least F hF) (hm _ hP.tr)];rfl
 |div hP _ _ _ _ _ _ _ _ _ _ _ yT _=>
  intro F hF hm hz;let(s1,s2):=t9 g hF hm (hz _ Z);let e:=Wc (hP.least F hF) (hm _ hP.tr)
  have:=yT F s1 s2 λy' e'=>by cases e';rw[e];show(tY (hP.some _ Z).1).1
  rw[Yu (Xx.S this).1,this]
end
def Ra(T U:Ac):(Prop):=(T.filter λy=>decide<|y∉U).f=1
def yS{a:A0}(hT:T.Nodup)(ha:a∈T)(hU:a∉U)(h:∀v∈T,v∈U\/v=a):Ra T U:=by
 let p:(T.filter λy=>decide<|y∉U).Perm [a]:=(SY (hT.filter _) Eo).mpr λv=>by
  rw[Ye,VR,Xd];constructor
  .show λq=>(h v q.1).resolve_left q.2
  .rintro rfl;exists ha,hU
 show p.length_eq
def ZB7(hT:Zn n ps T)(hU:Zn n ps U)(h:Ra T U):Ra U T:=(Zm6 hU hT).l h
def Adj{α:Type}(P:α->α->Prop)(l:A6 α):(Prop):=∀i a b,l[i]?=⇑a->l[i+1]?=⇑b->P a b
def Adj.nil{α:Type}{P:α->α->Prop}:Adj P []:=λi a b h=>by simp at h
def Adj.one{α:Type}{P:α->α->Prop}{x:α}:Adj P [x]:=λi a b _ h=>by simp at h
def Adj.append{α:Type}{P:α->α->Prop}{l m:A6 α}(h1:Adj P l)(h2:Adj P m)(h:∀a b,l[l.f-1]?=⇑a->m[0]?=⇑b->P a b):Adj P (l++m):=λi a b ha hb=>by
 cases c:i+1<l.f
 .rw[Yu J]at ha hb;show h1 i a b ha hb
 .rw[Ys J]at hb;cases c':i<l.f
  .rw[Yu c',show i=l.f-1 by lia]at ha;rw[show i+1-l.f=0 by omega]at hb;show h a b ha hb
  .rw[Ys rF]at ha;rw[show i+1-l.f=i-l.f+1 by grind]at hb;show h2 _ a b ha hb
def Adj.rev{α:Type}{P:α->α->Prop}{l:A6 α}(h:Adj P l)(hs:∀a∈l,∀b∈l,P a b->P b a):Adj P l.reverse:=λi a b ha hb=>by
 let hi:=(Xx.S hb).1;rw[YY]at hi;rw[Gy rF]at ha hb
 have:=h (l.f-1-(i+1)) b a hb (by rwa[show l.f-1-(i+1)+1=l.f-1-i by grind])
 show hs b (Xo hb) a (Xo ha) this
def Zh8{α:Type}(l:A6 α):l.reverse[l.reverse.f-1]?=l[0]?:=by
 cases l with
 |nil=>rfl
 |cons x l=>
  rw[YY,Gy Eo];simp
def Zi6{α:Type}(l:A6 α):l.reverse[0]?=l[l.f-1]?:=by
 cases l with
 |nil=>rfl
 |cons x l=>rw[Gy Eo];simp
def yR(hF:F.Nodup)(hz:z∉F):(xchT F o z).Nodup:=(Kr F o z).nodup_iff.mpr (VQ.mpr {hF.filter _,Eo,λa ha b hb e=>hz<|by rw[<-Xd.S hb,<-e];show(Ye.S ha).1})
def Zr7{n:A0}{ps:Aa}{I F L:Ac}(hF:F.Nodup)(hL:L.Nodup)(iK:∀o∈L,o∈F):∀l asc,l.Nodup->(∀z∈l,z∉F)->(∀z∈l,WA n ps I F z=L)->Adj Ra (Vh n ps I F l asc)/\∀U,(Vh n ps I F l asc)[0]?=⇑U->∃o z,l[0]?=⇑z/\(if asc then L[0]? else L[L.f-1]?)=⇑o/\U=xchT F o z
 |[],asc,_,_,_=>{Adj.nil,λU h=>by simp[Vh]at h}
 |z::l,asc,hn,hz,hl=>by
  let(n1,n2):=Qb.S hn;let(NA,RP):=Zr7 hF hL iK l (!asc) n2 (λv hv=>hz v<|Yf _ hv) λv hv=>hl v (Yf _ hv);let zF:=hz z Ya
  let e0:WA n ps I F z=L:=hl z Ya;let same:∀o∈L,∀o'∈L,o≠o'->Ra (xchT F o z) (xchT F o' z):=λo ho o' UY ne=>yS (a:=o') (yR hF zF) (XH.mpr<|.inl {iK o' UY,YZ ne}) (λh=>by
   rcases XH.S h with q|q
   .show q.2 rfl
   .show zF<|q▸iK o' UY) λv hv=>by
   rcases XH.S hv with q|q
   .cases c:v=o'
    .show .inr c
    .show .inl (XH.mpr<|.inl ⟨q.1,c⟩)
   .show .inl (XH.mpr<|.inr q)
  let am:Adj Ra (L.G λo=>xchT F o z):=λi a b ha hb=>by
   rw[Yi]at ha hb;cases ea:L[i]? with
   |none=>rw[ea]at ha;cases ha
   |some o=>
    cases eb:L[i+1]? with
    |none=>rw[eb]at hb;cases hb
    |some o'=>
     rw[ea]at ha;rw[eb]at hb;cases ha;cases hb;show same o (Xo ea) o' (Xo eb) λe=>?_;subst e
     have:=(Gw (Xx.S ea).1 hL).S (ea.l eb.symm)
     lia
  let ar:Adj Ra (VA n ps I F asc z):=by
   unfold VA;rw[e0];cases asc with
   |true=>show am
   |false=>
    show am.rev λa ha b hb _=>?_;let(o,ho,rfl):=YC.S ha;let(o',UY,rfl):=YC.S hb;cases c:o'=o
    .rename_i h;subst c;show h
    .show same o' UY o ho c
  let hlen:(L.G λo=>xchT F o z).f=L.f:=Xr _;let last:∀U,(VA n ps I F asc z)[(VA n ps I F asc z).f-1]?=⇑U->∃o∈L,(if asc then L[L.f-1]? else L[0]?)=⇑o/\U=xchT F o z:=λU h=>by
   unfold VA at h;rw[e0]at h;cases asc with
   |true=>
    rw[Yk Z,hlen,Yi]at h;cases e:L[L.f-1]? with
    |none=>rw[e]at h;cases h
    |some o=>rw[e]at h;cases h;exists o,Xo e,Z,Z
   |false=>
    rw[Yh Ep,Zh8,Yi]at h;cases e:L[0]? with
    |none=>rw[e]at h;cases h
    |some o=>rw[e]at h;cases h;exists o,Xo e,Z,Z
  let head:∀U,(VA n ps I F asc z)[0]?=⇑U->∃o,(if asc then L[0]? else L[L.f-1]?)=⇑o/\U=xchT F o z:=λU h=>by
   unfold VA at h;rw[e0]at h;cases asc with
   |true=>
    rw[Yk Z,Yi]at h;cases e:L[0]? with
    |none=>rw[e]at h;cases h
    |some o=>rw[e]at h;cases h;exists o,Z,Z
   |false=>
    rw[Yh Ep,Zi6,hlen,Yi]at h;cases e:L[L.f-1]? with
    |none=>rw[e]at h;cases h
    |some o=>rw[e]at h;cases h;exists o,Z,Z
  exists ar.append NA λa b ha hb=>?_,λU h=>?_
  .let⟨o,ho,e1,rfl⟩:=last a ha;let(o',z',iU,e2,rfl):=RP b hb;let eo:o'=o:=by
    cases asc with
    |true=>show(Yn<|e1.symm.l e2).symm
    |false=>show(Yn<|e1.symm.l e2).symm
   subst eo;let zl:=Xo iU
   show yS (a:=z) (yR hF zF) (XH.mpr<|.inr Z) (λh=>?_) λv hv=>?_
   .rcases XH.S h with q|q
    .show zF q.1
    .show n1 (q▸zl)
   .rcases XH.S hv with q|q
    .show .inl (XH.mpr<|.inl q)
    .show .inr q
  .cases hh:VA n ps I F asc z with
   |cons x r=>
    let h':(VA n ps I F asc z)[0]?=⇑U:=by
     have:=h
     unfold Vh at this;rw[hh]at this ⊢;show this
    let(o,e1,e2):=head U h';exists o,z,Z,e1,e2
   |nil=>
    exfalso;let hL0:L=[]:=by
     have:(VA n ps I F asc z).f=L.f:=by unfold VA;rw[e0];cases asc<;>simp
     rw[hh]at this;show YV.S this.symm
    let(o,z',_,e2,_):=RP U (by have:=h;unfold Vh at this;rwa[hh]at this);rw[hL0]at e2;cases asc<;>simp at e2
section
variable{n:A0}{ps:Aa}{d:A5}{I O F T:Ac}{R:Ab}{y z:A0}(g:ZA n ps)
include g
def iI(hF:With n ps I O F)(hz:z∉F)(VB:∀U,With n ps I O U->HT.lexLt U F=B0)(hT:With n ps (I++[z]) O T)(HI:∀U,With n ps (I++[z]) O U->HT.lexLt U T=B0):∃o∈WA n ps I F z,T=xchT F o z/\∀o'∈WA n ps I F z,o'<=o:=by
 let half:=HJ g hF VB hT HI;let zT:z∈T:=hT.2.1 z Eo
 let(o,e1,e2):=Iq g hT.1 hF.1 zT hz;let oT:o∉T:=((Cv g hT.1).S e1).2.1
 let oI:o∉I:=λh=>oT (hT.2.1 o<|Yl _ h);let zO:z∉O:=λh=>hT.2.2 z h zT
 let hM:=Ms g hF.1 e2 (Kr F o z) (Fo F o z);let eT:T=xchT F o z:=ji g hT.1 hM λv hv=>XH.mpr <| by
  rcases half v hv with q|q
  .show .inl {q,λe=>oT<|by rwa[<-e]}
  .show .inr q
 exists o,Ye.mpr {Xe.mpr ⟨e2.1,e2.2.2⟩,YA oI},eT,λo' UY=>Yy λno=>?_;let(h3,h4):=Ye.S UY;let(h5,h6):=Xe.S h3;let he:exg n ps F o' z:={h5,λe=>hz (by rwa[e]),h6}
 let w:=zh g hF he (Yz h4) zO (Kr F o' z) (Fo F o' z);let w2:With n ps (I++[z]) O (xchT F o' z):=(Wz (z:=z).S w).resolve_left λq=>q.2.2 z Eo (XH.mpr<|.inr Z)
 let lt:HT.lexLt (xchT F o' z) T=A9:=by
  show(j0 (XW.S w.1.1).2 (XW.S hT.1.1).2 (by have:=w.1.2.1;have:=hT.1.2.1;lia)).mpr ⟨o,XH.mpr<|.inl ⟨e2.1,λe=>no J⟩,oT,λs hs=>?_⟩;rw[eT,XH,XH];constructor
  .rintro(q|q)
   .show .inl ⟨q.1,J⟩
   .show .inr q
  .rintro(q|q)
   .show .inl ⟨q.1,J⟩
   .show .inr q
 rw[HI _ w2]at lt;cases lt
def iH(Xt:∀v∈I,0<=v/\v<ps⁻¹)(h:RowR n ps d I O ⇑z R)(hF:With n ps I O F)(VB:∀U,With n ps I O U->HT.lexLt U F=B0)(hz:z∉F)(hT:With n ps (I++[z]) O T)(HI:∀U,With n ps (I++[z]) O U->HT.lexLt U T=B0):R[R.f-1]?=⇑T:=by
 cases h with
 |und hP hl hi=>
  rename_i F' inc;let eF:=Wc (hP.least F hF) (VB _ hP.tr)
  subst eF;let(o,ho,eT,HG):=iI g hF hz VB hT HI;let zo:z∈WQ n ps I O F:=iX g Xt (Wz.mpr<|.inr hT) hF.2.1 (hT.2.1 z Eo) hz
  let za:z∈Sr n ps I O F ⇑z:=Ye.mpr {zo,YA ⟨z,Z,Z⟩};let hp:=y7 hP.inc
  let Ss:inc.Nodup:=hp.nodup_iff.mpr (((((FF _).imp λh e=>by lia:(Vu ps.f).Nodup)).filter _).filter _);let zi:=hp.mem_iff.mpr za
  let(l1,l2,rfl,q1,q2):=ZL9 hP.inc;let e2:l2=[z]:=by
   let(_,n2,_):=VQ.S Ss;let zl:z∈l2:=(Xn.S zi).resolve_left λh=>q1 z h rfl
   match l2,zl,n2,q2 with
   |[a],_,_,q=>rw[q a Eo]
   |a::b::r,_,nd,q=>
    let e1:=q a Eo;let e2:=q b Eo
    rw[e1,e2]at nd;simp at nd
  subst e2;let flag:(((l1++[z]).f%2 == 1) != (l1.f%2 == 1))=A9:=by
   rw[Xa,YH];rcases Nat.mod_two_eq_zero_or_one l1.f with c|c
   .rw[c,show(l1.f+1)%2=1 by lia];rfl
   .rw[c,show(l1.f+1)%2=0 by lia];rfl
  unfold zb;rw[iW,flag];unfold VA;rw[Yk Z];let asc:(WA n ps I F z).H (·<·):=(((XW.S hF.1.1).2).filter _).filter _
  let pos:=cB ho;let lo:(WA n ps I F z)[(WA n ps I F z).f-1]?=⇑o:=by
   let(i,hi,e):=QM ho;cases c:i=(WA n ps I F z).f-1
   .rw[<-c,Xv hi,e]
   .let lt:=JZ.S asc i ((WA n ps I F z).f-1) hi rF J;let le:=HG _ (JS<|show(WA n ps I F z).f-1<_ by omega)
    rw[e]at lt;lia
  change((F::Vh n ps I F l1 ((l1++[z]).f%2 == 1))++(WA n ps I F z).G λo=>xchT F o z)[_]?=_;rw[Ys (by simp;lia),Yi]
  have:((F::(Vh n ps I F l1 ((l1++[z]).f%2 == 1)++(WA n ps I F z).G λo=>xchT F o z)).f-1-(F::Vh n ps I F l1 ((l1++[z]).f%2 == 1)).f)=(WA n ps I F z).f-1:=by
   simp;lia
  rw[this,lo,eT];rfl
 |div hP a1 a2 a3 a4 a5 a6 a7 a8 a9 hA hB=>
  rename_i d F' inc y A AP;let eF:=Wc (hP.least F hF) (VB _ hP.tr)
  subst eF;let(yF,yz):=tY (hP.some _ Z).1;let hf:=ZO5 g hB T hT HI λv e=>by cases e;show λq=>(HJ g hF VB hT HI y q).elim yF yz
  let hb:=(Xx.S hf).1;rw[<-Zh8]at hf;rw[Ys (by rw[Xa,YY];lia)];rw[YY]at hf;rwa[show(A++AP.reverse).f-1-A.f=AP.f-1 by rw[Xa,YY];lia]
def iG(Xt:∀v∈I,0<=v/\v<ps⁻¹)(hF:With n ps I O F)(y0:0<=y/\y<ps⁻¹)(z0:0<=z/\z<ps⁻¹)(h:TN (Xu n.j (XR ps I)) ps y=TN (Xu n.j (XR ps I)) ps z):WA n ps I F y=WA n ps I F z:=by
 let key:∀a∈F,a∉I->(y∈UP n ps F a↔z∈UP n ps F a):=λa ha hn=>by
  rw[Vk g hF.1 y0.1 y0.2,Vk g hF.1 z0.1 z0.2];show not_congr ?_;let up:∀{i j},Conn (XR ps I) i j->Conn (XR ps<|wo F a) i j:=λc=>c.mono (ZX λv hv=>Xk.mpr {hF.2.1 v hv,λe=>hn<|by rwa[<-e]})
  rcases ZC8 g Xt y0.1 y0.2 z0.1 z0.2 h with ⟨a,b⟩|⟨a,b⟩
  .exists λc=>((up a).symm.l c).l (up b),λc=>((up a).l c).l (up b).symm
  .exists λc=>((up b).symm.l c.symm).l (up a),λc=>((up a).l c.symm).l (up b).symm
 unfold WA SQ;rw[List.filter_filter,List.filter_filter];show Ls λa ha=>?_;cases c:a∈I
 .simp[c]
 .have:=key a ha c
  unfold UP at this;simp[c,this]
def iF(Xt:∀v∈I,0<=v/\v<ps⁻¹)(hF:With n ps I O F)(VB:∀U,With n ps I O U->HT.lexLt U F=B0)(hz:z∈WQ n ps I O F)(hy:y∈VC n ps I O F ⇑z):y∈WQ n ps I (O++[z]) F/\(With n ps (I++[z]) O F2->(∀U,With n ps (I++[z]) O U->HT.lexLt U F2=B0)->y∈WQ n ps (I++[z]) O F2):=by
 let(yF,yz):=tY hy;let(yo,ya):=Ye.S hy;let(LU,yI,yO,_,yc):=(Vg g Xt).S yo;let(Kp,zI,zO,zF,zc):=(Vg g Xt).S hz;exists (Vg g Xt).mpr {LU,yI,λh=>(Xn.S h).elim yO λh=>yz<|Xd.S h,yF,yc},λh2 h2m=>?_;let Tp:∀v∈I++[z],0<=v/\v<ps⁻¹:=λv hv=>(Xn.S hv).elim (Xt v) λh=>by rwa[Xd.S h]
 show(Vg g Tp).mpr {LU,λh=>(Xn.S h).elim yI λh=>yz<|Xd.S h,yO,λh=>(HJ g hF VB h2 h2m y h).elim yF yz,λc=>?_};let e:XR ps (I++[z])=XR ps I++[((ZB ps z).1,(ZB ps z).2)]:=YE
 rw[e]at c;rcases Zs6 c with h|h
 .show yc h
 .show Yz ya (Ye.mpr {yo,YA {z,Z,y6 g Xt LU Kp h}})
end
def Zo9(g:ZA n ps)(h:RowR n ps d I O ld R):(∀v∈I,0<=v/\v<ps⁻¹)->(∀F z,With n ps I O F->(∀U,With n ps I O U->HT.lexLt U F=B0)->ld=⇑z->z∈WQ n ps I O F)->Adj Ra R:=by
 induction h with
 |@und d I O F inc ld hP hl hi=>
  intro Xt yQ;let hp:=y7 hP.inc
  let Ss:inc.Nodup:=hp.nodup_iff.mpr (((((FF _).imp λh e=>by omega:(Vu ps.f).Nodup)).filter _).filter _);let iE:=hP.tr.1.1.nodup
  cases ld with
  |none=>
   let e:inc=[]:=by show Nh.mpr λz hz=>?_;let(y,h,_):=Yz (Ye.S<|hp.mem_iff.S hz).2;cases h
   subst e;show Adj.one
  |some z=>
   let zo:=yQ F z hP.tr hP.least rfl;let(Kp,_):=(Vg g Xt).S zo;let(c1,c2):=Zr7 (n:=n) (ps:=ps) (I:=I) (F:=F) (L:=WA n ps I F z) iE ((iE.filter _).filter _) (λo ho=>(Xe.S (Ye.S ho).1).1) inc (inc.f%2 == 1) Ss (λv hv=>(hi v hv).1) (λv hv=>by let(y,e,h):=Yz (Ye.S<|hp.mem_iff.S hv).2;cases e;show iG g Xt hP.tr (hi v hv).2 Kp h)
   change Adj Ra ([F]++Vh n ps I F inc (inc.f%2 == 1));show Adj.one.append c1 λa b ha hb=>?_;cases ha;let(o,v,hv,ho,rfl):=c2 b hb;let vF:=(hi v<|Xo hv).1
   let oL:o∈WA n ps I F z:=by
    split at ho
    .show Xo ho
    .show Xo ho
   let oF:=(Xe.S (Ye.S oL).1).1;show yS (a:=o) iE oF (λh=>?_) λw hw=>?_
   .rcases XH.S h with q|q
    .show q.2 rfl
    .show vF (q▸oF)
   .cases c:w=o
    .show .inr c
    .show .inl (XH.mpr<|.inl ⟨hw,c⟩)
 |@div d I O F inc z y A AP hP hIn Tp UK hO hW _ _ _ _ hA hB yT iM=>
  intro Xt yQ;let zo:=yQ F z hP.tr hP.least rfl
  let zF:=Fn zo;let yu:=(hP.some y Z).1
  let(yF,yz):=tY yu;let(s1,s2):=t9 g hP.tr hP.least zF;let(F2,_,_,RI):=Kq g ⇑y hW;let(y1,y2):=iF (F2:=F2) g Xt hP.tr hP.least zo yu;let y2:=y2 RI.tr RI.least
  let aA:=yT Xt λF' v h1 h2 e=>by cases e;rwa[Wc (s2 F' h1) (h2 F s1)]
  let aB:=iM Tp λF' v h1 h2 e=>by cases e;rwa[Wc (RI.least F' h1) (h2 F2 RI.tr)]
  show aA.append (aB.rev λa ha b hb q=>ZB7 (yU g hB a ha).1 (yU g hB b hb).1 q) λa b ha hb=>?_;rw[Zi6]at hb;let(G,_,_,hG):=Kq g none (t7 g Xt hP.tr (Ye.S yu).1);let zG:z∉G:=λh=>(HJ g hP.tr hP.least hG.tr hG.least z h).elim zF (YZ yz)
  let(g1,g2):=t9 g hG.tr hG.least zG;let ea:=iH g Xt hA s1 s2 yF g1 g2
  rw[<-Yn (ea.symm.l ha)];let(T2,_,_,h2):=Kq g none (t7 g Tp RI.tr y2);let eb:=iH g Tp hB RI.tr RI.least (Fn y2) h2.tr h2.least
  rw[<-Yn (eb.symm.l hb)];let sw:∀U,With n ps (I++[z]++[y]) O U↔With n ps (I++[y]++[z]) O U:=λU=>by
   unfold With;show and_congr_right λ_=>and_congr_left λ_=>{λh v hv=>h v ?_,λh v hv=>h v ?_}
   all_goals
    simp only[Xn,Xd]at hv ⊢;rcases hv with (q|q)|q
    .show .inl (.inl q)
    .show .inr q
    .show .inl (.inr q)
  let hh:=HJ g hG.tr hG.least ((sw T2).S h2.tr) λU hU=>h2.least U ((sw U).mpr hU);show ZB7 h2.tr.1 g1.1 (yS (a:=z) h2.tr.1.1.nodup (h2.tr.2.1 z Eo) zG λv hv=>hh v hv)
def Ze8{l:Ac}{ld LS:Option A0}(h1:ld=A8↔l=[])(h2:∀y,ld=⇑y->y∈l/\∀z∈l,y<=z)(AK:LS=A8↔l=[])(h2':∀y,LS=⇑y->y∈l/\∀z∈l,y<=z):ld=LS:=by
 cases ld with
 |none=>show(AK.mpr<|h1.S Z).symm
 |some y=>
  cases LS with
  |none=>ext
  |some y'=>
   grind
def Ql:With n ps [] [] T↔Zn n ps T:={λh=>h.1,λh=>{h,λz q=>(by cases q),λz q=>(by cases q)}}
def HF{F L:Ac}(g:ZA n ps)(hR:RowW n ps R)(hF:Zn n ps F)(VB:∀U,Zn n ps U->HT.lexLt U F=B0):R[0]?=⇑F/\Adj Ra R/\(1<R.f->R[R.f-1]?=⇑L->Ra L F):=by
 let Fm:=Ql.mpr hF;let LR:∀U,With n ps [] [] U->HT.lexLt U F=B0:=λU hU=>VB U hU.1
 let Xt:∀v∈([]:Ac),0<=v/\v<ps⁻¹:=λv h=>by cases h
 let(ld,F',inc,fu,hP,h1,h2,LQ,_):=id hR;let eF:F'=F:=Wc (VB F' hP.tr.1) (hP.least F Fm)
 subst eF;exists ZO5 g LQ F' Fm LR λz e=>Fn (h2 z e).1,Zo9 g LQ Xt λF2 z a b e=>?_,λhl hL=>?_
 .rw[Wc (LR F2 a) (b F' Fm)];show(h2 z e).1
 .cases ld with
  |none=>
   exfalso;let eo:=h1.S rfl
   cases LQ with
   |und iC _ _=>
    let(rfl,rfl,rfl):=hP.uniq iC;let e:inc=[]:=Nh.mpr λz hz=>by
     have:=(Ye.S<|(y7 hP.inc).mem_iff.S hz).1
     rw[eo]at this;cases this
    subst e;show absurd hl (by change ¬1<1;decide)
  |some z=>
   let zo:=(h2 z Z).1;let(T2,_,_,Fl):=Kq g none (t7 g Xt Fm zo);rw[iH g Xt LQ Fm LR (Fn zo) Fl.tr Fl.least]at hL;let rfl:=Yn hL;show yS (a:=z) Fl.tr.1.1.nodup (Fl.tr.2.1 z Eo) (Fn zo) λv hv=>HJ g Fm LR Fl.tr Fl.least v hv
end My
namespace L2
open PySem PySem.Spec PyProof.Rows
def To{N P:A6 C0}{sc:C1}(h:sc.kind=.function/\sc.isCoroutine=B0/\sc.isGenerator=B0/\N.Nodup/\N.Q P.f=P/\(∀x∈P,sc.names.U x=some .local\/sc.names.U x=some .cell)/\∀y∈sc.names,y.2≠.free):FnScope N P sc:=⟨h.1,h.2.1,h.2.2.1,h.2.2.2.1,h.2.2.2.2.1,h.2.2.2.2.2.1,h.2.2.2.2.2.2⟩
structure DfA(K:Ad)(mg:Af)(x:C0)(st:B8)(f:A7)(fd:B9)(ps:A6 C0):Prop where
 fn:Fun K x x st f fd
 bi:Binds K fd ps []
 mm:mg x=some ↑f
def Xz{X:Cx}{CX:PU}{k m:A5}{f:A7}{fd:B9}{ps:A6 C0}{sp:Sp}{x:C0}{st:B8}{e:B5}{es:A6 B5}{t:TA}{p pos:Pos}{E:XK}(F:FnOk X.prog X.w X.K X.mg X.base CX k f fd ps sp)(hr:Room m X.A)(d:DfA X.K X.mg x st f fd ps)(hx:Le CX X E)(ha:PA X (e::es) t)(hk:k<=m:=by decide)(hg:Gl X x:=by show Z)(RX:(x == ("__debug__":C0))=B0:=by decide)(he:starEach (e::es) X.X=(false,eval e X.X)::starEach es X.X:=by rfl)(UG:(backTo pos<|starEach es X.X).any (·.1)=B0:=by rfl):PE X (.Call (.Name x p) (e::es) [] pos) (DM sp [] E t):=
 QH F (hr.mono hk) hg d.mm d.fn.kp d.bi .nil hx ha RX he UG
def tX(N P:A6 C0)(sc:C1):(Prop):=sc.kind=.function/\sc.isCoroutine=B0/\sc.isGenerator=B0/\N.Nodup/\N.Q P.f=P/\(∀x∈P,sc.names.U x=some .local\/sc.names.U x=some .cell)/\∀y∈sc.names,y.2≠.free
instance (N P:A6 C0) (sc:C1):Decidable (tX N P sc):=by unfold tX;infer_instance
section
variable{P:Program}{w:World}{K:Ad}{mg:Af}{base:Heap}{x:C0}{st:B8}{f:A7}{fd:B9}{ps:A6 C0}{k:A5}{sp:Sp}
abbrev Xs(P:Program)(w:World)(base:Heap)(CX:PU)(_:DfA K mg x st f fd ps)(k:A5)(sp:Sp):Prop:=FnOk P w K mg base CX k f fd ps sp
def DfA.okI(q:DfA K mg x st f fd ps)(N:A6 C0)(S:tX N ps (Za st))
  (VO:∀XI A outer s H vs Q E,Room k (A.deeper<|envOfC x (Za st) (~~~s) f XI)->sp vs H Q E->
   ∃t,PSs (TF XA P w K mg base N x (Za st) f XI A outer s H E).nox (Rt st) t/\t {nx:=λ_ H'=>Q .non H',rt:=Q} (start N vs) H) (len:∀vs H Q E,sp vs H Q E->vs.f=ps.f:=by intro _ _ _ _ h;cases h;subst_vars;rfl):Xs P w base XA q (k+1) sp:=q.fn.ok (To S) len VO
def DfA.ok(q:DfA K mg x st f fd ps)(N:A6 C0)(S:tX N ps (Za st))(len:∀vs H Q E,sp vs H Q E->vs.f=ps.f)
  (VO:∀XI A outer s H vs Q E,Room k (A.deeper<|envOfC x (Za st) (~~~s) f XI)->sp vs H Q E->
   ∃t,PSs (TF XA P w K mg base N x (Za st) f XI A outer s H E).nox (Rt st) t/\t {nx:=λ_ H'=>Q .non H',rt:=Q} (start N vs) H):Xs P w base XA q (k+1) sp:=q.fn.ok (To S) len VO
end
end L2
namespace My
open PySem L2
def FQ(K:Ad)(mg:Af)(x:C0)(st:B8)(ps:A6 C0):(Prop):=∃f fd,DfA K mg x st f fd ps
def yP{K:Ad}{h:Heap}{mg:Af}{x:C0}{st:B8}{ps:A6 C0}{f:A7}{oc:B1}{od an:Option A7}{Vf:B4 (Option B1)}{kV doc pm XI ct:B1}(X:K.In h)(G:h.Ns mainGlobals mg)
  (a:PySem.W.nsIn K mainGlobals x=⇑(some<|.ref f))(l:K.U f=⇑{oc,od,.func<|PySem.W.fnOf x x (MM st) (Rt st) (Za st) .none kV doc pm an XI ct,Vf})(c:PySem.W.codeIn K XI x=A9)(k:PySem.W.keepIn K ↑f=A9)
  (b:∀kV doc pm an XI ct us,us.f=ps.f->bindArgs (PySem.W.fnOf x x (MM st) (Rt st) (Za st) .none kV doc pm an XI ct) {us,[]}=pure (ps.zip us)):FQ K mg x st ps:=
 {f,_,Dp l c k,(Dp l c k).binds b,JN X G a}
def TupC(K:Ad)(a:A7)(xs:A6 V):(Prop):=∃o XX n,K.U a=⇑o/\o.cls=.type "tuple"/\o.data=.seq XX n/\XX.o<=sizeLine/\Vals xs XX.m
def TupC.sq(h:TupC K a xs)(H:Hp):SqT K H a xs:=.inr h
def Vx{mg:Af}{xs:A6 V}{p:A7}{od:Option A7}{XX:B4 B1}{n:A5}{Vf:B4 (Option B1)}(X:K.In h)(G:h.Ns mainGlobals mg)(a:PySem.W.nsIn K mainGlobals x=⇑(some ↑p))(l:K.U p=⇑{.type "tuple",od,.seq XX n,Vf})(z:XX.o<=sizeLine)(r:Vals xs XX.m):∃a,mg x=some ↑a/\TupC K a xs:=
 {p,JN X G a,_,XX,n,l,Z,Z,z,r}
def VU:(A6 C0):=["count","cheapest"]
def Wj:(A6 C0):=["tree","row","rank"]
def WI:(A6 C0):=["number","place","next","share"]
def isN(w:C0):(B3):=Kt w.cps.m
def yN(x0:C0)(r:A6 C0):(Prop):=(x0∈VU/\r.f+1=1)\/(x0∈Wj/\r.f+1=2/\r.all isN=A9)\/(x0∈WI/\1<r.f+1/\(r=[("-":C0)]\/r.all isN=A9))
instance:Decidable (yN x0 r):=by unfold yN;infer_instance
def HE{A AP:TT}{t u:TS}{rj:Ends}{σ:L2.St}{H:Hp}(c1 c2:Prop)[Decidable c1][Decidable c2](hA:∀Q:B3->Hp->Prop,Q (decide c1) H->A σ H Q)(hB:∀Q:B3->Hp->Prop,Q (decide c2) H->AP σ H Q)(h1:c1->c2->t rj σ H)(h2:¬(c1/\c2)->u rj σ H):Eh (Ek A AP) t u rj σ H:=by
 show hA _ ?_
 ext
def iz{x:C0}{l:A6 C0}:Ld (.str x) (l.G V.str)=decide (x∈l):=by
 unfold Ld;rw[List.any_map,Nj,EG,VR];constructor
 .rintro⟨y,hy,e⟩;let e:y=x:=by simpa[PQ] using e
  ext
 .intro h;exists x,h,by simp[PQ]
end My
namespace PyProof.Rows
open PySem
section
variable{lt:Keyed->Keyed->B3}{x y:Keyed}{L AP:A6 Keyed}
def mg(lt:Keyed->Keyed->B3)(L AP:A6 Keyed):(A6 Keyed):=L.merge AP λx y=>!lt y x
def HD:∀{X:A6 Keyed},(∀x∈X,lt y x=B0)->mg lt (X++L) (y::AP)=X++mg lt L (y::AP)
 |[],_=>rfl
 |x::X,h=>by unfold mg;rw[JR,List.cons_merge_cons_pos _ _ _ D];show YI (x :: ·) (HD λz hz=>h z<|Yf _ hz)
def LP:∀{Y:A6 Keyed},(∀y∈Y,lt y x=A9)->mg lt (x::L) (Y++AP)=Y++mg lt (x::L) AP
 |[],_=>rfl
 |y::Y,h=>by unfold mg;rw[JR,List.cons_merge_cons_neg _ _ _ D];show YI (y :: ·) (LP λz hz=>h z<|Yf _ hz)
def Ko(h:L=[]\/AP=[]):mg lt L AP=L++AP:=by unfold mg;rcases h with rfl|rfl<;>simp
def Km(h:∀y∈AP,lt y x=A9):mg lt [x] AP=AP++[x]:=by
 let e:=LP (lt:=lt) (x:=x) (L:=[]) (AP:=[]) h;rw[YO]at e;rw[e];unfold mg
 ext
def ZZ5(tr:∀a b c,lt b a=B0->lt c b=B0->lt c a=B0)(tt:∀a b,lt b a=A9->lt a b=B0)(h1:L.H λx y=>lt y x=B0)(h2:AP.H λx y=>lt y x=B0):(mg lt L AP).H λx y=>lt y x=B0:=by
 show(List.pairwise_merge (le:=λx y=>!lt y x) (λa b c p q=>?_) (λa b=>?_) L AP (h1.imp λh=>J)<|h2.imp λh=>J).imp λh=>J
 .grind
 grind
end
section
variable{M:Model}{A:Around}{E:Ae}{s:B6}{O:KeyOrd}{key:Keyed->O.α}{kd:SortKind}{S:Keyed->Prop}{a b:B4 Keyed}{R:A6 Keyed}
def Oj(O:KeyOrd)(key:Keyed->O.α)(y x:Keyed):(B3):=O.blt (key y) (key x)
def iy(h:i<a.o):a.m.drop i=a[i]::a.m.drop (i+1):=GC (by simpa using h)
def Qk(h:i<a.o):ke key a i=key a[i]:=Xg (QU a i h)
def ML(O:KeyOrd)(key:Keyed->O.α)(a b:B4 Keyed)(R out:A6 Keyed)(i j:A5):(Prop):=out++mg (Oj O key) (a.m.drop i) (b.m.drop j)=R
section
variable{out:A6 Keyed}{i j:A5}
def ML.fst(h:ML O key a b R out i j)(k:A5)(hj:j<b.o)(hx:∀n,n<k->O.blt (ke key b j) (ke key a (i+n))=B0):ML O key a b R (out++(a.m.drop i).Q k) (i+k) j:=by
 unfold ML at *;rw[<-h,iy hj,YT,<-HD (lt:=Oj O key) λx US=>?_,<-wg (i:=k),Gz];let(n,hn,e):=Cj US
 have:=hx n hn
 rwa[Qk hj,Xg e]at this
def ML.snd(h:ML O key a b R out i j)(k:A5)(hi:i<a.o)(hx:∀n,n<k->O.blt (ke key b (j+n)) (ke key a i)=A9):ML O key a b R (out++(b.m.drop j).Q k) i (j+k):=by
 unfold ML at *;rw[<-h,iy hi,YT,<-LP (lt:=Oj O key) λx US=>?_,<-wg (i:=k),Gz];let(n,hn,e):=Cj US
 have:=hx n hn
 rwa[Qk hi,Xg e]at this
def ML.done(h:ML O key a b R out i j)(hz:a.o<=i\/b.o<=j):out++a.m.drop i++b.m.drop j=R:=by rwa[YT,<-Ko (lt:=Oj O key) (hz.imp (λh=>GA<|by simpa using h) λh=>GA<|by simpa using h)]
def ML.last(h:ML O key a b R out i j)(hi:i+1=a.o)(hx:∀n,n<b.o->O.blt (ke key b n) (ke key a (a.o-1))=A9):out++b.m.drop j++a.m.drop i=R:=by
 let e:a.m.drop i=[a[i]]:=by rw[iy rF,GA (by simp;ext)]
 rw[<-h,e,Km λy hy=>?_,YT];let(n,_,hn,ey):=nu hy
 have:=hx n hn
 rwa[Xg ey,show a.o-1=i by lia,Qk J]at this
end
structure MC(M:Model)(A:Around)(E:Ae)(s:B6)(O:KeyOrd)(key:Keyed->O.α)(kd:SortKind)(S:Keyed->Prop)(a b:B4 Keyed):Prop where
 L:UO M A E s O key kd S
 sa:∀i,i<a.o->∃p,a[i]?=⇑p/\S p
 sb:∀i,i<b.o->∃p,b[i]?=⇑p/\S p
 ma:∀i j,i<=j->j<a.o->O.kle (ke key a i) (ke key a j)
 mb:∀i j,i<=j->j<b.o->O.kle (ke key b i) (ke key b j)
 ha:∀i,i<a.o->O.blt (ke key b 0) (ke key a i)=A9
 hb:∀n,n<b.o->O.blt (ke key b n) (ke key a<|a.o-1)=A9
def Yd{β:Type}(P:Option (B4 Keyed)×β->Prop)(st:SortSt)(r:ForInStep (Option (B4 Keyed)×β))(XS:SortSt):(Prop):=UN st XS/\∃c,P c/\(r=.done c\/r=.yield c/\c.1=A8)
def OkL(O:KeyOrd)(key:Keyed->O.α)(a b:B4 Keyed)(R:A6 Keyed)(m:A5){γ:Type}(c:Option (B4 Keyed)×B4 Keyed×A5×A5×γ):(Prop):=
 (∃r,c.1=⇑r/\r.m=R)\/(c.1=A8/\ML O key a b R c.2.1.m c.2.2.1 c.2.2.2.1/\c.2.2.1+1<a.o/\c.2.2.2.1<b.o/\m<=c.2.2.1+c.2.2.2.1)
def TM{β:Type}{P:Option (B4 Keyed)×β->Prop}{st XS:SortSt}{c:Option (B4 Keyed)×β}(k:UN st XS)(h:P c):wpS M A E s (pure (.done c)) (Yd P st) XS:=YQ {k,c,h,.inl Z}
section
variable{out:B4 Keyed}{i j m g ac bc:A5}{st XS:SortSt}
def yM(C:MC M A E s O key kd S a b)(k:UN st XS)(hi:i+1<a.o)(hj:j<b.o)(h:ML O key a b R out.m i j)(hx:O.blt (ke key b j) (ke key a i)=B0)(hm:m<=i+j):wpS M A E s (IA a b out i j g ac bc) (Yd (OkL O key a b R m) st) XS:=by
 let e:=QU a i J;let h2:=h.fst 1 hj λn hn=>by ext
 rw[OO e,<-NM]at h2;show Yt (Zx e ?_);cases c:i+1+1=a.o
 .show ZJ (by simpa using c) (TM k<|.inl {_,Z,by rw[Yr,Yr,Te,Te];show h2.last c C.hb})
 .show WR (by simpa using c) ?_;let z:∀g ac bc,OkL O key a b R m ((none,out.push a[i],i+1,j,g,ac,bc):KN):=λ_ _ _=>.inr ⟨Z,h2,J,hj,J⟩
  split
  .show TM k (z _ _ _)
  .show YQ {k,_,z _ _ _,.inr ⟨Z,Z⟩}
def yL(C:MC M A E s O key kd S a b)(k:UN st XS)(hk:kindOf XS=kd)(hi:i+1<a.o)(hj:j<b.o)(h:ML O key a b R out.m i j)(hx:O.blt (ke key b j) (ke key a i)=A9)(hm:m<=i+j):wpS M A E s (Iz a b out i j g ac bc) (Yd (OkL O key a b R m) st) XS:=by
 let e:=QU b j hj;let h2:=h.snd 1 J λn hn=>by ext
 rw[OO e,<-NM]at h2;show Yt (Zx e ?_);cases c:j+1=b.o
 .show ZJ (by simpa using c) (TM k<|.inl {_,Z,by rw[Yr,Yr,Te,Te];show h2.done<|.inr<|by ext})
 show WR (by simpa using c) ?_;let(p,ep,hp):=C.sa i J;show Yt (Zx ep<|Yt<|FE C.L hk hp (λn hn=>C.sb _ D) D (λn l Fj hl=>C.mb _ _ (by ext) D) λq hq lo Wx=>?_);let lo:∀n,n<q->O.blt (ke key b<|j+1+n) (ke key a i)=A9:=λn hn=>by rw[Xg ep];show lo n hn
 let Wx:j+1+q<b.o->O.blt (ke key b<|j+1+q) (ke key a i)=B0:=λhn=>by rw[Xg ep];show Wx q (XG _) D
 let h3:=h2.snd q J lo;rw[<-Ck,<-Yr]at h3;cases c0:q>0
 .show ZJ c0 ?_;cases c1:j+1+q=b.o
  .show ZJ (by simpa using c1) (TM k<|.inl {_,Z,by rw[Yr,Yr,Te,Te];show h3.done<|.inr<|by ext})
  .show WR (by simpa using c1) (yM C k hi D h3 (Wx D) J)
 .let rfl:q=0:=by ext
  show WR c0 (yM C k hi J h2 (Wx J) J)
def yK(C:MC M A E s O key kd S a b)(k:UN st XS)(hk:kindOf st=kd)(hi:i+1<a.o)(hj:j<b.o)(h:ML O key a b R out.m i j)(hm:m<=i+j):wpS M A E s (Iy a b out i j g ac bc) (Yd (OkL O key a b R m) st) XS:=by
 show Yt (uW ?_);let(p,ep,hp):=C.sb j hj;let VS:=k.1.l hk
 show Yt (Zx ep<|Yt<|FE C.L VS hp (λn hn=>C.sa _ D) D (λn l Fj hl=>C.ma _ _ (by ext) D) λq hq lo Wx=>?_);let lo:∀n,n<q->O.blt (ke key b j) (ke key a<|i+n)=B0:=λn hn=>by rw[Xg ep];simpa[beyB] using lo n hn
 let Wx:i+q<a.o->O.blt (ke key b j) (ke key a<|i+q)=A9:=λhn=>by rw[Xg ep];simpa[beyB] using Wx q (XG _) J
 let h3:=h.fst q hj lo;rw[<-Ck,<-Yr]at h3;cases c0:q>0
 .show ZJ c0 ?_;cases c1:i+q+1=a.o
  .show ZJ (by simpa using c1) (TM k<|.inl {_,Z,by rw[Yr,Yr,Te,Te];show h3.last c1 C.hb})
  show WR (by simpa using c1) ?_;cases c2:i+q=a.o
  .show ZJ (by simpa using c2) (TM k<|.inl {_,Z,by rw[Yr,Yr,Te,Te];show h3.done<|.inl<|by ext})
  .show WR (by simpa using c2) (yL C k VS D hj h3 (Wx J) J)
 .let rfl:q=0:=by ext
  show WR c0 (yL C k VS hi hj h (Wx J) hm)
def yJ(C:MC M A E s O key kd S a b)(k:UN st XS)(hk:kindOf st=kd)(hi:i+1<a.o)(hj:j<b.o)(h:ML O key a b R out.m i j)(hm:m<=i+j):wpS M A E s (loB1 a b g (none,out,i,j,ac,bc)) (Yd (OkL O key a b R (m+1)) st) XS:=by
 let(p,ep,hp):=C.sa i J;let(q,eq,hq):=C.sb j hj;show Yt (Zx eq<|Yt<|Zx ep<|Yt<|C.L _ _ _ _ hq hp (k.1.l hk) ?_);cases hc:O.blt (key q) (key p) with
 |true=>
  let h2:=h.snd 1 J λn hn=>by rwa[show j+n=j by ext,Xg eq,Xg ep]
  rw[OO eq,<-NM]at h2;show ZJ Z (Yt<|Zx eq ?_);cases c:j+1=b.o
  .show ZJ (by simpa using c) (TM k<|.inl {_,Z,by rw[Yr,Yr,Te,Te];show h2.done<|.inr J})
  show WR (by simpa using c) ?_;let z:∀ac bc,OkL O key a b R (m+1) ((none,out.push q,i,j+1,ac,bc):FC):=λ_ _=>.inr {Z,h2,hi,by change j+1<b.o;lia,J}
  split
  .show TM k (z _ _)
  .show YQ {k,_,z _ _,.inr ⟨Z,Z⟩}
 |false=>
  let h2:=h.fst 1 hj λn hn=>by rwa[show i+n=i by lia,Xg eq,Xg ep]
  rw[OO ep,<-NM]at h2;show WR Eo (Yt<|Zx ep ?_);cases c:i+1+1=a.o
  .show ZJ (by simpa using c) (TM k<|.inl {_,Z,by rw[Yr,Yr,Te,Te];show h2.last c C.hb})
  show WR (by simpa using c) ?_;let z:∀ac bc,OkL O key a b R (m+1) ((none,out.push p,i+1,j,ac,bc):FC):=λ_ _=>.inr ⟨Z,h2,J,hj,J⟩
  split
  .show TM k (z _ _)
  .show YQ {k,_,z _ _,.inr ⟨Z,Z⟩}
end
def tV{β:Type}{n m d:A5}{f:Option (B4 Keyed)×β->StateT SortSt Sem (ForInStep (Option (B4 Keyed)×β))}{st XS:SortSt}{c:Option (B4 Keyed)×β}(P:A5->Option (B4 Keyed)×β->Prop)(hn:0<n)(up:∀c,P (m+d) c->P m c)(hs:∀c XS,UN st XS->P m c->c.1=A8->wpS M A E s (f c) (Yd (P (m+d)) st) XS)(k:UN st XS)(h0:P m c)(h1:c.1=A8):wpS M A E s (forIn [0:n] c λ_ c=>f c) (λc XS=>UN st XS/\P (m+d) c) XS:=by
 show QQ (I:=λx c XS=>UN st XS/\P m c/\c.1=A8/\(0<x->P (m+d) c)) (λx c XS _ _ ⟨k,p,q,_⟩=>Sj (hs c XS k p q) ?_) (λc XS zz=>by let(k,p,q,z):=zz;show{k,z<|by ext}) ⟨k,h0,h1,λh=>absurd h<|by ext⟩;rintro r WU ⟨k2,c2,p2,rfl|⟨rfl,q2⟩⟩
 .exists k2,p2
 .exists k2,up _ p2,q2,λ_=>p2
def OkL.up{γ:Type}{c:Option (B4 Keyed)×B4 Keyed×A5×A5×γ}(h:OkL O key a b R (m+d) c):OkL O key a b R m c:=h.imp id λzz=>by let(h1,h2,h3,h4,h5):=zz;exists h1,h2,h3,h4,J
def OkL.go{γ:Type}{c1:Option (B4 Keyed)}{out:B4 Keyed}{i j:A5}{z:γ}(h:OkL O key a b R m (c1,out,i,j,z))(e:c1=A8):ML O key a b R out.m i j/\i+1<a.o/\j<b.o/\m<=i+j:=by
 rcases h with ⟨r,q,_⟩|⟨_,h⟩
 .ext
 .show h
def ZT4(C:MC M A E s O key kd S a b){st:SortSt}{Q:B4 Keyed->SortSt->Prop}(hk:kindOf st=kd)(ha:0<a.o)(hb:0<b.o)(h:∀r XS,UN st XS->r.m=mg (Oj O key) a.m b.m->Q r XS):wpS M A E s (Co a b) Q st:=by
 let k0:UN st st:=⟨Z,Z,Z,Z⟩;let e0:=QU b 0 hb
 let m0:ML O key a b (mg (Oj O key) a.m b.m) [] 0 0:=rfl;let m1:=m0.snd 1 ha λn hn=>by rw[show 0+n=0 by ext];show C.ha 0 ha
 rw[OO e0]at m1;rw[Ce];show Yt (wpS_lift<|PZ ⟨Z,?_⟩);show Yt (Zx e0 ?_);cases c1:1=b.o
 .show ZJ (by simpa using c1) (YQ<|h _ _ k0<|by rw[Yr,Yr,Te,Te];show m1.done<|.inr<|by ext)
 show WR (by simpa using c1) ?_;cases c2:0+1=a.o
 .show ZJ (by simpa using c2) (YQ<|h _ _ k0<|by rw[Yr,Yr,Te,Te];show m1.last c2 C.hb)
 show WR (by simpa using c2) (Yt<|Pc ?_);generalize mg (Oj O key) a.m b.m=R at *;show Yt (Sj (QQ
  (I:=λx c XS=>UN st XS/\c.1=A8/\OkL O key a b R x c)
  (Q:=λc XS=>UN st XS/\∃r,c.1=⇑r/\r.m=R) ?_ ?_ {k0,Z,.inr {Z,m1,J,J,Qd _}}) ?_)
 .rintro x ⟨c1,out,i,j,g⟩ Ve _ hx ⟨k1,e1,p1⟩;show Yt (Sj (tV (m:=x) (d:=1) (λm c=>OkL O key a b R m c) J (λ_ h=>h.up) (λc WU k2 p2 e2=>?_) k1 (.inr {Z,(p1.go e1)}) Z) ?_)
  .let⟨c1,out,i,j,ac,bc⟩:=c;let rfl:c1=A8:=e2;let(h1,h2,h3,h4):=p2.go rfl;show yJ C k2 hk h2 h3 h1 h4
  rintro⟨c1,out,i,j,ac,bc⟩ WU ⟨k2,p2⟩;cases c1 with
  |some r=>show YQ {k2,r,rfl,by rcases p2 with ⟨r,e,q⟩|⟨e,_⟩<;>cases e;show q}
  |none=>
   show Yt (wpS_lift<|PZ ⟨Z,?_⟩);show Yt (Sj (tV (m:=x+1) (d:=0) (λm c=>OkL O key a b R m c) J (λ_ h=>h) (λc VV k3 p3 e3=>?_) k2 (.inr {Z,(p2.go Z)}) Z) ?_)
   .let⟨c1,out,i,j,g,ac,bc⟩:=c;let rfl:c1=A8:=e3;let(h1,h2,h3,h4):=p3.go rfl;unfold KL;split<;>show yK C k3 hk h2 h3 h1 h4
   rintro⟨c1,out,i,j,g,ac,bc⟩ VV ⟨k3,p3⟩;cases c1 with
   |some r=>show YQ {k3,r,rfl,by rcases p3 with ⟨r,e,q⟩|⟨e,_⟩<;>cases e;show q}
   |none=>show Yt (uW<|YQ ⟨k3,Z,.inr {Z,(p3.go Z)}⟩)
 .rintro⟨c1,out,i,j,g⟩ Ve ⟨k1,e1,p1⟩;let(_,h2,h3,h4):=p1.go e1;lia
 .rintro⟨c1,c2⟩ Ve ⟨k1,r,hc,hr⟩;cases hc;show YQ (h r Ve k1 hr)
def MH2(O:KeyOrd)(key:Keyed->O.α)(a b:B4 Keyed)(R out:A6 Keyed)(i j:A5):(Prop):=out++mg (λy x=>Oj O key x y) (b.m.Q j).reverse (a.m.Q i).reverse=R
def ix(h:0<i)(hi:i<=a.o):(a.m.Q i).reverse=a[i-1]::(a.m.Q (i-1)).reverse:=by let e:=YI List.reverse (Cd (la:=a.m)<|Nat.sub_le i 1);rwa[sG,Qz J (QU a (i-1) rF)]at e
section
variable{out:A6 Keyed}{i j:A5}
def MH2.fst(h:MH2 O key a b R out i j)(e:A5)(he:e<=j)(hi:0<i)(Wu:i<=a.o)(hx:∀n,e<=n->n<j->O.blt (ke key b n) (ke key a (i-1))=B0):MH2 O key a b R (out++((b.m.Q j).drop e).reverse) i e:=by
 unfold MH2 at *;rw[<-h,ix hi Wu,YT,Cd (la:=b.m) he,sG,HD λx US=>?_]
 .rw[<-Cd he]
 let(n,h1,h2,_,e):=Cb (Nl.S US)
 have:=hx n h1 h2
 rwa[Xg e,Qk D]at this
def MH2.snd(h:MH2 O key a b R out i j)(e:A5)(he:e<=i)(hj:0<j)(SM:j<=b.o)(hx:∀n,e<=n->n<i->O.blt (ke key b (j-1)) (ke key a n)=A9):MH2 O key a b R (out++((a.m.Q i).drop e).reverse) e j:=by
 unfold MH2 at *;rw[<-h,ix hj SM,YT,Cd (la:=a.m) he,sG,LP λx US=>?_]
 .rw[<-Cd he]
 let(n,h1,h2,_,e):=Cb (Nl.S US)
 have:=hx n h1 h2
 rwa[Qk D,Xg e]at this
def MH2.done(h:MH2 O key a b R out i j)(hz:i=0\/j=0):a.m.Q i++b.m.Q j++out.reverse=R.reverse:=by rw[<-h,Ko (hz.symm.imp (λh=>by rw[h];rfl) λh=>by rw[h];rfl)];simp
def MH2.last(h:MH2 O key a b R out i j)(hj:j=1)(hb:0<b.o)(hx:∀n,n<a.o->O.blt (ke key b 0) (ke key a n)=A9):b.m.Q j++a.m.Q i++out.reverse=R.reverse:=by
 subst hj;let e:(b.m.Q 1).reverse=[b[0]]:=ix (by ext) hb
 rw[<-h,e,Km λy hy=>?_]
 .ext
 let(n,_,hn,ey):=nq (Nl.S hy)
 have:=hx n hn
 rwa[Xg ey,Qk hb]at this
end
def OkH(O:KeyOrd)(key:Keyed->O.α)(a b:B4 Keyed)(R:A6 Keyed)(m:A5){γ:Type}(c:Option (B4 Keyed)×A5×A5×B4 Keyed×γ):(Prop):=
 (∃r,c.1=⇑r/\r.m=R.reverse)\/(c.1=A8/\MH2 O key a b R c.2.2.2.1.m c.2.1 c.2.2.1/\(1<=c.2.1/\c.2.1<=a.o)/\(2<=c.2.2.1/\c.2.2.1<=b.o)/\c.2.1+c.2.2.1+m<=a.o+b.o)
def OkH.up{γ:Type}{c:Option (B4 Keyed)×A5×A5×B4 Keyed×γ}(h:OkH O key a b R (m+d) c):OkH O key a b R m c:=h.imp id λzz=>by let(h1,h2,h3,h4,h5):=zz;exists h1,h2,h3,h4,J
def OkH.go{γ:Type}{c1:Option (B4 Keyed)}{out:B4 Keyed}{i j:A5}{z:γ}(h:OkH O key a b R m (c1,i,j,out,z))(e:c1=A8):MH2 O key a b R out.m i j/\(1<=i/\i<=a.o)/\(2<=j/\j<=b.o)/\i+j+m<=a.o+b.o:=by
 rcases h with ⟨r,q,_⟩|⟨_,h⟩
 .ext
 .show h
def yH{out:B4 Keyed}(h:MH2 O key a b R out.m i j)(hz:i=0\/j=0):(a.extract 0 i++b.extract 0 j++out.reverse).m=R.reverse:=by rw[Yr,Yr,Mo,Mo,sJ];show h.done hz
def LO(C:MC M A E s O key kd S a b){out:B4 Keyed}(h:MH2 O key a b R out.m i j)(hj:j=1)(hb:0<b.o):(b.extract 0 j++a.extract 0 i++out.reverse).m=R.reverse:=by rw[Yr,Yr,Mo,Mo,sJ];show h.last hj hb C.ha
section
variable{out:B4 Keyed}{i j m g ac bc:A5}{st XS:SortSt}
def Zg7(k:UN st XS)(hi:1<=i/\i<=a.o)(hj:2<=j/\j<=b.o)(h:MH2 O key a b R out.m i j)(hx:O.blt (ke key b (j-1)) (ke key a (i-1))=A9)(hm:i+j+m<=a.o+b.o):wpS M A E s (Iw a b out i j g ac bc) (Yd (OkH O key a b R m) st) XS:=by
 let e:=QU a (i-1) D;let h2:=h.snd (i-1) (by ext) J hj.2 λn h1 h2=>D
 rw[Qz (by ext) e,<-NM]at h2;show Yt (Zx e ?_);cases c:i-1=0
 .show ZJ (by simpa using c) (TM k<|.inl {_,Z,yH h2<|.inl c})
 .show WR (by simpa using c) ?_;let z:∀g ac bc,OkH O key a b R m ((none,i-1,j,out.push a[i-1],g,ac,bc):KJ):=λ_ _ _=>.inr ⟨Z,h2,D,hj,J⟩
  split
  .show TM k (z _ _ _)
  .show YQ {k,_,z _ _ _,.inr ⟨Z,Z⟩}
def Zh7(C:MC M A E s O key kd S a b)(k:UN st XS)(hk:kindOf XS=kd)(hi:1<=i/\i<=a.o)(hj:2<=j/\j<=b.o)(h:MH2 O key a b R out.m i j)(hx:O.blt (ke key b (j-1)) (ke key a (i-1))=B0)(hm:i+j+m<=a.o+b.o):wpS M A E s (OM a b out i j g ac bc) (Yd (OkH O key a b R m) st) XS:=by
 let e:=QU b (j-1) D;let h2:=h.fst (j-1) (by ext) J hi.2 λn h1 h2=>D
 rw[Qz J e,<-NM]at h2;show Yt (Zx e ?_);cases c:j-1=1
 .show ZJ (by ext) (TM k<|.inl {_,Z,LO C h2 c J})
 show WR (by simpa using c) ?_;let(p,ep,hp):=C.sa (i-1) J;show Yt (Zx ep<|Yt<|FE C.L hk hp (λn hn=>C.sb _ D) D (λn l Fj hl=>C.mb _ _ (by ext) D) λq hq lo Wx=>?_);simp only[QT]at lo Wx;let h3:=h2.fst q hq J hi.2 λn h1 h2=>by rw[Xg ep];show Wx n h1 h2
 rw[<-Cc,<-Yr]at h3;let lo:0<q->O.blt (ke key b<|q-1) (ke key a<|i-1)=A9:=λh=>by rw[Xg ep];show lo (q-1) J
 cases c0:j-1-q>0
 .show ZJ c0 ?_;cases c1:q=1
  .show ZJ (by simpa using c1) (TM k<|.inl {_,Z,LO C h3 c1 J})
  show WR (by simpa using c1) ?_;cases c2:q=0
  .show ZJ (by simpa using c2) (TM k<|.inl {_,Z,yH h3<|.inr c2})
  .show WR (by simpa using c2) (Zg7 k hi D h3 (lo J) J)
 .let rfl:q=j-1:=D;show WR c0 (Zg7 k hi D h2 (lo J) J)
def yG(C:MC M A E s O key kd S a b)(k:UN st XS)(hk:kindOf st=kd)(h:MH2 O key a b R out.m i j)(hi:1<=i/\i<=a.o)(hj:2<=j/\j<=b.o)(hm:i+j+m<=a.o+b.o):wpS M A E s (OL a b out i j g ac bc) (Yd (OkH O key a b R m) st) XS:=by
 show Yt (uW ?_);let(p,ep,hp):=C.sb (j-1) J;let VS:=k.1.l hk
 show Yt (Zx ep<|Yt<|FE C.L VS hp (λn hn=>C.sa _ J) J (λn l Fj hl=>C.ma _ _ (by ext) J) λq hq lo Wx=>?_);let h3:=h.snd q hq J hj.2 λn h1 h2=>by rw[Xg ep];simpa[beyB] using Wx n h1 h2
 rw[<-Cc,<-Yr]at h3;let lo:0<q->O.blt (ke key b<|j-1) (ke key a<|q-1)=B0:=λh=>by rw[Xg ep];simpa[beyB] using lo (q-1) J
 cases c0:i-q>0
 .show ZJ c0 ?_;cases c2:q=0
  .show ZJ (by simpa using c2) (TM k<|.inl {_,Z,yH h3<|.inl c2})
  .show WR (by simpa using c2) (Zh7 C k VS J hj h3 (lo J) J)
 .let rfl:q=i:=D;show WR c0 (Zh7 C k VS hi hj h (lo J) hm)
def yE(C:MC M A E s O key kd S a b)(k:UN st XS)(hk:kindOf st=kd)(h:MH2 O key a b R out.m i j)(hi:1<=i/\i<=a.o)(hj:2<=j/\j<=b.o)(hm:i+j+m<=a.o+b.o):wpS M A E s (hiB1 a b g (none,i,j,out,ac,bc)) (Yd (OkH O key a b R (m+1)) st) XS:=by
 let(p,ep,hp):=C.sa (i-1) J;let(q,eq,hq):=C.sb (j-1) D;show Yt (Zx eq<|Yt<|Zx ep<|Yt<|C.L _ _ _ _ hq hp (k.1.l hk) ?_);cases hc:O.blt (key q) (key p) with
 |true=>
  let h2:=h.snd (i-1) (by ext) J hj.2 λn h1 h2=>by rwa[show n=i-1 by grind,Xg eq,Xg ep]
  rw[Qz (by ext) ep,<-NM]at h2;show ZJ Z (Yt<|Zx ep ?_);cases c:i-1=0
  .show ZJ (by simpa using c) (TM k<|.inl {_,Z,yH h2<|.inl c})
  show WR (by simpa using c) ?_;let z:∀ac bc,OkH O key a b R (m+1) ((none,i-1,j,out.push p,ac,bc):Fy):=λ_ _=>.inr ⟨Z,h2,D,hj,J⟩
  split
  .show TM k (z _ _)
  .show YQ {k,_,z _ _,.inr ⟨Z,Z⟩}
 |false=>
  let h2:=h.fst (j-1) (by ext) J hi.2 λn h1 h2=>by rwa[show n=j-1 by grind,Xg eq,Xg ep]
  rw[Qz D eq,<-NM]at h2;show WR Eo (Yt<|Zx eq ?_);cases c:j-1=1
  .show ZJ (by ext) (TM k<|.inl {_,Z,LO C h2 c J})
  show WR (by simpa using c) ?_;let z:∀ac bc,OkH O key a b R (m+1) ((none,i,j-1,out.push q,ac,bc):Fy):=λ_ _=>.inr ⟨Z,h2,hi,J,D⟩
  split
  .show TM k (z _ _)
  .show YQ {k,_,z _ _,.inr ⟨Z,Z⟩}
end
def Za4(C:MC M A E s O key kd S a b){st:SortSt}{Q:B4 Keyed->SortSt->Prop}(hk:kindOf st=kd)(ha:0<a.o)(hb:0<b.o)(h:∀r XS,UN st XS->r.m=(mg (λy x=>Oj O key x y) b.m.reverse a.m.reverse).reverse->Q r XS):wpS M A E s (Cn a b) Q st:=by
 let k0:UN st st:=⟨Z,Z,Z,Z⟩;let e0:=QU a (a.o-1) J
 let m0:MH2 O key a b (mg (λy x=>Oj O key x y) b.m.reverse a.m.reverse) [] a.o b.o:=by unfold MH2;rw[YF Eo,YF Eo];rfl
 let m1:=m0.snd (a.o-1) (by ext) hb (XG _) λn h1 h2=>by rw[show n=a.o-1 by grind];show C.hb _ J
 rw[Qz J e0]at m1;rw[ng];show Yt (wpS_lift<|PZ ⟨Z,?_⟩);show Yt (Zx e0 ?_);cases c1:a.o-1=0
 .show ZJ (by simpa using c1) (YQ<|h _ _ k0<|yH m1<|.inl c1)
 show WR (by simpa using c1) ?_;cases c2:b.o=1
 .show ZJ (by simpa using c2) (YQ<|h _ _ k0<|LO C m1 c2 hb)
 show WR (by simpa using c2) (Yt<|Pc ?_);generalize mg (λy x=>Oj O key x y) b.m.reverse a.m.reverse=R at *;show Yt (Sj (QQ
  (I:=λx c XS=>UN st XS/\c.1=A8/\OkH O key a b R x c)
  (Q:=λc XS=>UN st XS/\∃r,c.1=⇑r/\r.m=R.reverse) ?_ ?_ {k0,Z,.inr {Z,m1,J,J,by ext}}) ?_)
 .rintro x ⟨c1,i,j,out,g⟩ Ve _ hx ⟨k1,e1,p1⟩;show Yt (Sj (tV (m:=x) (d:=1) (λm c=>OkH O key a b R m c) J (λ_ h=>h.up) (λc WU k2 p2 e2=>?_) k1 (.inr {Z,(p1.go e1)}) Z) ?_)
  .let⟨c1,i,j,out,ac,bc⟩:=c;let rfl:c1=A8:=e2;let(h1,h2,h3,h4):=p2.go rfl;show yE C k2 hk h1 h2 h3 h4
  rintro⟨c1,i,j,out,ac,bc⟩ WU ⟨k2,p2⟩;cases c1 with
  |some r=>show YQ {k2,r,rfl,by rcases p2 with ⟨r,e,q⟩|⟨e,_⟩<;>cases e;show q}
  |none=>
   show Yt (wpS_lift<|PZ ⟨Z,?_⟩);show Yt (Sj (tV (m:=x+1) (d:=0) (λm c=>OkH O key a b R m c) J (λ_ h=>h) (λc VV k3 p3 e3=>?_) k2 (.inr {Z,(p2.go Z)}) Z) ?_)
   .let⟨c1,i,j,out,g,ac,bc⟩:=c;let rfl:c1=A8:=e3;let(h1,h2,h3,h4):=p3.go rfl;unfold Ca;split<;>show yG C k3 hk h1 h2 h3 h4
   rintro⟨c1,i,j,out,g,ac,bc⟩ VV ⟨k3,p3⟩;cases c1 with
   |some r=>show YQ {k3,r,rfl,by rcases p3 with ⟨r,e,q⟩|⟨e,_⟩<;>cases e;show q}
   |none=>show Yt (uW<|YQ ⟨k3,Z,.inr {Z,(p3.go Z)}⟩)
 .rintro⟨c1,i,j,out,g⟩ Ve ⟨k1,e1,p1⟩;let(_,h2,h3,h4):=p1.go e1;lia
 .rintro⟨c1,c2⟩ Ve ⟨k1,r,hc,hr⟩;cases hc;show YQ (h r Ve k1 hr)
def yD{lo n:A5}{x:Keyed}{l:A6 Keyed}(h:x∈(l.drop lo).Q n):∃i,lo<=i/\i<lo+n/\l[i]?=⇑x:=by let(j,hj):=YG h;grind
def yC{lo hi i:A5}{arr:B4 Keyed}(h:lo+i<hi):ke key (arr.extract lo hi) i=ke key arr (lo+i):=KI (by rw[<-YN,<-YN,QO,GD,EN,Yk J,JU])
def Zi7(L:UO M A E s O key kd S){st:SortSt}{n m p1 p2:A5}{Q:B3->SortSt->Prop}(hk:kindOf st=kd)(hf:failedOf st=A8)(hS:∀x∈(arrOf st).m,S x)(hz:(arrOf st).o=n+m)(hn:1<=n)(hm:1<=m)(ep:pendingOf st=#[(0,n,p1),(n,m,p2)])(s1:VJ O key (arrOf st) 0 n)(s2:VJ O key (arrOf st) n m)
  (h:∀XS,(arrOf XS).m.Perm (arrOf st).m->(arrOf XS).m.H (RK O key)->failedOf XS=A8->(pendingOf XS).o=1->Q true XS):wpS M A E s (mergeAt' 0) Q st:=by
 let all:∀i,i<n+m->∃p,(arrOf st)[i]?=⇑p/\S p:=λi hi=>{(arrOf st)[i],QU ..,hS _ Eo};let gi:(pendingOf st)[0]?=⇑(0,n,p1):=by rw[ep];rfl
 let gi1:(pendingOf st)[0+1]?=⇑(n,m,p2):=by rw[ep];rfl
 let pe:(((pendingOf st).setIfInBounds 0 (0,n+m,p1)).eraseIdxIfInBounds (0+1)).o=1:=by rw[ep];simp[Array.eraseIdxIfInBounds]
 let s1:∀i j,i<=j->j<n->O.kle (ke key (arrOf st) i) (ke key (arrOf st) j):=λi j h1 h2=>by have:=s1 i j h1 h2;ext
 let s2:∀i j,n<=i->i<=j->j<n+m->O.kle (ke key (arrOf st) i) (ke key (arrOf st) j):=λi j h1 h2 h3=>by have:=s2 (i-n) (j-n) D D;rwa[show n+(i-n)=i by ext,show n+(j-n)=j by lia]at this
 let(p0,e0,h0):=all n J;let(pz,ez,hpz):=all (n-1) J;show Yt (Pc ?_);rw[gi,gi1];show Yt (BX ?_);show Yt (Zx e0 ?_);show Yt (FE L hk h0 (λj hj=>all _ J) J (λj l RU hl=>s1 _ _ J<|by ext) λk m6 lo hi=>?_);dsimp only;let lo:∀i,i<k->O.kle (ke key (arrOf st) i) (ke key (arrOf st) n):=λi h=>by have:=lo i h;simp[beyB]at this;rwa[Xg e0]
 let hi:∀i,k<=i->i<n->O.blt (ke key (arrOf st) n) (ke key (arrOf st) i)=A9:=λi h1 h2=>by rw[Xg e0];simpa[beyB] using hi i h1 h2
 let whole:(∀i j,i<n->n<=j->j<n+m->O.kle (ke key (arrOf st) i) (ke key (arrOf st) j))->(arrOf st).m.H (RK O key):=λw=>by
  have:=Iu (lo:=0) (n:=n+m) (O:=O) (key:=key) λi j h1 h2=>by
   rw[QT,QT];cases c:j<n
   .show s1 i j h1 c
   .cases c2:i<n
    .show w i j c2 (by ext) h2
    ext
  rwa[Pf,YF (by simp;ext)]at this
 cases c1:n-k=0
 .rw[Yk (by simpa using c1)];show YQ (h _ (we _) (whole λi j h1 h2 h3=>NL (lo i D)<|s2 n j (XG _) h2 h3) hf pe)
 rw[Yh (by simpa using c1)];rw[show 0+k+(n-k)-1=n-1 by ext,show 0+k=k by ext];show Yt (Zx ez ?_);show Yt (FE L hk hpz (λj hj=>all _<|by ext) J (λj l RU hl=>s2 _ _ (by ext) (by ext)<|by ext) λq hq PB Wu=>?_);dsimp only;let PB:∀i,i<q->O.blt (ke key (arrOf st)<|n+i) (ke key (arrOf st)<|n-1)=A9:=λi h=>by rw[Xg ez];simpa[beyB] using PB i h
 let Wu:∀j,n+q<=j->j<n+m->O.kle (ke key (arrOf st)<|n-1) (ke key (arrOf st) j):=λj h1 h2=>by
  have:=Wu (j-n) J J
  rw[show n+(j-n)=j by lia]at this;rwa[Xg ez]
 let f2:∀i j,i<n->n+q<=j->j<n+m->O.kle (ke key (arrOf st) i) (ke key (arrOf st) j):=λi j h1 h2 h3=>NL (s1 i (n-1) D J) (Wu j h2 h3);cases c2:q=0
 .rw[Yk (by simpa using c2)];show YQ (h _ (we _) (whole λi j h1 h2 h3=>f2 i j h1 (by ext) h3) hf pe)
 rw[Yh (by simpa using c2)];let zx:((arrOf st).extract k n).o=n-k:=by rw[sC];ext
 let zy:((arrOf st).extract n (n+q)).o=q:=by rw[sC];ext
 let kx:∀i,i<n-k->ke key ((arrOf st).extract k n) i=ke key (arrOf st) (k+i):=λi hi=>yC D;let ky:∀i,i<q->ke key ((arrOf st).extract n (n+q)) i=ke key (arrOf st) (n+i):=λi hi=>yC J
 let at_:∀lo hi i,i<((arrOf st).extract lo hi).o->∃p,((arrOf st).extract lo hi)[i]?=⇑p/\S p:=λlo hi i Wx=>⟨((arrOf st).extract lo hi)[i],QU ..,by
  let(p,e,hp):=all (lo+i) (by rw[sC]at Wx;lia)
  have:=QU ((arrOf st).extract lo hi) i Wx
  rw[<-YN,QO,GD,EN,Yk (by ext),JU,YN,e]at this;rwa[<-Yn this]⟩
 let C:MC M A E s O key kd S ((arrOf st).extract k n) ((arrOf st).extract n (n+q)):=by
  exists L,at_ _ _,at_ _ _,λi j h1 h2=>?_,λi j h1 h2=>?_,λi h1=>?_,λi h1=>?_
  .rw[kx i J,kx j (by ext)];show s1 _ _ J D
  .rw[ky i J,ky j (by ext)];show s2 _ _ J J J
  .rw[kx i J,ky 0 J];show hi _ J D
  .rw[kx _ J,ky i J,zx,show k+(n-k-1)=n-1 by lia];show PB i J
 let lx:((arrOf st).extract k n).m=((arrOf st).m.drop k).Q (n-k):=by rw[QO,GD]
 let ly:((arrOf st).extract n (n+q)).m=((arrOf st).m.drop n).Q q:=by rw[QO,GD,cF]
 let BO:∀lo c,(∀i j,lo<=i->i<=j->j<lo+c->O.kle (ke key (arrOf st) i) (ke key (arrOf st) j))->(((arrOf st).m.drop lo).Q c).H (RK O key):=λlo c w=>Iu λi j h1 h2=>w _ _ J J J;let px:=BO k (n-k) λi j h1 h2 h3=>s1 i j h2 (by ext)
 let py:=BO n q λi j h1 h2 h3=>s2 i j h1 h2 J;let kk:∀{i x},(arrOf st).m[i]?=⇑x->ke key (arrOf st) i=key x:=λe=>Xg (by simpa using e)
 let split:(arrOf st).m=(arrOf st).m.Q k++(((arrOf st).m.drop k).Q (n-k)++((arrOf st).m.drop n).Q q)++((arrOf st).m.drop (n+q)).Q (m-q):=by
  rw[YF (l:=(arrOf st).m.drop (n+q)) (by simp;grind)]
  conv=>lhs;rw[<-Gz k (arrOf st).m,<-Gz (n-k) ((arrOf st).m.drop k),wg,show k+(n-k)=n by ext,<-Gz q ((arrOf st).m.drop n),wg]
  simp only[YT]
 let fin:∀(r:B4 Keyed)(g:A5)(ar:B4 Keyed),ar=arrOf st->r.m.H (RK O key)->r.m.Perm (((arrOf st).extract k n).m++((arrOf st).extract n (n+q)).m)->
   Q true (SortSt.mk' (kindOf st) (List.foldl (λa x=>match x with|(p,j)=>a.setIfInBounds (k+j) p) ar r.m.zipIdx) (((pendingOf st).setIfInBounds 0 (0,n+m,p1)).eraseIdxIfInBounds (0+1)) g<|failedOf st):=by
  rintro r g ar ea gs gp;subst ea;rw[lx,ly]at gp;let rl:r.m.f=n-k+q:=by rw[gp.length_eq];simp;lia
  let e:=ay r.m k 0 (arrOf st) (by rw[rl];grind);rw[Nat.add_zero,rl,show k+(n-k+q)=n+q by grind,<-YF (l:=(arrOf st).m.drop (n+q)) (i:=m-q) (by simp;grind)]at e;show h _ ?_ ?_ hf pe
  .show(List.Perm.of_eq e).l ?_
   conv=>rhs;rw[split]
   show List.Perm.append_right _ (cg _ gp)
  .rw[e,Np,Np];exists {?_,gs,λx hx y hy=>?_},BO _ _ λi j h1 h2 h3=>s2 i j J h2 D,λx hx y hy=>?_
   .have:=BO 0 k λi j _ h2 h3=>s1 i j h2 J
    rwa[Pf]at this
   .let⟨i,_,hi,ei⟩:=yD (lo:=0) (by show hx);unfold RK;rw[<-kk ei];rcases Xn.S (gp.mem_iff.S hy) with hy|hy<;>let(j,h1,h2,ej):=yD hy<;>rw[<-kk ej]
    .show s1 _ _ J D
    .show NL (lo i J) (s2 n j (XG _) h1 J)
   .let⟨j,h1,h2,ej⟩:=yD hy;unfold RK;rw[<-kk ej];rcases Xn.S hx with hx|hx
    .let⟨i,_,hi,ei⟩:=yD (lo:=0) (by show hx);rw[<-kk ei];show f2 i j J h1 D
    .rcases Xn.S (gp.mem_iff.S hx) with hx|hx<;>let(i,h3,h4,ei):=yD hx<;>rw[<-kk ei]
     .show f2 i j D h1 D
     .show s2 i j h3 J J
 let out:∀(r:B4 Keyed) XS,UN (SortSt.mk' (kindOf st) (arrOf st) (((pendingOf st).setIfInBounds 0 (0,n+m,p1)).eraseIdxIfInBounds (0+1)) (gallopOf st)<|failedOf st) XS->r.m.H (RK O key)->r.m.Perm (((arrOf st).extract k n).m++((arrOf st).extract n (n+q)).m)->Q (failedOf XS).isNone (SortSt.mk' (kindOf XS) (List.foldl (λa x=>match x with|(p,j)=>a.setIfInBounds (k+j) p) (arrOf XS) r.m.zipIdx) (pendingOf XS) (gallopOf XS)<|failedOf XS):=λr XS ⟨e1,e2,e3,e4⟩ gs gp=>by
  have:=fin r (gallopOf XS) (arrOf XS) e2 gs gp
  rw[e1,e3,e4];rw[hf];rwa[hf]at this
 split
 .show Yt (ZT4 C hk J J λr XS ks hr=>?_);show Yt (Lm<|Yt<|Pc<|YQ<|out r XS ks ?_ ?_)
  .rw[hr,lx,ly];show ZZ5 (λ_ _ _ h k=>NL h k) (λ_ _ h=>Gp h) px py
  .rw[hr];show cC _
 .show Yt (Za4 C hk J J λr XS ks hr=>?_);show Yt (Lm<|Yt<|Pc<|YQ<|out r XS ks ?_ ?_)
  .rw[hr,lx,ly];show sM.mpr (ZZ5 (λ_ _ _ h k=>NL k h) (λ_ _ h=>Gp h) (sM.mpr py)<|sM.mpr px)
  .rw[hr];show(EK _).l ((cC _).l (((EK _).append (EK _)).l List.perm_append_comm))
def Rn(O:KeyOrd)(key:Keyed->O.α)(kd:SortKind)(a₀:B4 Keyed)(st:SortSt)(l:A6 (A5×A5×A5)):(Prop):=kindOf st=kd/\failedOf st=A8/\(arrOf st).Perm a₀/\pendingOf st=l.r/\∀p∈l,1<=p.2.1/\VJ O key (arrOf st) p.1 p.2.1
def iw{n:A5}(h2:2<=n)(h:n<128):n<=2*minRun' n n 0:=by
 obtain⟨k,rfl⟩:∃k,n=k+1+1:={n-2,D};rw[minRun'_succ];split
 .lia
 .rw[minRun'_succ,Yk J];lia
def iu(L:UO M A E s O key kd S){a₀:B4 Keyed}(hS:∀x∈a₀.m,S x)(h2:2<=a₀.o)(ir:a₀.o<128){st:SortSt}{Q:Unit->SortSt->Prop}(hk:kindOf st=kd)(hf:failedOf st=A8)(ha:arrOf st=a₀)(hp:pendingOf st=#[])
  (h:∀XS,(arrOf XS).Perm a₀->failedOf XS=A8->(arrOf XS).m.H (RK O key)->Q () XS):wpS M A E s sortRuns' Q st:=by
 let hh:=iw h2 ir;let sl:∀{XS:SortSt},(arrOf XS).Perm a₀->(arrOf XS).o=a₀.o/\∀x∈(arrOf XS).m,S x:=λh=>{h.size_eq,λx hx=>hS x<|(Lw.S h).mem_iff.S hx}
 rw[sortRuns'_eq];show Yt (Pc ?_);dsimp only;rw[ha];generalize minRun' a₀.o a₀.o 0=mr at *;show Yt (Sj (QQ
  (I:=λx c XS=>∃lo l,c=(none,lo)/\Rn O key kd a₀ XS l/\((x=0/\lo=0/\l=[])\/(x=1/\lo<a₀.o/\a₀.o<=2*lo/\∃p,l=[(0,lo,p)])\/(lo=a₀.o/\∃n p,(l=[(0,lo,p)]\/∃m q,n+m=lo/\l=[(0,n,p),(n,m,q)]))))
  (Q:=λc XS=>c.1=A8/\∃n p l,Rn O key kd a₀ XS l/\(l=[(0,a₀.o,p)]\/∃m q,n+m=a₀.o/\l=[(0,n,p),(n,m,q)])) ?_ ?_ {0,[],Z,{hk,hf,ha▸EF _,hp,λ_ h=>(by cases h)},.inl ⟨Z,Z,Z⟩}) ?_)
 .rintro x c XS _ hx ⟨lo,l,rfl,⟨r1,r2,r3,r4,r5⟩,hl⟩;cases c1:lo >= a₀.o
  .rw[Yk c1];obtain⟨rfl,n,p,hl⟩:lo=a₀.o/\∃n p,(l=[(0,lo,p)]\/∃m q,n+m=lo/\l=[(0,n,p),(n,m,q)]):=hl.resolve_left J |>.resolve_left J
   show YQ {Z,n,p,l,⟨r1,r2,r3,r4,r5⟩,hl}
  rw[Yh c1];let hl:(x=0/\lo=0/\l=[])\/(x=1/\a₀.o<=2*lo/\∃p,l=[(0,lo,p)]):=by
   rcases hl with h|⟨h1,h2,h3,h4⟩|h
   .show .inl h
   .show .inr ⟨h1,h3,h4⟩
   .ext
  let(z1,z2):=sl r3;show Yt (Zj7 L r1 z2 J J λm WU t2 Sv WO TZ=>?_);dsimp only;let w2:=t2.o
  let goal:∀n Fi,Stp lo XS Fi->1<=n->n<=a₀.o-lo->(mr<=n\/n=a₀.o-lo)->VJ O key (arrOf Fi) lo n->∀UI,kindOf UI=kindOf Fi->failedOf UI=failedOf Fi->arrOf UI=arrOf Fi->(l=[]->pendingOf UI=#[(lo,n,0)])->(∀p,l=[(0,lo,p)]->∃q,pendingOf UI=#[(0,lo,q),(lo,n,0)])->∃PB l2,((none,lo+n):Option Unit×A5)=(none,PB)/\Rn O key kd a₀ UI l2/\((x+1=0/\PB=0/\l2=[])\/(x+1=1/\PB<a₀.o/\a₀.o<=2*PB/\∃p,l2=[(0,PB,p)])\/(PB=a₀.o/\∃n p,(l2=[(0,PB,p)]\/∃m q,n+m=PB/\l2=[(0,n,p),(n,m,q)]))):=by
   intro n Fi t NC Rw hq hs UI e1 e2 e3 e4 e5;let pm:(arrOf UI).Perm a₀:=by rw[e3];show t.2.2.2.1.l r3
   rcases hl with ⟨rfl,rfl,rfl⟩|⟨rfl,q2,p,rfl⟩
   .exists _,[(0,n,0)],Z,{e1.l<|t.1.l r1,e2.l<|t.2.1.l r2,pm,e4 Z,λp hp=>?_},?_
    .rw[Xd.S hp];exists NC,e3▸hs
    .cases c:n=a₀.o
     .show .inr (.inr {by ext,0,0,.inl<|by rw[QT]})
     .show .inr (.inl {Z,J,J,0,by rw[QT]})
   .let⟨q,e5⟩:=e5 p rfl;exists _,[(0,lo,q),(lo,n,0)],Z,{e1.l<|t.1.l r1,e2.l<|t.2.1.l r2,pm,e5,λp' hp=>?_},.inr<|.inr {D,lo,q,.inr ⟨n,0,Z,Z⟩};rcases Yo.S hp with e|hp
    .rw[e];let(a1,a2):=r5 _ (Xd.mpr Z);exists a1,λi j h1 h2=>?_
     have:=a2 i j h1 h2
     rwa[e3,KI<|t.2.2.2.2 _ D,KI (t.2.2.2.2 _<|by ext)]
    ext
  cases c2:m<mr;rw[Yk c2];show Yt (wpS_lift<|PZ ⟨Z,?_⟩);show Yt (ZN6 L (t2.1.l r1) (t2.all z2) J D TZ λVV t3 hs3=>?_);rw[Yh Eo];let e:=(t2.l t3).2.2.1.l r4
  let G:=goal _ VV (t2.l t3) D D D hs3;rotate_left;rw[Yh c2];let e:=t2.2.2.1.l r4
  let G:=goal m WU t2 Sv WO (.inl J) TZ
  all_goals
   show Yt (Pc ?_);rcases hl with ⟨rfl,rfl,rfl⟩|⟨rfl,q2,p,rfl⟩
   .rw[e];show Yt (Lm<|YQ<|G _ Z Z Z (λ_=>?_) λp h=>(by cases h));rw[e];rfl
   .rw[e];show Yt (Sj (QQ (I:=λ_ c UI=>c=(none,())/\UI=_) (Q:=λc UI=>c=(none,())/\UI=_) ?_ (λ_ _ z=>z) ⟨Z,Z⟩) ?_)
    .rintro y c UI _ _ ⟨rfl,rfl⟩;show Yt (Pc ?_);rw[Yh (by rw[e];show Pk 1)];show YQ ⟨Z,Z⟩
    .rintro c UI ⟨rfl,rfl⟩;show Yt (Lm<|Yt<|Lm<|YQ<|G _ Z Z Z (λh=>by cases h) λp' h=>{_,by rw[e];rfl})
 .rintro c XS ⟨lo,l,rfl,hR,hl⟩;obtain⟨rfl,n,p,hl⟩:lo=a₀.o/\∃n p,(l=[(0,lo,p)]\/∃m q,n+m=lo/\l=[(0,n,p),(n,m,q)]):=hl.resolve_left J |>.resolve_left (by ext);exists rfl,n,p,l,hR,hl
 .rintro⟨c,lo⟩ XS ⟨rfl,n,p,l,hR,hl⟩;let dn:∀WU,Rn O key kd a₀ WU [(0,a₀.o,p)]->(pendingOf WU).o<=1/\(arrOf WU).Perm a₀/\failedOf WU=A8/\(arrOf WU).m.H (RK O key):=λWU ⟨r1,r2,r3,r4,r5⟩=>⟨by rw[r4];show XG _,r3,r2,by
   have:=Iu (r5 _<|Xd.mpr Z).2
   rwa[Pf,YF (by simp;rw[r3.size_eq];show XG _)]at this⟩
  show Yt (Sj (QQ
   (I:=λx c WU=>c=(none,())/\((x=0/\WU=XS)\/(pendingOf WU).o<=1/\(arrOf WU).Perm a₀/\failedOf WU=A8/\(arrOf WU).m.H (RK O key)))
   (Q:=λc WU=>c=(none,())/\(pendingOf WU).o<=1/\(arrOf WU).Perm a₀/\failedOf WU=A8/\(arrOf WU).m.H (RK O key)) ?_ (λc WU zz=>by let(e,hc):=zz;exists e,hc.resolve_left J) ⟨Z,.inl ⟨Z,Z⟩⟩) ?_)
  .rintro x c WU _ hx ⟨rfl,hc⟩;show Yt (Pc ?_);rcases hc with ⟨rfl,rfl⟩|d
   .rcases hl with rfl|⟨m,q,e,rfl⟩
    .let d:=dn WU hR;rw[Yk d.1];show YQ ⟨Z,d⟩
    .let⟨r1,r2,r3,r4,r5⟩:=hR;let(a1,a2):=r5 _ Ya;let(b1,b2):=r5 _ (Yf _ Ya);let(z1,z2):=sl r3;rw[Yh (by rw[r4];show Nat.not_succ_le_self 1),r4];show Yt (Zi7 L r1 r2 z2 (z1.l e.symm) a1 b1 r4 a2 b2 λVV h1 h2 h3 h4=>?_);show YQ {Z,.inr {by ext,(Lw.mpr h1).l r3,h3,h2}}
   .rw[Yk d.1];show YQ ⟨Z,d⟩
  .rintro c WU ⟨rfl,_,d2,d3,d4⟩;show YQ (h WU d2 d3 d4)
end
end PyProof.Rows
namespace L2
open PySem PySem.Spec PyProof.Rows
section
variable{prog:Program}{w:World}{A:Around}{E:Ae}{s:B6}
def ZS6{key:Keyed->O.α}{kd:SortKind}{P:Fin->B6->Prop}(ho:s.C.E a=⇑(seqObj "list" vs.r n))(hz:vs.f<128)
  (yB:∀h':Heap,sameBut a s.C h'->2<=vs.f->∀Q:SortKind->B6->Prop,Q kd {s with heap:=h'}->wpAny (model prog w) A (keyKind' vs.r) Q E {s with heap:=h'})
  (L:∀h':Heap,sameBut a s.C h'->UO (model prog w) A E {s with heap:=h'} O key kd λx=>x∈(pairsOf vs).m)
  (h:∀out:B4 Keyed,out.Perm (pairsOf vs)->out.m.H (RK O key)->P (.done<|.ret .none) {s with heap:=sortedHeap s.C a vs (out.G (·.2))}):wpAny (model prog w) A (Builtin.«list.sort» {[.ref a],[]}) P E s:=by
 let IE:sizeLine=16777216:=Rz;obtain⟨e1,zw⟩:∃e1,(s.C.update a<|Obj.mapSeq λ_=>(#[]:B4 B1)).E a=⇑(seqObj "list" #[] e1):={_,Ey ho λ_=>#[]};rw[list_sort_plain];show XU (Eu ho Z<|XU<|NK ho Z ?_ D<|Qd _);show XU (seqEpoch_at zw Z<|XU<|wpAny_newTuple ?_ J);show XU (Lp<|SE ?_);let sm:sameBut a s.C (((s.C.update a<|Obj.mapSeq λ_=>#[]).push (seqObj "tuple" vs.r 0)).push (seqObj "list" #[] 0)):=λb o hb e=>Xf _ (Xf _<|(YK _ _<|YZ hb).l e)
 let tT:(((s.C.update a<|Obj.mapSeq λ_=>#[]).push (seqObj "tuple" vs.r 0)).push (seqObj "list" #[] 0)).E a=⇑(seqObj "list" #[] e1):=Xf _ (Xf _ zw);let TZ:vs.r.o=vs.f:=Eo
 cases h2:vs.r.o<2
 .rw[Yk h2,Yk h2];show XU (Yg ?_);show XU (Yg ?_);show XU (seqEpoch_at tT Z<|XU<|NK tT Z ?_ (Qd _) D);simp only[sv,EM,if_false];show Yg (h (pairsOf vs) (EF _) ?_);show mZ (by rw[YU,pairsOf_size];omega)
 .rw[Yh h2,Yh h2];show XU (yB _ sm (by ext) _ ?_);show XU (SD (iu (L _ sm) (a₀:=pairsOf vs) (λx hx=>hx) (by rw[pairsOf_size];ext) (by rwa[pairsOf_size]) (st:=SortSt.mk' kd (vs.r.zip vs.r) #[] 7 none)
   (Q:=λ_ XS=>(arrOf XS).Perm (pairsOf vs)/\failedOf XS=A8/\(arrOf XS).m.H (RK O key)) Z Z Z Z λXS a1 a2 a3=>⟨a1,a2,a3⟩) ?_ λ_ _ e=>e)
  rintro⟨⟨⟩,XS⟩ s' ⟨rfl,hp,hf,hs⟩;let hsz:(arrOf XS).o=vs.f:=hp.size_eq.l (pairsOf_size _)
  show XU (seqEpoch_at tT Z<|XU<|NK tT Z ?_ (Qd _) D);rw[hf];simp only[sv,EM,if_false];show Yg (h _ hp hs)
def Zi4{key:Keyed->O.α}{kd:SortKind}{Q:Ae}(hl:s.C.IsList l vs.r)(hz:vs.f<128)
  (yB:∀A h',(∀b o,s.C.E b=⇑o->h'.E b=⇑o)->2<=vs.f->∀E Q,Q kd {s with heap:=h'}->wpAny (model prog w) A (keyKind' vs.r) Q E {s with heap:=h'})
  (L:∀A' h' E,A'.units<=A.units+4->(∀b o,s.C.E b=⇑o->h'.E b=⇑o)->UO (model prog w) A' E {s with heap:=h'} O key kd λx=>x∈(pairsOf vs).m)
  (h:∀out:B4 Keyed,out.Perm (pairsOf vs)->out.m.H (RK O key)->Q (.ref<|(~~~s)+1) {s with heap:=sortedAll s.C vs (out.G (·.2))}):wpAny (model prog w) A (call (.builtin "sorted") [.ref l]) Q E s:=by
 let hsz:((s.C.push<|seqObj "list" #[] 0).update (~~~s) (Obj.mapSeq (·++vs.r))).objs.o=(~~~s)+1:=by rw[rN,size_push']
 let NJ:(((s.C.push<|seqObj "list" #[] 0).update (~~~s) (Obj.mapSeq (·++vs.r))).push (seqObj "list" vs.r 0)).E ((~~~s)+1)=⇑(seqObj "list" vs.r 0):=hsz▸Yj _ rfl;let IE:sizeLine=16777216:=Rz
 show sN kind_sorted plain_sorted entry_sorted (args_sorted1 _) ?_;show XU (m:=checkCount "sorted" 1 1 _) (Yg<|XU<|collect_list hl ?_ J);show XU (Lp ?_ D);rw[hsz];let old:∀b o,s.C.E b=⇑o->(((s.C.push<|seqObj "list" #[] 0).update (~~~s) (Obj.mapSeq (·++vs.r))).push (seqObj "list" vs.r 0)).E b=⇑o:=λb o e=>
  Xf _ ((YK _ _<|YZ<|Yx<|Ym e).l (Xf _ e))
 let ne:∀b o,s.C.E b=⇑o->b≠(~~~s)+1:=λb o e=>Yx (Nat.lt_succ_of_lt<|Ym e);show XU (SE<|Nk vT ⟨_,NJ,Z⟩ vW (ZS6 (O:=O) (key:=key) (kd:=kd) NJ hz (λh' k h2 Q q=>yB _ h' (λb o e=>k b o (ne b o e)<|old b o e) h2 _ Q q) (λh' k=>L _ h' _ (by ext) λb o e=>k b o (ne b o e)<|old b o e) λout a1 a2=>{_,Z,?_})<|args_list_sort _);show Yg {_,Z,h out a1 a2}
end
end L2
namespace L2
open PySem PySem.Spec PyProof.Rows My
def Qj:(KeyOrd) where
 α:=A6 A5
 blt a b:=decide (a<b)
 irrefl a:=JQ (List.lt_irrefl a)
 trans a b c h k:=YA (List.lt_trans (Yz h)<|Yz k)
 negTrans a b c h:=by
  cases k:a<b
  .show .inl (YA k)
  .show .inr (YA<|List.lt_of_le_of_lt (List.not_lt.S k)<|Yz h)
 total a b h k:=List.le_antisymm (List.not_lt.S<|of_decide_eq_false k) (List.not_lt.S<|of_decide_eq_false h)
section
variable{X:Cx}
def iq(K:Ad):(V->A6 V->Hp->VK->Prop):=λx vs H Q=>∃(p:A7)(L:A6 C0)(z:C0)(j:A5),x=.ref p/\vs=[.str z]/\SqL K H p (TL L)/\L[j]?=⇑z/\(∀i,i<j->L[i]?≠⇑z)/\Q (.int j) H
def ZA9(K:Ad)(h:X.K=K:=by rfl):OV X "list.index" (iq K):=by
 subst h;intro pins s σ H x vs v us Q I rx rv h;let(p,L,z,j,rfl,rfl,hq,hj,Sx,q):=h;cases rx;let(u,rfl,t,rfl):=rv.one;let(XX,r,(o,n,e,hc,hd,IK),hz):=I.list hq;let hl:XX.f=L.f:=by rw[<-r.f,TL,Xr]
 let RU:j<L.f:=(Xx.S hj).1;let hsz:sizeLine=16777216:=Rz
 rw[TL,Xr]at hz;let(oc,od,om,Vf):=o;subst hc IK;let at_:∀(i:A5)(hi:i<XX.f),∃tk,XX[i]=.str (L[i]'(by lia)) tk:=λi hi=>by
  let(x,ex,rx):=r.at hi;rw[TL,Yi,Xv J]at ex;let ex:V.str (L[i]'(by lia))=x:=Yn ex
  subst ex;show rx
 show Pg rR {_,e,Z} rZ (JD _ _) (so p XX.r n od Vf (.str z t) (λy=>SS (.str z) y) j D J ?_ ?_) {e,λy hy=>?_,?_}
 .let⟨tk,e1⟩:=at_ j J;let e2:L[j]'(by lia)=z:=by rw[Xv RU]at hj;show Yn hj
  let e3:XX.r[j]'(by rw[YJ];lia)=.str z tk:=by rw[<-e2];simpa using e1
  rw[e3];show EI z
 .intro m hm oj;let KY:m<XX.f:=by rwa[YJ]at hm
  let(tk,e1):=at_ m KY;let e3:XX.r[m]'hm=.str (L[m]'(by lia)) tk:=by simpa using e1
  rw[e3];let XJ:=Sx m oj
  rw[Xv J]at XJ;show JB (λw=>XJ<|YI some w)
 .show FV (x:=.str z) ⟨t,Z⟩ Z r ?_ y (by simpa using hy);rw[TL,Na,Pm];intro _ _;rfl
 .exists .int j,H,I.tok _,{_,Z},q
def ZG2(K:Ad)(hk:X.K=K:=by rfl):Vv X (.builtin "sorted") (λxs H Q=>∃(p:A7)(L:A6 C0),xs=[.ref p]/\SqL K H p (TL L)/\L.f<128/\
  ∀M:A6 C0,M.Perm L->M.H (λa b=>Qj.blt b.cps.m a.cps.m=B0)->∀l,H l=A8->Q ↑l (upd H l<|.lst<|TL M)):=by
 subst hk;intro pins s σ H xs us Q I r h;let(p,L,rfl,hq,hz,q):=h;let(u,rfl,ru):=Ur r;let rfl:u=Value.ref p:=ru;let(XX,rv,pl,iU):=I.list hq;let Nv:L.f=XX.f:=by rw[<-rv.f,TL,Xr]
 letI f:B1->C0:=λv=>match v with | .str a _=>a|_=>Str.M ""
 let each:∀(i:A5)(v:B1),XX[i]?=⇑v->∃tk,v=.str (f v) tk/\L[i]?=⇑(f v):=λi v e=>by let(hi,hv):=Xx.S e;let(y,ey,ry):=rv.at hi;rw[hv]at ry;let(x,rfl,hx):=Aq ey;let(tk,rfl):=ry;exists tk,Z,hx
 let eL:L=XX.G f:=by
  apply Sl;intro i;rw[Yi];cases e:XX[i]? with
  |none=>
   have:=wL.S e
   show wF J
  |some v=>show(each i v e).choose_spec.2
 let txt:∀v∈XX,∃tk,v=.str (f v) tk:=λv hv=>by let(i,e):=YG hv;let(tk,h,_):=each i v e;exists tk,h
 let LN:∀x∈(pairsOf XX).m,x.1∈XX/\x.2=x.1:=λx hx=>by let hx:x∈(XX.r.zip XX.r).m:=hx;rw[Array.toList_zip]at hx;let(i,e):=YG hx;grind
 show Zi4 (O:=Qj) (key:=λk=>(f k.1).cps.m) (kd:=oneType') pl.isList J (λA' h' keep h2 E' Q' q'=>?_) (λA' h' E' _ keep x y st Q' hx hy hkd q'=>?_) λout a1 a2=>?_
 .show PySem.W.kas_kind (T:=.type "str") h2 (λv hv=>?_) Z Z q';let(tk,e):=txt v hv;rw[e];show PySem.W.Looks.now
 .let⟨t1,e1⟩:=txt x.1 (LN x hx).1;let(t2,e2):=txt y.1 (LN y hy).1;rw[lt'_eq];show Yt (Pc ?_);rw[hkd,e1,e2];show Yt (wpS_lift<|Gm<|PySem.W.kas_lt_str {Z,?_});show YQ q'
 .let⟨e,he⟩:=sortedAll_at s.C XX (out.G (·.2));let po:out.m.Perm (pairsOf XX).m:=Lw.S a1
  let zip2:((pairsOf XX).m.G (·.2))=XX:=by change((XX.r.zip XX.r).m.G (·.2))=XX;rw[Array.toList_zip];show List.map_snd_zip Eo
  let pv:(out.G (·.2)).m.Perm XX:=by rw[Array.toList_map];show zip2▸po.G (·.2)
  let vz:Vals (TL ((out.G (·.2)).m.G f)) (out.G (·.2)).m:=by
   let mo:∀v∈(out.G (·.2)).m,∃tk,v=.str (f v) tk:=λv hv=>txt v (pv.mem_iff.S hv);generalize (out.G (·.2)).m=os at mo
   induction os with
   |nil=>show .nil
   |cons v os ih=>show .cons (mo v Ya) (ih λy hy=>mo y<|Yf _ hy)
  exists .ref<|(~~~s)+1,_,I.laid (t':=s.toks) (o:=.lst (TL ((out.G (·.2)).m.G f))) (λb o g=>sortedAll_old g) (SX _) {?_,(out.G (·.2)).m,e,vz,?_},Z,q _ ?_ ?_ _<|I.hok.fresh<|SX _
  .have:=pv.length_eq
   rw[TL,Xr,Xr];let hsz:sizeLine=16777216:=Rz
   lia
  .show he
  .rw[eL];show pv.G f
  .rw[Array.toList_map,Nd,Nn];show JF (λ{x y} hx hy Ip=>?_) a2;let h1:=(LN x<|po.mem_iff.S hx).2
   let h2:=(LN y<|po.mem_iff.S hy).2;change Qj.blt (f y.2).cps.m (f x.2).cps.m=B0
   rwa[h1,h2]
end
end L2
namespace My
open PySem L2
def ip{K:Ad}{H:Hp}{n:A5}{x y:V}{a b:C0}(hx:x=.str a)(hy:y=.str b):EqD K H n x y (decide (a=b)):=by subst hx hy;show EqD.flat Z rfl
def ZP4(l:A6 C0):Bears (λx (z:C0)=>x=.str z) (TL l) l:={Zq l,λi z e=>{.str z,by unfold TL;ext,Z}}
def ik{K:Ad}{H:Hp}{p q:A7}{l m:A6 C0}(hp:SqL K H p (TL l))(hq:SqL K H q (TL m)):EqD K H 1 ↑p ↑q (decide (l=m)):=
 aV hp hq (ZP4 l) (ZP4 m) λ_ _ _ _=>ip
variable{k:A5}{n:A0}{ps:Aa}{T AP:Ac}{R:Ab}
def tieW(U:Ac):(A6 C0):=if U=[] then [Str.M "-"] else U.G nT
def ij(U:Ac):tieW U≠[]:=by
 unfold tieW;split
 .simp
 ext
def ZH5(U:Ac):Str.join UB (tieW U)=WL U:=by unfold tieW WL;split<;>rfl
def ig{U:Ac}:∀w∈tieW U,32∉w.cps.m:=λw hw=>by
 unfold tieW at hw;split at hw
 .rw[Xd.S hw];decide
 .let⟨z,_,rfl⟩:=YC.S hw;show uo Ep (.inl Ep)
def Zc8(nm:C0)(U:Ac):nm++UB++WL U=Str.join UB (nm::tieW U):=by rw[<-ZH5];let(a,l,e):=sW (ij U);rw[e];rfl
def ZG5{n:A0}{ps:Aa}{U:Ac}(g:ZA n ps)(h:Zn n ps U):U.f<=1000/\Told U:=by
 have:=g.2.1
 have:=g.2.2.1
 exists by have:=h.2.1;lia,λz hz=>?_
 have:=h.1.all z hz
 lia
inductive AskW where
 |row (z:A0)
 |place (U:Ac)
 |next (U:Ac)
def UA:(AskW->C0)
 | .row _=>Str.M "row"
 | .place _=>Str.M "place"
 | .next _=>Str.M "next"
def Va:(AskW->A6 C0)
 | .row z=>[nT z]
 | .place U=>tieW U
 | .next U=>tieW U
def UJ(q:AskW):(C0):=Str.join UB (UA q::Va q)
def HC:(Option Ac->C0)
 |none=>Str.M "none"
 |some U=>WL U
def RH(n:A0)(ps:Aa)(R:Ab):(Prop):=RowW n ps R/\R.Nodup/\∀T,T∈R↔Zn n ps T
def yA(R:Ab):(AskW->Prop)
 | .row z=>0<=z/\z<R⁻¹
 | .place U=>U∈R
 | .next U=>U∈R
def Oi(R:Ab):(AskW->C0->Prop)
 | .row z,s=>∃U,R[z.j]?=⇑U/\s=WL U
 | .place U,s=>∃j:A5,R[j]?=⇑U/\s=nT (j:A0)
 | .next U,s=>∃j:A5,R[j]?=⇑U/\s=HC R[j+1]?
def ie(q:AskW):Txt.split (UJ q) UB=UA q::Va q:=by
 unfold UJ;rw[Az];show ur Eo λp hp=>?_;rcases Yo.S hp with rfl|hp
 .cases q<;>(simp only[UA];decide)
 .cases q with
  |row z=>rw[Xd.S hp];show uo Ep (.inl Ep)
  |place U=>show ig p hp
  |next U=>show ig p hp
def Zx9(q:AskW):UA q∉VU:=by
 cases q
 .show show ¬Str.M "row"∈VU by decide +kernel
 .show show ¬Str.M "place"∈VU by decide +kernel
 .show show ¬Str.M "next"∈VU by decide +kernel
def ic(q:AskW)(h:UA q∈Wj):∃z,q=.row z:=by
 cases q with
 |row z=>exists z,Z
 |place U=>show absurd h (show ¬Str.M "place"∈Wj by decide +kernel)
 |next U=>show absurd h (show ¬Str.M "next"∈Wj by decide +kernel)
def g9(q:AskW)(h:UA q∈WI):∃U,q=.place U\/q=.next U:=by
 cases q with
 |row z=>show absurd h (show ¬Str.M "row"∈WI by decide +kernel)
 |place U=>exists U,.inl Z
 |next U=>exists U,.inr Z
def g8(q:AskW):(UA q∈Wj/\(Va q).f+1=2)\/(UA q∈WI/\1<(Va q).f+1):=by
 let pos:∀U,1<(tieW U).f+1:=λU=>JE (wA.mpr<|ij U);cases q with
 |row z=>show .inl {show Str.M "row"∈Wj by decide +kernel,Z}
 |place U=>show .inr {show Str.M "place"∈WI by decide +kernel,pos U}
 |next U=>show .inr {show Str.M "next"∈WI by decide +kernel,pos U}
section
variable{n:A0}{ps:Aa}{R:Ab}(g:ZA n ps)(hR:RH n ps R)
include g hR
def tS{U:Ac}(h:U∈R):U.f<=30/\Told U:=by
 let t:=(hR.2.2 U).S h
 have:=g.2.1
 have:=g.2.2.1
 exists by have:=t.2.1;lia,(ZG5 g t).2
def g7:R.f<10^20:=by let((_,_,_,_,_,_,_,_,h),_):=hR;show jY g h
def ZL7(q:AskW)(h:yA R q):(Va q).f<=31/\∀w∈UA q::Va q,w.f<=61:=by
 let two:∀{U:Ac},U∈R->(tieW U).f<=31/\∀w∈tieW U,w.f<=61:=λ{U} hq=>by
  let(a,b):=tS g hR hq;unfold tieW;split
  .exists Ep,λw hw=>by rw[Xd.S hw];decide
  .exists by rw[Xr];lia,RL b
 let hd:(UA q).f<=61:=by cases q<;>(simp only[UA];decide)
 let key:(Va q).f<=31/\∀w∈Va q,w.f<=61:=by
  cases q with
  |row z=>
   let h:0<=z/\z<R⁻¹:=h
   have:=g7 g hR
   exists Nat.succ_le_succ<|Qd _,λw hw=>by rw[Xd.S hw];show HX (k:=60) Ep J J
  |place U=>show two h
  |next U=>show two h
 exists key.1,λw hw=>?_;rcases Yo.S hw with rfl|hw
 .show hd
 .show key.2 w hw
def ZJ9(q:AskW)(h:yA R q):(UJ q).f<=90000:=by let(a,b):=ZL7 g hR q h;unfold UJ;rw[Az];show Yq (Aw (AP:=61) b) (by rw[YM];lia)
end
def yy:∀{U V:Ac},Told U->Told V->U.G nT=V.G nT->U=V
 |[],[],_,_,_=>rfl
 |[],b::V,_,_,h=>by cases h
 |a::U,[],_,_,h=>by cases h
 |a::U,b::V,hU,hV,h=>by
  let h1:=JM h;let a1:=hU a Ya
  let b1:=hV b Ya;rw[jJ (k:=60) Ep Ep a1.1 a1.2 b1.1 b1.2 h1.1,yy (λz hz=>hU z<|Yf _ hz) (λz hz=>hV z<|Yf _ hz) h1.2]
def Zg9{U V:Ac}(hU:Told U)(hV:Told V)(e:WL U=WL V):U=V:=by
 let sp:∀W,Txt.split (WL W) UB=tieW W:=λW=>by rw[<-ZH5,Az];show ur (ij W) ig
 let key:∀{W},Told W->tieW W=[Str.M "-"]->W=[]:=λ{W} hW e=>cL λc=>by
  rw[show tieW W=W.G nT from Yh c]at e;let(z,l,rfl):=sW c;let hz:=hW z Ya
  have:=Rh.mpr ⟨z,Z,hz.1,hz.2⟩
  rw[(JM e).1]at this;show absurd this B
 let e:tieW U=tieW V:=by rw[<-sp,<-sp,e]
 cases c:U=[]
 .subst c;show(key hV e.symm).symm
 cases d:V=[]
 .subst d;show absurd (key hU e) c
 rw[show tieW U=U.G nT from Yh c,show tieW V=V.G nT from Yh d]at e;show yy hU hV e
def top(i:A5):(B8):=PySem.Challenge.pw_spanrow_k87_the_row_at_a_desk.main.body.R i (.Pass ⟨0,0,0,0⟩)
abbrev sZ8:B8:=FU (top 24) 0
abbrev sZt:B8:=FU (top 67) 0
abbrev sZY:B8:=FU (top 106) 0
abbrev sZZ:B8:=FU (top 106) 1
abbrev sZ01:B8:=FU (top 106) 2
abbrev sZ11:B8:=FU (top 106) 11
abbrev sZd1:B8:=top 119
set_option genInjectivity false in
structure Adr where
 (aZ0 aZ1 aZ2 aZ3 aZ4 aZ5 aZ6 aZ7 aZ8 aZ9 aZa aZb aZc aZd aZe aZf aZg aZh aZi aZj aZk aZl aZm aZn aZo aZp aZq aZr aZs aZt aZu aZv aZw aZx aZy aZz aZA aZB aZC aZD aZE aZF aZG aZH aZI aZJ aZK aZL aZM aZN aZO aZP aZQ aZR aZS aZT aZU aZV aZW aZX aZY aZZ aZ01 aZ11 aZ21 aZ31 aZ41 aZ51 aZ61 aZ71 aZ81 aZ91 aZa1 aZb1 aZc1 aZd1 A_Web A_Part A_Desk:A7)
 (dZ0 dZ1 dZ2 dZ3 dZ4 dZ5 dZ6 dZ7 dZ8 dZ9 dZa dZb dZc dZd dZe dZf dZg dZh dZi dZj dZk dZl dZm dZn dZo dZp dZq dZr dZs dZt dZu dZv dZw dZx dZy dZz dZA dZB dZC dZD dZE dZF dZG dZH dZI dZJ dZK dZL dZM dZN dZO dZP dZQ dZR dZS dZT dZU dZV dZW dZX dZY dZZ dZ01 dZ11 dZ21 dZ31 dZ41 dZ51 dZ61 dZ71 dZ81 dZ91 dZa1 dZb1 dZc1 dZd1:B9)
def Txt(K:Ad)(mg:Af)(t:Adr):(Prop):=(((((((DfA K mg "refuse_not_square" (top 13) t.aZ0 t.dZ0 ["table"]/\DfA K mg "row_taken_off" (top 14) t.aZ1 t.dZ1 ["row","pivot","last"])/\(DfA K mg "first_with_some" (top 15) t.aZ2 t.dZ2 ["rows"]/\DfA K mg "determinant" (top 16) t.aZ3 t.dZ3 ["table"]))/\((DfA K mg "row_without" (top 17) t.aZ4 t.dZ4 ["row","number"]/\DfA K mg "table_without" (top 18) t.aZ5 t.dZ5 ["table","number"])/\(DfA K mg "is_tie" (top 26) t.aZ6 t.dZ6 ["web","number"]/\DfA K mg "refuse_bad_web" (top 25) t.aZ7 t.dZ7 ["places","ties"])))/\(((Fun K "__init__" "Web.__init__" sZ8 t.aZ8 t.dZ8/\Binds K t.dZ8 ["self","places","ties"] [])/\(DfA K mg "ties_beside" (top 29) t.aZ9 t.dZ9 ["web","ties"]/\DfA K mg "ties_without" (top 30) t.aZa t.dZa ["ties","left_out"]))/\((DfA K mg "is_set" (top 31) t.aZb t.dZb ["web","ties"]/\DfA K mg "made_set" (top 32) t.aZc t.dZc ["web","ties"])/\(DfA K mg "merged_marks" (top 33) t.aZd t.dZd ["web","marks","ties"]/\DfA K mg "piece_marks" (top 34) t.aZe t.dZe ["web","ties"]))))/\((((DfA K mg "pieces_of" (top 35) t.aZf t.dZf ["web","ties"]/\DfA K mg "is_joined" (top 36) t.aZg t.dZg ["web","ties"])/\(DfA K mg "weighted_table" (top 39) t.aZh t.dZh ["web","weights"]/\DfA K mg "pull_table" (top 40) t.aZi t.dZi ["web"]))/\((DfA K mg "tree_count" (top 41) t.aZj t.dZj ["web"]/\DfA K mg "part_count" (top 42) t.aZk t.dZk ["web","inside","outside"])/\(DfA K mg "is_tree" (top 44) t.aZl t.dZl ["web","ties"]/\DfA K mg "refuse_no_tree" (top 45) t.aZm t.dZm ["web","tree"])))/\(((DfA K mg "grown_tree" (top 46) t.aZn t.dZn ["web","inside","order"]/\DfA K mg "tree_cut" (top 48) t.aZo t.dZo ["web","tree","tie"])/\(DfA K mg "ring_of" (top 49) t.aZp t.dZp ["web","tree","tie"]/\DfA K mg "least_in" (top 51) t.aZq t.dZq ["web","inside","outside"]))/\((DfA K mg "end_pieces" (top 65) t.aZr t.dZr ["web","marks","tie"]/\DfA K mg "open_ties" (top 66) t.aZs t.dZs ["web","marks","gone"])/\(Fun K "__init__" "Part.__init__" sZt t.aZt t.dZt/\Binds K t.dZt ["self","web","kept","shut","lead"] [])))))/\(((((DfA K mg "whole_part" (top 68) t.aZu t.dZu ["web"]/\DfA K mg "half_without" (top 69) t.aZv t.dZv ["part"])/\(DfA K mg "half_with" (top 70) t.aZw t.dZw ["part"]/\DfA K mg "part_size" (top 71) t.aZx t.dZx ["part"]))/\((DfA K mg "trees_with_tie" (top 72) t.aZy t.dZy ["part","into"]/\DfA K mg "undivided_row" (top 73) t.aZz t.dZz ["part"])/\(DfA K mg "trees_between" (top 74) t.aZA t.dZA ["part","size","start","stop"]/\DfA K mg "number_in" (top 75) t.aZB t.dZB ["part","size","tree"])))/\(((DfA K mg "refuse_below_nought" (top 55) t.aZC t.dZC ["number"]/\DfA K mg "row_from" (top 76) t.aZD t.dZD ["web","number","most"])/\(DfA K mg "row_at" (top 77) t.aZE t.dZE ["web","number"]/\DfA K mg "row_number" (top 78) t.aZF t.dZF ["web","tree"]))/\((DfA K mg "row_next" (top 79) t.aZG t.dZG ["web","tree"]/\DfA K mg "is_number" (top 85) t.aZH t.dZH ["word"])/\(DfA K mg "read_number" (top 86) t.aZI t.dZI ["word"]/\DfA K mg "read_line" (top 87) t.aZJ t.dZJ ["line","name","many"]))))/\((((DfA K mg "read_web" (top 88) t.aZK t.dZK ["text"]/\DfA K mg "numbers_text" (top 89) t.aZL t.dZL ["numbers"])/\(DfA K mg "ties_text" (top 91) t.aZM t.dZM ["ties"]/\DfA K mg "tree_at" (top 52) t.aZN t.dZN ["web","number"]))/\((DfA K mg "number_of" (top 54) t.aZO t.dZO ["web","tree"]/\DfA K mg "share_of" (top 81) t.aZP t.dZP ["web","ties"])/\(DfA K mg "fraction_text" (top 92) t.aZQ t.dZQ ["pair"]/\DfA K mg "answer_alone" (top 98) t.aZR t.dZR ["web","lengths","name"])))/\(((DfA K mg "rank_text" (top 99) t.aZS t.dZS ["web","lengths","most"]/\DfA K mg "answer_of_number" (top 100) t.aZT t.dZT ["web","lengths","name","number"])/\(DfA K mg "next_text" (top 101) t.aZU t.dZU ["web","tree"]/\DfA K mg "answer_of_ties" (top 102) t.aZV t.dZV ["web","name","ties"]))/\((DfA K mg "read_ties" (top 103) t.aZW t.dZW ["words"]/\DfA K mg "answer_to" (top 104) t.aZX t.dZX ["web","lengths","line"])/\Fun K "__init__" "Desk.__init__" sZY t.aZY t.dZY)))))/\((((((Binds K t.dZY ["self","text"] []/\Fun K "web_now" "Desk.web_now" sZZ t.aZZ t.dZZ)/\(Binds K t.dZZ ["self"] []/\Fun K "lengths_now" "Desk.lengths_now" sZ01 t.aZ01 t.dZ01))/\((Binds K t.dZ01 ["self"] []/\Fun K "asked" "Desk.asked" sZ11 t.aZ11 t.dZ11)/\(Binds K t.dZ11 ["self","line"] []/\DfA K mg "_law_cell" (top 108) t.aZ21 t.dZ21 ["script","k"])))/\(((DfA K mg "_law_mixed" (top 109) t.aZ31 t.dZ31 ["cell","k"]/\DfA K mg "_law_draws" (top 110) t.aZ41 t.dZ41 ["script","start","count","way"])/\(DfA K mg "_law_ties" (top 111) t.aZ51 t.dZ51 ["draws","places","hang"]/\DfA K mg "_law_web" (top 112) t.aZ61 t.dZ61 ["script","most","count"]))/\((DfA K mg "_law_marks" (top 113) t.aZ71 t.dZ71 ["places","ties","some"]/\DfA K mg "_law_all" (top 114) t.aZ81 t.dZ81 ["places","ties"])/\(DfA K mg "_law_lengths" (top 115) t.aZ91 t.dZ91 ["script","count"]/\DfA K mg "_law_text" (top 116) t.aZa1 t.dZa1 ["places","ties","lengths"]))))/\((((DfA K mg "_law_tree_text" (top 117) t.aZb1 t.dZb1 ["tree"]/\DfA K mg "_law_apart" (top 118) t.aZc1 t.dZc1 ["one","other"])/\(DfA K mg "law" sZd1 t.aZd1 t.dZd1 ["script"]/\mg "Web"=⇑(.ref t.A_Web)))/\((Cls K t.A_Web/\Mk K t.A_Web t.aZ8)/\(NoAttr K t.A_Web "places"/\NoAttr K t.A_Web "ties")))/\(((mg "Part"=⇑(.ref t.A_Part)/\Cls K t.A_Part)/\(Mk K t.A_Part t.aZt/\NoAttr K t.A_Part "web"))/\((NoAttr K t.A_Part "kept"/\NoAttr K t.A_Part "shut")/\(NoAttr K t.A_Part "lead"/\NoAttr K t.A_Part "least")))))/\(((((NoAttr K t.A_Part "incoming"/\NoAttr K t.A_Part "further")/\(mg "Desk"=⇑(.ref t.A_Desk)/\Cls K t.A_Desk))/\((Mk K t.A_Desk t.aZY/\NoAttr K t.A_Desk "stages")/\(Meth K t.A_Desk "web_now" t.aZZ/\Meth K t.A_Desk "lengths_now" t.aZ01)))/\(((Meth K t.A_Desk "asked" t.aZ11/\(∃a,mg "ALONE"=some ↑a/\TupC K a [L2.V.str "count",L2.V.str "cheapest"]))/\((∃a,mg "OF_A_NUMBER"=some ↑a/\TupC K a [L2.V.str "tree",L2.V.str "row",L2.V.str "rank"])/\(∃a,mg "OF_TIES"=some ↑a/\TupC K a [L2.V.str "number",L2.V.str "place",L2.V.str "next",L2.V.str "share"])))/\(((∃tk,mg "MOST_PLACES"=⇑(.int 14 tk))/\(∃tk,mg "MOST_TIES"=⇑(.int 30 tk)))/\((∃tk,mg "FIGURES"=⇑(.str "0123456789" tk))/\(∃tk,mg "MOST_FIGURES"=⇑(.int 60 tk))))))/\((((mg "any"=A8/\mg "enumerate"=A8)/\(mg "int"=A8/\mg "len"=A8))/\((mg "list"=A8/\mg "max"=A8)/\(mg "min"=A8/\mg "range"=A8)))/\(((mg "reversed"=A8/\mg "set"=A8)/\(mg "sorted"=A8/\mg "str"=A8))/\((mg "sum"=A8/\mg "tuple"=A8)/\mg "zip"=A8))))))
section
variable(T:Txt K mg t)
def Txt.qZ0:=T.1.1.1.1.1.1.1
def Txt.qZ1:=T.1.1.1.1.1.1.2
def Txt.qZ2:=T.1.1.1.1.1.2.1
def Txt.qZ3:=T.1.1.1.1.1.2.2
def Txt.qZ4:=T.1.1.1.1.2.1.1
def Txt.qZ5:=T.1.1.1.1.2.1.2
def Txt.qZ6:=T.1.1.1.1.2.2.1
def Txt.qZ7:=T.1.1.1.1.2.2.2
def Txt.fZ8:=T.1.1.1.2.1.1.1
def Txt.bZ8:=T.1.1.1.2.1.1.2
def Txt.qZ9:=T.1.1.1.2.1.2.1
def Txt.qZa:=T.1.1.1.2.1.2.2
def Txt.qZb:=T.1.1.1.2.2.1.1
def Txt.qZc:=T.1.1.1.2.2.1.2
def Txt.qZd:=T.1.1.1.2.2.2.1
def Txt.qZe:=T.1.1.1.2.2.2.2
def Txt.qZf:=T.1.1.2.1.1.1.1
def Txt.qZg:=T.1.1.2.1.1.1.2
def Txt.qZh:=T.1.1.2.1.1.2.1
def Txt.qZi:=T.1.1.2.1.1.2.2
def Txt.qZj:=T.1.1.2.1.2.1.1
def Txt.qZk:=T.1.1.2.1.2.1.2
def Txt.qZl:=T.1.1.2.1.2.2.1
def Txt.qZm:=T.1.1.2.1.2.2.2
def Txt.qZn:=T.1.1.2.2.1.1.1
def Txt.qZo:=T.1.1.2.2.1.1.2
def Txt.qZp:=T.1.1.2.2.1.2.1
def Txt.qZq:=T.1.1.2.2.1.2.2
def Txt.qZr:=T.1.1.2.2.2.1.1
def Txt.qZs:=T.1.1.2.2.2.1.2
def Txt.fZt:=T.1.1.2.2.2.2.1
def Txt.bZt:=T.1.1.2.2.2.2.2
def Txt.qZu:=T.1.2.1.1.1.1.1
def Txt.qZv:=T.1.2.1.1.1.1.2
def Txt.qZw:=T.1.2.1.1.1.2.1
def Txt.qZx:=T.1.2.1.1.1.2.2
def Txt.qZy:=T.1.2.1.1.2.1.1
def Txt.qZz:=T.1.2.1.1.2.1.2
def Txt.qZA:=T.1.2.1.1.2.2.1
def Txt.qZB:=T.1.2.1.1.2.2.2
def Txt.qZC:=T.1.2.1.2.1.1.1
def Txt.qZD:=T.1.2.1.2.1.1.2
def Txt.qZE:=T.1.2.1.2.1.2.1
def Txt.qZF:=T.1.2.1.2.1.2.2
def Txt.qZG:=T.1.2.1.2.2.1.1
def Txt.qZH:=T.1.2.1.2.2.1.2
def Txt.qZI:=T.1.2.1.2.2.2.1
def Txt.qZJ:=T.1.2.1.2.2.2.2
def Txt.qZK:=T.1.2.2.1.1.1.1
def Txt.qZL:=T.1.2.2.1.1.1.2
def Txt.qZM:=T.1.2.2.1.1.2.1
def Txt.qZN:=T.1.2.2.1.1.2.2
def Txt.qZO:=T.1.2.2.1.2.1.1
def Txt.qZP:=T.1.2.2.1.2.1.2
def Txt.qZQ:=T.1.2.2.1.2.2.1
def Txt.qZR:=T.1.2.2.1.2.2.2
def Txt.qZS:=T.1.2.2.2.1.1.1
def Txt.qZT:=T.1.2.2.2.1.1.2
def Txt.qZU:=T.1.2.2.2.1.2.1
def Txt.qZV:=T.1.2.2.2.1.2.2
def Txt.qZW:=T.1.2.2.2.2.1.1
def Txt.qZX:=T.1.2.2.2.2.1.2
def Txt.fZY:=T.1.2.2.2.2.2
def Txt.bZY:=T.2.1.1.1.1.1.1
def Txt.fZZ:=T.2.1.1.1.1.1.2
def Txt.bZZ:=T.2.1.1.1.1.2.1
def Txt.fZ01:=T.2.1.1.1.1.2.2
def Txt.bZ01:=T.2.1.1.1.2.1.1
def Txt.fZ11:=T.2.1.1.1.2.1.2
def Txt.bZ11:=T.2.1.1.1.2.2.1
def Txt.qZ21:=T.2.1.1.1.2.2.2
def Txt.qZ31:=T.2.1.1.2.1.1.1
def Txt.qZ41:=T.2.1.1.2.1.1.2
def Txt.qZ51:=T.2.1.1.2.1.2.1
def Txt.qZ61:=T.2.1.1.2.1.2.2
def Txt.qZ71:=T.2.1.1.2.2.1.1
def Txt.qZ81:=T.2.1.1.2.2.1.2
def Txt.qZ91:=T.2.1.1.2.2.2.1
def Txt.qZa1:=T.2.1.1.2.2.2.2
def Txt.qZb1:=T.2.1.2.1.1.1.1
def Txt.qZc1:=T.2.1.2.1.1.1.2
def Txt.qZd1:=T.2.1.2.1.1.2.1
def Txt.c_Web:=T.2.1.2.1.1.2.2
def Txt.cl_Web:=T.2.1.2.1.2.1.1
def Txt.k_Web:=T.2.1.2.1.2.1.2
def Txt.n_Web_places:=T.2.1.2.1.2.2.1
def Txt.n_Web_ties:=T.2.1.2.1.2.2.2
def Txt.c_Part:=T.2.1.2.2.1.1.1
def Txt.cl_Part:=T.2.1.2.2.1.1.2
def Txt.k_Part:=T.2.1.2.2.1.2.1
def Txt.n_Part_web:=T.2.1.2.2.1.2.2
def Txt.n_Part_kept:=T.2.1.2.2.2.1.1
def Txt.n_Part_shut:=T.2.1.2.2.2.1.2
def Txt.n_Part_lead:=T.2.1.2.2.2.2.1
def Txt.n_Part_least:=T.2.1.2.2.2.2.2
def Txt.n_Part_incoming:=T.2.2.1.1.1.1.1
def Txt.n_Part_further:=T.2.2.1.1.1.1.2
def Txt.c_Desk:=T.2.2.1.1.1.2.1
def Txt.cl_Desk:=T.2.2.1.1.1.2.2
def Txt.k_Desk:=T.2.2.1.1.2.1.1
def Txt.n_Desk_stages:=T.2.2.1.1.2.1.2
def Txt.me_Desk_web_now:=T.2.2.1.1.2.2.1
def Txt.me_Desk_lengths_now:=T.2.2.1.1.2.2.2
def Txt.me_Desk_asked:=T.2.2.1.2.1.1.1
def Txt.g_ALONE:=T.2.2.1.2.1.1.2
def Txt.g_OF_A_NUMBER:=T.2.2.1.2.1.2.1
def Txt.g_OF_TIES:=T.2.2.1.2.1.2.2
def Txt.g_MOST_PLACES:=T.2.2.1.2.2.1.1
def Txt.g_MOST_TIES:=T.2.2.1.2.2.1.2
def Txt.g_FIGURES:=T.2.2.1.2.2.2.1
def Txt.g_MOST_FIGURES:=T.2.2.1.2.2.2.2
def Txt.n_any:=T.2.2.2.1.1.1.1
def Txt.n_enumerate:=T.2.2.2.1.1.1.2
def Txt.n_int:=T.2.2.2.1.1.2.1
def Txt.n_len:=T.2.2.2.1.1.2.2
def Txt.n_list:=T.2.2.2.1.2.1.1
def Txt.n_max:=T.2.2.2.1.2.1.2
def Txt.n_min:=T.2.2.2.1.2.2.1
def Txt.n_range:=T.2.2.2.1.2.2.2
def Txt.n_reversed:=T.2.2.2.2.1.1.1
def Txt.n_set:=T.2.2.2.2.1.1.2
def Txt.n_sorted:=T.2.2.2.2.1.2.1
def Txt.n_str:=T.2.2.2.2.1.2.2
def Txt.n_sum:=T.2.2.2.2.2.1.1
def Txt.n_tuple:=T.2.2.2.2.2.1.2
def Txt.n_zip:=T.2.2.2.2.2.2
end
end My
namespace My
open PySem L2 PyProof.Rows
set_option maxHeartbeats 4000000
def g6(st:B8):(Pos):=match (Rt st).R 9 (.Pass ⟨0,0,0,0⟩) with
 | .Assign _ (.Call _ _ [k] _) _=>(match k.value with
  | .Lambda _ _ _ p=>p
  |_=>⟨0,0,0,0⟩)
 |_=>⟨0,0,0,0⟩
def gZ:(C0):=Str.M "Part.__init__"++Str.M ".<locals>."++Str.M "<lambda>"
abbrev Xw(H:Hp)(Pt:A7):Prop:=TabH H Pt (g6 sZt) gZ
inductive spZd1(K:Ad)(Pt:A7):_
 |mk (a:A7) (ns:Ac) (_:vs=[.ref a]) (_:SqL K H a (IL ns)) (_:ns.f<=63) (_:Xw H Pt) (_:∀H',Q (.bl true) H')
structure Hk where
 (P:Program)(w:World)(K:Ad)(mg:Af)(base:Heap)(t:Adr)(Pt:A7)
def Hk.is(c:Hk):(Prop):=∀(T:Txt c.K c.mg c.t)(hB:Wr c.K c.mg c.base c.t.dZt c.Pt),Xs c.P c.w c.base XA T.qZd1 50 (spZd1 c.K c.Pt)
def Kl:∃c:Hk,c.is->∀d:Hk,d.is:=(Classical.em (∀d:Hk,d.is)).elim (λh=>{{default,W.aWorld 0,[],λ_=>none,default,by constructor<;>show default,default},λ_=>h}) λh=>by let(c,h):=Classical.not_forall.S h;exists c,λk=>absurd k h
def hk:=Kl.choose
def P:=hk.P
def w:=hk.w
def K:=hk.K
def mg:=hk.mg
def base:=hk.base
def t:=hk.t
def Pt:=hk.Pt
inductive spZ0(K:Ad):_
 |mk (a kd xs L:_) (_:vs=[.ref a]) (_:SqK kd K H a xs) (_:Bears (Bs K H) xs L) (_:((∀l∈L,l.f=L.f)->Q .non H)) (_:(¬(∀l∈L,l.f=L.f)->False))
def gY(T:Txt K mg t):Xs P w base XA T.qZ0 1 (spZ0 K):=by
 show T.qZ0.okI ["table","row"] B ⋯
 .let⟨a,kd,xs,L,rfl,hS,hB,q,qe⟩:=h;show⟨_,(XM (Uu YR Z (Uk K<|pv 0) (Zb 1)
   (XM (XD (Zg Sz (Zf (Zi K) rC T.n_len Boot.«len»<|XZ (pv 1) XY) (Zf (Zi K) rC T.n_len Boot.«len»<|XZ (pv 0) XY)<|Zp _)
   (XM Vn)
   Zm)))),?_⟩
  let HA:=hB.1;exists _,Z,a,Z,CT (K:=K) (k:=kd) (a:=a) (xs:=xs) (λi σ H2=>∃v1,σ=[some ↑a,v1]/\H2=H/\∀l∈L.Q i,l.f=L.f) {none,Z,Z,λl h=>(by cases h)} (λi σ H2 _ zz=>by let(_,_,e,_):=zz;show e▸hS) ?_ ?_
  .rintro i v σ H2 hi ⟨v1,rfl,rfl,TB⟩;let(l,hl,r,k,rfl,hr):=hB.at hi;show nm ?_;exists _,Z,r,_,Z,hr.or,_,Z,a,xs,Z,hS.or,Z,_,Z,?_;rw[Xc,ZO];show WC (λe=>?_) (λe=>?_)
   .exists _,Z,Z,λm hm=>?_;grind
   .show qe λh=>e (by rw[h l (Xo hl),HA])
  grind
inductive spZ1(K:Ad):_
 |mk (r p x y last l q:_) (_:vs=[.ref r,.ref p,.int last]) (_:SqL K H r (IL<|x::l)) (_:SqL K H p (IL<|y::q)) (_:l.f=q.f) (_:l.f<=1000) (_:last≠0) (_:last.natAbs<2^9000) (_:(∀z∈x::l,z.natAbs<2^9000)) (_:(∀z∈y::q,z.natAbs<2^9000)) (_:∀c H',Same H H'->H c=A8->H' c=⇑(.lst<|IL<|OD y q last<|x::l)->Q ↑c H')
def gX(T:Txt K mg t):Xs P w base XA T.qZ1 1 (spZ1 K):=by
 show T.qZ1.okI ["row","pivot","last"] B ⋯
 .let⟨r,p,x,y,last,l,q',rfl,hR,hP,hlq,hl,l0,l1,hx,hy,q⟩:=h;exists _,(XM<|Zj<|Vd Z (sc0:=Za<|top 14) (N0:=["row","pivot","last"]) (N':=["own","other","pivot","row","last"]) (o:=2) (fr:=[1,0,2]) ⟨Z,B,B,B,Z,B⟩ (BE K Z T.n_zip<|XZ (ZR (ZT K) (pv 0) (Wh XQ) Rv)<|XZ (ZR (ZT K) (pv 1) (Wh XQ) Rv) XY) (Dj<|NH Ep<|NH Ep Dk) (λ_ _ _ _=>(Uj (n:=2) K Z<|ZC (Zb 0)<|ZC (Zb 1) Uv)) (λ_ _ _ _=>ZK) λ_ _ _ _=>(Zt lW (Zt TH (Zt lX (Zz (Zc K) (pv 2) XQ λ_ _=>rfl)<|pv 0)<|Zt lX (Zz (Zc K) (pv 3) XQ λ_ _=>rfl)<|pv 1)<|pv 4)),?_;exists _,Z,_,Z,r,_,Z,hR,λp1 VD=>?_;rw[ZN8];let s1:=XO (o:=.lst<|IL l) VD
  exists _,Z,_,Z,p,_,Z,s1.seq hP,λp2 Wn=>?_;rw[ZN8];let s2:=XO (o:=.lst<|IL q') Wn
  let Wq:=s1.l s2;let h1:=s2 _ _ (XT (H:=H) (a:=p1) (o:=.lst<|IL l))
  let h2:(upd (upd H p1<|.lst<|IL l) p2<|.lst<|IL q') p2=⇑(.lst<|IL q'):=XT;generalize upd (upd H p1<|.lst<|IL l) p2 (.lst<|IL q')=H2 at *;show⟨p1,p2,Z,{_,_,SqL.of h1,SqL.of h2},mx (K:=K) (a:=p1) (b:=p2) (xs:=IL l) (ys:=IL q') (λi zs H3=>Same H2 H3/\i<=l.f/\zs=IL ((OD y q' last<|x::l).Q i)) {Same.refl _,Qd _,Z} (by ext) (Zk<|by rw[Xc];lia)
   (λi zs H3 hi zz=>by let(e,Wu,ez):=zz;show{SqL.of<|e _ _ h1,SqL.of<|e _ _ h2,by rw[ez,Xc,Yw];lia}) ?_ ?_⟩
  .rintro i u v zs H3 pt RG hu hv ⟨s3,Vs,rfl⟩ S Xy;let(own,rfl,ho):=Um hu;let(II,rfl,ht):=Um hv;let Xp:=(Xx.S ho).1
   let s4:=XO (o:=.tup [.int own,.int II]) RG;exists pt,_,Z,SqT.of XT,Z,_,_,Z,_,_,Z,Z,?_;let Sq:=Wq.l (s3.l s4)
   let a1:=hy y Ya;let a2:=hx own (Yf _<|Xo ho)
   let a3:=hx x Ya;let a4:=hy II (Yf _<|Xo ht)
   exists _,Z,p,_,0,.int y,Z,Z,Sq.seq hP,Zu (n:=0) Z Z,_,Z,_,_,Z,Z,⟨a1,a2⟩,_,Z,r,_,0,.int x,Z,Z,Sq.seq hR,Zu (n:=0) Z Z,_,Z,_,_,Z,Z,⟨a3,a4⟩,_,_,Z,Z,_,Z,_,_,Z,Z,⟨l0,l1⟩,?_;show Xy _ _ {s3.l s4,Xp,?_};let e:(OD y q' last<|x::l)[i]?=⇑((y*own-x*II).fdiv last):=by change(List.zipWith _ l q')[i]?=_;rw[JW,ho,ht];rfl
   rw[YB,e];show(ZV _ _).symm
  .rintro zs H3 ⟨s3,_,rfl⟩ c hc;rw[Xc,YF (by rw[Bt (by ext)];ext)];show q c _ (Wq.l<|s3.l<|XO hc) ((Wq.l s3).free hc) XT
inductive spZ2(K:Ad):_
 |mk (a ys R:_) (_:vs=[.ref a]) (_:SqL K H a ys) (_:Bears (QD H) ys R) (_:(∀l∈R,0<l.f)) (_:(∀H':Hp,Same H H'->(∀i,i<R.f->fnL R i 0=0)->Q .non H')) (_:(∀t H',Same H H'->t<R.f->fnL R t 0≠0->Q (.int t) H'))
def gW(T:Txt K mg t):Xs P w base XA T.qZ2 1 (spZ2 K):=by
 show T.qZ2.okI ["rows","at","row"] B ⋯
 .let⟨a,ys,R,rfl,hS,hB,hp,q0,q1⟩:=h;show⟨_,(XN (Uu YR Z (FL K Z T.n_enumerate<|XZ (pv 0) XY) (Uj (n:=2) K Z<|ZC (Zb 1)<|ZC (Zb 2) Uv)
   (XM (XD (Zg Sz (Zz (Zc K) (pv 2) XQ λ_ _=>rfl) XQ<|Zp _)
   (XM<|Zj<|pv 1)
   Zm)))
   (XM<|Zj Sf)),?_⟩
  let Nv:=hB.1;exists _,Z,a,Z,{_,hS},bg (K:=K) (a:=a) (xs:=ys) (λi σ H2=>∃v1 v2,σ=[some ↑a,v1,v2]/\Same H H2/\∀j,j<i->fnL R j 0=0) {none,none,Z,Same.refl _,λj h=>absurd h<|VW _} (λi σ H2 _ zz=>by let(_,_,_,e,_):=zz;show e.seq hS) ?_ ?_
  .rintro i v σ H2 pt RG hi ⟨v1,v2,rfl,s2,hz⟩;let(l,hl,r,rfl,hr):=hB.at hi;let Fh:=hp l (Xo hl)
   obtain⟨x,l',rfl⟩:∃x l',l=x::l':=by
    cases l with
    |nil=>show absurd Fh (Pk 0)
    |cons x l'=>lia
   let e0:fnL R i 0=x:=Ny hl rfl;let s3:=s2.l (XO (o:=.tup [.int i,.ref r]) RG)
   exists pt,_,Z,SqT.of XT,Z,_,_,Z,_,_,Z,Z,?_;generalize upd H2 pt (.tup [.int i,.ref r])=H3 at *;exists _,Z,r,_,0,.int x,Z,Z,SqL.of<|s3 _ _ hr,Zu (n:=0) Z Z,Z,_,Z,?_;show WC (λe=>?_) (λe=>?_)
   .exists _,_,Z,s3,λj hj=>?_;grind
   .exists _,Z,q1 i H3 s3 D<|by ext
  .rintro σ H2 ⟨v1,v2,rfl,s2,hz⟩;show q0 H2 s2 λi hi=>hz i (by ext)
inductive spZ3(K:Ad):_
 |mk (a kd xs L:_) (_:vs=[.ref a]) (_:SqK kd K H a xs) (_:Bears (Bs K H) xs L) (_:L.f<=16) (_:(∀i j,i<L.f->j<L.f->(fnL L i j).natAbs<=2^400)) (_:((∀l∈L,l.f=L.f)->∀H':Hp,Same H H'->Q (.int<|det L.f<|fnL L) H')) (_:(¬(∀l∈L,l.f=L.f)->∀H':Hp,Same H H'->False))
def yx{s rest:TS}{rj:Ends}{σ:L2.St}{H:Hp}(P:L2.St->Hp->Prop)(h1:∀σ' H',P σ' H'->rest rj σ' H')(h2:∀K:L2.St->Hp->Prop,(∀σ' H',P σ' H'->K σ' H')->s {rj with nx:=K} σ H):MX s rest rj σ H:=h2 _ h1
def Oh:FnScope ["table","rows","sign","last","at","pivot"] ["table"] (Za (top 16)):=To B
def gV(T:Txt K mg t):Xs P w base XA T.qZ3 2 (spZ3 K):=by
 show T.qZ3.okI ["table","rows","sign","last","at","pivot"] B ⋯
 .let⟨a,kd,xs,L,rfl,hS,hB,yw,hA0,q,qe⟩:=h;show⟨_,(XN (Sd<|Xz (gY T) hr T.qZ0 Zv<|XZ (pv 0) XY)
   (XN (PL (i:=1) Z Oh.nd Z Z (sc0:=Za<|top 16) (N0:=["table","rows","sign","last","at","pivot"]) (N':=["row"]) (o:=1) (fr:=[]) ⟨Z,B,B,B,Z,B⟩ (Uk K<|pv 0) (Zs Ep) (λ_ _ _ _=>(Zb 0)) (λ_ _ _ _=>ZK) λ_ _ _ _=>(Zl (FN K) rC T.n_list Boot.«list»<|XZ (pv 0) XY))
   (XN (Zh 2 XQ)
   (XN (Sb (i:=3) Oh.nd Z (Or.inr Z) XQ)
   (XN (qP YR (Zg PV (Zf (Zi K) rC T.n_len Boot.«len»<|XZ (pv 1) XY) XQ<|Zp _)
   (XN (Zh 4<|Xz (gW T) hr T.qZ2 Zv<|XZ (pv 1) XY)
   (XN (XD (Zg vJ (pv 4) Sf<|Zp _)
   (XM<|Zj XQ)
   Zm)
   (XN (XD (Zg TY (Zt ZU (pv 4) XQ) XQ<|Zp _)
   (XM<|Zh 2<|Jt Jr<|pv 2)
   Zm)
   (XN (Sb (i:=5) Oh.nd Z (Or.inr Z)<|UQ K YL PySem.F.slot_list_pop PySem.F.type_list_pop pW (pv 1)<|XZ (pv 4) XY)
   (XN (PL (i:=1) Z Oh.nd Z Z (sc0:=Za<|top 16) (N0:=["table","rows","sign","last","at","pivot"]) (N':=["row","pivot","last"]) (o:=1) (fr:=[5,3]) ⟨Z,B,B,B,Z,B⟩ (ZD K<|pv 1) (Zs Ep) (λ_ _ _ _=>(Zb 0)) (λ_ _ _ _=>ZK) λ_ _ _ _=>(Xz (gX T) hr T.qZ1 Zv<|XZ (pv 0)<|XZ (pv 1)<|XZ (pv 2) XY))
   (XM<|Sb (i:=3) Oh.nd Z (Or.inr Z)<|Zz (Zc K) (pv 5) XQ λ_ _=>rfl)))))))
   (XM<|Zj<|Zt lX (pv 2)<|pv 3)))))),?_⟩
  let HA:=hB.1;exists _,Z,a,kd,xs,L,Z,hS,hB,λOJ=>?_,λh=>qe h H<|Same.refl H;let q:=q OJ
  obtain⟨n,hn⟩:∃n,n=L.f:={_,Z};rw[<-hn]at q OJ hA0 yw;exists _,Z,a,Z,CS (K:=K) (k:=kd) (a:=a) (xs:=xs) (λi zs H2=>Same H H2/\i<=xs.f/\Bears (QD H2) zs (L.Q i)) {Same.refl _,Qd _,{Z,λi l e=>by simp at e}} (Zk J) (λi zs H2 hi zz=>by let(e,Wu,ez):=zz;show{hS.Y e,by rw[ez.1,Yw];ext}) ?_ ?_
  .rintro i v zs H2 hi ⟨s2,Vs,hZ⟩ S Xy;let(l,hl,r,k,rfl,hr):=hB.at hi;let Xp:=(Xx.S hi).1
   show nm ?_;exists _,Z,r,_,Z,(hr.Y s2).or,λc hc=>Xy _ _ {s2.l<|XO hc,Xp,?_};rw[YB,hl];show(hZ.imp λ_ _ zz=>by let(r',e,h):=zz;exists r',e,XO hc _ _ h).snoc ⟨c,Z,XT⟩
  rintro zs H2 ⟨s2,_,hZ⟩ rA Pz;rw[HA,Yv]at hZ;let s3:=s2.l (XO (o:=.lst zs) Pz)
  exists λm σ H4=>∃A k rA ys R sgn last v4 v5,σ=[some ↑a,some<|.ref rA,some<|.int sgn,some<|.int last,v4,v5]/\Same H H4/\H rA=A8/\H4 rA=⇑(.lst ys)/\Bears (LiV rA H4) ys R/\R.f=m/\(∀l∈R,l.f=m)/\k+m=n/\Rk A k m (fnL R) last/\det n (fnL L)=sgn*det n A/\(∀i j,i<n->j<n->(A i j).natAbs<=2^400)/\(m=0->last=det n A)/\(sgn=1\/sgn=-1)/\last.natAbs<2^9000,{n,fnL L,0,rA,zs,L,1,1,none,none,Z,s3,s2.free Pz,XT,?_,hn.symm,OJ,by ext,md _ _,D,hA0,λe=>by rw[e];rfl,.inl Z,Nat.one_lt_two_pow Ep},?_
  .show hZ.imp λv l zz=>by let(r,e,h):=zz;exists r,e,XO Pz _ _ h,Ze h Pz
  rintro m σ H4 ⟨A,k,rA,ys,R,sgn,last,v4,v5,rfl,s4,Vr,Kk,hR,yt,Og,tR,LM,yr,hAb,hfin,hsg,hlb⟩;let Nv:=hR.1
  exists _,Z,rA,ys,Z,.inl<|SqL.of Kk,_,_,Z,Z,_,Z,?_;show Xl (λHz=>?_) (λHz=>?_)
  .obtain⟨M,rfl⟩:∃M,m=M+1:={m-1,J};exists _,λσ' H' h=>{M,Gv M,h},?_;let gU:∀l∈R,∀z∈l,z.natAbs<2^9000:=λl hl z hz=>by
    let(i,hi):=YG hl;let(j,hj):=YG hz;let h1:=(Xx.S hi).1
    let h2:=(Xx.S hj).1
    have:=lU LM tR yw hAb (i:=i) (j:=j) (by ext) (by ext)
    rwa[Ny hi hj]at this
   exists _,Z,rA,ys,R,Z,SqL.of Kk,hR.imp λ_ _ h=>h.list,λl hl=>by ext,λH5 s5 h0=>?_,λt H5 s5 ht XJ=>?_
   .exists _,Z,Z,_,Z,?_;show IX (c:=V.non=V.non) Z ?_;let z:det n A=0:=by
     have:=l6 LM λi hi=>h0 i (by ext)
     rwa[show k+M+1=n by omega]at this
    rw[yr,z,RA]at q;show q H5 (s4.l s5)
   exists _,Z,Z,_,Z,?_;show RV (c:=V.int (t:A0)=V.non) (λz=>nomatch z) ?_;show nm ?_;dsimp only;show yx (λσ H6=>∃LL:A0,H6=H5/\σ=[some ↑a,some<|.ref rA,some<|.int LL,some<|.int last,some<|.int t,v5]/\LL=sgn*sg t) ?_ ?_
   .rintro σ H6 ⟨LL,rfl,rfl,gT⟩;let Fg:=s5 _ _ Kk
    let hR6:=hR.imp λ_ _ h=>h.Y s5;obtain⟨l,hl⟩:∃l,R[t]?=⇑l:={_,Xv ht};let VX:=Og l (Xo hl)
    obtain⟨y,p',rfl⟩:∃y p',l=y::p':=by
     cases l with
     |nil=>cases VX
     |cons y p'=>lia
    let UG:p'.f=M:=by rw[YM]at VX;ext
    let(v,hv,pA,rfl,gS,hpn):=hR6.2 t _ hl;let hy0:y≠0:=by rwa[Ny hl Z]at XJ
    show{_,Z,.inl {Z,_,SqL.of Fg},_,Z,rA,ys,(t:A0),t,.ref pA,Z,Z,Fg,by ext,J,by rw[nQ (by ext) J,VP],hv,?_};let yq:(upd H6 rA<|.lst<|ys.eraseIdx t) pA=⇑(.lst<|IL<|y::p'):=by rwa[Zd hpn]
    let s7:Same H (upd H6 rA<|.lst<|ys.eraseIdx t):=Zy Vr (s4.l s5);let hR7:Bears (LiV rA<|upd H6 rA<|.lst<|ys.eraseIdx t) (ys.eraseIdx t) (R.eraseIdx t):=(hR6.erase t).imp λ_ _ h=>h.mut
    let yp:(upd H6 rA<|.lst<|ys.eraseIdx t) rA=⇑(.lst<|ys.eraseIdx t):=XT;generalize upd H6 rA (.lst<|ys.eraseIdx t)=H7 at *;let eRl:(R.eraseIdx t).f=M:=by rw[sL,Yk ht];ext
    let Hy:∀l∈R.eraseIdx t,l.f=M+1:=λl h=>Og l (cJ h);let hy7:=hR7.1
    exists _,Z,rA,Z,{_,SqL.of yp},Wl (K:=K) (a:=rA) (xs:=ys.eraseIdx t) (λi zs H8=>Same H7 H8/\i<=(ys.eraseIdx t).f/\Bears (QD H8) zs (((R.eraseIdx t).Q i).G (OD y p' last))) {Same.refl _,Qd _,{Z,λi l e=>by simp at e}} (Zk J) (λi zs H8 hi zz=>by let(e,Wu,ez):=zz;show{SqL.of<|e _ _ yp,by rw[ez.1,Xr,Yw];ext}) ?_ ?_
    .rintro i v zs H8 hi ⟨s8,Vs,Of⟩ S Xy;let(l,KA,r,rfl,hr,_):=hR7.at hi;let Xp:=(Xx.S hi).1
     let Ru:=Hy l (Xo KA);obtain⟨x,l',rfl⟩:∃x l',l=x::l':=by
      cases l with
      |nil=>cases Ru
      |cons x l'=>lia
     let Pb:l'.f=M:=by rw[YM]at Ru;lia
     show nm ?_;exists _,Z,_,Z,_,Z,r,pA,x,y,last,l',p',Z,SqL.of<|s8 _ _ hr,SqL.of<|s8 _ _ yq,J,J,LM.1,hlb,gU _<|cJ<|Xo KA,gU _<|Xo hl,λc H9 s9 Py hc=>Xy _ _ {s8.l s9,Xp,?_};rw[YB,KA,YE];show(Of.imp λ_ _ zz=>by let(r',e,h):=zz;exists r',e,s9 _ _ h).snoc ⟨c,Z,hc⟩
    rintro zs H8 ⟨s8,_,Of⟩ cA gR;rw[hy7,Yv]at Of;let s9:=XO (o:=.lst zs) gR
    exists _,Z,pA,_,0,.int y,Z,Z,SqL.of<|s9 _ _<|s8 _ _ yq,Zu (n:=0) Z Z,?_;let uH:Rk (λi=>A<|rotN k t i) k (M+1) (fnL<|(y::p')::R.eraseIdx t) last:=by rw[lS hl];show Bz LM (by ext)
    let Ks:Rk (λi=>A<|rotN k t i) (k+1) M (fnL<|(R.eraseIdx t).G (OD y p' last)) y:=l8 uH hy0 λi j hi hj=>lR UG eRl Hy hi hj;let hdr:=mh (n:=n) (k:=k) (t:=t) (A:=A) J
    exists λi=>A<|rotN k t i,k+1,cA,zs,(R.eraseIdx t).G (OD y p' last),LL,y,_,_,Z,s7.l<|s8.l s9,(s7.l s8).free gR,XT,?_,by ext,λl h=>?_,J,Ks,?_,λi j hi hj=>hAb _ _ ?_ hj,λe0=>?_,?_,gU _ (Xo hl) y Ya
    .show Of.imp λv l zz=>by let(r,e,h):=zz;exists r,e,s9 _ _ h,Ze h gR
    .let⟨l0,h0,rfl⟩:=YC.S h;rw[Bt (by rw[Hy l0 h0,UG]),UG]
    .rw[hdr,yr,gT,RB,<-RB (sg t),lQ,Sm]
    .unfold rotN;split
     .omega
     .split
      .lia
      .lia
    .subst e0
     have:=By uH
     rwa[show k+1=n by omega]at this
    .let WE:sg t=1\/sg t=-1:=by
      unfold sg;split
      .show .inl rfl
      .show .inr rfl
     lia
   .intro Kn hK;exists _,Z,_,_,Z,Z,(by ext),Z,_,Z,?_;rw[ZO];show Xl (λh1=>?_) (λh1=>?_)
    .exists _,Z,_,Z,hK _ _ {-sgn,Z,Z,?_};let e:sg t=-1:=by unfold sg;rw[Yh J]
     ext
    .show hK _ _ {sgn,Z,Z,?_};let e:sg t=1:=by unfold sg;rw[Yk J]
     ext
  .let Qi:m=0:=by ext
   exists _,Z,_,Z,_,_,Z,Z,{?_,hlb},?_
   .rcases hsg with e|e<;>rw[e]<;>show Nat.one_lt_two_pow Ep
   grind
inductive spZ4(K:Ad):_
 |mk (a:A7) (l:Ac) (i:A5) (_:vs=[.ref a,.int i]) (_:SqL K H a (IL l)) (_:l.f<=1000) (_:∀r H',Same H H'->H r=A8->H' r=⇑(.lst<|IL<|cutz l i)->Q ↑r H')
def gQ(l:Ac)(z:A0):cutz (IL l) z=IL (cutz l z):=by
 unfold cutz
 ext
def gP(T:Txt K mg t):Xs P w base XA T.qZ4 1 (spZ4 K):=by
 show T.qZ4.okI ["row","number"] B ⋯
 .let⟨a,l,i,rfl,hA,hl,q⟩:=h;exists _,(XM<|Zj<|Zt Dw (Zl (FN K) rC T.n_list Boot.«list»<|XZ (ZR (ZT K) (pv 0) Rv<|Wh<|pv 1) XY)<|Zl (FN K) rC T.n_list Boot.«list»<|XZ (ZR (ZT K) (pv 0) (Wh<|Zt Ut (pv 1) XQ) Rv) XY),?_;exists _,Z,_,Z,(i:A0),Z,a,_,Z,hA,λp1 VD=>?_;let u1:=XO (o:=.lst<|Xi (IL l) none<|some (i:A0)) VD
  exists p1,_,Z,.inl<|SqL.of XT,λp2 Wn=>?_;let u2:=XO (o:=.lst<|Xi (IL l) none<|some (i:A0)) Wn
  exists _,Z,_,Z,_,_,Z,Z,_,Z,a,_,Z,(u1.l u2).seq hA,λp3 Tb=>?_;let u3:=XO (o:=.lst<|Xi (IL l) (some<|(i:A0)+1) none) Tb
  exists p3,_,Z,.inl<|SqL.of XT,λp4 Px=>?_;let u4:=XO (o:=.lst<|Xi (IL l) (some<|(i:A0)+1) none) Px
  let c1:=qj (IL l) none ⇑(i:A0);let c2:=qj (IL l) (some<|(i:A0)+1) none
  rw[Xc]at c1 c2;exists p2,p4,_,_,Z,Z,(u3.l u4) _ _ XT,XT,PK J,λp5 tQ=>?_;let u14:=u1.l (u2.l<|u3.l u4)
  show q p5 _ (u14.l<|XO tQ) (u14.free tQ) ?_;rw[XT,mU (by ext),gQ]
inductive spZ5(K:Ad):_
 |mk (a:A7) (ys:A6 V) (L:Ab) (i:A5) (_:vs=[.ref a,.int i]) (_:SqL K H a ys) (_:Bears (QD H) ys L) (_:L.f<=1000) (_:(∀l∈L,l.f<=1000)) (_:i<L.f) (_:∀r zs H',Same H H'->H' r=⇑(.lst zs)->Bears (QD H') zs ((cutz L i).G λl=>cutz l (i:A0))->Q ↑r H')
def Zr6{α:Type}{l:A6 α}{i j:A5}{x:α}(hx:l[j]?=⇑x):cutz (l.Q (j+1)) (i:A0)=cutz (l.Q j) (i:A0)++(if j=i then [] else [x]):=by
 let hj:=(Xx.S hx).1;let e:l.Q (j+1)=l.Q j++[x]:=by rw[YB,hx];rfl
 let hl:(l.Q j).f=j:=by rw[Yw];lia
 let short:∀m:A6 α,m.f<=i->cutz m (i:A0)=m:=λm hm=>by unfold cutz;rw[VP,YF hm,GA J,YO]
 cases c:j=i
 .subst c;rw[Yk Z,YO,short (l.Q j) (by ext)];unfold cutz
  ext
 .rw[Yh c];cases d:j<i
  .grind
  .unfold cutz;grind
def gO(T:Txt K mg t):Xs P w base XA T.qZ5 2 (spZ5 K):=by
 show T.qZ5.okI ["table","number"] B ⋯
 .let⟨a,ys,L,i,rfl,hA,hB,hL,gN,hi,q⟩:=h;exists _,(XM<|Zj<|Vd Z (sc0:=Za<|top 18) (N0:=["table","number"]) (N':=["at","row","number"]) (o:=2) (fr:=[1]) ⟨Z,B,B,B,Z,B⟩ (FL K Z T.n_enumerate<|XZ (pv 0) XY) (Dj<|NH Ep<|NH Ep Dk) (λ_ _ _ _=>(Uj (n:=2) K Z<|ZC (Zb 0)<|ZC (Zb 1) Uv)) (λ_ _ _ _=>(PN<|Zg Sz (pv 0) (pv 2)<|Zp _)) λ_ _ _ _=>(Xz (gP T) hr T.qZ4 Zv<|XZ (pv 1)<|XZ (pv 2) XY)),?_;let Nv:=hB.1
  show⟨_,Z,a,Z,{_,hA},Mt (K:=K) (a:=a) (xs:=ys) (λj zs H2=>Same H H2/\j<=ys.f/\Bears (QD H2) zs ((cutz (L.Q j) (i:A0)).G λl=>cutz l (i:A0))) {Same.refl _,Qd _,by rw[show(cutz (L.Q 0) (i:A0)).G (λl=>cutz l (i:A0))=[] by unfold cutz;simp];show{Z,λi l e=>by simp at e}} (Zk J) (λj zs H2 hj ⟨e,SM,ez⟩=>⟨e.seq hA,by
   rw[ez.1,Xr];show Yq (mT _ _) ?_
   ext⟩) ?_ ?_⟩
  .rintro j v zs H2 pt RG hj ⟨s2,RU,hZ⟩ S Xy;let(l,hl,r,rfl,hr):=hB.at hj;let VE:=(Xx.S hj).1
   let s3:=XO (o:=.tup [.int j,.ref r]) RG;exists pt,_,Z,SqT.of XT,Z,_,_,Z,_,_,Z,Z,?_;let hZ3:Bears (QD<|upd H2 pt<|.tup [.int j,.ref r]) zs ((cutz (L.Q j) (i:A0)).G λl=>cutz l (i:A0)):=hZ.imp λ_ _ zz=>by let(r',e,h):=zz;exists r',e,s3 _ _ h
   let Nu:=s2.l s3;exists _,Z,_,Z,Z,_,Z,?_;show WC (λe=>?_) (λe=>?_)
   .show Xy _ _ {Nu,VE,?_};rwa[Zr6 hl,Yk J,YO]
   .exists _,Z,_,Z,r,l,i,Z,SqL.of<|Nu _ _ hr,gN l<|Xo hl,λc H4 s4 _ hc=>Xy _ _ {Nu.l s4,VE,?_};rw[Zr6 hl,Yh J,YE];show(hZ3.imp λ_ _ zz=>by let(r',e,h):=zz;exists r',e,s4 _ _ h).snoc ⟨c,Z,hc⟩
  .rintro zs H2 ⟨s2,_,hZ⟩ p hp;rw[Nv,Yv]at hZ;show q p zs _ (s2.l<|XO hp) XT (hZ.imp λ_ _ zz=>by let(r',e,h):=zz;exists r',e,XO hp _ _ h)
inductive spZ6(C:A7):_
 |mk (w n ps k:_) (_:vs=[.ref w,.int k]) (_:WebAt C H w n ps) (_:Q (.bl<|decide<|0<=k/\k<ps⁻¹) H)
def yn(T:Txt K mg t):Xs P w base XA T.qZ6 1 (spZ6 t.A_Web):=by
 show T.qZ6.okI ["web","number"] B ⋯
 .let⟨w,n,ps,k,rfl,⟨dx,tl,xs,h1,h2,h3⟩,q⟩:=h;exists _,(XM<|Zj<|qE RY SV XQ (pv 1)<|Zf (Zi K) rC T.n_len Boot.«len»<|XZ (Zo K (pv 0) Z) XY),?_;exists _,Z,_,_,Z,Z,_,Z,?_;show Dn (λhc=>?_) (λhc=>?_)
  .exists _,Z,w,_,dx,_,_,Z,h1,T.cl_Web,T.n_Web_ties,Ul _ _,tl,xs,Z,.inl<|SqL.of h2,_,_,Z,Z,?_;change Q (.bl<|decide<|k<xs⁻¹) H
   rwa[h3.1,show decide (k<ps⁻¹)=decide (0<=k/\k<ps⁻¹) from by simp[hc]]
  ext
inductive spZ7(K:Ad):_
 |mk (n a kd xs ps:_) (_:vs=[.int n,.ref a]) (_:SqK kd K H a xs) (_:PairsV H xs ps) (_:ZA n ps) (_:Q .non H)
def gM(T:Txt K mg t):Xs P w base XA T.qZ7 1 (spZ7 K):=by
 show T.qZ7.okI ["places","ties","ends","end"] B ⋯
 .let⟨n,a,kd,xs,ps,rfl,hS,hp,⟨g1,g2,g3,g4⟩,q⟩:=h;show⟨_,(XN (XD (Lj<|Jp RY RY XQ (pv 0)<|Se (v:=V.int 14) Z T.g_MOST_PLACES.choose_spec {_,Z})
   (XM Vn)
   Zm)
   (XN (XD (Zg PV (Zf (Zi K) rC T.n_len Boot.«len»<|XZ (pv 1) XY) (Se (v:=V.int 30) Z T.g_MOST_TIES.choose_spec {_,Z})<|Zp _)
   (XM Vn)
   Zm)
   (XM (Uu YR Z (Uk K<|pv 1) (Zb 2)
   (XM (Uu YR Z (vw K<|pv 2) (Zb 3)
   (XM (XD (Lj<|Jp RY SV XQ (pv 3)<|pv 0)
   (XM Vn)
   Zm)))))))),?_⟩
  exists _,Z,_,_,Z,Z,_,Z,?_;show IX g1 ?_;exists _,_,Z,Z,_,Z,?_;show IW g2 ?_;exists _,Z,a,xs,Z,hS.or,_,_,Z,Z,_,Z,?_;show RV (by rw[hp.1];lia) ?_;exists _,Z,a,Z,CT (k:=kd) (K:=K) (xs:=xs) (λi σ H2=>∃v v2,σ=[⇑(.int n),some<|.ref a,v,v2]/\H2=H) ⟨none,none,Z,Z⟩ (λi σ H2 _ zz=>by let(_,_,_,e):=zz;show e▸hS) ?_ ?_
  .rintro i x σ H2 hi ⟨v,v2,rfl,rfl⟩;let(p,OP,tt,rfl,ht):=hp.at hi;let(e1,e2,e3,e4):=g4 p (Xo OP);exists _,Z,tt,Z,{_,SqT.of ht},DX (K:=K) (a:=tt) (xs:=[.int p.1,.int p.2]) (λj σ H3=>∃v v2,σ=[⇑(.int n),some<|.ref a,v,v2]/\H3=H2) {_,_,Z,Z} (λj σ H3 _ zz=>by let(_,_,_,e):=zz;show e▸SqT.of ht) ?_ ?_
   .rintro j y σ H3 hj ⟨v,v2,rfl,rfl⟩;let hy:∃z:A0,y=.int z/\0<=z/\z<n:=by
     match j,hj with
     |0,hj=>exists p.1,(Yn hj).symm,e1,e2
     |1,hj=>exists p.2,(Yn hj).symm,e3,e4
    let(z,rfl,z1,z2):=hy;exists _,Z,_,_,Z,Z,_,Z,?_;show IX z1 ?_;exists _,Z,_,_,Z,Z,_,Z,?_;show IW z2 ?_;exists _,_,Z,Z
   ext
  ext
inductive sp_Web_init(K:Ad)(C:A7):_
 |mk (w dx n a kd xs ps:_) (_:vs=[.ref w,.int n,.ref a]) (_:H w=⇑(.ins C dx [])) (_:(∀o,SqK kd K (upd H w o) a xs)) (_:PairsV H xs ps) (_:ZA n ps) (_:∀H':Hp,WebAt C H' w n ps->(∀b o,H b=⇑o->b≠w->H' b=⇑o)->Q .non H')
def gL:FnScope ["self","places","ties"] ["self","places","ties"] (Za sZ8):=To B
def ym(T:Txt K mg t):FnOk P w K mg base XA 2 t.aZ8 t.dZ8 ["self","places","ties"] (sp_Web_init K t.A_Web):=by
 show T.fZ8.ok gL (λvs H Q E h=>?_) (λXI A outer s H vs Q E hr h=>?_)
 .let⟨w,dx,n,a,kd,xs,ps,rfl,_⟩:=h;rfl
 .let⟨w,dx,n,a,kd,xs,ps,rfl,hw,hS,hp,g,q⟩:=h;let eH:upd H w (.ins t.A_Web dx [])=H:=by
   funext b
   cases hb:b=w
   .subst hb;rw[XT,hw]
   .rw[Zd hb]
  let FI:SqK kd K H a xs:=by let z:=hS (.ins t.A_Web dx []);rwa[eH]at z
  show⟨_,(XN (Sd<|Xz (gM T) hr T.qZ7 Zv<|XZ (pv 1)<|XZ (pv 2) XY)
   (XN (NI (pv 0) (pv 1) Z)
   (XM<|NI (pv 0) (Vd Z (sc0:=Za sZ8) (N0:=["self","places","ties"]) (N':=["ends"]) (o:=1) (fr:=[]) ⟨Z,B,B,B,Z,B⟩ (Uk K<|pv 2) (Zs Ep) (λ_ _ _ _=>(Zb 0)) (λ_ _ _ _=>ZK) λ_ _ _ _=>(TX<|XZ (Zz (ZH K) (pv 0) XQ λ_ _=>rfl)<|XZ (Zz (ZH K) (pv 0) XQ λ_ _=>rfl) XY)) Z))),?_⟩
  exists _,Z,_,Z,n,a,kd,xs,ps,Z,FI,hp,g,?_;exists _,Z,_,Z,w,_,dx,[],Z,hw,T.cl_Web,T.n_Web_places,(by ext),?_;let VD:PairsV (upd H w<|.ins t.A_Web dx<|XC "places" (.int n) []) xs ps:={hp.1,λi p e=>by let(v,e1,tt,e2,e3):=hp.2 i p e;show{v,e1,tt,e2,by rwa[Zd (Ux e3 hw (λz=>nomatch z))]}}
  let sx:xs.f<sizeLine:=Zk (by rw[hp.1];have:=g.2.2.1;lia);show⟨_,Z,a,Z,CS (k:=kd) (K:=K) (xs:=xs) (λi ys H2=>i<=xs.f/\ys.f=i/\Same (upd H w<|.ins t.A_Web dx<|XC "places" (.int n) []) H2/\PairsV H2 ys (ps.Q i)) {Qd _,Z,Same.refl _,PairsV.nil} sx
   (λi ys H2 _ zz=>by let(_,hl,s2,_):=zz;exists (hS _).Y s2,Nat.le_of_eq hl) ?_ ?_⟩
  .rintro i x ys H2 hi ⟨h1,hl,s2,hy⟩ S Xy;let(p,OP,tt,rfl,ht):=VD.at hi;let Hx:=s2 _ _ ht
   show QF ?_;exists _,Z,tt,_,0,.int p.1,Z,Z,SqT.of Hx,Z,_,Z,tt,_,1,.int p.2,Z,Z,SqT.of Hx,Z,(by change 2<=sizeLine;decide),λq hq=>?_;let Vs:i<xs.f:=(Xx.S hi).1
   show Xy _ _ {Vs,by ext,Zw s2 hq,?_};rw[YB,OP];show(hy.Y<|XO hq).snoc ⟨q,Z,XT⟩
  .rintro ys H2 ⟨_,hl,s2,hy⟩ tl gK;let gJ:=s2 w _ XT
   let nwt:w≠tl:=Ze gJ gK;exists _,Z,w,_,dx,_,Z,(by rwa[Zd nwt]),T.cl_Web,T.n_Web_ties,(by change 1<1000;decide),?_;show q _ {dx,tl,ys,XT,by rw[Zd (YZ nwt),XT],?_} λb ob e hb=>?_
   .let e1:ps.Q xs.f=ps:=YF (by rw[hp.1];ext);rw[e1]at hy;exists hy.1,λi p e=>?_;let(v,e2,tt,e3,e4):=hy.2 i p e;exists v,e2,tt,e3,by rwa[Zd (Ux e4 gJ (λz=>nomatch z)),Zd (Ze e4 gK)]
   .let e2:=s2 b ob (by rwa[Zd hb]);rwa[Zd hb,Zd (Ze e2 gK)]
inductive spZ9(K:Ad)(C:A7):_
 |mk (w a n ps kd T:_) (_:vs=[.ref w,.ref a]) (_:WebAt C H w n ps) (_:ps.f<=1000) (_:SqK kd K H a (IL T)) (_:∀rj,rj.H (·<·)->(∀z,z∈rj↔(0<=z/\z<ps⁻¹)/\z∉T)->∀r H',Same H H'->H' r=⇑(.tup<|IL rj)->Q ↑r H')
def gI(T:Txt K mg t):Xs P w base XA T.qZ9 1 (spZ9 K t.A_Web):=by
 show T.qZ9.okI ["web","ties"] B ⋯
 .let⟨w,a,n,ps,kd,T',rfl,hW,hl,hA,q⟩:=h;exists _,(XM<|Zj<|Zl (ZS K) rC T.n_tuple Boot.«tuple»<|XZ (Vd Z (sc0:=Za<|top 29) (N0:=["web","ties"]) (N':=["tie","ties"]) (o:=1) (fr:=[1]) ⟨Z,B,B,B,Z,B⟩ (ZM Z T.n_range<|XZ (Zf (Zi K) rC T.n_len Boot.«len»<|XZ (Zo K (pv 0) Z) XY) XY) (Zs Ep) (λ_ _ _ _=>(Zb 0)) (λ_ _ _ _=>(PN<|Zg (FO K) (pv 0) (pv 1) Z)) λ_ _ _ _=>(pv 0)) XY),?_;let(dx,tl,xs,h1,h2,h3):=hW;let Qy:=h3.1
  exists _,Z,w,_,dx,_,_,Z,h1,T.cl_Web,T.n_Web_ties,Ul _ _,tl,xs,Z,.inl<|SqL.of h2,_,Z,by ext,J,IS (lo:=0) (n:=(xs.f:A0).j) (λj ys H3=>H3=H/\∃rj:Ac,ys=IL rj/\rj.f<=j/\rj.H (·<·)/\∀z,z∈rj↔(0<=z/\z<(j:A0))/\z∉T') {Z,[],Z,XG _,.nil,λz=>{λh=>(by cases h),λh=>(by lia)}} (Zk J) (λj ys H3 _ zz=>by let(_,rj,e,hl,_):=zz;ext) ?_ ?_
  .rintro j ys H3 hj ⟨rfl,rj,rfl,hDl,hp,hm⟩ S Xy;let lt:∀z∈rj,z<(j:A0):=λz hz=>((hm z).S hz).1.2
   show nm ?_;exists _,Z,_,Z,a,_,Z,hA.or,Z,Mz _,_,Z,?_;rw[MA,Lo];show WC (λWo=>?_) (λWo=>?_)
   .grind
   .exists _,Z,Xy _ _ {Z,rj++[(j:A0)],?_,by ext,?_,λz=>?_}
    .rw[ZV]
    .show Np.mpr {hp,wK _ _,λa ha b hb=>by rw[Xd.S hb];show lt a ha}
    grind
  rintro ys H3 ⟨rfl,rj,rfl,hDl,hp,hm⟩ la gH;rw[show(((xs.f:A0).j:A5):A0)=ps⁻¹ by ext]at hm;exists la,_,Z,.inl {SqL.of XT,λtp gG=>?_};show q rj hp hm tp _ ((XO gH).l (XO gG)) XT
inductive spZa(K:Ad):_
 |mk (a kd ns z:_) (_:vs=[.ref a,.int z]) (_:SqK kd K H a (IL ns)) (_:ns.f<=1000) (_:∀r H',Same H H'->H r=A8->H' r=⇑(.tup<|IL<|wo ns z)->Q ↑r H')
def yk(T:Txt K mg t):Xs P w base XA T.qZa 1 (spZa K):=by
 show T.qZa.okI ["ties","left_out"] B ⋯
 .let⟨a,kd,ns,z,rfl,hS,hn,q⟩:=h;exists _,(XM<|Zj<|Zl (ZS K) rC T.n_tuple Boot.«tuple»<|XZ (Vd Z (sc0:=Za<|top 30) (N0:=["ties","left_out"]) (N':=["tie","left_out"]) (o:=1) (fr:=[1]) ⟨Z,B,B,B,Z,B⟩ (Uk K<|pv 0) (Zs Ep) (λ_ _ _ _=>(Zb 0)) (λ_ _ _ _=>(PN<|Zg Sz (pv 0) (pv 1)<|Zp _)) λ_ _ _ _=>(pv 0)) XY),?_;show⟨_,Z,a,Z,CS (k:=kd) (K:=K) (xs:=IL ns) (λi ys H2=>H2=H/\i<=ns.f/\ys=IL (wo (ns.Q i) z)) {Z,Qd _,Z} (Zk<|by rw[Xc];lia)
   (λi ys H2 hi zz=>by let(e,Wu,ey):=zz;show{e▸hS,by rw[ey,Xc];show Yq (KS _ _)<|by ext}) ?_ ?_⟩
  .rintro i x ys H2 hi ⟨rfl,Vs,rfl⟩ S Xy;let(y,rfl,hy):=Um hi;let Xp:i<ns.f:=(Xx.S hy).1
   show nm ?_;exists _,Z,_,Z,Z,_,Z,?_;rw[ZO];show WC (λhe=>?_) (λhe=>?_)
   .show Xy _ _ {Z,Xp,?_};rw[aK hy,Yh J,YO]
   .exists _,Z,Xy _ _ {Z,Xp,?_};rw[aK hy,Yk he,ZV]
  .rintro ys H2 ⟨rfl,_,rfl⟩ p hp;rw[Xc,Yv];exists p,_,Z,.inl {SqL.of XT,λr hr=>?_};show q r _ (Zw (XO hp) hr) ((XO hp).free hr) XT
inductive spZb(K:Ad)(C:A7):_
 |mk (w a n ps kd ns:_) (_:vs=[.ref w,.ref a]) (_:WebAt C H w n ps) (_:SqK kd K H a (IL ns)) (_:∀b:B3,(b=A9↔IsSet ps.f ns)->Q (.bl b) H)
def yj(T:Txt K mg t):Xs P w base XA T.qZb 2 (spZb K t.A_Web):=by
 show T.qZb.okI ["web","ties","last","tie"] B ⋯
 .let⟨w,a,n,ps,kd,ns,rfl,hW,hS,q⟩:=h;show⟨_,(XN (Zh 2<|Jt Jr XQ)
   (XN (Uu YR Z (Uk K<|pv 1) (Zb 3)
   (XN (XD (PW.pt<|QI (Zg RY (pv 3) (pv 2)<|Zp _)<|Ge<|Lj<|MY<|Xz (yn T) hr T.qZ6 Zv<|XZ (pv 0)<|XZ (pv 3) XY)
   (XM<|Zj Sg)
   Zm)
   (XM<|Zh 2<|pv 3)))
   (XM<|Zj Sg))),?_⟩
  exists _,Z,?_;show⟨_,Z,a,Z,CT (k:=kd) (K:=K) (xs:=IL ns) (λi σ H2=>∃l v,σ=[some ↑w,some<|.ref a,some<|.int l,v]/\H2=H/\(i=0->l=-1)/\(i≠0->ns[i-1]?=⇑l)/\∀j z,j<i->ns[j]?=⇑z->0<=z/\z<ps⁻¹/\∀y,j≠0->ns[j-1]?=⇑y->y<z)
   {-1,none,Z,Z,λ_=>rfl,λz=>absurd Z z,λj z hj=>absurd hj<|VW j} (λi σ H2 _ zz=>by let(_,_,_,e,_):=zz;show e▸hS) ?_ ?_⟩
  .rintro i x σ H2 hi ⟨l,v,rfl,rfl,Nx,SH,hp⟩;let(z,rfl,hz):=Um hi;exists _,Z,_,Z,_,_,Z,Z,_,Z,?_;show Xl (λhc=>?_) (λhc=>?_)
   .-- tie<=last
    show UT ?_;show q false {λz=>(nomatch z),λhs=>?_};let(b1,b2,b3):=hs i z hz;cases h0:i=0
    .lia
    .have:=b3 l h0 (SH h0);lia
   .exists _,Z,_,Z,w,n,ps,z,Z,hW,_,Z,?_;show WC (λVm=>?_) (λVm=>?_)
    .exists _,Z,?_;show{z,_,Z,Z,λe=>(nomatch e),λ_=>by simpa using hz,λj y hj ey=>?_};cases hji:j<i
     .show hp j y hji ey
     grind
    .show q false {λz=>(nomatch z),λhs=>?_};let(b1,b2,b3):=hs i z hz;show absurd ⟨b1,b2⟩ Vm
  .rintro σ H2 ⟨l,v,rfl,rfl,Nx,SH,hp⟩;show q true {λ_ i z hz=>?_,λ_=>rfl};let hi:i<(IL ns).f:=by rw[Xc];show(Xx.S hz).1
   show hp i z hi hz
inductive spZc(K:Ad)(C:A7):_
 |mk (w a n ps kd ns:_) (_:vs=[.ref w,.ref a]) (_:WebAt C H w n ps) (_:SqK kd K H a (IL ns)) (_:IsSet ps.f ns) (_:∀r H',Same H H'->SqT K H' r (IL ns)->Q ↑r H')
def gF(T:Txt K mg t):Xs P w base XA T.qZc 3 (spZc K t.A_Web):=by
 show T.qZc.okI ["web","ties"] B ⋯
 .let⟨w,a,n,ps,kd,ns,rfl,hW,hS,hI,q⟩:=h;show⟨_,(XN (XD (Lj<|MY<|Xz (yj T) hr T.qZb Zv<|XZ (pv 0)<|XZ (pv 1) XY)
   (XM Vn)
   Zm)
   (XM<|Zj<|Zl (ZS K) rC T.n_tuple Boot.«tuple»<|XZ (pv 1) XY)),?_⟩
  exists _,Z,_,Z,w,a,n,ps,kd,ns,Z,hW,hS,λb hb=>{_,Z,?_};show CV (λ_=>?_) (λz=>?_)
  .exists _,Z,a,IL ns,Z,?_;cases kd with
   |false=>show .inl {hS,λl hl=>q l _ (XO hl)<|SqT.of XT}
   |true=>show .inr {hS,q a H (Same.refl H) hS}
  ext
inductive spZd(K:Ad)(C:A7):_
 |mk (w m a n ps M kd ns:_) (_:vs=[.ref w,.ref m,.ref a]) (_:WebAt C H w n ps) (_:ZA n ps) (_:H m=⇑(.lst<|IL M)) (_:M.f=n.j) (_:SqK kd K H a (IL ns)) (_:(∀z∈ns,0<=z/\z<ps⁻¹)) (_:∀m' H',Same H H'->(m'=m\/H m'=A8)->H' m'=⇑(.lst<|IL<|ND M<|XR ps ns)->Q ↑m' H')
def Hw:FnScope ["web","marks","ties","tie","ends","low","high"] ["web","marks","ties"] (Za (top 33)):=To B
def yi(T:Txt K mg t):Xs P w base XA T.qZd 1 (spZd K t.A_Web):=by
 show T.qZd.okI ["web","marks","ties","tie","ends","low","high"] B ⋯
 .let⟨w,m0,a,n,ps,M0,kd,ns,rfl,⟨dx,tl,xs,h1,h2,h3⟩,⟨g1,g2,g3,g4⟩,hm,hlM,hS,hI,q⟩:=h;show⟨_,(XN (Uu YR Z (Uk K<|pv 2) (Zb 3)
   (XN (Zh 4<|Zz (Zc K) (Zo K (pv 0) Z) (pv 3) λ_ _=>rfl)
   (XN (Sb (i:=5) Hw.nd Z (Or.inr Z)<|Zf (vE Z) rC T.n_min Boot.«min»<|XZ (Zz (Zc K) (pv 1) (Zz (ZH K) (pv 4) XQ λ_ _=>rfl) λ_ _=>rfl)<|XZ (Zz (Zc K) (pv 1) (Zz (ZH K) (pv 4) XQ λ_ _=>rfl) λ_ _=>rfl) XY)
   (XN (Sb (i:=6) Hw.nd Z (Or.inr Z)<|Zf (vG Z) rC T.n_max Boot.«max»<|XZ (Zz (Zc K) (pv 1) (Zz (ZH K) (pv 4) XQ λ_ _=>rfl) λ_ _=>rfl)<|XZ (Zz (Zc K) (pv 1) (Zz (ZH K) (pv 4) XQ λ_ _=>rfl) λ_ _=>rfl) XY)
   (XM (XD (Zg SV (pv 5) (pv 6)<|Zp _)
   (XM<|PL (i:=1) Z Hw.nd Z Z (sc0:=Za<|top 33) (N0:=["web","marks","ties","tie","ends","low","high"]) (N':=["mark","high","low"]) (o:=1) (fr:=[6,5]) ⟨Z,B,B,B,Z,B⟩ (ZD K<|pv 1) (Zs Ep) (λ_ _ _ _=>(Zb 0)) (λ_ _ _ _=>ZK) λ_ _ _ _=>(Gd (Zg TY (pv 0) (pv 1)<|Zp _) (pv 2)<|pv 0))
   Zm))))))
   (XM<|Zj<|pv 1)),?_⟩
  show⟨_,Z,a,Z,CT (k:=kd) (K:=K) (a:=a) (xs:=IL ns) (λi σ H2=>∃m v3 v4 v5 v6,σ=[some ↑w,some<|.ref m,some<|.ref a,v3,v4,v5,v6]/\Same H H2/\(m=m0\/H m=A8)/\H2 m=⇑(.lst<|IL<|ND M0<|XR ps<|ns.Q i))
   {m0,none,none,none,none,Z,Same.refl _,.inl Z,hm} (λi σ H2 _ zz=>by let(_,_,_,_,_,_,s2,_):=zz;show hS.Y s2) ?_ ?_⟩
  .rintro i x σ H2 hi ⟨m,v3,v4,v5,v6,rfl,s2,Qi,WO⟩;let(z,rfl,hz):=Um hi;let(z0,z1):=hI z (Xo hz);obtain⟨p,hp⟩:∃p,ps[z.j]?=⇑p:={_,Xv<|by ext};let(v,hv,tt,rfl,Vq):=h3.2 z.j p hp;let(e1,e2,e3,e4):=g4 p (Xo hp);let ed:ps.R z.j (0,0)=p:=Wf hp
   exists _,Z,w,_,dx,_,_,Z,s2 _ _ h1,T.cl_Web,T.n_Web_ties,Ul _ _,_,Z,tl,xs,z,.ref tt,Z,Z,SqL.of<|s2 _ _ h2,Zu (n:=z.j) J hv,?_;let Hx:=s2 _ _ Vq
   let hl:(ND M0<|XR ps<|ns.Q i).f=n.j:=(ZQ7 _ _).l hlM;generalize hM:ND M0 (XR ps<|ns.Q i)=M at *;let ha:M[p.1.j]?=⇑(mk M p.1.j):=QE D
   let hb:M[p.2.j]?=⇑(mk M p.2.j):=QE D;let iA:Wy (IL M) p.1=⇑(.int<|mk M p.1.j):=Zu (n:=p.1.j) J (by rw[Yi,ha];rfl)
   let iB:Wy (IL M) p.2=⇑(.int<|mk M p.2.j):=Zu (n:=p.2.j) J (by rw[Yi,hb];rfl);let t0:Wy ([.int p.1,.int p.2]:A6 V) 0=⇑(.int p.1):=rfl
   let t1:Wy ([.int p.1,.int p.2]:A6 V) 1=⇑(.int p.2):=rfl;exists _,rfl,_,rfl,tt,_,0,_,rfl,rfl,SqT.of Hx,t0,m,_,p.1,_,rfl,rfl,SqL.of WO,iA,_,rfl,_,rfl,tt,_,1,_,rfl,rfl,SqT.of Hx,t1,m,_,p.2,_,rfl,rfl,SqL.of WO,iB,_,_,rfl,?_;exists _,rfl,_,rfl,tt,_,0,_,rfl,rfl,SqT.of Hx,t0,m,_,p.1,_,rfl,rfl,SqL.of WO,iA,_,rfl,_,rfl,tt,_,1,_,rfl,rfl,SqT.of Hx,t1,m,_,p.2,_,rfl,rfl,SqL.of WO,iB,_,_,rfl,?_;let eL:(if mk M p.2.j<mk M p.1.j then mk M p.2.j else mk M p.1.j)=min (mk M p.1.j) (mk M p.2.j):=by rw[Int.min_def];split<;>split<;>lia
   let eH:(if mk M p.2.j>mk M p.1.j then mk M p.2.j else mk M p.1.j)=max (mk M p.1.j) (mk M p.2.j):=by rw[Int.max_def];split<;>split<;>lia
   exists _,Z,_,Z,_,_,Z,Z,_,Z,?_;rw[eL,eH];let step:ND M0 (XR ps<|ns.Q<|i+1)=pm M p.1.j p.2.j:=by rw[aZ hz,nF,hM,ed]
   show Xl (λhc=>?_) (λhc=>?_)
   .show⟨_,Z,m,Z,{_,SqL.of WO},Wl (K:=K) (a:=m) (xs:=IL M) (λj ys H3=>H3=H2/\j<=M.f/\ys=IL ((M.Q j).G λk=>if k=max (mk M p.1.j) (mk M p.2.j) then min (mk M p.1.j) (mk M p.2.j) else k)) {Z,Qd _,Z} (Zk D)
     (λj ys H3 hj zz=>by let(e,RU,ey):=zz;exists e▸SqL.of WO,D) ?_ ?_⟩
    .rintro j y ys H3 hj ⟨rfl,RU,rfl⟩ S Xy;let(k,rfl,hk):=Um hj;show QF ?_;exists _,Z,_,Z,Z,_,Z,?_;let VE:j<M.f:=(Xx.S hk).1
     let app:∀r:A0,r=(if k=max (mk M p.1.j) (mk M p.2.j) then min (mk M p.1.j) (mk M p.2.j) else k)->
       IL ((M.Q j).G λk=>if k=max (mk M p.1.j) (mk M p.2.j) then min (mk M p.1.j) (mk M p.2.j) else k)++[.int r]=IL ((M.Q<|j+1).G λk=>if k=max (mk M p.1.j) (mk M p.2.j) then min (mk M p.1.j) (mk M p.2.j) else k):=by intro r er;rw[YB,hk,er];simp
     show Xl (λhe=>?_) (λhe=>?_)
     .exists _,Z,Xy _ _ {Z,VE,app _ ?_};lia
     .exists _,Z,Xy _ _ {Z,VE,app _ ?_};lia
    .rintro ys H3 ⟨rfl,_,rfl⟩ p' Hv;exists p',_,_,_,_,Z,Zw s2 Hv,.inr<|s2.free Hv,?_;rw[XT,step,Xc,Yv];unfold pm;rw[Yk hc]
   .exists m,_,_,_,_,Z,s2,Qi,?_;rw[WO,step];unfold pm;rw[Yh hc]
  .rintro σ H2 ⟨m,v3,v4,v5,v6,rfl,s2,Qi,WO⟩;rw[Xc,Yv]at WO;exists _,Z,q m H2 s2 Qi WO
inductive spZe(K:Ad)(C:A7):_
 |mk (w a n ps ns:_) (_:vs=[.ref w,.ref a]) (_:WebAt C H w n ps) (_:ZA n ps) (_:SqT K H a (IL ns)) (_:(∀z∈ns,0<=z/\z<ps⁻¹)) (_:∀m H',Same H H'->H m=A8->H' m=⇑(.lst<|IL<|Xu n.j<|XR ps ns)->Q ↑m H')
def Qh(T:Txt K mg t):Xs P w base XA T.qZe 2 (spZe K t.A_Web):=by
 show T.qZe.okI ["web","ties"] B ⋯
 .let⟨w,a,n,ps,ns,rfl,hW,hG,hS,hI,q⟩:=h;exists _,(XM<|Zj<|Xz (yi T) hr T.qZd Zv<|XZ (pv 0)<|XZ (Zl (bo Z) rC T.n_list Boot.«list»<|XZ (Zl bp rC T.n_range Boot.«range»<|XZ (Zo K (pv 0) Z) XY) XY)<|XZ (pv 1) XY),?_;let(dx,tl,xs,h1,h2,h3):=id hW;let(g1,g2,g3,g4):=id hG;exists _,Z,_,Z,w,_,dx,_,_,Z,h1,T.cl_Web,T.n_Web_places,IU _ _,n,Z,λr Vr=>{r,0,n,Z,XT,⟨Ep,Ep,J,J⟩,J,λm hm=>?_};let sm:Same H (upd (upd H r<|.rng 0 n) m<|.lst<|(Tx 0 n).G V.int):=Zw (XO Vr) hm
  exists _,Z,w,m,a,n,ps,(List.range n.j).G λ(i:A5)=>(i:A0),true,ns,Z,hW.Y sm,hG,?_,Eo,La sm hS,hI,λm' H' s' hf KY=>?_
  .rw[XT,aY]
  .show q m' H' (sm.l s') ?_ KY;rcases hf with rfl|hf
   .show(XO Vr).free hm
   .show sm.free hf
inductive spZf(K:Ad)(C:A7):_
 |mk (w a n ps kd ns:_) (_:vs=[.ref w,.ref a]) (_:WebAt C H w n ps) (_:ZA n ps) (_:SqK kd K H a (IL ns)) (_:IsSet ps.f ns) (_:∀r as H',Same H H'->H r=A8->H' r=⇑(.lst<|as.G V.ref)->r∉as->GrpAt H H' (IM<|Xu n.j<|XR ps ns) as->Q ↑r H')
def gE(T:Txt K mg t):Xs P w base XA T.qZf 4 (spZf K t.A_Web):=by
 show T.qZf.okI ["web","ties","pieces","place","mark"] B ⋯
 .let⟨w,a,n,ps,kd,ns,rfl,hW,hG,hS,hI,q⟩:=h;show⟨_,(XN (Zh 2 pJ)
   (XN (Uu YR Z (FL K Z T.n_enumerate<|XZ (Xz (Qh T) hr T.qZe Zv<|XZ (pv 0)<|XZ (Xz (gF T) hr T.qZc Zv<|XZ (pv 0)<|XZ (pv 1) XY) XY) XY) (Uj (n:=2) K Z<|ZC (Zb 3)<|ZC (Zb 4) Uv)
   (XM<|Sd<|UQ K YL JX JY Jf (UQ K cG Ex PySem.F.type_dict_setdefault Zu4 (pv 2)<|XZ (pv 4)<|XZ (UH XY) XY)<|XZ (pv 3) XY))
   (XM<|Zj<|Zl (oX Z) rC T.n_list Boot.«list»<|XZ (oH K cG cK PySem.F.type_dict_values Zy9<|pv 2) XY))),?_⟩
  intro d hd;let s0:Same H (upd H d<|.dK []):=XO hd
  exists _,Z,_,Z,_,Z,w,a,n,ps,kd,ns,Z,hW.Y s0,hS.Y s0,hI,λr H1 s1 VT=>?_;exists w,r,n,ps,ns,Z,(hW.Y s0).Y s1,hG,VT,hI.all,λm H2 s2 Sv WO=>?_;let Nt:Same H H2:=(s0.l s1).l s2
  let hd2:H2 d=⇑(.dK []):=s2 _ _ (s1 _ _ XT);let hl:(Xu n.j<|XR ps ns).f=n.j:=ZF _ _
  generalize hM:Xu n.j (XR ps ns)=M at *;let n14:M.f<=14:=by have:=hG.2.1;ext
  exists m,Z,{_,SqL.of WO},?_;show bg (K:=K) (a:=m) (xs:=IL M) (λi σ H3=>∃as v3 v4,σ=[some ↑w,some<|.ref a,some<|.ref d,v3,v4]/\i<=M.f/\Same H H3/\H3 m=⇑(.lst<|IL M)/\H3 d=⇑(.dK<|Ui (Xq M i) as)/\d∉as/\m∉as/\GrpAt H H3 (Xq M i) as/\as.f<=i)
   {[],none,none,Z,Qd _,Nt,WO,hd2,Eo,Eo,{Z,List.nodup_nil,λi kv a e=>D,λa ha=>by simp at ha},XG _} (λi σ H3 _ zz=>by let(_,_,_,_,_,_,h,_):=zz;show SqL.of h) ?_ ?_
  .rintro i x σ H3 pt RG hi ⟨as,v3,v4,rfl,Vs,s3,Oe,Nr,gD,gC,gA,hal⟩;let(k,rfl,hk):=Um hi;let VS:mk M i=k:=Wf hk
   let Xp:i<M.f:=(Xx.S hk).1;let s4:Same H3 (upd H3 pt<|.tup [.int i,.int k]):=XO RG
   exists pt,_,Z,SqT.of XT,Z,_,_,Z,_,_,Z,Z,?_;exists _,Z,.inr<|.inr<|.inl {Z,.inl {_,s4 _ _ Nr}},_,Z,(by ext),λl Nx=>?_;let s5:Same H3 (upd (upd H3 pt<|.tup [.int i,.int k]) l<|.lst []):=Zw s4 Nx
   let hd5:=s5 _ _ Nr;let Od:H3 l=A8:=s4.free Nx
   let ndl:d≠l:=Ze Nr Od;let gl:=gA.len
   exists d,Ui (Xq M i) as,Sum.inl k,.ref l,Z,Z,hd5,?_,λv hv=>?_,λhv=>?_
   .rw[Zs8 gl];show Zk J
   .-- the mark has XX list
    rcases oq (g:=Xq M i) (as:=as) (k:=k) gl with ⟨h1,_⟩|⟨j,kv,b,e1,e2,e3,e4⟩
    .ext
    .rw[e4]at hv;cases hv;let hb5:=s5 _ _ (gA.at_ j kv b e1 e2)
     let tR:k∈(Xq M i).G (·.1):=YC.mpr {kv,Xo e1,e3};let hlen:kv.2.f<=i:=oy (Xo e1)
     exists .inl {Z,_,SqL.of hb5},_,Z,b,_,.int i,Z,Z,hb5,?_,?_
     .rw[Xc];show Zk J
     .let Hu:b∈as:=Xo e2;let RX:d≠b:=λz=>gD (z▸Hu)
      let hmb:m≠b:=λz=>gC (z▸Hu);let Me:=gA.new b Hu
      let Kj:(Xq M<|i+1).G (·.1)=(Xq M i).G (·.1):=by change(VM (Xq M i) (i:A0)<|mk M i).G (·.1)=_;rw[vn,VS,Yk tR]
      exists as,_,_,Z,Xp,Zy Me<|s3.l s5,by rw[Zd hmb];show s5 _ _ Oe,by rw[Zd RX,hd5,aX Kj],gD,gC,{?_,gA.nd,?_,gA.new},J
      .have:=YI List.f Kj
       grind
      .intro i2 tP a2 f1 f2;let f1:(VM (Xq M i) (i:A0)<|mk M i)[i2]?=⇑tP:=f1
       unfold VM at f1;rw[VS,Yk tR,Yi]at f1;cases f3:(Xq M i)[i2]? with
       |none=>rw[f3]at f1;cases f1
       |some Ff=>
        rw[f3]at f1;let f1:(if Ff.1=k then (Ff.1,Ff.2++[(i:A0)]) else Ff)=tP:=Yn f1
        cases hj:i2=j
        .subst hj;rw[e1]at f3;cases f3;rw[e2]at f2;cases f2;rw[Yk e3]at f1;subst f1;rw[XT];simp
        .let Vl:a2≠b:=λz=>by subst z;show hj (FR gA.nd f2 e2)
         let yB:¬Ff.1=k:=λz=>hj (FR (oz M i) (by rw[Yi,f3];show YI some z)<|by ext);rw[Yh yB]at f1;subst f1;rw[Zd Vl];show s5 _ _ (gA.at_ i2 Ff a2 f3 f2)
   .-- a new list
    rcases oq (g:=Xq M i) (as:=as) (k:=k) gl with ⟨h1,m6⟩|⟨j,kv,b,e1,e2,e3,e4⟩
    .let yh:(upd (upd (upd H3 pt<|.tup [.int i,.int k]) l<|.lst []) d<|.dK<|Ui (Xq M i) as++[(Sum.inl k,.ref l)]) l=⇑(.lst []):=by rw[Zd (YZ ndl),XT]
     exists .inl {Z,_,SqL.of yh},_,Z,l,[],.int i,Z,Z,yh,Ep,?_;let gB:H l=A8:=s3.free Od
     let gz:l∉as:=λz=>by let(_,e):=gA.mem z;lia
     let CG:m≠l:=Ze Oe Od;let hmd:m≠d:=Ux Oe Nr (λz=>nomatch z)
     let egr:Xq M (i+1)=Xq M i++[(k,[(i:A0)])]:=by change VM (Xq M i) (i:A0) (mk M i)=_;unfold VM;rw[VS,Yh m6]
     let hdH:H d=A8:=hd;exists as++[l],_,_,Z,Xp,Zy gB<|Zy hdH<|s3.l s5,by rw[Zd CG,Zd hmd];show s5 _ _ Oe,?_,?_,?_,{?_,?_,?_,?_},?_
     .rw[Zd ndl,XT,egr,aW gl]
     .ext
     .grind
     .ext
     .show IQ gA.nd gz
     .intro i2 tP a2 f1 f2;rw[egr]at f1;cases Wu:i2<(Xq M i).f
      .rw[Yu Wu]at f1;rw[Yu (by ext)]at f2;let e:=gA.at_ i2 tP a2 f1 f2
       let n1:a2≠l:=Ze e Od;let n2:a2≠d:=Ux e Nr (λz=>nomatch z)
       rw[Zd n1,Zd n2];show s5 _ _ e
      .let h2:i2=(Xq M i).f:=by
        have:=(Xx.S f1).1
        rw[Xa,YH]at this;lia
       subst h2;rw[Ys (XG _),Uz]at f1;rw[Ys (by ext),gl,Uz]at f2;cases f1;cases f2;rw[XT];rfl
     .intro a2 ha2;rcases Xn.S ha2 with z|z
      .show gA.new a2 z
      ext
     ext
    ext
  .rintro σ H3 ⟨as,v3,v4,rfl,Vs,s3,Oe,Nr,gD,gC,gA,hal⟩;rw[Xc]at Nr gA;exists _,Z,.inr<|.inr<|.inl {Z,.inl {_,Nr}},d,_,Z,Z,Nr,λp hp=>?_;let s6:Same H3 (upd H3 p<|QG p d):=XO hp
   exists p,d,_,Z,XT,s6 _ _ Nr,λr Vr=>?_;let s7:Same H3 (upd (upd H3 p<|QG p d) r (.lst ((Ui (Xq M M.f) as).G (·.2)))):=Zw s6 Vr
   show q r as _ (s3.l s7) ((s3.l s6).free Vr) (by rw[XT,CK gA.len]) (λz=>?_) (gA.Y s7);let(_,e):=gA.mem z;rw[s6.free Vr]at e;cases e
inductive spZg(K:Ad)(C:A7):_
 |mk (w a n ps kd ns:_) (_:vs=[.ref w,.ref a]) (_:WebAt C H w n ps) (_:ZA n ps) (_:SqK kd K H a (IL ns)) (_:IsSet ps.f ns) (_:∀b H',Same H H'->(b=A9↔(IM<|Xu n.j<|XR ps ns).f=1)->Q (.bl b) H')
def gy(T:Txt K mg t):Xs P w base XA T.qZg 5 (spZg K t.A_Web):=by
 show T.qZg.okI ["web","ties"] B ⋯
 .let⟨w,a,n,ps,kd,ns,rfl,hW,hG,hS,hI,q⟩:=h;exists _,(XM<|Zj<|Us TY (Zf (Zi K) rC T.n_len Boot.«len»<|XZ (Xz (gE T) hr T.qZf Zv<|XZ (pv 0)<|XZ (pv 1) XY) XY) XQ<|Zp _),?_;exists _,Z,_,Z,w,a,n,ps,kd,ns,Z,hW,hG,hS,hI,λr as H' s1 Vr VT hnr gA=>?_;exists r,_,Z,.inl<|SqL.of VT,Z,?_;rw[Xr,gA.len,ZO];grind
inductive spZh(K:Ad)(C:A7):_
 |mk (w b n ps ws:_) (_:vs=[.ref w,.ref b]) (_:WebAt C H w n ps) (_:ZA n ps) (_:SqL K H b (IL ws)) (_:ws.f=ps.f) (_:∀r ys L H',Same H H'->H r=A8->TabAt H r n.j H' ys L->(∀i j,i<n.j->j<n.j->fnL L i j=lapE (Vt ps ws) i j)->Q ↑r H')
def ZM7(x:V)(k:A5):(List.replicate k [x]).flatten=List.replicate k x:=by
 ext
def gx(n i j:A5):fnL (List.replicate n (List.replicate n 0)) i j=0:=by unfold fnL;grind
def TabAt.get{H0 H:Hp}{r:A7}{n:A5}{ys:A6 V}{L:Ab}(h:TabAt H0 r n H ys L){i j:A5}(hi:i<n)(hj:j<n):∃A l x,ys[i]?=some ↑A/\H A=⇑(.lst (IL l))/\l[j]?=⇑x/\l.f=n/\x=fnL L i j/\H0 A=A8/\∀y:A0,∃L':Ab,TabAt H0 r n (upd H A (.lst ((IL l).set j (.int y)))) ys L'/\∀a b,fnL L' a b=if a=i/\b=j then y else fnL L a b:=by
 let(A,l,y1,z1,hA,hl,hn,hr):=h.at hi;obtain⟨x,hx⟩:∃x,l[j]?=⇑x:={_,Xv<|by ext};exists A,l,x,y1,hA,hx,hl,(Ny z1 hx).symm,hn,λy=>{L.set i<|l.set j y,?_,lh z1<|by ext};let e:(IL l).set j (.int y)=IL (l.set j y):=(List.map_set ..).symm
 rw[e];show h.put y1 z1 hr (by ext)
def tO{xs:A6 V}{i:A0}(h0:0<=i)(h1:i<xs⁻¹):PR xs.f i=⇑i.j:=by
 unfold PR
 ext
def gu:FnScope ["web","weights","table","ends","weight","one","other"] ["web","weights"] (Za (top 39)):=To B
def gr(T:Txt K mg t):Xs P w base XA T.qZh 1 (spZh K t.A_Web):=by
 show T.qZh.okI ["web","weights","table","ends","weight","one","other"] B ⋯
 .let⟨w,b,n,ps,ws,rfl,hW,hG,hS,Dr,q⟩:=h;show⟨_,(XN (PL (i:=2) Z gu.nd Z Z (sc0:=Za<|top 39) (N0:=["web","weights","table","ends","weight","one","other"]) (N':=["place","web"]) (o:=1) (fr:=[0]) ⟨Z,B,B,B,Z,B⟩ (ZM Z T.n_range<|XZ (Zo K (pv 0) Z) XY) (Zs Ep) (λ_ _ _ _=>(Zb 0)) (λ_ _ _ _=>ZK) λ_ _ _ _=>(Zt Du (UH<|XZ XQ XY)<|Zo K (pv 1) Z))
   (XN (Uu YR Z (BE K Z T.n_zip<|XZ (Zo K (pv 0) Z)<|XZ (pv 1) XY) (Uj (n:=2) K Z<|ZC (Zb 3)<|ZC (Zb 4) Uv)
   (XN (Zh 5<|Zz (ZH K) (pv 3) XQ λ_ _=>rfl)
   (XN (Zh 6<|Zz (ZH K) (pv 3) XQ λ_ _=>rfl)
   (XM (XD (Zg Sz (pv 5) (pv 6)<|Zp _)
   (XN (vM (Zz (Zc K) (pv 2) (pv 5) λ_ _=>rfl) (pv 5) (uL K) (pv 4) Eb Ji)
   (XN (vM (Zz (Zc K) (pv 2) (pv 6) λ_ _=>rfl) (pv 6) (uL K) (pv 4) Eb Ji)
   (XN (vM (Zz (Zc K) (pv 2) (pv 5) λ_ _=>rfl) (pv 6) (uL K) (pv 4) Ea Ji)
   (XM<|vM (Zz (Zc K) (pv 2) (pv 6) λ_ _=>rfl) (pv 5) (uL K) (pv 4) Ea Ji))))
   Zm)))))
   (XM<|Zj<|pv 2))),?_⟩
  let(dx,tl,xs,h1,h2,h3):=id hW;let hl:=h3.1
  let(g1,g2,g3,g4):=id hG;let one:1<=sizeLine:=Ep
  exists _,Z,w,_,dx,_,_,Z,h1,T.cl_Web,T.n_Web_places,IU _ _,n,Z,J,J,IS (lo:=0) (n:=n.j) (λi zs H2=>Same H H2/\Bears (QD H2) zs (List.replicate i<|List.replicate n.j 0)/\zs.Nodup/\∀A,V.ref A∈zs->H A=A8/\∃o,H2 A=⇑o) {Same.refl _,{Z,λi l e=>by simp at e},.nil,λA h=>(by cases h)} (Zk J) (λi zs H2 _ zz=>by let(_,e,_):=zz;rw[e.1,NP];lia) ?_ ?_
  .rintro i zs H2 hi ⟨s2,hZ,Ss,OT⟩ S Xy;show nm ?_;exists one,λp1 VD=>?_;let u1:=XO (o:=.lst [.int 0]) VD
   exists _,Z,w,_,dx,_,_,Z,u1 _ _<|s2 _ _ h1,T.cl_Web,T.n_Web_places,IU _ _,p1,n,_,Z,Z,XT,J,J,PK (by change 1*n.j<=_;lia),λp2 Wn=>?_;let e0:(List.replicate n.j [V.int 0]).flatten=IL (List.replicate n.j 0):=by rw[ZM7];change _=(List.replicate n.j 0).G V.int;rw[List.map_replicate]
   rw[e0];let u2:=u1.l (XO (o:=.lst<|IL<|List.replicate n.j 0) Wn)
   let gq:H2 p2=A8:=(XO VD).free Wn;show Xy _ _ {s2.l u2,?_,?_,λA hA=>?_}
   .rw[List.replicate_succ'];show(hZ.imp λ_ _ zz=>by let(r',e,h):=zz;exists r',e,u2 _ _ h).snoc ⟨p2,Z,XT⟩
   .grind
   .rcases Xn.S hA with e|e
    .let⟨a1,o,a2⟩:=OT A e;exists a1,o,u2 _ _ a2
    .let e':A=p2:=by simpa using e
     rw[e'];exists s2.free gq,_,XT
  rintro zs H2 ⟨s2,hZ,Ss,OT⟩ tA Pw;let s3:=s2.l (XO (o:=.lst zs) Pw)
  let gn:H tA=A8:=s2.free Pw;let hT:TabAt H tA n.j (upd H2 tA<|.lst zs) zs (List.replicate n.j<|List.replicate n.j 0):={XT,hZ.imp λ_ _ zz=>by let(r',e,h):=zz;show{r',e,XO Pw _ _ h,Ze h Pw},NP,λl h=>D,Ss,λA h=>(OT A h).1}
  let hzero:∀i j,fnL (List.replicate n.j<|List.replicate n.j 0) i j=0:=λi j=>by
   have:=gx n.j i j
   show this
  generalize List.replicate n.j (List.replicate n.j (0:A0))=L0 at *;exists _,Z,w,_,dx,_,_,Z,s3 _ _ h1,T.cl_Web,T.n_Web_ties,Ul _ _,_,Z,tl,b,Z,{_,_,SqL.of<|s3 _ _ h2,s3.seq hS},lj (K:=K) (a:=tl) (b:=b) (xs:=xs) (ys:=IL ws) (by ext) (λi σ H4=>∃L v3 v4 v5 v6,σ=[some ↑w,some<|.ref b,some<|.ref tA,v3,v4,v5,v6]/\Same H H4/\TabAt H tA n.j H4 zs L/\∀x y,x<n.j->y<n.j->fnL L x y=lapE (Vt (ps.Q i)<|ws.Q i) x y) {L0,none,none,none,none,Z,s3,hT,λx y _ _=>hzero x y} (λi σ H4 _ zz=>by let(_,_,_,_,_,_,e,_):=zz;exists SqL.of<|e _ _ h2,e.seq hS) ?_ ?_
  .rintro i v v' σ H4 pt RG hi Wx ⟨L,v3,v4,v5,v6,rfl,s4,gm,Oc⟩;let(p,hp,tt,rfl,Vq):=h3.at hi;let(wt,rfl,hwt):=Um Wx;let(e1,e2,e3,e4):=g4 p (Xo hp);let u1:=XO (o:=.tup [.ref tt,.int wt]) RG
   exists pt,_,Z,SqT.of XT,Z,_,_,Z,_,_,Z,Z,?_;let gk:=gm.Y u1
   let s5:=s4.l u1;generalize upd H4 pt (.tup [.ref tt,.int wt])=H5 at *;exists _,Z,tt,_,0,.int p.1,Z,Z,SqT.of<|s5 _ _ Vq,Z,?_;exists _,Z,tt,_,1,.int p.2,Z,Z,SqT.of<|s5 _ _ Vq,Z,?_;exists _,Z,_,Z,Z,_,Z,?_;rw[ZO];let esn:=lg hp hwt
   show WC (λheq=>?_) (λXJ=>?_)
   .exists L,_,_,_,_,Z,s5,gk,λx y hx hy=>?_;rw[esn,Bf J];show Oc x y hx hy
   let IJ:p.1.j≠p.2.j:=λe=>XJ D;let(A1,l1,x1,y1,Tv,gj,SH,l7,NC,gh):=gk.get (i:=p.1.j) (j:=p.1.j) D J;exists _,Z,_,Z,tA,zs,p.1,.ref A1,Z,Z,SqL.of gk.tab,Zu (n:=p.1.j) J y1,_,Z,A1,_,p.1,.int x1,Z,Z,SqL.of Tv,rF,Uo gj,_,Z,_,_,Z,Z,A1,_,p.1,p.1.j,Z,Z,Tv,tO J D,?_;let(L1,hT6,tN):=gh (x1+wt);let s6:Same H (upd H5 A1<|.lst<|(IL l1).set p.1.j (.int<|x1+wt)):=Zy NC s5
   generalize upd H5 A1 (.lst<|(IL l1).set p.1.j (.int<|x1+wt))=H6 at *;rw[l7]at tN;let(A2,l2,x2,y2,Sw,Fe,Ru,ex2,Rw,put2):=hT6.get (i:=p.2.j) (j:=p.2.j) J J;exists _,Z,_,Z,tA,zs,p.2,.ref A2,Z,Z,SqL.of hT6.tab,Zu (n:=p.2.j) J y2,_,Z,A2,_,p.2,.int x2,Z,Z,SqL.of Sw,rF,Uo Fe,_,Z,_,_,Z,Z,A2,_,p.2,p.2.j,Z,Z,Sw,tO J D,?_;let(L2,hT7,LK):=put2 (x2+wt);let s7:Same H (upd H6 A2<|.lst<|(IL l2).set p.2.j (.int<|x2+wt)):=Zy Rw s6
   generalize upd H6 A2 (.lst<|(IL l2).set p.2.j (.int<|x2+wt))=H7 at *;rw[ex2]at LK;let(A3,l3,x3,y3,Mu,hx3,Od,ex3,hn3,put3):=hT7.get (i:=p.1.j) (j:=p.2.j) J J;exists _,Z,_,Z,tA,zs,p.1,.ref A3,Z,Z,SqL.of hT7.tab,Zu (n:=p.1.j) J y3,_,Z,A3,_,p.2,.int x3,Z,Z,SqL.of Mu,J,Uo hx3,_,Z,_,_,Z,Z,A3,_,p.2,p.2.j,Z,Z,Mu,tO J D,?_;let(L3,hT8,hf3):=put3 (x3-wt);let s8:Same H (upd H7 A3<|.lst<|(IL l3).set p.2.j (.int<|x3-wt)):=Zy hn3 s7
   generalize upd H7 A3 (.lst<|(IL l3).set p.2.j (.int<|x3-wt))=H8 at *;rw[ex3]at hf3;let(A4,l4,x4,y4,Ki,tL,gf,ex4,gd,gc):=hT8.get (i:=p.2.j) (j:=p.1.j) J J;exists _,Z,_,Z,tA,zs,p.2,.ref A4,Z,Z,SqL.of hT8.tab,Zu (n:=p.2.j) J y4,_,Z,A4,_,p.1,.int x4,Z,Z,SqL.of Ki,J,Uo tL,_,Z,_,_,Z,Z,A4,_,p.1,p.1.j,Z,Z,Ki,tO J (by rw[Xc];grind),?_;let(L4,hT9,tK):=gc (x4-wt);let s9:Same H (upd H8 A4<|.lst<|(IL l4).set p.1.j (.int<|x4-wt)):=Zy gd s8
   rw[ex4]at tK;exists L4,_,_,_,_,Z,s9,hT9,λx y hx hy=>?_;rw[esn,lJ,<-Oc x y hx hy];show four IJ x y tN LK hf3 tK
  .rintro σ H4 ⟨L,v3,v4,v5,v6,rfl,s4,gm,Oc⟩;rw[hl,Yv,<-Dr,Yv]at Oc;exists _,Z,q tA zs L H4 s4 gn gm Oc
inductive spZi(K:Ad)(C:A7):_
 |mk (w n ps:_) (_:vs=[.ref w]) (_:WebAt C H w n ps) (_:ZA n ps) (_:∀r ys L H',Same H H'->H r=A8->TabAt H r n.j H' ys L->(∀i j,i<n.j->j<n.j->fnL L i j=lapE (Vt ps<|List.replicate ps.f 1) i j)->Q ↑r H')
def gb(T:Txt K mg t):Xs P w base XA T.qZi 2 (spZi K t.A_Web):=by
 show T.qZi.okI ["web"] B ⋯
 .let⟨w,n,ps,rfl,hW,hG,q⟩:=h;exists _,(XM<|Zj<|Xz (gr T) hr T.qZh Zv<|XZ (pv 0)<|XZ (Zt Du (UH<|XZ XQ XY)<|Zf (Zi K) rC T.n_len Boot.«len»<|XZ (Zo K (pv 0) Z) XY) XY),?_;let(dx,tl,xs,h1,h2,h3):=id hW;let hl:=h3.1
  let g3:=hG.2.2.1;exists _,Z,Ep,λp1 VD=>?_;let u1:=XO (o:=.lst [.int 1]) VD
  show{_,Z,w,_,dx,_,_,Z,u1 _ _ h1,T.cl_Web,T.n_Web_ties,Ul _ _,tl,xs,Z,.inl<|SqL.of<|u1 _ _ h2,p1,xs⁻¹,_,Z,Z,XT,by ext,J,PK (by change 1*_<=_;lia),λp2 Wn=>?_};let e0:(List.replicate (xs.f:A0).j [V.int 1]).flatten=IL (List.replicate ps.f 1):=by
   rw[VP,hl,ZM7];change _=(List.replicate ps.f 1).G V.int
   rw[List.map_replicate]
  rw[e0];let u2:=u1.l (XO (o:=.lst<|IL<|List.replicate ps.f 1) Wn)
  exists w,p2,n,ps,List.replicate ps.f 1,Z,hW.Y u2,hG,SqL.of XT,NP,λr ys L H' s hr hT hf=>?_;show q r ys L H' (u2.l s) (u2.free hr) {hT.tab,hT.rows,hT.len,hT.all,hT.nd,λA h=>u2.free<|hT.new A h} hf
inductive spZj(K:Ad)(C:A7):_
 |mk (w n ps:_) (_:vs=[.ref w]) (_:WebAt C H w n ps) (_:ZA n ps) (_:∀c H',TC n ps c->Same H H'->Q (.int c) H')
def yg(u v i:A5):(ind u v i).natAbs<=1:=by unfold ind;split<;>split<;>decide
def yf:∀{E:A6 Ed},(∀e∈E,e.2.2=1)->∀i j,(lapE E i j).natAbs<=E.f
 |[],_,i,j=>XG 0
 |e::E,h,i,j=>by
  let ih:=yf (λf hf=>h f<|Yf _ hf) i j;let h1:=yg e.1 e.2.1 i
  let h2:=yg e.1 e.2.1 j;let h3:(ind e.1 e.2.1 i*ind e.1 e.2.1 j).natAbs<=1:=by rw[rS];show Ni h1 h2
  change(e.2.2*(ind e.1 e.2.1 i*ind e.1 e.2.1 j)+lapE E i j).natAbs<=(e::E).f;rw[h e Ya,Sm,YM]
  have:=Int.natAbs_add_le (ind e.1 e.2.1 i*ind e.1 e.2.1 j) (lapE E i j)
  lia
def ZM8{α:Type}{l:A6 α}{i:A5}(hi:l.f=i+1):cutz l (i:A0)=l.Q i:=by
 unfold cutz
 ext
def Ht(T:Txt K mg t):Xs P w base XA T.qZj 3 (spZj K t.A_Web):=by
 show T.qZj.okI ["web"] B ⋯
 .let⟨w,n,ps,rfl,hW,hG,q⟩:=h;exists _,(XM<|Zj<|Xz (gV T) hr T.qZ3 Zv<|XZ (Xz (gO T) hr T.qZ5 Zv<|XZ (Xz (gb T) hr T.qZi Zv<|XZ (pv 0) XY)<|XZ (Zt TH (Zo K (pv 0) Z) XQ) XY) XY),?_;let(g1,g2,g3,g4):=id hG;exists _,Z,w,n,ps,Z,hW,hG,λr ys L H1 s1 hr hT hf=>?_;let(dx,tl,xs,h1,h2,h3):=id hW;exists _,Z,w,_,dx,_,_,Z,s1 _ _ h1,T.cl_Web,T.n_Web_places,IU _ _,_,_,Z,Z,?_;obtain⟨k,hk⟩:∃k:A5,n-1=(k:A0):={(n-1).j,J};let hnk:n.j=k+1:=D
  let gN:=hT.len;let hTB:Bears (QD H1) ys L:=hT.rows.imp λ_ _ h=>h.list
  exists r,ys,L,k,?_,SqL.of hT.tab,hTB,D,λl h=>by rw[hT.all l h];grind,by ext,λr2 zs H2 s2 Vc hZ=>?_
  .ext
  let w1:∀e∈Vt ps (List.replicate ps.f (1:A0)),e.2.2=1:=λe he=>by unfold Vt at he;let(i,hi):=YG he;grind
  let el:(Vt ps<|List.replicate ps.f (1:A0)).f<=30:=by
   unfold Vt;rw[QN,NP]
   ext
  let hM:(cutz L (k:A0)).G (λl=>cutz l (k:A0))=(L.Q k).G λl=>l.Q k:=by rw[ZM8 (by ext)];show Vp λl hl=>ZM8 (by rw[hT.all l (Gx hl)];omega)
  rw[hM]at hZ;let Pu:((L.Q k).G λl=>l.Q k).f=k:=by rw[Xr,Yw];ext
  let Gf:∀i j,i<k->j<k->fnL ((L.Q k).G λl=>l.Q k) i j=lapE (Vt ps<|List.replicate ps.f 1) i j:=λi j hi hj=>by
   rw[<-hf i j D D];obtain⟨l,hl⟩:∃l,L[i]?=⇑l:={_,Xv D};let VX:=hT.all l (Xo hl)
   obtain⟨x,hx⟩:∃x,l[j]?=⇑x:={_,Xv D};rw[Ny hl hx];show Ny (l:=l.Q k) (by rw[Yi,EN,Yk hi,hl];rfl) D
  exists r2,false,zs,(L.Q k).G λl=>l.Q k,Z,SqL.of Vc,hZ.imp (λ_ _ zz=>by let(r',e,h):=zz;exists r',false,e,SqL.of h),by rw[Pu];lia,λi j hi hj=>?_,λ_ H3 s3=>?_,λh=>absurd (λl hl=>?_) h
  .rw[Pu]at hi hj;rw[Gf i j hi hj];show Yq (yf w1 i j) (Yq el<|Yq (by decide:30<=2^5)<|wD Ep Ep)
  .let hd:det ((L.Q k).G λl=>l.Q k).f (fnL<|(L.Q k).G λl=>l.Q k)=det (n-1).j (lapE<|Vt ps<|List.replicate ps.f 1):=by rw[Pu,show(n-1).j=k by ext];show Zr λi j hi hj=>Gf i j hi hj
   obtain⟨c,M,a1,a2,a3⟩:∃c,TC n ps c:=by let(M,a1,a2,_):=uM _ (n-1).j (Vt ps<|List.replicate ps.f 1) Z (Bc hG _);exists M.f,M,a1,λl=>by rw[a2,Be g1 NP],Z
   rw[hd,lq hG a1 a2,a3];show q c H3 ⟨M,a1,a2,a3⟩ (s1.l<|s2.l s3)
  .let⟨l0,h0,rfl⟩:=YC.S hl;rw[Pu,Yw,hT.all l0 (Gx h0)]
   ext
inductive spZk(K:Ad)(C:A7):_
 |mk (w a b n ps Is Os:_) (_:vs=[.ref w,.ref a,.ref b]) (_:WebAt C H w n ps) (_:ZA n ps) (_:SqT K H a (IL Is)) (_:SqT K H b (IL Os)) (_:Is.Nodup) (_:(∀z∈Is,0<=z/\z<ps⁻¹)) (_:Os.f<=30) (_:(∀z∈Is,z∉Os)) (_:∀c H',PC n ps Is Os c->Same H H'->Q (.int c) H')
def f9{K:Ad}{H:Hp}{a b:A7}{l m:Ac}{Q:VK}(ha:SqT K H a (IL l))(hb:SqT K H b (IL m))(hl:l.f+m.f<=1000)(k:∀r H',Same H H'->SqT K H' r (IL (l++m))->Q ↑r H'):ID K ↑a ↑b H Q:=by
 exists a,b,_,_,Z,Z,ha,hb,by rw[Xc,Xc];show Yq hl Ep,λe=>?_,λ_ e=>?_,λ_ _ p hp=>?_
 .let el:l=[]:=wB.S e;rw[el,Gs]at k;show k b H (Same.refl _) hb
 .let em:m=[]:=wB.S e;rw[em,YO]at k;show k a H (Same.refl _) ha
 .show k p _ (XO hp) (SqT.of ?_);rw[XT,oS]
def Zw8{gone:Ac}(j:A5):XE (j+1) gone=XE j gone++(if ((j:A0)∈gone) then [] else [(j:A0)]):=by unfold XE;rw[ao,Vo];grind
def LJ:FnScope ["web","inside","outside","marks","firsts","numbers","gone","free"] ["web","inside","outside"] (Za (top 42)):=To B
def f7(T:Txt K mg t):Xs P w base XA T.qZk 4 (spZk K t.A_Web):=by
 show T.qZk.okI ["web","inside","outside","marks","firsts","numbers","gone","free"] B ⋯
 .let⟨w,a,b,n,ps,Is,Os,rfl,hW,hG,hA,hB,hIn,Xt,hO,UK,q⟩:=h;show⟨_,(XN (Zh 3<|Xz (Qh T) hr T.qZe Zv<|XZ (pv 0)<|XZ (pv 1) XY)
   (XN (Sb (i:=4) LJ.nd Z (Or.inr Z)<|ki K Z Z T.n_sorted Z T.n_set<|XZ (pv 3) XY)
   (XN (XD (Zg PV (Zt Ut (Zf (Zi K) rC T.n_len Boot.«len»<|XZ (pv 4) XY)<|Zf (Zi K) rC T.n_len Boot.«len»<|XZ (pv 1) XY) (Zo K (pv 0) Z)<|Zp _)
   (XM<|Zj XQ)
   Zm)
   (XN (Sb (i:=5) LJ.nd Z (Or.inr Z)<|Vd Z (sc0:=Za<|top 42) (N0:=["web","inside","outside","marks","firsts","numbers","gone","free"]) (N':=["mark","firsts"]) (o:=1) (fr:=[4]) ⟨Z,B,B,B,Z,B⟩ (ZD K<|pv 3) (Zs Ep) (λ_ _ _ _=>(Zb 0)) (λ_ _ _ _=>ZK) λ_ _ _ _=>(UQ K YL sU sV (ZC9 K) (pv 1)<|XZ (pv 0) XY))
   (XN (Sb (i:=6) LJ.nd Z (Or.inr Z)<|Zt (RR K) (pv 1)<|pv 2)
   (XN (PL (i:=7) Z LJ.nd Z Z (sc0:=Za<|top 42) (N0:=["web","inside","outside","marks","firsts","numbers","gone","free"]) (N':=["tie","ends","gone"]) (o:=2) (fr:=[6]) ⟨Z,B,B,B,Z,B⟩ (FL K Z T.n_enumerate<|XZ (Zo K (pv 0) Z) XY) (Dj<|NH Ep<|NH Ep Dk) (λ_ _ _ _=>(Uj (n:=2) K Z<|ZC (Zb 0)<|ZC (Zb 1) Uv)) (λ_ _ _ _=>(PN<|Zg (FO K) (pv 0) (pv 2) Z)) λ_ _ _ _=>(pv 1))
   (XM<|Zj<|Xz (Ht T) hr T.qZj Zv<|XZ (FZ T.k_Web (ym T) (hr.mono Ep) Z T.c_Web T.bZ8 .nil Zv<|XZ (Zf (Zi K) rC T.n_len Boot.«len»<|XZ (pv 4) XY)<|XZ (Vd Z (sc0:=Za<|top 42) (N0:=["web","inside","outside","marks","firsts","numbers","gone","free"]) (N':=["ends","numbers"]) (o:=1) (fr:=[5]) ⟨Z,B,B,B,Z,B⟩ (ZD K<|pv 7) (Zs Ep) (λ_ _ _ _=>(Zb 0)) (λ_ _ _ _=>ZK) λ_ _ _ _=>(TX<|XZ (Zz (Zc K) (pv 1) (Zz (ZH K) (pv 0) XQ λ_ _=>rfl) λ_ _=>rfl)<|XZ (Zz (Zc K) (pv 1) (Zz (ZH K) (pv 0) XQ λ_ _=>rfl) λ_ _=>rfl) XY)) XY) XY))))))),?_⟩
  let(g1,g2,g3,g4):=id hG;let(Js,Kh,hJ2):=mR Is;let hJ:IsSet ps.f Js:=XW.mpr {λz hz=>Xt z<|Kh.mem_iff.S hz,(hJ2.and<|Kh.nodup_iff.mpr hIn).imp λh=>J}
  let uf:∀i j,Conn (XR ps Js) i j↔Conn (XR ps Is) i j:=λi j=>KU λy=>Kh.mem_iff;let hfr:XE ps.f (Js++Os)=XE ps.f (Is++Os):=Ls λz _=>D
  let back:∀c,PC n ps Js Os c->PC n ps Is Os c:=λc zz=>by let(L,l1,l2,l3):=zz;exists L,l1,λl=>(l2 l).l {λh=>{h.1,λz hz=>h.2.1 z<|Kh.mem_iff.mpr hz,h.2.2},λh=>{h.1,λz hz=>h.2.1 z<|Kh.mem_iff.S hz,h.2.2}},l3
  exists _,Z,_,Z,w,a,n,ps,Is,Z,hW,hG,hA,Xt,λmA H1 s1 Qi Sv=>?_;let UG:=ZF n.j (XR ps Is)
  let Wo:=ZQ (ns:=Is) hG Xt;let hel:(XR ps Is).f=Is.f:=Xr ..
  show nm ?_;exists _,Z,mA,_,Z,SqL.of Sv,D,λF hF VB fA ye=>?_;let s2:=XO (o:=.lst<|IL F) ye
  let LK:(upd H1 fA<|.lst<|IL F) fA=⇑(.lst<|IL F):=XT;let WO:=s2 _ _ Sv
  let Nt:=s1.l s2;show nm ?_;generalize upd H1 fA (.lst<|IL F)=H2 at *;let(g,hfg,fZ,hgg):=j5 Wo hF VB;let(k1,kn,nk):=Zk5 Wo J hF VB;let Sw:=La Nt hA
  let IF:=La Nt hB;let(dx,tl,xs,h1,h2,h3):=hW.Y Nt;exists _,Z,fA,_,Z,.inl<|SqL.of LK,_,Z,a,_,Z,.inr Sw,_,_,Z,Z,_,Z,w,_,dx,_,_,Z,h1,T.cl_Web,T.n_Web_places,IU _ _,_,_,Z,Z,_,Z,?_;rw[Xc,Xc];show Xl (λhc=>?_) (λhc=>?_)
  .show q 0 H2 (back 0<|j8 hG hJ (λi j hi hj=>(hfg i j hi hj).l (uf i j).symm) fZ hgg k1 kn<|by rw[Kh.length_eq];omega) Nt
  exists _,Z,mA,Z,{_,SqL.of WO},Wl (K:=K) (a:=mA) (xs:=IL<|Xu n.j<|XR ps Is) (λi zs H3=>H3=H2/\i<=n.j/\zs=IL (((Xu n.j<|XR ps Is).Q i).G λz=>(UC F z:A0))) {Z,Qd _,Z} (Zk D) (λi zs H3 _ zz=>by let(e,hi,ez):=zz;show{e▸SqL.of WO,by ext}) ?_ ?_
  .rintro i v zs H3 hi ⟨rfl,hin3,rfl⟩ S Xy;let(z,rfl,hz):=Um hi;let uU:z∈F:=(VB z).mpr (Xo hz)
   let Xj:=(Xx.S hz).1;show nm ?_;show{_,Z,.inl {Z,_,SqL.of LK},_,Z,fA,F,z,UC F z,Z,Z,SqL.of LK,Ia uU,λi hi e=>by have:=FR (IG hF) e (Ia uU);ext,Xy _ _ {Z,J,?_}};rw[YB,hz,YE];show(ZV _ _).symm
  rintro zs H3 ⟨rfl,_,rfl⟩ nA hnA;rw[Xc,Yv];let s3:=XO (o:=.lst<|IL<|(Xu n.j<|XR ps Is).G λz=>(UC F z:A0)) hnA
  let gd:(upd H3 nA<|.lst<|IL<|(Xu n.j<|XR ps Is).G λz=>(UC F z:A0)) nA=⇑(.lst<|IL<|(Xu n.j<|XR ps Is).G λz=>(UC F z:A0)):=XT;let tK:=s3 _ _ LK
  let Ki:=La s3 Sw;let fY:=La s3 IF
  let fX:=Nt.l s3;let nAt:∀x:A0,0<=x->x<n->((Xu n.j<|XR ps Is).G λz=>(UC F z:A0))[x.j]?=⇑(UC F (mk (Xu n.j<|XR ps Is) x.j):A0):=λx x0 x1=>by rw[Yi,Xv D];unfold mk;rw[Yb,Xv J];rfl
  show nm ?_;exists _,Z,_,Z,f9 Ki fY J λgA H5 s5 hg5=>?_;let yd:=fX.l s5
  let(dx,tl,xs,h1,h2,h3):=hW.Y yd;let Qy:=h3.1
  show nm ?_;show⟨_,Z,w,_,dx,_,_,Z,h1,T.cl_Web,T.n_Web_ties,Ul _ _,tl,Z,{_,SqL.of h2},Mt (K:=K) (a:=tl) (xs:=xs) (λj zs H6=>Same H5 H6/\j<=ps.f/\PairsV H6 zs ((XE j<|Is++Os).G λz=>ps.R z.j (0,0))) {Same.refl _,Qd _,PairsV.nil} (Zk J) (λj zs H6 hj ⟨e,SM,ez⟩=>⟨e.seq<|SqL.of h2,by
   rw[ez.1,Xr];show Yq (YW ..) ?_;rw[ZZ]
   lia⟩) ?_ ?_⟩
  .rintro j v zs H6 pt RG hj ⟨s6,RU,hZ⟩ S Xy;let(p,hp,tt,rfl,ht):=h3.at hj;let VE:=(Xx.S hp).1
   let s7:=XO (o:=.tup [.int j,.ref tt]) RG;exists pt,_,Z,SqT.of XT,Z,_,_,Z,_,_,Z,Z,?_;let Hs:=hZ.Y s7
   let Pr:=s6.l s7;generalize upd H6 pt (.tup [.int j,.ref tt])=H7 at *;exists _,Z,_,Z,gA,_,Z,.inr<|La Pr hg5,Z,Mz _,_,Z,?_;rw[MA];show WC (λHr=>?_) (λHr=>?_)
   .show Xy _ _ {Pr,VE,?_};rwa[Zw8,Yk Hr,YO]
   .exists _,Z,Xy _ _ {Pr,VE,?_};rw[Zw8,Yh Hr,YE];show Hs.app ?_;change PairsV H7 [V.ref tt] [ps.R ((j:A5):A0).j (0,0)]
    rw[VP,Wf hp];show PairsV.nil.snoc {tt,Z,Pr _ _ ht}
  rintro zs H6 ⟨s6,_,hZ⟩ rA Pz;rw[Qy]at hZ;let s7:=XO (o:=.lst zs) Pz
  let yp:(upd H6 rA<|.lst zs) rA=⇑(.lst zs):=XT;let Hs:=hZ.Y s7
  let Pr:=s6.l s7;generalize upd H6 rA (.lst zs)=H7 at *;let hf7:=Pr _ _ (s5 _ _ tK)
  let hn7:=Pr _ _ (s5 _ _ gd);let fW:=Hs.1
  let NG:(XE ps.f<|Is++Os).f<=30:=by show Yq (YW ..) ?_;rw[ZZ];omega
  rw[Xr]at fW;show nm ?_;show⟨_,Z,fA,_,Z,.inl<|SqL.of hf7,_,Z,rA,Z,{_,SqL.of yp},Wl (K:=K) (a:=rA) (xs:=zs) (λi ws H8=>Same H7 H8/\i<=(XE ps.f<|Is++Os).f/\PairsV H8 ws (((XE ps.f<|Is++Os).Q i).G λz=>((UC F (mk (Xu n.j<|XR ps Is) (ZB ps z).1):A0),(UC F (mk (Xu n.j<|XR ps Is) (ZB ps z).2):A0)))) {Same.refl _,Qd _,PairsV.nil} (Zk J)
   (λi ws H8 hi zz=>by let(e,Wu,ew):=zz;show{e.seq<|SqL.of yp,by rw[ew.1,Xr,Yw];ext}) ?_ ?_⟩
  .rintro i v ws H8 hi ⟨s8,Vs,tJ⟩ S Xy;let(p,hp,tt,rfl,ht):=Hs.at hi;obtain⟨z,hz,ez⟩:∃z,(XE ps.f<|Is++Os)[i]?=⇑z/\ps.R z.j (0,0)=p:=by
    ext
   let hz1:=(WT.S<|Xo hz).1;obtain⟨p',Hv⟩:∃p,ps[z.j]?=⇑p:={_,Xv<|by ext};let epp:p'=p:=by rw[<-ez,Wf Hv]
   rw[epp]at Hv;let(e1,e2,e3,e4):=g4 p (Xo Hv);let ee:ZB ps z=(p.1.j,p.2.j):=by unfold ZB;rw[Wf Hv]
   let ht8:=s8 _ _ ht;let hn8:=s8 _ _ hn7
   show nm ?_;exists _,Z,_,Z,tt,_,0,.int p.1,Z,Z,SqT.of ht8,Z,nA,_,_,_,Z,Z,SqL.of hn8,Zu (n:=p.1.j) J<|Uo<|nAt p.1 e1 e2,?_;exists _,Z,_,Z,tt,_,1,.int p.2,Z,Z,SqT.of ht8,Z,nA,_,_,_,Z,Z,SqL.of hn8,Zu (n:=p.2.j) J<|Uo<|nAt p.2 e3 e4,(by change 2<=sizeLine;decide),λpp Pq=>?_;show Xy _ _ {s8.l<|XO Pq,D,?_};rw[YB,hz,YE];show(tJ.Y<|XO Pq).snoc {pp,Z,?_};dsimp only;rw[ee];show XT
  rintro ws H8 ⟨s8,_,tJ⟩ la gH;rw[fW,Yv]at tJ;let s9:=XO (o:=.lst ws) gH
  let LI:(upd H8 la<|.lst ws) la=⇑(.lst ws):=XT;let hP9:=tJ.Y s9
  let tI:=s8.l s9;generalize upd H8 la (.lst ws)=H9 at *;let hGc:=ZU8 (f:=λi=>UC F<|mk (Xu n.j<|XR ps Is) i) hG (Is++Os) fZ k1 kn
  intro x fV nx Pp Ob;let t1:Same H9 (upd (upd H9 fV<|.own x) x<|.ins t.A_Web fV []):=Zw (XO Pp) (by rwa[Zd (YZ Ob)])
  exists x,fV,F⁻¹,la,false,ws,_,by rw[Xc];rfl,XT,λo=>?_,hP9.Y t1,hGc,λLH hV k10=>{Z,?_}
  .show SqL.of (by rwa[Zd (Ze LI nx),Zd<|Ze LI nx,Zd (Ze LI Pp)])
  let x9:Same H9 LH:=λb o e=>k10 b o (t1 b o e) (Ze e nx);exists x,_,_,Z,hV,hGc,λc Kg hc Hq=>q c Kg (back c<|j9 hG hJ (λz hz=>UK z<|Kh.mem_iff.S hz) (λi j hi hj=>(hfg i j hi hj).l (uf i j).symm) fZ hgg (by rw[Kh.length_eq];grind)<|by rwa[hfr])<|yd.l<|Pr.l<|tI.l<|x9.l Hq
inductive spZl(K:Ad)(C:A7):_
 |mk (w a n ps kd ns:_) (_:vs=[.ref w,.ref a]) (_:WebAt C H w n ps) (_:ZA n ps) (_:SqK kd K H a (IL ns)) (_:∀b H',Same H H'->(b=A9↔Zn n ps ns)->Q (.bl b) H')
def fU(T:Txt K mg t):Xs P w base XA T.qZl 6 (spZl K t.A_Web):=by
 show T.qZl.okI ["web","ties"] B ⋯
 .let⟨w,a,n,ps,kd,ns,rfl,hW,hG,hS,q⟩:=h;exists _,(XM<|Zj<|Ej (Xz (yj T) hr T.qZb Zv<|XZ (pv 0)<|XZ (pv 1) XY)<|Ej (Us TY (Zf (Zi K) rC T.n_len Boot.«len»<|XZ (pv 1) XY) (Zt TH (Zo K (pv 0) Z) XQ)<|Zp _)<|Jz<|Xz (gy T) hr T.qZg Zv<|XZ (pv 0)<|XZ (pv 1) XY),?_;exists _,Z,_,Z,w,a,n,ps,kd,ns,Z,hW,hS,λb hb=>{b,Z,?_};show bh (λe=>?_) (λe=>?_)
  .let hI:=hb.S e;let(dx,tl,xs,h1,h2,h3):=id hW;exists _,Z,a,_,Z,hS.or,_,Z,w,_,dx,_,_,Z,h1,T.cl_Web,T.n_Web_places,IU _ _,_,_,Z,Z,Z,_,Z,?_;rw[Xc,ZO];show Xl (λhl=>?_) (λhl=>?_)
   .exists _,Z,_,Z,w,a,n,ps,kd,ns,Z,hW,hG,hS,hI,λb2 H' s Ks=>q b2 H' s ?_;rw[Ks,nO J (ZQ hG hI.all)];exists λz=>⟨hI,hl,z⟩,λz=>z.2.2
   .show q false H (Same.refl H) {λz=>(nomatch z),λz=>absurd z.2.1 hl}
  .show q false H (Same.refl H) {λz=>(nomatch z),λz=>by rw[hb.mpr z.1]at e;cases e}
inductive spZm(K:Ad)(C:A7):_
 |mk (w a n ps kd ns:_) (_:vs=[.ref w,.ref a]) (_:WebAt C H w n ps) (_:ZA n ps) (_:SqK kd K H a (IL ns)) (_:(Zn n ps ns->∀H':Hp,Same H H'->Q .non H')) (_:(¬Zn n ps ns->∀H':Hp,Same H H'->False))
def x8(T:Txt K mg t):Xs P w base XA T.qZm 7 (spZm K t.A_Web):=by
 show T.qZm.okI ["web","tree"] B ⋯
 .let⟨w,a,n,ps,kd,ns,rfl,hW,hG,hS,q,qe⟩:=h;show⟨_,(XM (XD (Lj<|MY<|Xz (fU T) hr T.qZl Zv<|XZ (pv 0)<|XZ (pv 1) XY)
   (XM Vn)
   Zm)),?_⟩
  exists _,Z,_,Z,w,a,n,ps,kd,ns,Z,hW,hG,hS,λb H' s hb=>{_,Z,?_};show CV (λz=>?_) (λz=>?_)
  .show q (hb.S z) H' s
  ext
inductive spZn(K:Ad)(C:A7):_
 |mk (w a b n ps ka kb ns os:_) (_:vs=[.ref w,.ref a,.ref b]) (_:WebAt C H w n ps) (_:ZA n ps) (_:SqK ka K H a (IL ns)) (_:SqK kb K H b (IL os)) (_:ns.f<=1000) (_:os.f<=1000) (_:(∀z∈ns++os,0<=z/\z<ps⁻¹)) (_:(((WN n.j ps<|ns++os).Q ns.f≠ns\/((WN n.j ps<|ns++os).f:A0)<n-1)->∀H':Hp,Same H H'->Q .non H')) (_:((WN n.j ps<|ns++os).Q ns.f=ns->¬((WN n.j ps<|ns++os).f:A0)<n-1->∀r ms H',ms.Perm (WN n.j ps<|ns++os)->ms.H (·<=·)->Same H H'->H r=A8->H' r=⇑(.tup<|IL ms)->Q ↑r H'))
def fS(T:Txt K mg t):Xs P w base XA T.qZn 3 (spZn K t.A_Web):=by
 show T.qZn.okI ["web","inside","order","marks","grown","tie","ends"] B ⋯
 .let⟨w,a,b,n,ps,ka,kb,ns,os,rfl,hW,hG,hS,CB,Fj,MG,hI,q0,q1⟩:=h;show⟨_,(XN (Zh 3<|Xz (Qh T) hr T.qZe Zv<|XZ (pv 0)<|XZ (TX XY) XY)
   (XN (Zh 4<|UH XY)
   (XN (Uu YR Z (ZD K<|Zt Dw (Zl (FN K) rC T.n_list Boot.«list»<|XZ (pv 1) XY)<|Zl (FN K) rC T.n_list Boot.«list»<|XZ (pv 2) XY) (Zb 5)
   (XN (Zh 6<|Zz (Zc K) (Zo K (pv 0) Z) (pv 5) λ_ _=>rfl)
   (XM (XD (Zg Sz (Zz (Zc K) (pv 3) (Zz (ZH K) (pv 6) XQ λ_ _=>rfl) λ_ _=>rfl) (Zz (Zc K) (pv 3) (Zz (ZH K) (pv 6) XQ λ_ _=>rfl) λ_ _=>rfl)<|Zp _)
   (XN (Zh 3<|Xz (yi T) hr T.qZd Zv<|XZ (pv 0)<|XZ (pv 3)<|XZ (TX<|XZ (pv 5) XY) XY)
   (XM<|Sd<|UQ K YL JX JY Jf (pv 4)<|XZ (pv 5) XY))
   Zm))))
   (XN (XD (PW.pt<|QI (Zg (oM K<|IY hr) (ZR (ZT K) (pv 4) Rv<|Wh<|Zf (Zi K) rC T.n_len Boot.«len»<|XZ (pv 1) XY) (Zl (FN K) rC T.n_list Boot.«list»<|XZ (pv 1) XY)<|Zp _)<|Ge<|Zg SV (Zf (Zi K) rC T.n_len Boot.«len»<|XZ (pv 4) XY) (Zt TH (Zo K (pv 0) Z) XQ)<|Zp _)
   (XM<|Zj Sf)
   Zm)
   (XM<|Zj<|Zl (ZS K) rC T.n_tuple Boot.«tuple»<|XZ (Zf (n4 K) rC T.n_sorted Boot.«sorted»<|XZ (pv 4) XY) XY))))),?_⟩
  let(g1,g2,g3,g4):=id hG;let one:1<=sizeLine:=Ep
  exists _,Z,Qd _,λr0 Vr=>?_;let s0:=XO (o:=.tup []) Vr
  exists w,r0,n,ps,[],Z,hW.Y s0,hG,SqT.of XT,λ_ e=>(nomatch e),λm H1 s1 Qi Sv=>?_;let s01:=s0.l s1
  exists Qd _,λgl hgl=>?_;let s2:=XO (o:=.lst []) hgl
  let Nt:=s01.l s2;let hgf:=s01.free hgl
  exists _,Z,a,_,Z,(hS.Y Nt).or,λl1 SH=>?_;let s3:=XO (o:=.lst<|IL ns) SH
  let s03:=Nt.l s3;exists _,Z,b,_,Z,(CB.Y s03).or,λl2 Ru=>?_;let s4:=XO (o:=.lst<|IL os) Ru
  let fX:=s03.l s4;exists l1,l2,_,_,Z,Z,s4 _ _ XT,XT,PK D,λcl OA=>?_;let s5:=XO (o:=.lst<|IL ns++IL os) OA
  let yd:=fX.l s5;let eI:IL ns++IL os=IL (ns++os):=(oS _ _).symm
  let x6:=s5 _ _ (s4 _ _<|s3 _ _<|XT (H:=H1) (a:=gl) (o:=.lst []));let tH:=s5 _ _ (s4 _ _<|s3 _ _<|s2 _ _ Sv)
  let Ho:=XT (H:=upd (upd (upd H1 gl<|.lst []) l1<|.lst<|IL ns) l2<|.lst<|IL os) (a:=cl) (o:=.lst<|IL ns++IL os);let ncg:cl≠gl:=λe=>by rw[e]at OA;show absurd ((s4 _ _<|s3 _ _<|XT (H:=H1) (a:=gl) (o:=.lst [])).symm.l OA) Eo
  let nmg:m≠gl:=λe=>by ext
  rw[eI]at s5 yd x6 tH Ho ⊢;show⟨cl,Z,{_,SqL.of Ho},MT (K:=K) (a:=cl) (xs:=IL<|ns++os) (λi σ H2=>∃mc v5 v6,σ=[some ↑w,some<|.ref a,some<|.ref b,some<|.ref mc,some<|.ref gl,v5,v6]/\Same H H2/\mc≠gl/\
    H2 cl=⇑(.lst<|IL<|ns++os)/\H2 mc=⇑(.lst<|IL<|Xu n.j<|XR ps<|WN n.j ps<|(ns++os).Q i)/\H2 gl=⇑(.lst<|IL<|WN n.j ps<|(ns++os).Q i))
   ⟨m,none,none,Z,yd,nmg,Ho,tH,x6⟩ (λi σ H2 _ zz=>by let(_,_,_,_,_,_,e,_):=zz;show SqL.of e) ?_ ?_⟩
  .rintro i x σ H2 hi ⟨mc,v5,v6,rfl,s2,XJ,Vm,WO,LX⟩;let(z,rfl,hz):=Um hi;let(z0,z1):=hI z (Xo hz);let hIt:∀y∈(ns++os).Q i,0<=y/\y<ps⁻¹:=λy hy=>hI y (Gx hy)
   let est:(ns++os).Q (i+1)=(ns++os).Q i++[z]:=by rw[YB,hz];rfl
   let eG:WN n.j ps ((ns++os).Q (i+1))=QB n.j ps (WN n.j ps<|(ns++os).Q i) z:=by rw[est,KO]
   let Wo:=QA hG hIt;let xZ:=Cq hG hIt
   generalize WN n.j ps ((ns++os).Q i)=G at *;let(dx,tl,xs,h1,h2,h3):=hW.Y s2;obtain⟨p,hp⟩:∃p,ps[z.j]?=⇑p:={_,Xv J};let(v,hv,tt,rfl,Vq):=h3.2 z.j p hp;let(e1,e2,e3,e4):=g4 p (Xo hp);let ed:ZB ps z=(p.1.j,p.2.j):=by unfold ZB;rw[Wf hp]
   let hl:(Xu n.j<|XR ps G).f=n.j:=ZF _ _;let iA:Wy (IL<|Xu n.j<|XR ps G) p.1=⇑(.int<|mk (Xu n.j<|XR ps G) p.1.j):=Zu (n:=p.1.j) J (Uo<|QE D)
   let iB:Wy (IL<|Xu n.j<|XR ps G) p.2=⇑(.int<|mk (Xu n.j<|XR ps G) p.2.j):=Zu (n:=p.2.j) J (Uo<|QE D);let t0:Wy ([.int p.1,.int p.2]:A6 V) 0=⇑(.int p.1):=rfl
   let t1:Wy ([.int p.1,.int p.2]:A6 V) 1=⇑(.int p.2):=rfl;let key:mk (Xu n.j<|XR ps G) p.1.j=mk (Xu n.j<|XR ps G) p.2.j↔mk (WW n.j<|XR ps G) (ZB ps z).1=mk (WW n.j<|XR ps G) (ZB ps z).2:=by rw[ed,QC Wo D D,Wd Wo D D]
   exists _,Z,w,_,dx,_,_,Z,h1,T.cl_Web,T.n_Web_ties,Ul _ _,_,Z,tl,xs,z,.ref tt,Z,Z,SqL.of h2,Zu (n:=z.j) J hv,?_;exists _,Z,_,Z,tt,_,0,_,Z,Z,SqT.of Vq,t0,mc,_,p.1,_,Z,Z,SqL.of WO,iA,_,Z,_,Z,tt,_,1,_,Z,Z,SqT.of Vq,t1,mc,_,p.2,_,Z,Z,SqL.of WO,iB,Z,_,Z,?_;rw[ZO];show WC (λhe=>?_) (λhe=>?_)
   .exists mc,_,_,Z,s2,XJ,Vm,?_,?_
    .rw[eG];unfold QB;rwa[Yk (key.S he)]
    .rw[eG];unfold QB;rwa[Yk (key.S he)]
   .let eG2:WN n.j ps ((ns++os).Q (i+1))=G++[z]:=by rw[eG];unfold QB;rw[Yh λe=>he (key.mpr e)]
    exists _,Z,_,Z,_,Z,one,λp2 Wn=>?_;let s6:=XO (o:=.tup [.int z]) Wn
    show{w,mc,p2,n,ps,_,true,[z],Z,(hW.Y s2).Y s6,hG,s6 _ _ WO,hl,SqT.of XT,λy hy=>by rw[Xd.S hy];show⟨z0,z1⟩,λm' H7 s7 hf Fd=>?_};let fR:=s6.l s7
    let hg7:=fR _ _ LX;let hc7:=fR _ _ Vm
    let nm':m'≠gl:=by
     rcases hf with rfl|hf
     .show XJ
     .show λe=>absurd ((s6 _ _ LX).symm.l (e▸hf)) Eo
    exists _,Z,.inl {Z,_,SqL.of hg7},_,Z,gl,_,_,Z,Z,hg7,Zk (by rw[Xc];lia),?_;exists m',_,_,Z,Zy hgf<|s2.l fR,nm',?_,?_,?_
    .rw[Zd ncg];show hc7
    .rw[Zd nm',Fd,eG2,IC,oB];rfl
    .rw[XT,eG2,ZV]
  .rintro σ H2 ⟨mc,v5,v6,rfl,s2,XJ,Vm,WO,LX⟩;rw[Xc,Yv]at LX;let xZ:=Cq hG hI
   generalize WN n.j ps (ns++os)=G at *;exists _,Z,_,Z,a,_,Z,(hS.Y s2).or,_,Z,gl,_,Z,SqL.of LX,λr1 VT=>?_;let ec:Xi (IL G) none ⇑((IL ns).f:A0)=IL (G.Q ns.f):=by rw[Mp J,VP,Xc,CW]
   rw[ec];let s3:=XO (o:=.lst<|IL<|G.Q ns.f) VT
   exists _,Z,a,_,Z,(hS.Y<|s2.l s3).or,λr2 Vc=>?_;let s4:=XO (o:=.lst<|IL ns) Vc
   exists 1,_,r1,r2,Z,Z,Ep,aT (SqL.of<|s4 _ _ XT)<|SqL.of XT,_,Z,?_;let Kf:=s2.l (s3.l s4)
   show WC (λhe=>?_) (λhe=>?_)
   .let⟨dx,tl,xs,h1,h2,h3⟩:=hW.Y Kf;let hg4:=s4 _ _ (s3 _ _ LX)
    exists _,Z,gl,_,Z,.inl<|SqL.of hg4,_,Z,w,_,dx,_,_,Z,h1,T.cl_Web,T.n_Web_places,IU _ _,_,_,Z,Z,_,_,Z,Z,_,Z,?_;rw[Xc];show Xl (λhc=>?_) (λhc=>?_)
    .show q0 (.inr hc) _ Kf
    .exists _,Z,gl,G,Z,SqL.of hg4,J,λms VD Wn l hl=>?_;let s5:=XO (o:=.lst<|IL ms) hl
     exists l,_,Z,.inl {SqL.of XT,λr hr=>?_};show q1 he hc r ms _ VD Wn ((Kf.l s5).l (XO hr)) ((Kf.l s5).free hr) XT
   .show UT ?_;show q0 (.inl he) _ Kf
inductive spZo(K:Ad)(C:A7):_
 |mk (w a n ps kd ns z:_) (_:vs=[.ref w,.ref a,.int z]) (_:WebAt C H w n ps) (_:ZA n ps) (_:SqK kd K H a (IL ns)) (_:IsSet ps.f ns) (_:∀r H',Same H H'->H r=A8->H' r=⇑(.tup<|IL<|unlike (WW n.j<|XR ps<|wo ns z) ps ps.f)->Q ↑r H')
def fQ:FnScope ["web","tree","tie","marks"] ["web","tree","tie"] (Za (top 48)):=To B
def fP(T:Txt K mg t):Xs P w base XA T.qZo 3 (spZo K t.A_Web):=by
 show T.qZo.okI ["web","tree","tie","marks"] B ⋯
 .let⟨w,a,n,ps,kd,ns,z,rfl,hW,hG,hS,hI,q⟩:=h;show⟨_,(XN (Sb (i:=3) fQ.nd Z (Or.inr Z)<|Xz (Qh T) hr T.qZe Zv<|XZ (pv 0)<|XZ (Xz (yk T) hr T.qZa Zv<|XZ (pv 1)<|XZ (pv 2) XY) XY)
   (XM<|Zj<|Zl (ZS K) rC T.n_tuple Boot.«tuple»<|XZ (Vd Z (sc0:=Za<|top 48) (N0:=["web","tree","tie","marks"]) (N':=["number","ends","marks"]) (o:=2) (fr:=[3]) ⟨Z,B,B,B,Z,B⟩ (FL K Z T.n_enumerate<|XZ (Zo K (pv 0) Z) XY) (Dj<|NH Ep<|NH Ep Dk) (λ_ _ _ _=>(Uj (n:=2) K Z<|ZC (Zb 0)<|ZC (Zb 1) Uv)) (λ_ _ _ _=>(PN<|Zg Sz (Zz (Zc K) (pv 2) (Zz (ZH K) (pv 1) XQ λ_ _=>rfl) λ_ _=>rfl) (Zz (Zc K) (pv 2) (Zz (ZH K) (pv 1) XQ λ_ _=>rfl) λ_ _=>rfl)<|Zp _)) λ_ _ _ _=>(pv 0)) XY)),?_⟩
  let(g1,g2,g3,g4):=id hG;let hln:=hI.len
  let hb:∀y∈wo ns z,0<=y/\y<ps⁻¹:=λy hy=>hI.all y (Xk.S hy).1;exists _,Z,_,Z,_,Z,a,kd,ns,z,Z,hS,J,λr1 H1 s1 Vr VT=>?_;exists w,r1,n,ps,wo ns z,Z,hW.Y s1,hG,SqT.of VT,hb,λm H2 s2 Qi WO=>?_;let Wo:=ZQ hG hb
  let e0:=ZO6 (M:=Xu n.j<|XR ps<|wo ns z) hG (ZF _ _) (vo Wo);let hl:(Xu n.j<|XR ps<|wo ns z).f=n.j:=ZF _ _
  rw[<-e0]at q;generalize Xu n.j (XR ps<|wo ns z)=M at *;let Wq:=s1.l s2
  let(dx,tl,xs,h1,h2,h3):=hW.Y Wq;let Qy:=h3.1
  show⟨_,Z,w,_,dx,_,_,Z,h1,T.cl_Web,T.n_Web_ties,Ul _ _,tl,Z,{_,SqL.of h2},Mt (K:=K) (a:=tl) (xs:=xs) (λi ys H3=>Same H2 H3/\i<=xs.f/\ys=IL (unlike M ps i)) {Same.refl _,Qd _,Z} (Zk J)
   (λi ys H3 _ zz=>by let(e,_,ey):=zz;show{SqL.of<|e _ _ h2,by rw[ey,Xc];show Zo7 _ _ _}) ?_ ?_⟩
  .rintro i x ys H3 pt RG hi ⟨s3,Vs,rfl⟩ S Xy;let(p,OP,tt,rfl,Vq):=h3.at hi;let(e1,e2,e3,e4):=g4 p (Xo OP);let Xp:i<xs.f:=(Xx.S hi).1
   let s4:Same H3 (upd H3 pt<|.tup [.int i,.ref tt]):=XO RG;let Sq:=s3.l s4
   let Oa:=Sq _ _ Vq;let xY:=Sq _ _ WO
   let ed:ps.R i (0,0)=p:=Wf OP;let t0:Wy ([.int p.1,.int p.2]:A6 V) 0=⇑(.int p.1):=rfl
   let t1:Wy ([.int p.1,.int p.2]:A6 V) 1=⇑(.int p.2):=rfl;let iA:Wy (IL M) p.1=⇑(.int<|mk M p.1.j):=Zu (n:=p.1.j) J (Uo<|QE D)
   let iB:Wy (IL M) p.2=⇑(.int<|mk M p.2.j):=Zu (n:=p.2.j) J (Uo<|QE D);exists pt,_,Z,SqT.of XT,Z,_,_,Z,_,_,Z,Z,?_;exists _,Z,_,Z,tt,_,0,_,Z,Z,SqT.of Oa,t0,m,_,p.1,_,Z,Z,SqL.of xY,iA,_,Z,_,Z,tt,_,1,_,Z,Z,SqT.of Oa,t1,m,_,p.2,_,Z,Z,SqL.of xY,iB,Z,_,Z,?_;rw[ZO];show WC (λhe=>?_) (λhe=>?_)
   .show Xy _ _ {Sq,Xp,?_};rw[aL,ed,Yh J,YO]
   .exists _,Z,Xy _ _ {Sq,Xp,?_};rw[aL,ed,Yk he,ZV]
  .rintro ys H3 ⟨s3,_,rfl⟩ p hp;rw[Qy];exists p,_,Z,.inl {SqL.of XT,λr hr=>?_};show q r _ (Wq.l<|s3.l<|Zw (XO hp) hr) ((Wq.l<|s3.l<|XO hp).free hr) XT
inductive spZp(K:Ad)(C:A7):_
 |mk (w a n ps kd ns z:_) (_:vs=[.ref w,.ref a,.int z]) (_:WebAt C H w n ps) (_:ZA n ps) (_:SqK kd K H a (IL ns)) (_:-(10^70)<z) (_:z<10^70) (_:(Zn n ps ns->z∉ns->0<=z->z<ps⁻¹->∀ms,ms.Perm (SQ n ps ns z ns++[z])->ms.H (·<=·)->∀r H',Same H H'->H r=A8->H' r=⇑(.tup<|IL ms)->Q ↑r H')) (_:(Zn n ps ns->(z∈ns\/¬(0<=z/\z<ps⁻¹))->∀H':Hp,Same H H'->False)) (_:(¬Zn n ps ns->∀H':Hp,Same H H'->False))
def fO(T:Txt K mg t):Xs P w base XA T.qZp 8 (spZp K t.A_Web):=by
 show T.qZp.okI ["web","tree","tie"] B ⋯
 .let⟨w,a,n,ps,kd,ns,z,rfl,hW,hG,hS,z0,z1,q,q1,q2⟩:=h;show⟨_,(XN (Sd<|Xz (x8 T) hr T.qZm Zv<|XZ (pv 0)<|XZ (pv 1) XY)
   (XN (XD (PW.pt<|QI (Zg (FP K) (pv 2) (pv 1) Z)<|Ge<|Lj<|MY<|Xz (yn T) hr T.qZ6 Zv<|XZ (pv 0)<|XZ (pv 2) XY)
   (XM Vn)
   Zm)
   (XM<|Zj<|Zl (ZS K) rC T.n_tuple Boot.«tuple»<|XZ (Zf (n4 K) rC T.n_sorted Boot.«sorted»<|XZ (Zt Dw (Vd Z (sc0:=Za<|top 49) (N0:=["web","tree","tie"]) (N':=["out","tie","web","tree"]) (o:=1) (fr:=[2,0,1]) ⟨Z,B,B,B,Z,B⟩ (Uk K<|pv 1) (Zs Ep) (λ_ _ _ _=>(Zb 0)) (λ_ _ _ _=>(PN<|Zg (FP K) (pv 1) (Xz (fP T) hr T.qZo Zv<|XZ (pv 2)<|XZ (pv 3)<|XZ (pv 0) XY) Z)) λ_ _ _ _=>(pv 0))<|UH<|XZ (pv 2) XY) XY) XY))),?_⟩
  exists _,Z,_,Z,w,a,n,ps,kd,ns,Z,hW,hG,hS,λhT H1 s1=>?_,q2;let one:1<=sizeLine:=Ep
  let tl:ns.f<=20:=by have:=hT.2.1;have:=hG.2.1;lia
  exists _,Z,_,Z,a,_,Z,(hS.Y s1).or,Z,Mz _,_,Z,?_;rw[MA];show Xl (λhc=>?_) (λhc=>?_)
  .show UT (q1 hT (.inl hc) H1 s1)
  .exists _,Z,_,Z,w,n,ps,z,Z,hW.Y s1,_,Z,?_;show WC (λht=>?_) (λht=>?_)
   .show⟨_,Z,a,Z,CS (k:=kd) (K:=K) (xs:=IL ns) (λi ys H2=>Same H1 H2/\i<=ns.f/\ys=IL (SQ n ps ns z<|ns.Q i)) {Same.refl _,Qd _,Z} (Zk<|by rw[Xc];lia)
     (λi ys H2 hi zz=>by let(e,Wu,ey):=zz;show{(hS.Y s1).Y e,by rw[ey,Xc];show Yq (FH ..)<|by ext}) ?_ ?_⟩
    .rintro i x ys H2 hi ⟨s2,Vs,rfl⟩ S Xy;let(y,rfl,hy):=Um hi;let Xp:i<ns.f:=(Xx.S hy).1
     let Wq:=s1.l s2;show nm ?_;exists _,Z,_,Z,_,Z,_,Z,w,a,n,ps,kd,ns,y,Z,hW.Y Wq,hG,hS.Y Wq,hT.1,λr H3 s3 Vr So=>?_;exists r,_,Z,.inr<|SqT.of So,Z,Mz _,_,Z,?_;rw[MA];show Xl (λhe=>?_) (λhe=>?_)
     .exists _,Z,Xy _ _ {s2.l s3,Xp,?_};rw[aJ hy,Yk he,ZV]
     .show Xy _ _ {s2.l s3,Xp,?_};rw[aJ hy,Yh he,YO]
    .rintro ys H2 ⟨s2,_,rfl⟩ p hp;rw[Xc,Yv];let rl:=FH n ps ns z ns
     exists _,Z,one,λp2 Wn=>?_;show n6 (l2:=[z]) (by rw[Zd (Ze XT Wn)];show XT) XT D λp3 Tb=>?_;exists p3,_,Z,SqL.of XT,D,λms Tu Mr p4 Px=>?_;exists p4,IL ms,Z,.inl {SqL.of XT,λr hr=>?_};let s6:=(s1.l s2).l (Zw (Zw (XO (o:=.lst<|IL<|SQ n ps ns z ns) hp) (o:=.lst<|IL [z]) Wn) (o:=.lst<|IL<|SQ n ps ns z ns++[z]) Tb)
     show q hT hc ht.1 ht.2 ms Tu Mr r _ (s6.l<|Zw (XO Px) hr) ((s6.l<|XO Px).free hr) XT
   .show q1 hT (.inr ht) H1 s1
inductive spZq(K:Ad)(C:A7):_
 |mk (w a b n ps I O:_) (_:vs=[.ref w,.ref a,.ref b]) (_:WebAt C H w n ps) (_:ZA n ps) (_:SqT K H a (IL I)) (_:SqT K H b (IL O)) (_:I.Nodup) (_:(∀z∈I,0<=z/\z<ps⁻¹)) (_:(∀z∈I,z∉O)) (_:(∀H':Hp,Same H H'->(∀U,¬With n ps I O U)->Q .non H')) (_:(∀r F H',Same H H'->H' r=⇑(.tup<|IL F)->With n ps I O F->(∀U,With n ps I O U->HT.lexLt U F=B0)->Q ↑r H'))
def xX(T:Txt K mg t):Xs P w base XA T.qZq 4 (spZq K t.A_Web):=by
 show T.qZq.okI ["web","inside","outside"] B ⋯
 .let⟨w,a,b,n,ps,I,O,rfl,hW,hG,hA,hB,hIn,Xt,hd,q0,q1⟩:=h;exists _,(XM<|Zj<|Xz (fS T) hr T.qZn Zv<|XZ (pv 0)<|XZ (pv 1)<|XZ (Xz (gI T) hr T.qZ9 Zv<|XZ (pv 0)<|XZ (pv 2) XY) XY),?_;let g3:=hG.2.2.1
  exists _,Z,_,Z,_,Z,_,Z,w,b,n,ps,true,O,Z,hW,J,hB,λrj hDa hD dA H1 s1 fN=>?_;let hDs:IsSet ps.f rj:=XW.mpr {λz hz=>((hD z).S hz).1,hDa}
  let hb:∀z∈I++rj,0<=z/\z<ps⁻¹:=λz hz=>(Xn.S hz).elim (Xt z) λh=>((hD z).S h).1;let il:I.f<=ps.f:=by
   have:=Fv (m:=Vu ps.f) hIn λz hz=>Xh.mpr (Xt z hz)
   rwa[ZZ]at this
  let dl:=hDs.len;exists w,a,dA,n,ps,true,true,I,rj,Z,hW.Y s1,hG,La s1 hA,SqT.of fN,J,J,hb,λh H2 s2=>q0 H2 (s1.l s2) λU hU=>?_,λht hl r ms H2 Tu Mr s2 Vr hr=>?_
  .have:=mK hG hU.1 hIn hU.2.1 (hU.sub hD) hb
   ext
  .let hF:With n ps I O ms:={mL hG hb hl Tu Mr,λz hz=>Tu.mem_iff.mpr<|Gx<|ht▸hz,λz hz h=>(Xn.S<|(uY _ _ _).subset (Tu.mem_iff.S h)).elim (λh=>hd z h hz) λh=>((hD z).S h).2 hz};show q1 r ms H2 (s1.l s2) hr hF λU hU=>Zp8 hG hU.1 hU.2.1 (hU.sub hD) hb hDa hF.1 Tu hF.2.1
inductive spZr(K:Ad)(C:A7):_
 |mk (w m n ps M z:_) (_:vs=[.ref w,.ref m,.int z]) (_:WebAt C H w n ps) (_:ZA n ps) (_:H m=⇑(.lst<|IL M)) (_:M.f=n.j) (_:0<=z) (_:z<ps⁻¹) (_:∀r l H',l.Perm [mk M (ps.R z.j (0,0)).1.j,mk M (ps.R z.j (0,0)).2.j]->l.H (·<=·)->Same H H'->H' r=⇑(.lst<|IL l)->Q ↑r H')
def xW(T:Txt K mg t):Xs P w base XA T.qZr 1 (spZr K t.A_Web):=by
 show T.qZr.okI ["web","marks","tie","ends"] B ⋯
 .let⟨w,m,n,ps,M,z,rfl,hW,hG,hM,Pu,z0,z1,q⟩:=h;show⟨_,(XN (Zh 3<|Zz (Zc K) (Zo K (pv 0) Z) (pv 2) λ_ _=>rfl)
   (XM<|Zj<|Zf (n4 K) rC T.n_sorted Boot.«sorted»<|XZ (UH<|XZ (Zz (Zc K) (pv 1) (Zz (ZH K) (pv 3) XQ λ_ _=>rfl) λ_ _=>rfl)<|XZ (Zz (Zc K) (pv 1) (Zz (ZH K) (pv 3) XQ λ_ _=>rfl) λ_ _=>rfl) XY) XY)),?_⟩
  let(g1,g2,g3,g4):=id hG;let(dx,tl,xs,h1,h2,h3):=id hW;obtain⟨p,hp⟩:∃p,ps[z.j]?=⇑p:={_,Xv<|by ext};let ep:ps.R z.j (0,0)=p:=Wf hp
  rw[ep]at q;let(v,hv,tt,rfl,Vq):=h3.2 _ p hp;let(e1,e2,e3,e4):=g4 p (Xo hp);let t0:Wy ([.int p.1,.int p.2]:A6 V) 0=⇑(.int p.1):=rfl
  let t1:Wy ([.int p.1,.int p.2]:A6 V) 1=⇑(.int p.2):=rfl;let iA:Wy (IL M) p.1=⇑(.int<|mk M p.1.j):=Zu (n:=p.1.j) J (Uo<|QE D)
  let iB:Wy (IL M) p.2=⇑(.int<|mk M p.2.j):=Zu (n:=p.2.j) J (Uo<|QE D);exists _,Z,w,_,dx,_,_,Z,h1,T.cl_Web,T.n_Web_ties,Ul _ _,_,Z,tl,_,_,.ref tt,Z,Z,SqL.of h2,Zu (n:=z.j) J hv,?_;show nm ?_;exists _,Z,_,Z,tt,_,0,_,Z,Z,SqT.of Vq,t0,m,_,p.1,_,Z,Z,SqL.of hM,iA,_,Z,_,Z,tt,_,1,_,Z,Z,SqT.of Vq,t1,m,_,p.2,_,Z,Z,SqL.of hM,iB,(by change 2<=sizeLine;decide),λa ha=>?_;let s1:=XO (o:=.lst<|IL [mk M p.1.j,mk M p.2.j]) ha
  exists a,[mk M p.1.j,mk M p.2.j],Z,SqL.of XT,(by change 2<64;decide),λl hl hs r hr=>?_;show q r l _ hl hs (s1.l<|XO hr) XT
inductive spZs(K:Ad)(C:A7):_
 |mk (w m a n ps M g:_) (_:vs=[.ref w,.ref m,.ref a]) (_:WebAt C H w n ps) (_:ZA n ps) (_:H m=⇑(.lst<|IL M)) (_:M.f=n.j) (_:SqT K H a (IL g)) (_:∀r H',Same H H'->H r=A8->H' r=⇑(.lst<|IL<|LW M ps g ps.f)->Q ↑r H')
def xV(T:Txt K mg t):Xs P w base XA T.qZs 1 (spZs K t.A_Web):=by
 show T.qZs.okI ["web","marks","gone"] B ⋯
 .let⟨w,m,a,n,ps,M,g,rfl,hW,hG,hM,Pu,hA,q⟩:=h;exists _,(XM<|Zj<|Vd Z (sc0:=Za<|top 66) (N0:=["web","marks","gone"]) (N':=["tie","ends","gone","marks"]) (o:=2) (fr:=[2,1]) ⟨Z,B,B,B,Z,B⟩ (FL K Z T.n_enumerate<|XZ (Zo K (pv 0) Z) XY) (Dj<|NH Ep<|NH Ep Dk) (λ_ _ _ _=>(Uj (n:=2) K Z<|ZC (Zb 0)<|ZC (Zb 1) Uv)) (λ_ _ _ _=>(PN<|PW.pt<|Lk (Zg (FO K) (pv 0) (pv 2) Z)<|Ll<|Zg Sz (Zz (Zc K) (pv 3) (Zz (ZH K) (pv 1) XQ λ_ _=>rfl) λ_ _=>rfl) (Zz (Zc K) (pv 3) (Zz (ZH K) (pv 1) XQ λ_ _=>rfl) λ_ _=>rfl)<|Zp _)) λ_ _ _ _=>(pv 0)),?_;let(g1,g2,g3,g4):=id hG;let(dx,tl,xs,h1,h2,h3):=id hW;let Qy:=h3.1
  show⟨_,Z,w,_,dx,_,_,Z,h1,T.cl_Web,T.n_Web_ties,Ul _ _,tl,Z,{_,SqL.of h2},Mt (K:=K) (a:=tl) (xs:=xs) (λi ys H3=>Same H H3/\i<=xs.f/\ys=IL (LW M ps g i)) {Same.refl _,Qd _,Z} (Zk J)
   (λi ys H3 _ h=>by let(e,_,ey):=h;show{SqL.of<|e _ _ h2,by rw[ey,Xc];show i3 _ _ _ _}) ?_ ?_⟩
  .rintro i x ys H3 pt RG hi ⟨s3,Vs,rfl⟩ S Xy;let(p,OP,tt,rfl,Vq):=h3.at hi;let(e1,e2,e3,e4):=g4 p (Xo OP);let Xp:i<xs.f:=(Xx.S hi).1
   let s4:Same H3 (upd H3 pt<|.tup [.int i,.ref tt]):=XO RG;let Sq:=s3.l s4
   let Oa:=Sq _ _ Vq;let xY:=Sq _ _ hM
   let Ki:=SqK.Y (k:=A9) Sq hA;let ed:ps.R i (0,0)=p:=Wf OP
   let t0:Wy ([.int p.1,.int p.2]:A6 V) 0=⇑(.int p.1):=rfl;let t1:Wy ([.int p.1,.int p.2]:A6 V) 1=⇑(.int p.2):=rfl
   let iA:Wy (IL M) p.1=⇑(.int<|mk M p.1.j):=Zu (n:=p.1.j) J (Uo<|QE D);let iB:Wy (IL M) p.2=⇑(.int<|mk M p.2.j):=Zu (n:=p.2.j) J (Uo<|QE D)
   let hs:=i4 M ps g i;rw[ed]at hs;exists pt,_,Z,SqT.of XT,Z,_,_,Z,_,_,Z,Z,?_;exists _,Z,_,Z,a,_,Z,.inr Ki,Z,Mz _,_,Z,?_;rw[MA];show WC (λhe=>?_) (λhe=>?_)
   .show Xy _ _ {Sq,Xp,?_};rw[hs,Yh λh=>h.1 he,YO]
   exists _,Z,_,Z,tt,_,0,_,Z,Z,SqT.of Oa,t0,m,_,p.1,_,Z,Z,SqL.of xY,iA,_,Z,_,Z,tt,_,1,_,Z,Z,SqT.of Oa,t1,m,_,p.2,_,Z,Z,SqL.of xY,iB,Z,_,Z,?_;rw[ZO];show WC (λhx=>?_) (λhx=>?_)
   .grind
   .exists _,Z,Xy _ _ {Sq,Xp,?_};rw[hs,Yk ⟨he,hx⟩,ZV]
  .rintro ys H3 ⟨s3,_,rfl⟩ p hp;rw[Qy];show q p _ (s3.l<|XO hp) (s3.free hp) XT
inductive sp_Part_init(K:Ad)(CP C Pt:A7):_
 |mk (x dx w a b n ps I O ld:_) (_:vs=[.ref x,.ref w,.ref a,.ref b,WK ld]) (_:H x=⇑(.ins CP dx [])) (_:WebAt C H w n ps) (_:ZA n ps) (_:Xw H Pt) (_:SqT K H a (IL I)) (_:SqT K H b (IL O)) (_:I.Nodup) (_:(∀z∈I,0<=z/\z<ps⁻¹)) (_:(∀z∈I,z∉O)) (_:O.f<=30) (_:(∃U,With n ps I O U)) (_:(∀y,ld=⇑y->0<=y/\y<ps⁻¹)) (_:(ld=A8->∀F,With n ps I O F->(∀U,With n ps I O U->HT.lexLt U F=B0)->WQ n ps I O F=[])) (_:∀F inc fu l i H',With n ps I O F->(∀U,With n ps I O U->HT.lexLt U F=B0)->Rc (λz=>PyProof.Rows.b2i<|decide<|ld=⇑z) (Sr n ps I O F ld) inc->(fu=A8↔VC n ps I O F ld=[])->(∀y,fu=⇑y->y∈VC n ps I O F ld/\∀z∈VC n ps I O F ld,y<=z)->H' x=⇑(.ins CP dx<|uc ↑w ↑a ↑b (WK ld) ↑l ↑i<|WK fu)->H' l=⇑(.tup<|IL F)->H' i=⇑(.lst<|IL inc)->(∀b o,b≠x->b≠Pt->H b=⇑o->H' b=⇑o)->Xw H' Pt->Q .non H')
def LG:FnScope ["self","web","kept","shut","lead","marks","opened","alike","unlike"] ["self","web","kept","shut","lead"] (Za sZt):=To B
def Hn(T:Txt K mg t)(hB:Wr K mg base t.dZt Pt):FnOk P w K mg base XA 8 t.aZt t.dZt ["self","web","kept","shut","lead"] (sp_Part_init K t.A_Part t.A_Web Pt):=by
 let(cA,TQ,hC,hBa,Ah):=hB;show T.fZt.okL TQ LG (λvs H Q E h=>?_) (λA outer s H vs Q E hr h=>?_)
 .let⟨x,dx,w,a,b,n,ps,I,O,ld,rfl,_⟩:=h;rfl
 .let⟨x,dx,w,a,b,n,ps,I,O,ld,rfl,hx,hW,hG,hT,hA,QZ,hIn,Xt,UK,Po,⟨U0,Fc⟩,yQ,Sx,q⟩:=h;show⟨_,(XN (NI (pv 0) (pv 1) Z)
   (XN (NI (pv 0) (pv 2) Z)
   (XN (NI (pv 0) (pv 3) Z)
   (XN (NI (pv 0) (pv 4) Z)
   (XN (NI (pv 0) (Xz (xX T) hr T.qZq Zv<|XZ (pv 1)<|XZ (pv 2)<|XZ (pv 3) XY) Z)
   (XN (Sb (i:=5) LG.nd Z (Or.inr Z)<|Xz (Qh T) hr T.qZe Zv<|XZ (pv 1)<|XZ (pv 2) XY)
   (XN (Zh 6<|Xz (xV T) hr T.qZs Zv<|XZ (pv 1)<|XZ (pv 5)<|XZ (Zt (RR K) (Zt (RR K) (pv 2)<|pv 3)<|Zo K (pv 0) Z) XY)
   (XN (Sb (i:=7) LG.nd Z (Or.inr Z)<|Vd Z (sc0:=Za sZt) (N0:=["self","web","kept","shut","lead","marks","opened","alike","unlike"]) (N':=["tie","web","marks","lead"]) (o:=1) (fr:=[1,5,4]) ⟨Z,B,B,B,Z,B⟩ (ZD K<|pv 6) (Zs Ep) (λ_ _ _ _=>(Zb 0)) (λ_ _ _ _=>(PN<|Zg (oN K<|IY hr) (Xz (xW T) hr T.qZr Zv<|XZ (pv 1)<|XZ (pv 2)<|XZ (pv 0) XY) (Xz (xW T) hr T.qZr Zv<|XZ (pv 1)<|XZ (pv 2)<|XZ (pv 3) XY)<|Zp _)) λ_ _ _ _=>(pv 0))
   (XN (PL (i:=8) Z LG.nd Z Z (sc0:=Za sZt) (N0:=["self","web","kept","shut","lead","marks","opened","alike","unlike"]) (N':=["tie","alike"]) (o:=1) (fr:=[7]) ⟨Z,B,B,B,Z,B⟩ (ZD K<|pv 6) (Zs Ep) (λ_ _ _ _=>(Zb 0)) (λ_ _ _ _=>(PN<|Zg (FO K) (pv 0) (pv 1) Z)) λ_ _ _ _=>(pv 0))
   (XN (NI (pv 0) (ZW6 (k:=0) (i:=4) (v:="tie") (x:="lead") (pv 7) rC T.n_sorted (hr.mono Ep) rfl rfl hC hBa Ah (LamScope.of rfl rfl rfl (by first|show .inl rfl|show .inr rfl) Ep) rfl rfl (λ_ _ _ _=>rfl) rfl rfl rfl λ_ _ _ _ _ _ hr=>(Us TY (pv 0) (pv 1)<|Zp _)) rfl)
   (XM<|NI (pv 0) (zq Z rC T.n_min<|pv 8) Z))))))))))),?_⟩
  let(g1,g2,g3,g4):=id hG;exists _,Z,_,Z,x,_,dx,[],Z,hx,T.cl_Part,T.n_Part_web,Ep,?_;exists _,Z,_,Z,x,_,dx,_,Z,XT,T.cl_Part,T.n_Part_kept,(by change 1<1000;decide),?_;exists _,Z,_,Z,x,_,dx,_,Z,XT,T.cl_Part,T.n_Part_shut,(by change 2<1000;decide),?_;exists _,Z,_,Z,x,_,dx,_,Z,XT,T.cl_Part,T.n_Part_lead,(by change 3<1000;decide),?_;let RF:SameX x H (upd (upd (upd (upd H x<|.ins t.A_Part dx<|XC "web" ↑w []) x<|.ins t.A_Part dx<|XC "kept" ↑a<|XC "web" ↑w []) x<|.ins t.A_Part dx<|XC "shut" ↑b<|XC "kept" ↑a<|XC "web" ↑w []) x<|.ins t.A_Part dx<|XC "lead" (WK ld)<|XC "shut" ↑b<|XC "kept" ↑a<|XC "web" ↑w []):=((WB.l WB).l WB).l WB
  let tL:(upd (upd (upd (upd H x<|.ins t.A_Part dx<|XC "web" ↑w []) x<|.ins t.A_Part dx<|XC "kept" ↑a<|XC "web" ↑w []) x<|.ins t.A_Part dx<|XC "shut" ↑b<|XC "kept" ↑a<|XC "web" ↑w []) x<|.ins t.A_Part dx<|XC "lead" (WK ld)<|XC "shut" ↑b<|XC "kept" ↑a<|XC "web" ↑w []) x=⇑(.ins t.A_Part dx [("web",.ref w),("kept",.ref a),("shut",.ref b),("lead",WK ld)]):=XT;let hW4:=hW.but hx RF
  let Ki:=zm hA hx RF;let fY:=zm QZ hx RF
  let il:I.f<=ps.f:=by
   have:=Fv (m:=Vu ps.f) hIn λz hz=>Xh.mpr (Xt z hz)
   rwa[ZZ]at this
  exists _,Z,_,Z,_,Z,w,a,b,n,ps,I,O,Z,hW4,hG,Ki,fY,hIn,Xt,UK,λH5 s5 h=>absurd Fc<|h U0,λl F H5 s5 hl hF VB=>?_;exists _,Z,x,_,dx,_,Z,s5 _ _ tL,T.cl_Part,T.n_Part_least,(by change 4<1000;decide),?_;let Hm:SameX x H H5:=RF.l (SameX.Y s5)
  let tG:SameX x H (upd H5 x<|.ins t.A_Part dx<|XC "least" ↑l [("web",.ref w),("kept",.ref a),("shut",.ref b),("lead",WK ld)]):=Hm.l WB;let hx6:(upd H5 x<|.ins t.A_Part dx<|XC "least" ↑l [("web",.ref w),("kept",.ref a),("shut",.ref b),("lead",WK ld)]) x=⇑(.ins t.A_Part dx [("web",.ref w),("kept",.ref a),("shut",.ref b),("lead",WK ld),("least",.ref l)]):=XT
  let yh:(upd H5 x<|.ins t.A_Part dx<|XC "least" ↑l [("web",.ref w),("kept",.ref a),("shut",.ref b),("lead",WK ld)]) l=⇑(.tup<|IL F):=by rwa[Zd (λe=>by rw[e,s5 _ _ tL]at hl;cases hl)]
  exists _,Z,_,Z,w,a,n,ps,I,Z,hW.but hx tG,hG,zm hA hx tG,Xt,λm H7 s7 Qi Fd=>?_;show nm ?_;let QY:SameX x H H7:=tG.l (SameX.Y s7)
  let hF1:F.f<=ps.f:=hF.1.1.len;let Pu:(Xu n.j<|XR ps I).f=n.j:=ZF _ _
  exists _,Z,_,Z,_,Z,_,Z,?_;show zk (l:=I) (m:=O) (zm hA hx QY) (zm QZ hx QY) J λr1 H8 s8 VT=>?_;let RE:SameX x H H8:=QY.l (SameX.Y s8)
  let fM:=s7.l s8;exists _,Z,x,_,dx,_,.ref l,Z,fM _ _ hx6,T.cl_Part,T.n_Part_least,Z,?_;show zk (l:=I++O) (m:=F) VT (SqT.of<|fM _ _ yh) D λr2 H9 s9 Vc=>?_;let s69:=fM.l s9
  let Nq:SameX x H H9:=RE.l (SameX.Y s9);let tI:=s8.l s9
  exists w,m,r2,n,ps,Xu n.j<|XR ps I,I++O++F,Z,hW.but hx Nq,hG,tI _ _ Fd,Pu,Vc,λpA LH x9 hp0 Hl=>?_;show nm ?_;let sxA:SameX x H LH:=Nq.l (SameX.Y x9)
  let s6A:=s69.l x9;let hmA:=(tI.l x9) _ _ Fd
  let Md:∀z∈WQ n ps I O F,0<=z/\z<ps⁻¹:=λz hz=>zj hz;let MG:(WQ n ps I O F).f<=ps.f:=i3 _ _ _ _
  show⟨_,Z,pA,Z,{_,SqL.of Hl},Wl (K:=K) (a:=pA) (xs:=IL<|WQ n ps I O F) (λi ws Kg=>Same LH Kg/\i<=(WQ n ps I O F).f/\ws=IL (((WQ n ps I O F).Q i).filter λz=>decide<|∃y,ld=⇑y/\TN (Xu n.j<|XR ps I) ps z=TN (Xu n.j<|XR ps I) ps y)) ⟨Same.refl _,Qd _,Z⟩ (Zk<|by rw[Xc];lia)
   (λi ws Kg hi h=>by let(e,Wu,ew):=h;exists SqL.of<|e _ _ Hl,D) ?_ ?_⟩
  .rintro i v ws Kg hi ⟨Hq,Vs,rfl⟩ S Xy;let(z,rfl,hz):=Um hi;let(z0,z1):=Md z (Xo hz);let Xp:i<(WQ n ps I O F).f:=(Xx.S hz).1
   obtain⟨y,rfl⟩:∃y,ld=⇑y:=by
    cases ld with
    |some y=>lia
    |none=>
     rw[Sx Z F hF VB]at Xp;show absurd Xp (VW _)
   let(y0,y1):=yQ y rfl;show nm ?_;exists _,Z,_,Z,_,Z,w,m,n,ps,_,z,Z,hW.but hx<|sxA.l<|SameX.Y Hq,hG,Hq _ _ hmA,Pu,z0,z1,λe1 l1 H12 SH hs1 Wq AZ=>?_;let Hj:=Hq.l Wq
   exists _,Z,_,Z,_,Z,w,m,n,ps,_,y,Z,hW.but hx<|sxA.l<|SameX.Y Hj,hG,Hj _ _ hmA,Pu,y0,y1,λe2 l2 H13 Ru TZ s13 Ja=>?_;exists 1,_,e1,e2,Z,Z,Ep,aT (SqL.of<|s13 _ _ AZ)<|SqL.of Ja,_,Z,?_;let ed:decide (l1=l2)=decide (∃y_1,⇑y=⇑y_1/\TN (Xu n.j<|XR ps I) ps z=TN (Xu n.j<|XR ps I) ps y_1):=by
    rw[Zh4 SH hs1,Zh4 Ru TZ,Sk];constructor
    .intro e;injection e with e1 e2
     injection e2 with e2 _;exists y,Z,Prod.ext e1 e2
    .rintro⟨y',e,e'⟩;cases e;let(e1,e2):=Prod.mk.inj e';rw[e1,e2]
   let xU:=Hj.l s13;rw[ed];show Xl (λhc=>?_) (λhc=>?_)
   .exists _,Z,Xy _ _ {xU,Xp,?_};rw[Ml hz,Yk<|YA hc,ZV]
   .show Xy _ _ {xU,Xp,?_};rw[Ml hz,Yh (by simpa using hc),YO]
  rintro ws Kg ⟨Hq,_,rfl⟩ kA hkA;rw[Xc,Yv];let ea:((WQ n ps I O F).filter λz=>decide<|∃y,ld=⇑y/\TN (Xu n.j<|XR ps I) ps z=TN (Xu n.j<|XR ps I) ps y)=Sr n ps I O F ld:=rfl
  rw[ea];let hal:(Sr n ps I O F ld).f<=ps.f:=Yq (YW ..) MG
  let v1:=XO (o:=.lst<|IL<|Sr n ps I O F ld) hkA;let kK:(upd Kg kA<|.lst<|IL<|Sr n ps I O F ld) kA=⇑(.lst<|IL<|Sr n ps I O F ld):=XT
  show nm ?_;let sAB:=Hq.l v1
  generalize upd Kg kA (.lst<|IL<|Sr n ps I O F ld)=H14 at *;let hpB:=sAB _ _ Hl
  show⟨_,Z,pA,Z,{_,SqL.of hpB},Wl (K:=K) (a:=pA) (xs:=IL<|WQ n ps I O F) (λi ws Hi=>Hi=H14/\i<=(WQ n ps I O F).f/\ws=IL (((WQ n ps I O F).Q i).filter λz=>decide<|z∉Sr n ps I O F ld)) {Z,Qd _,Z} (Zk<|by rw[Xc];lia)
   (λi ws Hi hi h=>by let(e,Wu,ew):=h;exists e▸SqL.of hpB,D) ?_ ?_⟩
  .rintro i v ws Hi hi ⟨rfl,Vs,rfl⟩ S Xy;let(z,rfl,hz):=Um hi;let Xp:i<(WQ n ps I O F).f:=(Xx.S hz).1
   show nm ?_;exists _,Z,_,Z,kA,_,Z,.inl<|SqL.of kK,Z,Mz _,_,Z,?_;rw[MA];show WC (λhe=>?_) (λhe=>?_)
   .show Xy _ _ {Z,Xp,?_};rw[Ml hz,Yh J,YO]
   .exists _,Z,Xy _ _ {Z,Xp,?_};rw[Ml hz,Yk<|YA he,ZV]
  rintro ws Hi ⟨rfl,_,rfl⟩ uA huA;rw[Xc,Yv];let eu:((WQ n ps I O F).filter λz=>decide<|z∉Sr n ps I O F ld)=VC n ps I O F ld:=rfl
  rw[eu];let v2:=XO (o:=.lst<|IL<|VC n ps I O F ld) huA
  let kU:(upd Hi uA<|.lst<|IL<|VC n ps I O F ld) uA=⇑(.lst<|IL<|VC n ps I O F ld):=XT;show nm ?_;let fL:=(s6A.l sAB).l v2
  let kKU:=v2 _ _ kK;let sxU:SameX x H (upd Hi uA<|.lst<|IL<|VC n ps I O F ld):=tG.l (SameX.Y fL)
  let Io:=fL _ _ hx6;let hlU:=fL _ _ yh
  generalize upd Hi uA (.lst<|IL<|VC n ps I O F ld)=H16 at *;let LF:Xw H16 Pt:=iZ hT hx sxU
  exists _,Z,kA,Sr n ps I O F ld,WK ld,λz=>decide<|ld=⇑z,Z,SqL.of kKU,J,LF,Z,λxT NZ z hz=>?_,λinc iA xT WE NZ xS fK=>?_
  .exists _,rfl,_,rfl,(by cases ld<;>rfl),?_,rfl
   cases ld with
   |none=>rfl
   |some y=>
    change V.bl (decide<|V.int z=V.int y)=V.bl (decide<|some y=⇑z);congr 1;lia
  let hxP:x≠Pt:=LF.ne Io Eo;let v3:=XO (o:=.lst<|IL inc) fK
  let fJ:=v3 _ _ (NZ _ _ hxP Io);let xR:=v3 _ _ (NZ _ _ (LF.ne hlU Eo) hlU)
  let xQ:=v3 _ _ (NZ _ _ (LF.ne kU Eo) kU);let xP:(upd xT iA<|.lst<|IL inc) iA=⇑(.lst<|IL inc):=XT
  let xO:Xw (upd xT iA<|.lst<|IL inc) Pt:=xS.Y v3;let Hh:∀b o,b≠x->b≠Pt->H b=⇑o->(upd xT iA<|.lst<|IL inc) b=⇑o:=λb o h1 h2 e=>v3 _ _ (NZ _ _ h2<|sxU _ _ h1 e)
  generalize upd xT iA (.lst<|IL inc)=xN at *;exists _,Z,x,_,dx,_,Z,fJ,T.cl_Part,T.n_Part_incoming,(by change 5<1000;decide),?_;let NY:∀c o,xN c=⇑o->(∀a b fs,o≠.ins a b fs)->c≠x:=λc o h ho e=>D
  let fI:(upd xN x<|.ins t.A_Part dx<|XC "incoming" ↑iA [("web",.ref w),("kept",.ref a),("shut",.ref b),("lead",WK ld),("least",.ref l)]) uA=⇑(.lst<|IL<|VC n ps I O F ld):=by rw[Zd (NY _ _ xQ Eo)];show xQ
  let fin:∀fu:Option A0,(fu=A8↔VC n ps I O F ld=[])->(∀y,fu=⇑y->y∈VC n ps I O F ld/\∀z∈VC n ps I O F ld,y<=z)->Q .non (upd (upd xN x<|.ins t.A_Part dx<|XC "incoming" ↑iA [("web",.ref w),("kept",.ref a),("shut",.ref b),("lead",WK ld),("least",.ref l)]) x<|.ins t.A_Part dx<|uc ↑w ↑a ↑b (WK ld) ↑l ↑iA<|WK fu):=λfu h1 h2=>by
   let up:∀c o,c≠x->xN c=⇑o->(upd (upd xN x<|.ins t.A_Part dx<|XC "incoming" ↑iA [("web",.ref w),("kept",.ref a),("shut",.ref b),("lead",WK ld),("least",.ref l)]) x<|.ins t.A_Part dx<|uc ↑w ↑a ↑b (WK ld) ↑l ↑iA<|WK fu) c=⇑o:=λc o h e=>by rw[Zd h,Zd h];show e
   let(tp,t1,t2,t3):=id xO;show q F inc fu l iA _ hF VB WE h1 h2 XT (up _ _ (NY _ _ xR Eo) xR) (up _ _ (NY _ _ xP Eo) xP) (λb o b1 b2 e=>up _ _ b1<|Hh b o b1 b2 e) ⟨tp,up _ _ (NY _ _ t1 Eo) t1,t2,?_⟩;rcases t3 with h|⟨c,h,h'⟩
   .show .inl h
   .show .inr {c,h,up _ _ (NY _ _ h'<|by unfold Fp;simp) h'}
  exists _,Z,uA,VC n ps I O F ld,Z,SqL.of fI,λe=>?_,λmn Sv WO=>?_
  .exists _,Z,x,_,dx,_,Z,XT,T.cl_Part,T.n_Part_further,(by change 6<1000;decide),?_;show fin none {λ_=>e,λ_=>rfl} λy h=>by cases h
  .exists _,Z,x,_,dx,_,Z,XT,T.cl_Part,T.n_Part_further,(by change 6<1000;decide),?_;show fin ⇑mn {λh=>(by cases h),λh=>(by ext)} λy h=>(by cases h;exists Sv,WO)
inductive spZu(K:Ad)(CP C Pt:A7):_
 |mk (w n ps:_) (_:vs=[.ref w]) (_:WebAt C H w n ps) (_:ZA n ps) (_:Xw H Pt) (_:(∃U,Zn n ps U)) (_:∀x F inc ld fu H',PartOk n ps [] [] ld F inc fu->(ld=A8↔WQ n ps [] [] F=[])->(∀y,ld=⇑y->y∈WQ n ps [] [] F/\∀z∈WQ n ps [] [] F,y<=z)->PartAt K CP C H' x n ps [] [] F inc ld fu->SameX Pt H H'->Xw H' Pt->Q ↑x H')
def xM(T:Txt K mg t)(hB:Wr K mg base t.dZt Pt):Xs P w base XA T.qZu 10 (spZu K t.A_Part t.A_Web Pt):=by
 show T.qZu.okI ["web","opened"] B ⋯
 .let⟨w,n,ps,rfl,hW,hG,hT,⟨U0,Fc⟩,q⟩:=h;show⟨_,(XN (Zh 1<|Xz (xV T) hr T.qZs Zv<|XZ (pv 0)<|XZ (Xz (Qh T) hr T.qZe Zv<|XZ (pv 0)<|XZ (TX XY) XY)<|XZ (Xz (xX T) hr T.qZq Zv<|XZ (pv 0)<|XZ (TX XY)<|XZ (TX XY) XY) XY)
   (XM<|Zj<|FZ T.k_Part (Hn T hB) (hr.mono Ep) Z T.c_Part T.bZt .nil Zv<|XZ (pv 0)<|XZ (TX XY)<|XZ (TX XY)<|XZ (zq Z rC T.n_min<|pv 1) XY)),?_⟩
  let hU1:With n ps [] [] U0:={Fc,λz h=>(by cases h),λz h=>(by cases h)};exists _,Z,_,Z,Qd _,λe1 AZ=>?_;let s1:=XO (o:=.tup []) AZ
  exists w,e1,n,ps,[],Z,hW.Y s1,hG,SqT.of XT,λz h=>(by cases h),λm H2 s2 Qi WO=>?_;let Wq:=s1.l s2
  exists _,Z,Qd _,λe2 Ja=>{Qd _,λe3 he3=>?_};let s3:=XO (o:=.tup []) Ja
  let s4:=XO (o:=.tup []) he3;let Hg:=Wq.l (s3.l s4)
  exists w,e2,e3,n,ps,[],[],Z,hW.Y Hg,hG,SqT.of<|s4 _ _ XT,SqT.of XT,.nil,λz h=>(by cases h),λz h=>(by cases h),λH5 s5 h=>absurd hU1<|h U0,λl F H5 s5 hl hF VB=>?_;let s15:=Hg.l s5
  let tH:=((s3.l s4).l s5) _ _ WO;let Pu:(Xu n.j<|XR ps []).f=n.j:=ZF _ _
  exists w,m,l,n,ps,Xu n.j<|XR ps [],F,Z,hW.Y s15,hG,tH,Pu,SqT.of hl,λpA H6 s6 hp0 xK=>?_;show nm ?_;let s16:=s15.l s6
  let Md:∀z∈WQ n ps [] [] F,0<=z/\z<ps⁻¹:=λz hz=>zj hz;exists _,Z,Qd _,λf1 tN=>{Qd _,λf2 LK=>?_};let s7:=XO (o:=.tup []) tN
  let s8:=XO (o:=.tup []) LK;let Hf:(upd (upd H6 f1<|.tup []) f2<|.tup []) f1=⇑(.tup []):=s8 _ _ XT
  let He:(upd (upd H6 f1<|.tup []) f2<|.tup []) f2=⇑(.tup []):=XT;let tE:=s16.l (s7.l s8)
  let Fb:=(s7.l s8) _ _ xK;generalize upd (upd H6 f1<|.tup []) f2 (.tup [])=H8 at *;let main:∀ld:Option A0,(ld=A8↔WQ n ps [] [] F=[])->(∀y,ld=⇑y->y∈WQ n ps [] [] F/\∀z∈WQ n ps [] [] F,y<=z)->∀x dx,H8 x=A8->H8 dx=A8->dx≠x->sp_Part_init K t.A_Part t.A_Web Pt [.ref x,.ref w,.ref f1,.ref f2,WK ld] (upd (upd H8 dx<|.own x) x<|.ins t.A_Part dx []) (λv H2=>v=.non/\Q ↑x H2) E0:=by
   intro ld hn hs x dx nx Pp Ob;let s9:Same H8 (upd (upd H8 dx<|.own x) x<|.ins t.A_Part dx []):=Zw (XO Pp) (by rwa[Zd (YZ Ob)])
   let s19:=tE.l s9;exists x,dx,w,f1,f2,n,ps,[],[],ld,Z,XT,hW.Y s19,hG,hT.Y s19,SqT.of<|s9 _ _ Hf,SqT.of<|s9 _ _ He,.nil,λz h=>(by cases h),λz h=>(by cases h),Qd _,⟨U0,hU1⟩,λy hy=>Md y (hs y hy).1,λe F' Ke SG=>?_,λF' inc fu l' i' H' Ke SG WE h1 h2 US Pb Wx keep NX=>{Z,?_}
   .let eF:F'=F:=Wc (VB F' Ke) (SG F hF)
    ext
   .let eF:F'=F:=Wc (VB F' Ke) (SG F hF);subst eF;let sx:SameX Pt H8 H':=λb o hb e=>keep b o (Ze e nx) hb (s9 _ _ e)
    let Wb:Xw H8 Pt:=hT.Y tE;show q x F' inc ld fu H' ⟨Ke,SG,WE,h1,h2⟩ hn hs {dx,w,f1,f2,l',i',US,(hW.Y tE).samex Wb sx,SqT.of<|sx _ _ (Wb.ne Hf Eo) Hf,SqT.of<|sx _ _ (Wb.ne He Eo) He,Pb,Wx} ((SameX.Y tE).l sx) NX
  exists _,Z,pA,WQ n ps [] [] F,Z,SqL.of Fb,λe=>?_,λmn h1 h2=>?_
  .show main none {λ_=>e,λ_=>rfl} λy h=>by cases h
  .show main ⇑mn {λh=>(by cases h),λh=>(by ext)} λy h=>(by cases h;exists h1,h2)
inductive spZv(K:Ad)(CP C Pt:A7):_
 |mk (x n ps I O F inc z y:_) (_:vs=[.ref x]) (_:PartAt K CP C H x n ps I O F inc ⇑z ⇑y) (_:ZA n ps) (_:Xw H Pt) (_:(I).Nodup) (_:(∀v∈I,0<=v/\v<ps⁻¹)) (_:(∀v∈I,v∉O++[z])) (_:(O++[z]).f<=30) (_:(∃U,With n ps (I) (O++[z]) U)) (_:0<=y) (_:y<ps⁻¹) (_:∀x' F' Ww fu H',PartOk n ps (I) (O++[z]) ⇑y F' Ww fu->PartAt K CP C H' x' n ps (I) (O++[z]) F' Ww ⇑y fu->SameX Pt H H'->Xw H' Pt->Q ↑x' H')
def xJ(T:Txt K mg t)(hB:Wr K mg base t.dZt Pt):Xs P w base XA T.qZv 10 (spZv K t.A_Part t.A_Web Pt):=by
 show T.qZv.okI ["part"] B ⋯
 .let⟨x,n,ps,I,O,F,inc,z,y,rfl,⟨dx,w,a,b,l,i,hx,hW,hA,QZ,hl,hi⟩,hG,hT,hIn,Xt,UK,Po,hex,y0,y1,q⟩:=h;exists _,(XM<|Zj<|FZ T.k_Part (Hn T hB) (hr.mono Ep) Z T.c_Part T.bZt .nil Zv<|XZ (Zo K (pv 0) Z)<|XZ (Zo K (pv 0) Z)<|XZ (Zt (RR K) (Zo K (pv 0) Z)<|TX<|XZ (Zo K (pv 0) Z) XY)<|XZ (Zo K (pv 0) Z) XY),?_;exists _,Z,x,_,dx,_,.ref w,Z,hx,T.cl_Part,T.n_Part_web,Z,_,Z,x,_,dx,_,.ref a,Z,hx,T.cl_Part,T.n_Part_kept,Z,_,Z,x,_,dx,_,.ref b,Z,hx,T.cl_Part,T.n_Part_shut,Z,_,Z,x,_,dx,_,.int z,Z,hx,T.cl_Part,T.n_Part_lead,Z,(by change 1<=sizeLine;decide),λp hp=>?_;let s1:=XO (o:=.tup<|IL [z]) hp
  show zk (l:=O) (m:=[z]) (SqK.Y (k:=A9) s1 QZ) (SqT.of XT) D λr1 H2 s2 VT=>?_;let Wq:=s1.l s2
  exists _,Z,x,_,dx,_,.int y,Z,Wq _ _ hx,T.cl_Part,T.n_Part_further,Z,?_;intro x' LD nx Pp Ob;let s9:Same H2 (upd (upd H2 LD<|.own x') x'<|.ins t.A_Part LD []):=Zw (XO Pp) (by rwa[Zd (YZ Ob)])
  let WX:Xw H2 Pt:=hT.Y Wq;exists x',LD,w,a,r1,n,ps,I,O++[z],⇑y,Z,XT,hW.Y<|Wq.l s9,hG,WX.Y s9,SqK.Y (k:=A9) (Wq.l s9) hA,SqK.Y (k:=A9) s9 VT,hIn,Xt,UK,Po,hex,λv e=>(by ext),λe=>(by cases e),λF' Ww fu l' i' H' Ke SG WE h1 h2 US Pb Wx keep NX=>{Z,?_};let sx:SameX Pt H2 H':=λb o hb e=>keep b o (Ze e nx) hb (s9 _ _ e)
  show q x' F' Ww fu H' ⟨Ke,SG,WE,h1,h2⟩ {LD,w,a,r1,l',i',US,(hW.Y Wq).samex WX sx,SqK.samex (kd:=A9) (SqK.Y (k:=A9) Wq hA) WX sx,SqK.samex (kd:=A9) (VT) WX sx,Pb,Wx} ((SameX.Y Wq).l sx) NX
inductive spZw(K:Ad)(CP C Pt:A7):_
 |mk (x n ps I O F inc z y:_) (_:vs=[.ref x]) (_:PartAt K CP C H x n ps I O F inc ⇑z ⇑y) (_:ZA n ps) (_:Xw H Pt) (_:(I++[z]).Nodup) (_:(∀v∈I++[z],0<=v/\v<ps⁻¹)) (_:(∀v∈I++[z],v∉O)) (_:(O).f<=30) (_:(∃U,With n ps (I++[z]) (O) U)) (_:0<=y) (_:y<ps⁻¹) (_:∀x' F' Ww fu H',PartOk n ps (I++[z]) (O) ⇑y F' Ww fu->PartAt K CP C H' x' n ps (I++[z]) (O) F' Ww ⇑y fu->SameX Pt H H'->Xw H' Pt->Q ↑x' H')
def xI(T:Txt K mg t)(hB:Wr K mg base t.dZt Pt):Xs P w base XA T.qZw 10 (spZw K t.A_Part t.A_Web Pt):=by
 show T.qZw.okI ["part"] B ⋯
 .let⟨x,n,ps,I,O,F,inc,z,y,rfl,⟨dx,w,a,b,l,i,hx,hW,hA,QZ,hl,hi⟩,hG,hT,hIn,Xt,UK,Po,hex,y0,y1,q⟩:=h;exists _,(XM<|Zj<|FZ T.k_Part (Hn T hB) (hr.mono Ep) Z T.c_Part T.bZt .nil Zv<|XZ (Zo K (pv 0) Z)<|XZ (Zt (RR K) (Zo K (pv 0) Z)<|TX<|XZ (Zo K (pv 0) Z) XY)<|XZ (Zo K (pv 0) Z)<|XZ (Zo K (pv 0) Z) XY),?_;let hI30:I.f<=30:=by
   have:=Fv (m:=Vu ps.f) hIn λv hv=>Xh.mpr (Xt v hv)
   let e:=hG.2.2.1;rw[ZZ]at this
   try simp only[Xa,YH]at this
   lia
  exists _,Z,x,_,dx,_,.ref w,Z,hx,T.cl_Part,T.n_Part_web,Z,_,Z,x,_,dx,_,.ref a,Z,hx,T.cl_Part,T.n_Part_kept,Z,_,Z,x,_,dx,_,.int z,Z,hx,T.cl_Part,T.n_Part_lead,Z,(by change 1<=sizeLine;decide),λp hp=>?_;let s1:=XO (o:=.tup<|IL [z]) hp
  show zk (l:=I) (m:=[z]) (SqK.Y (k:=A9) s1 hA) (SqT.of XT) D λr1 H2 s2 VT=>?_;let Wq:=s1.l s2
  exists _,Z,x,_,dx,_,.ref b,Z,Wq _ _ hx,T.cl_Part,T.n_Part_shut,Z,_,Z,x,_,dx,_,.int y,Z,Wq _ _ hx,T.cl_Part,T.n_Part_further,Z,?_;intro x' LD nx Pp Ob;let s9:Same H2 (upd (upd H2 LD<|.own x') x'<|.ins t.A_Part LD []):=Zw (XO Pp) (by rwa[Zd (YZ Ob)])
  let WX:Xw H2 Pt:=hT.Y Wq;exists x',LD,w,r1,b,n,ps,I++[z],O,⇑y,Z,XT,hW.Y<|Wq.l s9,hG,WX.Y s9,SqK.Y (k:=A9) s9 VT,SqK.Y (k:=A9) (Wq.l s9) QZ,hIn,Xt,UK,Po,hex,λv e=>(by ext),λe=>(by cases e),λF' Ww fu l' i' H' Ke SG WE h1 h2 US Pb Wx keep NX=>{Z,?_};let sx:SameX Pt H2 H':=λb o hb e=>keep b o (Ze e nx) hb (s9 _ _ e)
  show q x' F' Ww fu H' ⟨Ke,SG,WE,h1,h2⟩ {LD,w,r1,b,l',i',US,(hW.Y Wq).samex WX sx,SqK.samex (kd:=A9) (VT) WX sx,SqK.samex (kd:=A9) (SqK.Y (k:=A9) Wq QZ) WX sx,Pb,Wx} ((SameX.Y Wq).l sx) NX
inductive spZx(K:Ad)(CP C:A7):_
 |mk (x n ps I O F inc ld fu:_) (_:vs=[.ref x]) (_:PartAt K CP C H x n ps I O F inc ld fu) (_:ZA n ps) (_:I.Nodup) (_:(∀z∈I,0<=z/\z<ps⁻¹)) (_:O.f<=30) (_:(∀z∈I,z∉O)) (_:∀c H',PC n ps I O c->Same H H'->Q (.int c) H')
def xH(T:Txt K mg t):Xs P w base XA T.qZx 8 (spZx K t.A_Part t.A_Web):=by
 show T.qZx.okI ["part"] B ⋯
 .let⟨x,n,ps,I,O,F,inc,ld,fu,rfl,⟨dx,w,a,b,l,i,hx,hW,hA,QZ,hl,hi⟩,hG,hI,Xt,hO,UK,q⟩:=h;exists _,(XM<|Zj<|Xz (f7 T) hr T.qZk Zv<|XZ (Zo K (pv 0) Z)<|XZ (Zo K (pv 0) Z)<|XZ (Zo K (pv 0) Z) XY),?_;exists _,Z,x,_,dx,_,.ref w,Z,hx,T.cl_Part,T.n_Part_web,Z,_,Z,x,_,dx,_,.ref a,Z,hx,T.cl_Part,T.n_Part_kept,Z,_,Z,x,_,dx,_,.ref b,Z,hx,T.cl_Part,T.n_Part_shut,Z,?_;exists w,a,b,n,ps,I,O,Z,hW,hG,hA,QZ,hI,Xt,hO,UK,q
def xG{n:A0}{ps:Aa}{I F ms:Ac}{z:A0}(hF:Zn n ps F)(hz:z∉F)(hp:ms.Perm (SQ n ps F z F++[z]))(hs:ms.H (·<=·)):(ms.filter λt=>decide (t≠z/\t∉I))=WA n ps I F z:=by
 show ve ((hp.filter _).l ?_) (hs.filter _) ?_
 .rw[Vo,List.filter_cons_of_neg Eo,List.filter_nil,YO];show List.Perm.of_eq (Ls λt ht=>?_)
  have:t≠z:=λe=>hz (e▸(Vz.S ht).1)
  ext
 .show((XW.S hF.1).2.filter _).filter _ |>.imp λh=>J
inductive spZy(K:Ad)(CP C:A7):_
 |mk (x n ps I O F inc ld fu z:_) (_:vs=[.ref x,.int z]) (_:PartAt K CP C H x n ps I O F inc ld fu) (_:ZA n ps) (_:Zn n ps F) (_:z∉F) (_:0<=z) (_:z<ps⁻¹) (_:∀r xs H',Same H H'->H r=A8->H' r=⇑(.lst xs)->Bears (WH H') xs ((WA n ps I F z).G λo=>xchT F o z)->Q ↑r H')
def fH:FnScope ["part","into","leaving"] ["part","into"] (Za (top 72)):=To B
def fG(T:Txt K mg t):Xs P w base XA T.qZy 9 (spZy K t.A_Part t.A_Web):=by
 show T.qZy.okI ["part","into","leaving"] B ⋯
 .let⟨x,n,ps,I,O,F,inc,ld,fu,z,rfl,⟨dx,w,a,b,l,i,hx,hW,hA,QZ,hl,hi⟩,hG,hF,hz,z0,z1,q⟩:=h;show⟨_,(XN (PL (i:=2) Z fH.nd Z Z (sc0:=Za<|top 72) (N0:=["part","into","leaving"]) (N':=["tie","into","part"]) (o:=1) (fr:=[1,0]) ⟨Z,B,B,B,Z,B⟩ (vw K<|Xz (fO T) hr T.qZp Zv<|XZ (Zo K (pv 0) Z)<|XZ (Zo K (pv 0) Z)<|XZ (pv 1) XY) (Zs Ep) (λ_ _ _ _=>(Zb 0)) (λ_ _ _ _=>(PN<|PW.pt<|Lk (Zg Sz (pv 0) (pv 1)<|Zp _)<|Ll<|Zg (FO K) (pv 0) (Zo K (pv 2) Z) Z)) λ_ _ _ _=>(pv 0))
   (XM<|Zj<|Vd Z (sc0:=Za<|top 72) (N0:=["part","into","leaving"]) (N':=["out","part","into"]) (o:=1) (fr:=[0,1]) ⟨Z,B,B,B,Z,B⟩ (ZD K<|pv 2) (Zs Ep) (λ_ _ _ _=>(Zb 0)) (λ_ _ _ _=>ZK) λ_ _ _ _=>(Zl (ZS K) rC T.n_tuple Boot.«tuple»<|XZ (Zf (Zu5 K) rC T.n_sorted Boot.«sorted»<|XZ (Zt (RR K) (Xz (yk T) hr T.qZa Zv<|XZ (Zo K (pv 1) Z)<|XZ (pv 0) XY)<|TX<|XZ (pv 2) XY) XY) XY))),?_⟩
  let g3:=hG.2.2.1;exists _,Z,x,_,dx,_,.ref w,Z,hx,T.cl_Part,T.n_Part_web,Z,_,Z,x,_,dx,_,.ref l,Z,hx,T.cl_Part,T.n_Part_least,Z,_,Z,?_;exists w,l,n,ps,true,F,z,Z,hW,hG,SqT.of hl,J,J,λ_ _ _ _ ms Sv WO rA H1 s1 Vr Pz=>?_,λ_ h=>absurd h λh=>h.elim hz λh=>h ⟨z0,z1⟩,λh=>absurd hF h;let hm30:ms.f<=40:=by
   rw[Sv.length_eq,Xa,YH]
   have:=FH n ps F z F
   have:=hF.1.len
   lia
  show⟨rA,Z,{_,SqT.of Pz},vy (K:=K) (a:=rA) (xs:=IL ms) (λj ws H2=>H2=H1/\j<=ms.f/\ws=IL ((ms.Q j).filter λt=>decide<|t≠z/\t∉I)) {Z,Qd _,Z} (Zk<|by rw[Xc];lia)
   (λj ws H2 hj h=>by let(e,SM,ew):=h;exists e▸SqT.of Pz,D) ?_ ?_⟩
  .rintro j v ws H2 hj ⟨rfl,RU,rfl⟩ S Xy;let(y,rfl,hy):=Um hj;let VE:j<ms.f:=(Xx.S hy).1
   show nm ?_;exists _,Z,_,Z,Z,_,Z,?_;rw[ZO];show WC (λhe=>?_) (λhe=>?_)
   .show Xy _ _ {Z,VE,?_};rw[Ml hy,Yh J,YO]
   exists _,Z,_,Z,x,_,dx,_,.ref a,Z,s1 _ _ hx,T.cl_Part,T.n_Part_kept,Z,a,_,Z,.inr<|SqK.Y (k:=A9) s1 hA,Z,Mz _,_,Z,?_;rw[MA];show WC (λhc=>?_) (λhc=>?_)
   .show Xy _ _ {Z,VE,?_};rw[Ml hy,Yh J,YO]
   .exists _,Z,Xy _ _ {Z,VE,?_};rw[Ml hy,Yk<|YA ⟨he,hc⟩,ZV]
  rintro ws H2 ⟨rfl,_,rfl⟩ lA fF;rw[Xc,Yv,xG hF hz Sv WO];let u1:=XO (o:=.lst<|IL<|WA n ps I F z) fF
  let kL:(upd H2 lA<|.lst<|IL<|WA n ps I F z) lA=⇑(.lst<|IL<|WA n ps I F z):=XT;show nm ?_;let s2:=s1.l u1
  generalize upd H2 lA (.lst<|IL<|WA n ps I F z)=H3 at *;let lvl:(WA n ps I F z).f<=30:=Yq (YW ..) (by have:=FH n ps F z F;have:=hF.1.len;lia)
  let hFl:F.f<=30:=by have:=hF.1.len;lia
  show⟨_,Z,lA,Z,{_,SqL.of kL},Wl (K:=K) (a:=lA) (xs:=IL<|WA n ps I F z) (λj ys H4=>Same H3 H4/\j<=(WA n ps I F z).f/\Bears (WH H4) ys (((WA n ps I F z).Q j).G λo=>xchT F o z)) {Same.refl _,Qd _,{Z,λi l e=>by simp at e}} (Zk<|by rw[Xc];lia)
   (λj ys H4 hj h=>by let(e,SM,ey):=h;show{SqL.of<|e _ _ kL,by rw[ey.1,Xr,Yw];ext}) ?_ ?_⟩
  .rintro j v ys H4 hj ⟨s4,RU,hY⟩ S Xy;let(o,rfl,ho):=Um hj;let VE:j<(WA n ps I F z).f:=(Xx.S ho).1
   let Kf:=s2.l s4;show nm ?_;exists _,Z,x,_,dx,_,.ref l,Z,Kf _ _ hx,T.cl_Part,T.n_Part_least,Z,_,Z,l,true,F,o,Z,SqT.of<|Kf _ _ hl,J,λr1 H5 s5 hr10 VT=>?_;let wl:=KS F o
   exists _,Z,(by change 1<=sizeLine;decide),λp2 Wn=>?_;let s6:=XO (o:=.tup<|IL [z]) Wn
   show zk (l:=wo F o) (m:=[z]) (SqT.of<|s6 _ _ VT) (SqT.of XT) D λr3 H7 s7 So=>?_;exists r3,wo F o++[z],Z,So,D,λns NC Rw p4 Px=>?_;let en:ns=xchT F o z:=ve (NC.l (Kr F o z).symm) Rw (Fo F o z)
   subst en;let s8:=XO (o:=.lst<|IL<|xchT F o z) Px
   exists p4,_,Z,.inl {SqL.of XT,λp5 tQ=>?_};let s9:=XO (o:=.tup<|IL<|xchT F o z) tQ
   let sA:=(s5.l s6).l (s7.l<|s8.l s9);show Xy _ _ {s4.l sA,VE,?_};rw[YB,ho,YE];show(hY.imp λ_ _ h=>by let(q,e,hq):=h;exists q,e,sA _ _ hq).snoc ⟨p5,Z,XT⟩
  .rintro ys H4 ⟨s4,_,hY⟩ d hd;rw[Xc,Yv]at hY;let s5:=XO (o:=.lst ys) hd
   show q d ys _ (s2.l<|s4.l s5) ((s2.l s4).free hd) XT (hY.imp λ_ _ h=>by let(q,e,hq):=h;exists q,e,s5 _ _ hq)
def ZH6{α:Type}{R:V->α->Prop}{xs ys:A6 V}{l m:A6 α}(h1:Bears R xs l)(h2:Bears R ys m):Bears R (xs++ys) (l++m):=by
 show{by rw[Xa,Xa,h1.1,h2.1],λi a e=>?_};cases c:i<l.f
 .rw[Yu c]at e;let(v,hv,r):=h1.2 i a e;exists v,D,r
 .rw[Ys (by ext)]at e;let(v,hv,r):=h2.2 _ a e;exists v,by rw[Ys (by rw[h1.1];ext),h1.1];show hv,r
def ZG6{α:Type}{R:V->α->Prop}{xs:A6 V}{l:A6 α}(h:Bears R xs l):Bears R xs.reverse l.reverse:=by
 show{by rw[YY,YY,h.1],λi a e=>?_};let hi:i<l.f:=by have:=(Xx.S e).1;rwa[YY]at this
 rw[Gy hi]at e;let(v,hv,r):=h.2 _ a e;exists v,by rw[Gy (by rwa[h.1]),h.1];show hv,r
inductive spZz(K:Ad)(CP C:A7):_
 |mk (x n ps I O F inc ld fu:_) (_:vs=[.ref x]) (_:PartAt K CP C H x n ps I O F inc ld fu) (_:ZA n ps) (_:Zn n ps F) (_:inc.f<=30) (_:(∀z∈inc,z∉F/\0<=z/\z<ps⁻¹)) (_:∀r xs H',Same H H'->H r=A8->H' r=⇑(.lst xs)->Bears (WH H') xs (zb n ps I F inc)->Q ↑r H')
def xF(T:Txt K mg t):Xs P w base XA T.qZz 10 (spZz K t.A_Part t.A_Web):=by
 show T.qZz.okI ["part","row","ascending","into","trees"] B ⋯
 .let⟨x,n,ps,I,O,F,inc,ld,fu,rfl,Sn,hG,hF,Vs,SI,q⟩:=h;show⟨_,(XN (Zh 1<|UH<|XZ (Zo K (pv 0) Z) XY)
   (XN (Zh 2<|Us TY (Zt ZU (Zf (Zi K) rC T.n_len Boot.«len»<|XZ (Zo K (pv 0) Z) XY) XQ) XQ<|Zp _)
   (XN (Uu YR Z (ZD K<|Zo K (pv 0) Z) (Zb 3)
   (XN (Zh 4<|Xz (fG T) hr T.qZy Zv<|XZ (pv 0)<|XZ (pv 3) XY)
   (XN (Sd<|UQ K YL JJ JK pY (pv 1)<|XZ (Gd (MY<|pv 2) (pv 4)<|aQ K Z Z T.n_list Z T.n_reversed<|XZ (pv 4) XY) XY)
   (XM<|Zh 2<|q8<|pv 2))))
   (XM<|Zj<|pv 1)))),?_⟩
  let(dx,w,a,b,l,i,hx,hW,hA,QZ,hl,hi):=id Sn;exists _,Z,x,_,dx,_,.ref l,Z,hx,T.cl_Part,T.n_Part_least,Z,(by change 1<=sizeLine;decide),λr hr=>?_;let s1:=XO (o:=.lst [.ref l]) hr
  show nm ?_;exists _,Z,x,_,dx,_,.ref i,Z,s1 _ _ hx,T.cl_Part,T.n_Part_incoming,Z,i,_,Z,.inl<|SqL.of<|s1 _ _ hi,_,_,Z,Z,(by ext),Z,?_;show nm ?_;let ea:decide (V.int ((IL inc).f%2:A0)=V.int 1)=(inc.f%2 == 1):=by rw[ZO,Xc,Nj,VR,Pe];omega
  change MX _ _ _ [some ↑x,some<|.ref r,some<|.bl<|decide<|V.int ((IL inc).f%2:A0)=V.int 1,none,none] (upd H r<|.lst [.ref l]);rw[ea];generalize Ub:(inc.f%2 == 1)=asc at *;let kr:(upd H r<|.lst [.ref l]) r=⇑(.lst [.ref l]):=XT
  generalize upd H r (.lst [.ref l])=H1 at *;let my:=s1 _ _ hi
  let fresh:∀b o,H b=⇑o->b≠r:=λb o e=>Ze e hr;show⟨_,Z,x,_,dx,_,.ref i,Z,s1 _ _ hx,T.cl_Part,T.n_Part_incoming,Z,i,Z,{_,SqL.of my},MT (K:=K) (a:=i) (xs:=IL inc) (λj σ H2=>∃xs v3 v4,σ=[some ↑x,some<|.ref r,some<|.bl<|asc != (j%2 == 1),v3,v4]/\Same H H2/\H2 r=⇑(.lst xs)/\Bears (WH H2) xs (F::Vh n ps I F (inc.Q j) asc)) ⟨[.ref l],none,none,by ext,s1,kr,⟨Z,λj m e=>by
   match j,e with
   |0,e=>show{_,Z,l,Z,by rw[<-Yn e];show s1 _ _ hl}⟩⟩ (λj σ H2 _ h=>by let(_,_,_,_,e,_):=h;show SqL.of<|e _ _ hi) ?_ ?_⟩
  rotate_left
  .rintro σ H2 ⟨xs,v3,v4,rfl,s2,Vc,hX⟩;rw[Xc,Yv]at hX;show Vi ?_;exists _,Z,?_;rw[<-Ub]at hX;show q r xs H2 s2 hr Vc hX
  rintro j v σ H2 hj ⟨xs,v3,v4,rfl,s2,Vc,hX⟩;let(z,rfl,hz):=Um hj;let(zF,z0,z1):=SI z (Xo hz);let Mw:j<inc.f:=(Xx.S hz).1
  show nm ?_;dsimp only[List.set];exists _,Z,_,Z,x,n,ps,I,O,F,inc,ld,fu,z,Z,{dx,w,a,b,l,i,s2 _ _ hx,hW.Y s2,SqK.Y (k:=A9) s2 hA,SqK.Y (k:=A9) s2 QZ,s2 _ _ hl,s2 _ _ hi},hG,hF,zF,z0,z1,λtA ys H3 s3 ht0 Pw hY=>?_;show nm ?_;dsimp only[List.set];let So:=s3 _ _ Vc
  let xE:F.f<=30:=by have:=hF.1.len;have:=hG.2.2.1;lia
  let xl:xs.f<=1000:=by
   rw[hX.1,YM];let h1:=zd n ps I F (inc.Q j) asc
   let h2:(inc.Q j).f*F.f<=30*30:=Ni D xE;lia
  let yl:ys.f<=30:=by rw[hY.1,Xr];show Yq (YW ..) (Yq (FH n ps F z F) xE)
  let fE:Vh n ps I F (inc.Q<|j+1) asc=Vh n ps I F (inc.Q j) asc++VA n ps I F (asc != (j%2 == 1)) z:=by
   let e:inc.Q (j+1)=inc.Q j++[z]:=by rw[YB,hz];rfl
   let el:(inc.Q j).f=j:=by rw[Yw];lia
   rw[e,iW,el]
  let flip:(!(asc != (j%2 == 1)))=(asc != ((j+1)%2 == 1)):=by rcases(by lia:j%2=0/\(j+1)%2=1\/j%2=1/\(j+1)%2=0) with ⟨a,b⟩|⟨a,b⟩<;>rw[a,b]<;>cases asc<;>rfl
  let fin:∀zs H4,Same H3 H4->zs.f=ys.f->Bears (WH H4) zs (VA n ps I F (asc != (j%2 == 1)) z)->Same H (upd H4 r<|.lst<|xs++zs)/\Bears (WH<|upd H4 r<|.lst<|xs++zs) (xs++zs) (F::Vh n ps I F (inc.Q<|j+1) asc):=λzs H4 s4 fW hZ=>by
   let Kk:=s4 _ _ So;exists Zy hr<|(s2.l s3).l s4,?_;rw[fE];let hX4:Bears (WH H4) xs (F::Vh n ps I F (inc.Q j) asc):=hX.imp λ_ _ h=>by let(c,e,hc):=h;exists c,e,(s3.l s4) _ _ hc
   show(ZH6 hX4 hZ).imp λ_ _ h=>by let(c,e,hc):=h;exists c,e,by rwa[Zd (Ux hc Kk Eo)]
  exists _,Z,.inl {Z,_,SqL.of So},?_;cases hb:(asc != (j%2 == 1)) with
  |true=>
   rw[hb]at fin flip;exists _,Z,_,Z,?_;show UT ?_;exists _,Z,?_;let(f1,f2):=fin ys H3 (Same.refl _) Z hY;exists r,tA,xs,ys,Z,Z,So,Pw,PK J,?_;exists _,Z,_,Z,?_;exists xs++ys,_,_,by rw[<-flip];rfl,f1,XT,f2
  |false=>
   rw[hb]at fin flip;exists _,Z,_,Z,?_;show RW ?_;exists _,Z,tA,ys,Z,SqL.of Pw,λd hd=>?_;let s4:=XO (o:=.lst ys.reverse) hd
   let(f1,f2):=fin ys.reverse _ s4 (YY) (ZG6<|hY.imp λ_ _ h=>by let(c,e,hc):=h;exists c,e,s4 _ _ hc);exists r,d,xs,ys.reverse,Z,Z,s4 _ _ So,XT,PK (by rw[YY];lia),?_;exists _,Z,_,Z,?_;exists xs++ys.reverse,_,_,by rw[<-flip];rfl,f1,XT,f2
inductive spZA(K:Ad)(CP C Pt:A7)(d:A5):_
 |mk (x n ps I O F inc ld fu R size start stop:_) (_:vs=[.ref x,.int size,.int start,.int stop]) (_:PartAt K CP C H x n ps I O F inc ld fu) (_:PartOk n ps I O ld F inc fu) (_:ZA n ps) (_:Xw H Pt) (_:RowR n ps d I O ld R) (_:size=R.f) (_:0<=start) (_:stop<=size) (_:stop-start<=100000) (_:∀r xs H',SameX Pt H H'->Xw H' Pt->H r=A8->H' r=⇑(.lst xs)->Bears (WH H') xs ((R.drop start.j).Q (stop-start).j)->Q ↑r H')
def fD(xs:A6 V){a b:A5}(h2:b<=xs.f):Xi xs ⇑(a:A0) ⇑(b:A0)=(xs.drop a).Q (b-a):=by
 let e1:HT.Up xs.f 0 ⇑(a:A0)=min a xs.f:=rfl;let e2:HT.Up xs.f xs.f ⇑(b:A0)=min b xs.f:=rfl
 unfold Xi;rw[e1,e2,si h2];rcases Nat.le_total a xs.f with c|c
 .ext
 ext
def fC{α:Type}{R:V->α->Prop}{xs:A6 V}{l:A6 α}(h:Bears R xs l)(a b:A5):Bears R ((xs.drop a).Q b) ((l.drop a).Q b):=by
 show{by rw[Yw,Yw,QV,QV,h.1],λi x e=>?_};rw[EN]at e;cases c:i<b
 .rw[Yk c,JU]at e;let(v,hv,r):=h.2 _ x e;exists v,by ext,r
 ext
def fB{α:Type}(A AP:A6 α){a b:A5}(h:b<=A.f):((A++AP).drop a).Q (b-a)=(A.drop a).Q (b-a):=by
 rcases Nat.le_total a A.f with c|c
 .rw[cO c,List.take_append_of_le_length (by ext)]
 .rw[Nat.sub_eq_zero_of_le (Yq h c),rV,rV]
def ZO8{α:Type}(AP:A6 α){i k:A5}(h:i+k<=AP.f):((AP.reverse).drop i).Q k=((AP.drop (AP.f-i-k)).Q k).reverse:=by rw[List.drop_reverse,List.take_reverse,Yw,si<|Nat.sub_le _ _,rT,Nat.sub_sub_self (Nat.le_sub_of_add_le' h)]
def fw{α:Type}(A AP:A6 α){a b c:A5}(hc:(a<=A.f/\c=A.f)\/(A.f<=a/\c=a))(fv:c<=b)(hb:b<=A.f+AP.f):((A++AP.reverse).drop a).Q (b-a)=A.drop a++((AP.drop (A.f+AP.f-b)).Q (b-c)).reverse:=by
 rcases hc with ⟨h,rfl⟩|⟨h,rfl⟩
 .rw[cO h,List.take_append,YF (by rw[QV];show Nat.sub_le_sub_right fv a),QV,Nat.sub_sub_sub_cancel_right h]
  have:=ZO8 AP (i:=0) (k:=b-A.f) D
  grind
 .rw[List.drop_append,List.drop_of_length_le h,Gs,Gs,ZO8 AP D,show AP.f-(c-A.f)-(b-c)=A.f+AP.f-b by grind]
def ft{x y:A0}:∃m,(if x<y then x else y)=m/\m<=x/\m<=y/\(x<y->m=x)/\(¬x<y->m=y):=by
 cases c:x<y
 .exists x,Yk c,Gj _,QL c,λ_=>rfl,λh=>absurd c h
 .exists y,Yh c,Gi.S c,Gj _,λh=>absurd h c,λ_=>rfl
def Zm4{H H2:Hp}{Pt r:A7}{pos:Pos}{qual:C0}(t:TabH H2 Pt pos qual)(s:SameX Pt H H2)(h:H2 r=A8):H r=A8:=by
 cases e:H r with
 |none=>rfl
 |some o=>
  let XJ:r≠Pt:=λe'=>by
   let(p,h1,_):=t
   ext
  rw[s _ _ XJ e]at h;cases h
def fq(T:Txt K mg t)(hB:Wr K mg base t.dZt Pt)(d:A5):Xs P w base XA T.qZA (11+d) (spZA K t.A_Part t.A_Web Pt d):=by
 let key:∀d k sp,Xs P w base XA T.qZA k sp->k<=10+d->(∀e,d=e+1->sp=spZA K t.A_Part t.A_Web Pt e)->Xs P w base XA T.qZA (11+d) (spZA K t.A_Part t.A_Web Pt d):=by
  intro d k sp ih hk Tg;rw[show 11+d=10+d+1 by lia];show T.qZA.ok ["part","size","start","stop","first","middle","trees","turned"] B (λvs H Q E h=>?_) (λXI A outer s H vs Q E hr h=>?_)
  .let⟨x,n,ps,I,O,F,inc,ld,fu,R,size,start,stop,rfl,_⟩:=h;rfl
  .let⟨x,n,ps,I,O,F,inc,ld,fu,R,size,start,stop,rfl,Sn,Ud,hG,hT,hR,hsz,FJ,Ve,WU,q⟩:=h;show⟨_,(XN (XD (Zg DS (pv 2) (pv 3)<|Zp _)
   (XM<|Zj<|UH XY)
   Zm)
   (XN (XD (Zg vJ (Zo K (pv 0) Z) Sf<|Zp _)
   (XM<|Zj<|ZR (ZT K) (QH (xF T) (hr.mono rF) Z T.qZz.mm T.qZz.fn.kp T.qZz.bi .nil Zv<|XZ (pv 0) XY) (Wh<|pv 2)<|Wh<|pv 3)
   Zm)
   (XN (Zh 4<|QH (xJ T hB) (hr.mono rF) Z T.qZv.mm T.qZv.fn.kp T.qZv.bi .nil Zv<|XZ (pv 0) XY)
   (XN (Zh 5<|QH (xH T) (hr.mono rF) Z T.qZx.mm T.qZx.fn.kp T.qZx.bi .nil Zv<|XZ (pv 4) XY)
   (XN (Zh 6<|QH ih (hr.mono rF) Z T.qZA.mm T.qZA.fn.kp T.qZA.bi .nil Zv<|XZ (pv 4)<|XZ (pv 5)<|XZ (pv 2)<|XZ (Zf (vE Z) rC T.n_min Boot.«min»<|XZ (pv 3)<|XZ (pv 5) XY) XY)
   (XN (XD (Zg PV (pv 3) (pv 5)<|Zp _)
   (XN (Zh 7<|QH ih (hr.mono rF) Z T.qZA.mm T.qZA.fn.kp T.qZA.bi .nil Zv<|XZ (QH (xI T hB) (hr.mono rF) Z T.qZw.mm T.qZw.fn.kp T.qZw.bi .nil Zv<|XZ (pv 0) XY)<|XZ (Zt TH (pv 1)<|pv 5)<|XZ (Zt TH (pv 1)<|pv 3)<|XZ (Zt TH (pv 1)<|Zf (vG Z) rC T.n_max Boot.«max»<|XZ (pv 2)<|XZ (pv 5) XY) XY)
   (XM<|Sd<|UQ K YL JJ JK pY (pv 6)<|XZ (aQ K Z Z T.n_list Z T.n_reversed<|XZ (pv 7) XY) XY))
   Zm)
   (XM<|Zj<|pv 6))))))),?_⟩
   let(dx,w0,a,b,l,i,hx,hW,hA,QZ,hl,hi):=id Sn;exists _,Z,_,Z,_,_,Z,Z,_,Z,?_;show Xl (λRm=>?_) (λXj=>?_)
   .exists Qd _,λr hr=>?_;let s1:=XO (o:=.lst []) hr
    show q r [] _ (SameX.Y s1) (hT.Y s1) hr XT ?_;rw[show(stop-start).j=0 by lia,rV];exists Z,λi l e=>by simp at e
   show Vi ?_;let(a0,rfl):=sR FJ;let(b0,rfl):=sR (show 0<=stop by lia);let Vl:a0<=b0:=J
   let fo:b0<=R.f:=by rw[hsz]at Ve;show Int.ofNat_le.S Ve
   let e0:((b0:A0)-(a0:A0)).j=b0-a0:=Int.toNat_sub _ _;rw[VP,e0]at q;subst hsz;exists _,Z,x,_,dx,_,WK fu,Z,hx,T.cl_Part,T.n_Part_further,Z,Z,_,Z,?_;cases hR with
   |und Wa Vs fk=>
    let(rfl,rfl,rfl):=Ud.uniq Wa;show UT ?_;exists _,Z,x,n,ps,I,O,F,inc,ld,none,Z,Sn,hG,Ud.tr.1,Vs,fk,λr xs H1 s1 Vr VT hX=>?_;let HA:=hX.1
    exists _,Z,_,Z,_,Z,_,Z,r,xs,Z,SqL.of VT,λq1 Mm=>?_;rw[fD xs (by rwa[HA])];let s2:=XO (o:=.lst<|(xs.drop a0).Q (b0-a0)) Mm
    let Wq:=s1.l s2;show q q1 _ _ (SameX.Y Wq) (hT.Y Wq) (s1.free Mm) XT ?_;show(fC hX _ _).imp λ_ _ h=>by let(c,e,hc):=h;exists c,e,s2 _ _ hc
   |div Wa hIn Xt UK Po GZ GY y0 y1 fj tD tw=>
    rename_i e F' Ww z y A' AP;let(rfl,rfl,rfl):=Ud.uniq Wa;let fi:=Tg e rfl
    subst fi;show RW ?_;show Vi ?_;let Ss:=VQ.S hIn
    let NW:I.Nodup:=Ss.1;let NV:∀v∈I,0<=v/\v<ps⁻¹:=λv hv=>Xt v (Yl _ hv)
    let NU:∀v∈I,v∉O++[z]:=λv hv h=>(Xn.S h).elim (UK v<|Yl _ hv) λh=>Ss.2.2 v hv z Eo (Xd.S h);let Om:O.f<=30:=by rw[Xa,YH]at Po;lia
    rw[Xa,YY]at fo;let Og:(((A'++AP.reverse).f:A5):A0)=A'⁻¹+AP.f:=by rw[Xa,YY,Int.natCast_add]
    let(m,em,m1,m2,m3,m4):=ft (x:=A'⁻¹) (y:=(b0:A0));exists _,Z,x,n,ps,I,O,F,inc,z,y,Z,Sn,hG,hT,NW,NV,NU,Po,GY,y0,y1,λx1 F1 RJ HH H1 Mc Tv Kd Vw=>?_;show nm ?_;exists _,Z,x1,n,ps,I,O++[z],F1,RJ,⇑y,HH,Z,Tv,hG,NW,NV,Po,NU,λc H2 hc s2=>?_;let ec:=hc.uniq fj
    subst ec;show nm ?_;let RD:SameX Pt H H2:=Kd.l (SameX.Y s2)
    let WX:=Vw.Y s2;exists _,Z,_,Z,_,Z,_,Z,_,Z,_,_,Z,?_;exists x1,n,ps,I,O++[z],F1,RJ,⇑y,HH,A',_,_,_,Z,Tv.samex Vw<|SameX.Y s2,Mc,hG,WX,tD,Z,FJ,(by rwa[em]),(by rw[em];show Ez (Int.sub_le_sub_right m2 _) WU),λr xs H3 xD Ua Vr So hX=>?_;show nm ?_;let Qg:=RD.l xD
    let fh:H r=A8:=Zm4 WX RD Vr;rw[VP,em]at hX;exists _,Z,_,Z,_,_,Z,Z,_,Z,?_;show Xl (λhgt=>?_) λhle=>?_;rotate_left
    .show Vi ?_;exists _,Z,?_;let fg:¬A'⁻¹<(b0:A0):=hle
     rw[m4 fg,e0]at hX;rw[fB A' AP.reverse (by ext)]at q;show q r xs H3 Qg Ua fh So hX
    let xC:A'⁻¹<(b0:A0):=hgt;rw[m3 xC,Int.toNat_sub,YF (by ext)]at hX;clear m1 m2 m3 m4 em m;exists _,Z,x,n,ps,I,O,F,inc,z,y,Z,Sn.samex hT Qg,hG,Ua,hIn,Xt,UK,Om,GZ,y0,y1,λx2 F2 Ol yW H4 RI Sw RF Tn=>?_;exists _,Z,_,Z,_,_,Z,Z,_,Z,_,Z,_,_,Z,Z,_,Z,_,Z,_,Z,_,_,Z,_,_,Z,Z,?_;obtain⟨c0,ec,Py,fv⟩:∃c0:A5,(if A'⁻¹>(a0:A0) then A'⁻¹ else (a0:A0))=(c0:A0)/\((a0<=A'.f/\c0=A'.f)\/(A'.f<=a0/\c0=a0))/\c0<=b0:=by
     cases c:A'⁻¹>(a0:A0)
     .exists A'.f,Yk c,.inl {Uy<|Int.ofNat_lt.S c,Z},Uy<|Int.ofNat_lt.S xC
     .exists a0,Yh c,.inr {Int.ofNat_le.S<|Gi.S c,Z},Vl
    rw[fw A' AP Py fv fo]at q;let hAc:A'.f<=c0:=by rcases Py with h|h<;>ext
    let hac:a0<=c0:=by rcases Py with h|h<;>ext
    clear Py;exists x2,n,ps,I++[z],O,F2,Ol,⇑y,yW,AP,_,_,_,Z,Sw,RI,hG,Tn,tw,(by rw[Og];lia),(by rw[Og];ext),(by rw[ec,Og];ext),(by rw[ec,Og];lia),λr2 ys H5 Hm Qf hr20 hr5 hY=>?_;show nm ?_;let Kk:=RF _ _ (Ua.ne So Eo) So
    let xB:=Hm _ _ (Tn.ne Kk Eo) Kk;let ff:=(Qg.l RF).l Hm
    let e2:(A'⁻¹+AP.f-(b0:A0)).j=A'.f+AP.f-b0:=D;let e3:(A'⁻¹+AP.f-(c0:A0)-(A'⁻¹+AP.f-(b0:A0))).j=b0-c0:=D
    rw[ec,Og,e2,e3]at hY;let HA:xs.f<=100000:=by rw[hX.1,QV];lia
    let Nv:ys.f<=100000:=by rw[hY.1,Yw];lia
    exists _,Z,.inl {Z,_,SqL.of xB},_,Z,r2,ys,Z,SqL.of hr5,λdA hd=>?_;let s6:=XO (o:=.lst ys.reverse) hd
    let Fg:=s6 _ _ xB;let z1:1000000<=sizeLine:=Ep
    exists r,dA,xs,ys.reverse,Z,Z,Fg,XT,D,?_;exists _,Z,?_;show q r (xs++ys.reverse) _ (λb o hb e=>?_) ((Qf.Y s6).put Fg) fh XT ?_
    .rw[Zd (Ze e fh)];show s6 _ _ (ff _ _ hb e)
    .let f1:Bears (WH<|upd H5 dA<|.lst ys.reverse) xs (A'.drop a0):=hX.imp λ_ _ h=>by
      let(c,e,hc):=h;let tu:=RF _ _ (Ua.ne hc Eo) hc
      exists c,e,s6 _ _<|Hm _ _ (Tn.ne tu Eo) tu
     let f2:Bears (WH<|upd H5 dA<|.lst ys.reverse) ys.reverse ((AP.drop<|A'.f+AP.f-b0).Q (b0-c0)).reverse:=ZG6 (hY.imp λ_ _ h=>by let(c,e,hc):=h;exists c,e,s6 _ _ hc)
     show(ZH6 f1 f2).imp λ_ _ h=>by let(c,e,hc):=h;exists c,e,by rwa[Zd (Ux hc Fg Eo)]
 induction d with
 |zero=>show key 0 0 _ yV (by ext) λe h=>(by cases h)
 |succ d ih=>show key (d+1) (11+d) _ ih J λe h=>(by ext)
inductive spZB(K:Ad)(CP C Pt:A7)(d:A5):_
 |mk (x a n ps I O F inc T ld fu R size:_) (_:vs=[.ref x,.int size,.ref a]) (_:PartAt K CP C H x n ps I O F inc ld fu) (_:PartOk n ps I O ld F inc fu) (_:ZA n ps) (_:Xw H Pt) (_:RowR n ps d I O ld R) (_:size=R.f) (_:SqT K H a (IL T)) (_:T∈R) (_:∀(j:A5)(H':Hp),R[j]?=⇑T->SameX Pt H H'->Xw H' Pt->Q (.int j) H')
def fe(T:Txt K mg t)(hB:Wr K mg base t.dZt Pt)(d:A5):Xs P w base XA T.qZB (11+d) (spZB K t.A_Part t.A_Web Pt d):=by
 let key:∀d k sp,Xs P w base XA T.qZB k sp->k<=10+d->(∀e,d=e+1->sp=spZB K t.A_Part t.A_Web Pt e)->Xs P w base XA T.qZB (11+d) (spZB K t.A_Part t.A_Web Pt d):=by
  intro d k sp ih hk Tg;rw[show 11+d=10+d+1 by lia];show T.qZB.ok ["part","size","tree","first","middle"] B (λvs H Q E h=>?_) (λXI A outer s H vs Q E hr h=>?_)
  .let⟨x,a,n,ps,I,O,F,inc,U,ld,fu,R,size,rfl,_⟩:=h;rfl
  .let⟨x,ta,n,ps,I,O,F,inc,U,ld,fu,R,size,rfl,Sn,Ud,hG,hT,hR,hsz,tZ,hU,q⟩:=h;show⟨_,(XN (XD (Zg vJ (Zo K (pv 0) Z) Sf<|Zp _)
   (XM<|Zj<|UQ K YL sU sV (ZB9 K<|IY hr) (QH (xF T) (hr.mono rF) Z T.qZz.mm T.qZz.fn.kp T.qZz.bi .nil Zv<|XZ (pv 0) XY)<|XZ (pv 2) XY)
   Zm)
   (XN (Zh 3<|QH (xJ T hB) (hr.mono rF) Z T.qZv.mm T.qZv.fn.kp T.qZv.bi .nil Zv<|XZ (pv 0) XY)
   (XN (Zh 4<|QH (xH T) (hr.mono rF) Z T.qZx.mm T.qZx.fn.kp T.qZx.bi .nil Zv<|XZ (pv 3) XY)
   (XN (XD (Zg (FP K) (Zo K (pv 0) Z) (pv 2) Z)
   (XM<|Zj<|Zt TH (Zt TH (pv 1) XQ)<|QH ih (hr.mono rF) Z T.qZB.mm T.qZB.fn.kp T.qZB.bi .nil Zv<|XZ (QH (xI T hB) (hr.mono rF) Z T.qZw.mm T.qZw.fn.kp T.qZw.bi .nil Zv<|XZ (pv 0) XY)<|XZ (Zt TH (pv 1)<|pv 4)<|XZ (pv 2) XY)
   Zm)
   (XM<|Zj<|QH ih (hr.mono rF) Z T.qZB.mm T.qZB.fn.kp T.qZB.bi .nil Zv<|XZ (pv 3)<|XZ (pv 4)<|XZ (pv 2) XY))))),?_⟩
   let(dx,w0,a,b,l,i,hx,hW,hA,QZ,hl,hi):=id Sn;exists _,Z,x,_,dx,_,WK fu,Z,hx,T.cl_Part,T.n_Part_further,Z,Z,_,Z,?_;let hwith:=yU hG hR
   cases hR with
   |und Wa Vs fk=>
    let(rfl,rfl,rfl):=Ud.uniq Wa;show UT ?_;exists _,Z,x,n,ps,I,O,F,inc,ld,none,Z,Sn,hG,Ud.tr.1,Vs,fk,λr xs H1 s1 Vr VT hX=>?_;let(e,j,c,h1,h2,h3,h4,h5):=Ze9 (K:=K) hX (SqK.Y (k:=A9) s1 tZ) hU;exists .inl {Z,_,SqL.of VT},_,Z,1,r,xs,.ref ta,e,j,c,Z,Z,VT,Ep,h1,h2,h3,h4,?_;show q j H1 h5 (SameX.Y s1) (hT.Y s1)
   |div Wa hIn Xt UK Po GZ GY y0 y1 fj tD tw=>
    rename_i e F' Ww z y A' AP;let(rfl,rfl,rfl):=Ud.uniq Wa;let fi:=Tg e rfl
    subst fi;show RW ?_;show Vi ?_;let Ss:=VQ.S hIn
    let NW:I.Nodup:=Ss.1;let NV:∀v∈I,0<=v/\v<ps⁻¹:=λv hv=>Xt v (Yl _ hv)
    let NU:∀v∈I,v∉O++[z]:=λv hv h=>(Xn.S h).elim (UK v<|Yl _ hv) λh=>Ss.2.2 v hv z Eo (Xd.S h);let Om:O.f<=30:=by rw[Xa,YH]at Po;lia
    let Og:size=A'⁻¹+AP.f:=by rw[hsz,Xa,YY];lia
    exists _,Z,x,n,ps,I,O,F,inc,z,y,Z,Sn,hG,hT,NW,NV,NU,Po,GY,y0,y1,λx1 F1 RJ HH H1 Mc Tv Kd Vw=>?_;show nm ?_;exists _,Z,x1,n,ps,I,O++[z],F1,RJ,⇑y,HH,Z,Tv,hG,NW,NV,Po,NU,λc H2 hc s2=>?_;let ec:=hc.uniq fj
    subst ec;show nm ?_;let RD:SameX Pt H H2:=Kd.l (SameX.Y s2)
    let WX:=Vw.Y s2;let Fe:=RD _ _ (hT.ne hx Eo) hx
    let GX:SqT K H2 ta (IL U):=SqK.samex (kd:=A9) tZ hT RD;exists _,Z,x,_,dx,_,.int z,Z,Fe,T.cl_Part,T.n_Part_lead,Z,_,Z,ta,_,Z,.inr GX,Z,Mz _,_,Z,?_;rw[MA];show Xl (λhz=>?_) (λhz=>?_)
    .let hUB:U∈AP:=by
      rcases Xn.S hU with h|h
      .show absurd hz ((yU hG tD U h).2.2 z Eo)
      .show Nl.S h
     exists _,Z,_,_,Z,Z,_,Z,x,n,ps,I,O,F,inc,z,y,Z,Sn.samex hT RD,hG,WX,hIn,Xt,UK,Om,GZ,y0,y1,λx2 F2 Ol yW H4 RI Sw RF Tn=>?_;exists _,Z,_,Z,_,_,Z,Z,_,Z,?_;exists x2,ta,n,ps,I++[z],O,F2,Ol,U,⇑y,yW,AP,_,Z,Sw,RI,hG,Tn,tw,J,SqK.samex (kd:=A9) GX WX RF,hUB,λj H5 hj Hm Qf=>?_;let RU:=(Xx.S hj).1
     exists _,_,Z,Z,?_;let e:size-1-(j:A0)=((A'.f+(AP.f-1-j):A5):A0):=D
     change Q (.int<|size-1-(j:A0)) H5;rw[e];show q _ H5 ?_ ((RD.l RF).l Hm) Qf;rwa[Ys J,Gy J,show AP.f-1-(A'.f+(AP.f-1-j)-A'.f)=j by lia]
    .let hUA:U∈A':=by
      rcases Xn.S hU with h|h
      .show h
      .show absurd ((yU hG tw U<|Nl.S h).2.1 z Eo) hz
     show Vi ?_;exists _,Z,_,Z,_,Z,?_;exists x1,ta,n,ps,I,O++[z],F1,RJ,U,⇑y,HH,A',_,Z,Tv.samex Vw<|SameX.Y s2,Mc,hG,WX,tD,Z,GX,hUA,λj H3 hj xD Ua=>?_;show q j H3 ?_ (RD.l xD) Ua;rwa[Yu (Xx.S hj).1]
 induction d with
 |zero=>show key 0 0 _ yV J λe h=>(by cases h)
 |succ d ih=>show key (d+1) (11+d) _ ih J λe h=>(by cases h;rfl)
inductive spZC:_
 |mk (z:A0) (_:vs=[.int z]) (_:-(10^70)<z) (_:z<10^70) (_:(0<=z->Q .non H)) (_:(z<0->False))
def fc(T:Txt K mg t):Xs P w base XA T.qZC 1 spZC:=by
 show T.qZC.okI ["number"] B ⋯
 .let⟨z,rfl,z0,z1,q,qe⟩:=h;show⟨_,(XM (XD (Zg SV (pv 0) XQ<|Zp _)
   (XM Vn)
   Zm)),?_⟩
  exists _,Z,_,_,Z,Z,_,Z,?_;show Xl (λh=>?_) (λh=>?_)
  .show qe h
  .show q (by ext)
inductive spZD(K:Ad)(CP C Pt:A7):_
 |mk (w:A7) (n:A0) (ps:Aa) (num most:A0) (R:Ab) (_:vs=[.ref w,.int num,.int most]) (_:WebAt C H w n ps) (_:ZA n ps) (_:Xw H Pt) (_:0<=num) (_:num<10^70) (_:0<=most) (_:most<=100000) (_:((∃U,Zn n ps U)->RowW n ps R)) (_:((∀U,¬Zn n ps U)->R=[])) (_:∀(r:A7)(xs:A6 V)(H':Hp),SameX Pt H H'->Xw H' Pt->H r=A8->H' r=⇑(.lst xs)->Bears (WH H') xs ((R.drop num.j).Q most.j)->Q ↑r H')
def xA(T:Txt K mg t)(hB:Wr K mg base t.dZt Pt):Xs P w base XA T.qZD 44 (spZD K t.A_Part t.A_Web Pt):=by
 show T.qZD.okI ["web","number","most","size"] B ⋯
 .let⟨w,n,ps,num,most,R,rfl,hW,hG,hT,n0,n1,m0,m1,hRw,hRn,q⟩:=h;show⟨_,(XN (Sd<|Xz (fc T) hr T.qZC Zv<|XZ (pv 1) XY)
   (XN (Zh 3<|Xz (Ht T) hr T.qZj Zv<|XZ (pv 0) XY)
   (XN (XD (Zg DS (pv 1) (pv 3)<|Zp _)
   (XM<|Zj<|UH XY)
   Zm)
   (XM<|Zj<|Xz (fq T hB 31) hr T.qZA Zv<|XZ (Xz (xM T hB) hr T.qZu Zv<|XZ (pv 0) XY)<|XZ (pv 3)<|XZ (pv 1)<|XZ (Zf (vE Z) rC T.n_min Boot.«min»<|XZ (Zt Ut (pv 1)<|pv 2)<|XZ (pv 3) XY) XY)))),?_⟩
  exists _,Z,num,Z,J,n1,λ_=>?_,λh=>absurd h J;exists _,Z,w,n,ps,Z,hW,hG,λc H1 hc s1=>?_;show nm ?_;let Og:R.f=c:=by
   cases hex:∃U,Zn n ps U
   .let⟨_,_,_,_,_,_,_,_,h⟩:=hRw hex;show h.uniq hc
   .let Sx:∀U,¬Zn n ps U:=λU hU=>hex ⟨U,hU⟩;rw[hRn Sx,(Zh9 hc).mpr Sx];rfl
  exists _,Z,_,Z,_,_,Z,Z,_,Z,?_;show Xl (λRm=>?_) (λXj=>?_)
  .exists Qd _,λr hr=>?_;let s2:=XO (o:=.lst []) hr
   let Wq:=s1.l s2;show q r [] _ (SameX.Y Wq) (hT.Y Wq) (s1.free hr) XT ?_;rw[GA (by ext),List.take_nil];exists Z,λi l e=>by simp at e
  show Vi ?_;obtain⟨U0,Fc⟩:∃U,Zn n ps U:=Yy λno=>by grind
  let(ld,F,inc,fu,Ud,hn,hs,LQ,_):=hRw ⟨U0,Fc⟩;let Vw:=hT.Y s1
  exists _,Z,w,n,ps,Z,hW.Y s1,hG,Vw,⟨U0,Fc⟩,λx F' Ww LS LV H2 Wa PY VZ Sn RD WX=>?_;let eF:F'=F:=Wc (Ud.least F' Wa.tr) (Wa.least F Ud.tr)
  subst eF;let el:=Ze8 PY VZ hn hs
  subst el;exists _,rfl,_,rfl,_,rfl,_,rfl,_,_,rfl,rfl,_,rfl,_,_,rfl,?_;exists x,n,ps,[],[],F',Ww,LS,LV,R,_,_,_,rfl,Sn,Wa,hG,WX,LQ,by ext,n0,(by split<;>ext),(by split<;>lia),λr xs H3 xD Ua Vr So hX=>?_
  let e1:((R.drop num.j).Q ((if (c:A0)<num+most then (c:A0) else num+most)-num).j)=(R.drop num.j).Q most.j:=by rw[List.take_eq_take_iff,QV];split<;>grind
  rw[e1]at hX;show q r xs H3 ((SameX.Y s1).l (RD.l xD)) Ua (Zm4 WX ((SameX.Y s1).l RD) Vr) So hX
inductive spZE(K:Ad)(CP C Pt:A7):_
 |mk (w:A7) (n:A0) (ps:Aa) (num:A0) (R:Ab) (_:vs=[.ref w,.int num]) (_:WebAt C H w n ps) (_:ZA n ps) (_:Xw H Pt) (_:0<=num) (_:num<R.f) (_:RowW n ps R) (_:∀(r:A7)(T:Ac)(H':Hp),R[num.j]?=⇑T->SameX Pt H H'->Xw H' Pt->H' r=⇑(.tup<|IL T)->Q ↑r H')
def fb{R:Ab}{j:A5}{T:Ac}(h:R[j]?=⇑T):(R.drop j).Q 1=[T]:=by let hj:=(Xx.S h);rw[GC hj.1,hj.2];rfl
def e9(T:Txt K mg t)(hB:Wr K mg base t.dZt Pt):Xs P w base XA T.qZE 45 (spZE K t.A_Part t.A_Web Pt):=by
 show T.qZE.okI ["web","number","trees"] B ⋯
 .let⟨w,n,ps,num,R,rfl,hW,hG,hT,n0,n1,hR,q⟩:=h;show⟨_,(XN (Zh 2<|Xz (xA T hB) hr T.qZD Zv<|XZ (pv 0)<|XZ (pv 1)<|XZ XQ XY)
   (XN (XD (Zg TY (Zf (Zi K) rC T.n_len Boot.«len»<|XZ (pv 2) XY) XQ<|Zp _)
   (XM Vn)
   Zm)
   (XM<|Zj<|Zz (Zc K) (pv 2) XQ λ_ _=>rfl))),?_⟩
  let(ld,F,inc,fu,Ud,_,_,_,xy):=id hR;let c20:=jY hG xy
  obtain⟨U,hU⟩:∃U,R[num.j]?=⇑U:={_,Xv J};exists _,Z,_,Z,w,n,ps,num,1,R,Z,hW,hG,hT,n0,J,Ep,Ep,λ_=>hR,λno=>absurd Ud.tr.1<|no F,λr xs H1 Kd Vw Vr VT hX=>?_;show nm ?_;dsimp only[List.set];rw[show(1:A0).j=1 from Z,fb hU]at hX;let(v,hv,c,rfl,hc):=hX.2 0 U rfl;let hl:xs.f=1:=hX.1
  exists _,Z,r,xs,Z,.inl<|SqL.of VT,Z,_,Z,?_;rw[ZO];show Xl (λh0=>J) λ_=>?_;change(_:Prop)
  show Vi ?_;exists _,Z,r,xs,0,.ref c,Z,Z,SqL.of VT,Zu (n:=0) Z hv,q c U H1 hU Kd Vw hc
inductive spZF(K:Ad)(CP C Pt:A7):_
 |mk (w a n ps kd U R:_) (_:vs=[.ref w,.ref a]) (_:WebAt C H w n ps) (_:ZA n ps) (_:Xw H Pt) (_:SqK kd K H a (IL U)) (_:Zn n ps U) (_:RowW n ps R) (_:U∈R) (_:∀(j:A5)(H':Hp),R[j]?=⇑U->SameX Pt H H'->Xw H' Pt->Q (.int j) H')
def xx(T:Txt K mg t)(hB:Wr K mg base t.dZt Pt):Xs P w base XA T.qZF 44 (spZF K t.A_Part t.A_Web Pt):=by
 show T.qZF.okI ["web","tree"] B ⋯
 .let⟨w,a,n,ps,kd,U,R,rfl,hW,hG,hT,hA,hU,⟨ld,F,inc,fu,Ud,hn,hs,LQ,xy⟩,hUR,q⟩:=h;show⟨_,(XN (Sd<|Xz (x8 T) hr T.qZm Zv<|XZ (pv 0)<|XZ (pv 1) XY)
   (XM<|Zj<|Xz (fe T hB 31) hr T.qZB Zv<|XZ (Xz (xM T hB) hr T.qZu Zv<|XZ (pv 0) XY)<|XZ (Xz (Ht T) hr T.qZj Zv<|XZ (pv 0) XY)<|XZ (Zl (ZS K) rC T.n_tuple Boot.«tuple»<|XZ (pv 1) XY) XY)),?_⟩
  exists _,Z,_,Z,w,a,n,ps,kd,U,Z,hW,hG,hA,λ_ H1 s1=>?_,λh=>absurd hU h;let Vw:=hT.Y s1
  exists _,Z,w,n,ps,Z,hW.Y s1,hG,Vw,⟨U,hU⟩,λx F' Ww LS LV H2 Wa PY VZ Sn RD WX=>?_;let eF:F'=F:=Wc (Ud.least F' Wa.tr) (Wa.least F Ud.tr)
  subst eF;let el:=Ze8 PY VZ hn hs
  subst el;let Qe:SameX Pt H H2:=(SameX.Y s1).l RD
  exists _,Z,w,n,ps,Z,hW.samex hT Qe,hG,λc H3 hc s3=>?_;let ec:=hc.uniq xy
  let Qg:=Qe.l (SameX.Y s3);let Ua:=WX.Y s3
  let Mu:=SqK.samex hA hT Qg;cases kd with
  |true=>
   exists _,Z,a,_,Z,.inr {Mu,?_};exists x,a,n,ps,[],[],F',Ww,U,LS,LV,R,_,Z,Sn.samex WX<|SameX.Y s3,Wa,hG,Ua,LQ,by rw[ec],Mu,hUR,λj H4 hj RF Tn=>q j H4 hj (Qg.l RF) Tn
  |false=>
   exists _,Z,a,_,Z,.inl {Mu,λl hl=>?_};let s4:=s3.l (XO (o:=.tup<|IL U) hl)
   exists x,l,n,ps,[],[],F',Ww,U,LS,LV,R,_,Z,Sn.samex WX<|SameX.Y s4,Wa,hG,WX.Y s4,LQ,by rw[ec],SqT.of XT,hUR,λj H4 hj RF Tn=>q j H4 hj ((Qe.l<|SameX.Y s4).l RF) Tn
inductive spZG(K:Ad)(CP C Pt:A7):_
 |mk (w a:A7) (n:A0) (ps:Aa) (kd:B3) (U:Ac) (R:Ab) (j:A5) (_:vs=[.ref w,.ref a]) (_:WebAt C H w n ps) (_:ZA n ps) (_:Xw H Pt) (_:SqK kd K H a (IL U)) (_:Zn n ps U) (_:RowW n ps R) (_:R.Nodup) (_:R[j]?=⇑U) (_:∀(v:V)(H':Hp),mG H' v (R[j+1]?)->SameX Pt H H'->Xw H' Pt->Q v H')
def e8(T:Txt K mg t)(hB:Wr K mg base t.dZt Pt):Xs P w base XA T.qZG 45 (spZG K t.A_Part t.A_Web Pt):=by
 show T.qZG.okI ["web","tree","trees"] B ⋯
 .let⟨w,a,n,ps,kd,U,R,j,rfl,hW,hG,hT,hA,hU,hR,hN,hj,q⟩:=h;show⟨_,(XN (Zh 2<|Xz (xA T hB) hr T.qZD Zv<|XZ (pv 0)<|XZ (Zt Ut (Xz (xx T hB) hr T.qZF Zv<|XZ (pv 0)<|XZ (pv 1) XY) XQ)<|XZ XQ XY)
   (XM<|Zj<|Gd (Zg TY (Zf (Zi K) rC T.n_len Boot.«len»<|XZ (pv 2) XY) XQ<|Zp _) Sf<|Zz (Zc K) (pv 2) XQ λ_ _=>rfl)),?_⟩
  let(ld,F,inc,fu,Ud,_,_,_,xy):=id hR;let c20:=jY hG xy
  let jl:=(Xx.S hj).1;exists _,Z,_,Z,_,Z,w,a,n,ps,kd,U,R,Z,hW,hG,hT,hA,hU,hR,Xo hj,λi H1 hi Kd Vw=>{_,_,Z,Z,?_};let rfl:i=j:=(Gw (Xx.S hi).1 hN).S (hi.l hj.symm);exists w,n,ps,_,1,R,Z,hW.samex hT Kd,hG,Vw,(by change(0:A0)<=(i:A0)+1;lia),(by change(i:A0)+1<10^70;lia),Ep,Ep,λ_=>hR,λno=>absurd Ud.tr.1<|no F,λr xs H2 RD WX Vr Vc hX=>?_;show nm ?_;dsimp only[List.set];rw[show(1:A0).j=1 from Z,show((i:A0)+1).j=i+1 from Z]at hX;let Qe:=Kd.l RD
  exists _,Z,r,xs,Z,.inl<|SqL.of Vc,Z,_,Z,?_;rw[ZO];cases hn:R[i+1]? with
  |none=>
   rw[hn]at q;rw[GA (wL.S hn),List.take_nil]at hX;show Xl (λ_=>q .non H2 Z Qe WX) (λh=>absurd (by rw[hX.1];rfl) h)
  |some U2=>
   rw[hn]at q;let e:(R.drop<|i+1).Q 1=[U2]:=by let(h1,h2):=Xx.S hn;rw[GC h1,h2];rfl
   rw[e]at hX;let(v,hv,c,rfl,hc):=hX.2 0 U2 rfl;show Xl (λh=>absurd h<|by rw[hX.1];change ¬(1:A0)=0;decide) λ_=>?_;exists _,Z,r,xs,0,.ref c,Z,Z,SqL.of Vc,Zu (n:=0) Z hv,q ↑c H2 ⟨c,Z,hc⟩ Qe WX
inductive spZH:_
 |mk (w:C0) (_:vs=[.str w]) (_:(w.cps.all λc=>decide<|c<128)=A9) (_:w.f<=100000) (_:∀H':Hp,Same H H'->Q (.bl<|Kt w.cps.m) H')
def Kc(x y:C0):decide (V.str x=V.str y)=decide (x.cps.m=y.cps.m):=Sk.mpr {λe=>J,λe=>by rw[uu e]}
def eZ{cs:A6 A5}{c:A5}(h:c∈WS cs):c∈cs:=by
 unfold WS at h;split at h
 .show List.mem_of_mem_tail h
 .show h
def eY(cs:A6 A5):(WS cs).f<=cs.f:=by unfold WS;grind
def LC{l:A6 A5}{f:A5->B3}:(l.G λc=>!f c).any id=B0↔∀c∈l,f c=A9:=by
 ext
def eX(T:Txt K mg t):Xs P w base XA T.qZH 1 spZH:=by
 show T.qZH.okI ["word","figures"] B ⋯
 .let⟨w,rfl,ha,hl,q⟩:=h;show⟨_,(XN (Zh 1<|Gd (MY<|UQ K Lv PySem.F.slot_str_startswith PySem.F.type_str_startswith Yz9 (pv 0)<|XZ ZW XY) (ZR jN (pv 0) (Wh XQ) Rv)<|pv 0)
   (XN (XD (PW.pt<|QI (Lj<|Jp RY RY XQ (Zf Zw5 rC T.n_len Boot.«len»<|XZ (pv 1) XY)<|Se (v:=V.int 60) Z T.g_MOST_FIGURES.choose_spec {_,Z})<|Ge<|MY<|Zf (oe K Z) rC T.n_any Boot.«any»<|XZ (Vd Z (sc0:=Za<|top 85) (N0:=["word","figures"]) (N':=["sign"]) (o:=1) (fr:=[]) ⟨Z,B,B,B,Z,B⟩ (jP<|pv 1) (Zs Ep) (λ_ _ _ _=>(Zb 0)) (λ_ _ _ _=>ZK) λ_ _ _ _=>(Us Za5 (pv 0) (Se (v:=V.str "0123456789") Z T.g_FIGURES.choose_spec {_,Z}) Z)) XY)
   (XM<|Zj Sg)
   Zm)
   (XM<|Zj<|Ei (Us TY (pv 0) ZW<|Zp _)<|Jz<|Us Sz (Zz qd (pv 1) XQ λ_ _=>rfl) ZW<|Zp _))),?_⟩
  let hw:=Ku w;let z1:100000<=sizeLine:=Ep
  show jZ (λσ H'=>H'=H/\∃F:C0,σ=[⇑(.str w),⇑(.str F)]/\F.cps.m=WS w.cps.m) ?_ ?_;rotate_left
  .intro Kn hK;exists _,Z,Z,_,_,Z,Z,_,Z,?_;rw[Zk9];show Xl (λhs=>?_) (λhs=>?_)
   .let Hz:1<=w.cps.m.f:=by
     cases e:w.cps.m with
     |nil=>ext
     |cons c r=>simp
    let et:=ZG7 Hz;exists _,Z,_,Z,w,Z,?_,hK _ _ {Z,_,Z,?_}
    .rw[Ku,et,List.length_tail];grind
    .rw[et];unfold WS;ext
   .exists _,Z,hK _ _ {Z,_,Z,?_};unfold WS;ext
  rintro σ H' ⟨rfl,F,rfl,hF⟩;let hFl:=Ku F
  let NG:=eY w.cps.m;let hFa:(F.cps.all λc=>decide<|c<128)=A9:=by rw[<-Array.all_toList,Pm]at ha ⊢;intro c hc;rw[hF]at hc;show ha c (eZ hc)
  let bad:¬(1<=(WS w.cps.m).f/\(WS w.cps.m).f<=60/\∀c∈WS w.cps.m,48<=c/\c<=57)->∀H2:Hp,Same H' H2->Q (.bl false) H2:=λh H2 s2=>by
   let e:Kt w.cps.m=B0:=JQ λz=>h ⟨z.1,z.2.1,z.2.2.1⟩
   ext
  exists _,Z,F,Z,J,_,_,Z,Z,_,Z,?_;show Xl (λh1=>?_) λh1=>?_;rotate_left
  .exists _,Z,?_;show UT ?_;show UT ?_;show bad (λz=>h1 J) _ (Same.refl _)
  exists _,_,Z,Z,_,Z,?_;show WC (λh60=>?_) λh60=>?_;rotate_left
  .show UT ?_;show bad (λz=>h60 J) _ (Same.refl _)
  exists _,Z,F,Z,hFa,AG (λi ys H2=>H2=H'/\ys=((F.cps.m.Q i).G λc=>!decide (48<=c/\c<=57)).G V.bl) ⟨Z,Z⟩ D (λi ys H2 _ zz=>by let(_,e):=zz;grind) ?_ ?_
  .rintro i c ys H2 hc ⟨rfl,rfl⟩ S Xy;show QF ?_;exists _,Z,_,_,Z,Z,?_;rw[Ar];show Xy _ _ {Z,?_};let Wi:F.cps.m[i]?=⇑c:=by rwa[YN]
   rw[YB,Wi,YE,YE];rfl
  rintro ys H2 ⟨rfl,rfl⟩ p hp;rw[YF (by show XG _)];exists p,_,Z,SqL.of XT,_,Z,?_;let s3:=XO (o:=.lst<|(F.cps.m.G λc=>!decide (48<=c/\c<=57)).G V.bl) hp
  generalize upd H2 p (.lst<|(F.cps.m.G λc=>!decide (48<=c/\c<=57)).G V.bl)=H3 at *;cases hb:(F.cps.m.G λc=>!decide (48<=c/\c<=57)).any id with
  |true=>
   show UT ?_;show bad (λz=>?_) _ s3;grind
  |false=>
   show RW ?_;let TB:=LC.S hb
   rw[hF]at TB hFl;show Vi ?_;cases hf:WS w.cps.m with
   |nil=>ext
   |cons c r=>
    let hF0:Wy F.cps.m 0=⇑c:=by rw[hF,hf];show Zu (n:=0) Ep rfl
    exists _,Z,Z,_,Z,?_;rw[Kc];let e0:(Str.M "0").cps.m=[48]:=rC
    let fin:∀b:B3,(b=A9↔w.cps.m=[48]\/c≠48)->Q (.bl b) H3:=λb Ks=>by
     let e:Kt w.cps.m=b:=by
      rw[Nj,Ks];unfold Kt;rw[VR];constructor
      .grind
      .grind
     ext
    show Xl (λh0=>?_) (λh0=>?_)
    .ext
    .exists _,Z,F,0,c,Z,Z,D,hF0,Z,?_;rw[Kc,e0];grind
inductive spZI:_
 |mk (i:A0) (_:vs=[.str (nT i)]) (_:-(10^60)<i) (_:i<10^60) (_:∀H':Hp,Same H H'->Q (.int i) H')
def GW(T:Txt K mg t):Xs P w base XA T.qZI 2 spZI:=by
 show T.qZI.okI ["word"] B ⋯
 .let⟨i,rfl,h1,h2,q⟩:=h;show⟨_,(XN (XD (Lj<|MY<|Xz (eX T) hr T.qZH Zv<|XZ (pv 0) XY)
   (XM Vn)
   Zm)
   (XM<|Zj<|Zl jR rC T.n_int Boot.«int»<|XZ (pv 0) XY)),?_⟩
  let hl:=HX (k:=60) Ep h1 h2;exists _,Z,nT i,Z,jE i,J,λH1 s1=>{_,Z,?_};rw[Kv,AD h1 h2];show RW ?_;show Vi ?_;exists _,Z,nT i,i,Z,jK (k:=60) Ep Ep h1 h2,J,q H1 s1
inductive spZJ(K:Ad):_
 |mk (name l:_) (_:vs=[.str (Str.join UB<|name::l.G nT),.str name,.int l.f]) (_:32∉name.cps.m) (_:name.f<=100) (_:l.f<=10) (_:Told l) (_:∀r H',Same H H'->H' r=⇑(.lst<|IL l)->Q ↑r H')
def xw(T:Txt K mg t):Xs P w base XA T.qZJ 3 (spZJ K):=by
 show T.qZJ.okI ["line","name","many","words"] B ⋯
 .let⟨name,l,rfl,hn,Fj,VX,hl,q⟩:=h;show⟨_,(XN (Zh 3<|UQ K Lv GB sQ jT (pv 0)<|XZ ZW XY)
   (XN (XD (PW.pt<|QI (Zg Sz (Zz (Zc K) (pv 3) XQ λ_ _=>rfl) (pv 1)<|Zp _)<|Ge<|Zg Sz (Zf (Zi K) rC T.n_len Boot.«len»<|XZ (pv 3) XY) (Zt Ut (pv 2) XQ)<|Zp _)
   (XM Vn)
   Zm)
   (XM<|Zj<|Vd Z (sc0:=Za<|top 87) (N0:=["line","name","many","words"]) (N':=["word"]) (o:=1) (fr:=[]) ⟨Z,B,B,B,Z,B⟩ (ZD K<|ZR (ZT K) (pv 3) (Wh XQ) Rv) (Zs Ep) (λ_ _ _ _=>(Zb 0)) (λ_ _ _ _=>ZK) λ_ _ _ _=>(Xz (GW T) hr T.qZI Zv<|XZ (pv 0) XY)))),?_⟩
  let Tg:=Av (l:=l) hn;let hlen:(Str.join UB<|name::l.G nT).f<=2000:=by
   rw[Az];show Yq (Aw (AP:=100) λa ha=>?_) D;rcases Yo.S ha with e|e
   .rw[e];show Fj
   .have:=RL hl a e;lia
  let z1:2000<=sizeLine:=Ep;exists _,Z,Z,_,_,Z,Z,Z,J,?_,λp hp=>?_
  .change(Txt.split _ UB).f<=_;grind
  let e:Txt.split (Str.join UB<|name::l.G nT) (Str.M " ")=name::l.G nT:=Tg;rw[e];let u1:=XO (o:=.lst<|TL<|name::l.G nT) hp
  let VD:(upd H p<|.lst<|TL<|name::l.G nT) p=⇑(.lst<|TL<|name::l.G nT):=XT;generalize upd H p (.lst<|TL<|name::l.G nT)=H1 at *;show nm ?_;exists _,Z,p,_,0,.str name,Z,Z,SqL.of VD,Zu (n:=0) Ep Z,_,Z,Z,_,Z,?_;show IW Z ?_;exists _,Z,p,_,Z,.inl<|SqL.of VD,_,Z,_,_,Z,Z,Z,_,Z,?_;rw[Zq,YM,Xr,ZO];show IW (by ext) ?_;show Vi ?_;exists _,Z,_,Z,p,_,Z,SqL.of VD,λp2 Wn=>?_;rw[BJ Ep];let e2:(TL<|name::l.G nT).drop (1:A0).j=TL (l.G nT):=rfl
  rw[e2];let u2:=XO (o:=.lst<|TL<|l.G nT) Wn
  let Tb:(upd H1 p2<|.lst<|TL<|l.G nT) p2=⇑(.lst<|TL<|l.G nT):=XT;generalize upd H1 p2 (.lst<|TL<|l.G nT)=H2 at *;exists p2,Z,{_,SqL.of Tb},Wl (K:=K) (a:=p2) (xs:=TL<|l.G nT) (λi ys H3=>Same H2 H3/\ys=IL (l.Q i)) {Same.refl _,Z} (Zk<|by rw[Zq,Xr];lia) (λi ys H3 _ zz=>by let(e,ey):=zz;exists SqL.of<|e _ _ Tb,D) ?_ ?_
  .rintro i v ys H3 hi ⟨s3,rfl⟩ S Xy;let(x,rfl,hx):=Aq hi;rw[Yi]at hx;let(z,hz,rfl):=wJ.S hx;let hb:=hl z (Xo hz)
   show QF ?_;exists _,Z,z,Z,hb.1,hb.2,λH4 s4=>Xy _ _ {s3.l s4,?_};rw[YB,hz]
   ext
  rintro ys H3 ⟨s3,rfl⟩ p3 Px;rw[Zq,Xr,Yv];show q p3 _ (u1.l<|u2.l<|s3.l<|XO Px) XT
inductive spZK(K:Ad)(C:A7):_
 |mk (n ps ls:_) (_:vs=[.str (RM n ps ls)]) (_:ZA n ps) (_:ls.f=ps.f) (_:Told ls) (_:∀t w a H',Same H H'->H a=A8->H' t=⇑(.tup [.ref w,.ref a])->WebAt C H' w n ps->H' a=⇑(.lst<|IL ls)->Q ↑t H')
def eW:FnScope ["text","lines","places","ties"] ["text"] (Za (top 88)):=To B
def eV(T:Txt K mg t):Xs P w base XA T.qZK 4 (spZK K t.A_Web):=by
 show T.qZK.okI ["text","lines","places","ties"] B ⋯
 .let⟨n,ps,ls,rfl,hG,hl,hT,q⟩:=h;show⟨_,(XN (Zh 1<|UQ K Lv GB sQ jT (pv 0)<|XZ ZW XY)
   (XN (Zh 2<|Xz (xw T) hr T.qZJ Zv<|XZ (Zz (Zc K) (pv 1) XQ λ_ _=>rfl)<|XZ ZW<|XZ XQ XY)
   (XN (PL (i:=3) Z eW.nd Z Z (sc0:=Za<|top 88) (N0:=["text","lines","places","ties"]) (N':=["line"]) (o:=1) (fr:=[]) ⟨Z,B,B,B,Z,B⟩ (ZD K<|ZR (ZT K) (pv 1) (Wh XQ) Rv) (Zs Ep) (λ_ _ _ _=>(Zb 0)) (λ_ _ _ _=>ZK) λ_ _ _ _=>(Xz (xw T) hr T.qZJ Zv<|XZ (pv 0)<|XZ ZW<|XZ XQ XY))
   (XM<|Zj<|TX<|XZ (FZ T.k_Web (ym T) (hr.mono Ep) Z T.c_Web T.bZ8 .nil Zv<|XZ (Zz (Zc K) (pv 2) XQ λ_ _=>rfl)<|XZ (Vd Z (sc0:=Za<|top 88) (N0:=["text","lines","places","ties"]) (N':=["tie"]) (o:=1) (fr:=[]) ⟨Z,B,B,B,Z,B⟩ (ZD K<|pv 3) (Zs Ep) (λ_ _ _ _=>(Zb 0)) (λ_ _ _ _=>ZK) λ_ _ _ _=>(TX<|XZ (Zz (Zc K) (pv 0) XQ λ_ _=>rfl)<|XZ (Zz (Zc K) (pv 0) XQ λ_ _=>rfl) XY)) XY)<|XZ (Vd Z (sc0:=Za<|top 88) (N0:=["text","lines","places","ties"]) (N':=["tie"]) (o:=1) (fr:=[]) ⟨Z,B,B,B,Z,B⟩ (ZD K<|pv 3) (Zs Ep) (λ_ _ _ _=>(Zb 0)) (λ_ _ _ _=>ZK) λ_ _ _ _=>(Zz (Zc K) (pv 0) XQ λ_ _=>rfl)) XY)))),?_⟩
  let eS:=hG.2.2.1;let NC:=hG.1
  let Rw:=hG.2.1;let two:2<=sizeLine:=Ep
  let z1:100000<=sizeLine:=Ep;let wl:=jC (n:=n) hl
  let Tg:=As (n:=n) (ps:=ps) (ls:=ls);let tlen:(RM n ps ls).f<=100000:=by unfold RM;rw[jF];show Yq (Aw (AP:=400)<|Zk7 hG hT) (by rw[wl];lia)
  exists _,Z,Z,_,_,Z,Z,Z,J,?_,λp hp=>?_
  .change(Txt.split _ uq).f<=_;lia
  let e:Txt.split (RM n ps ls) (Str.M "\n")=Ws n ps ls:=Tg;rw[e];let u1:=XO (o:=.lst<|TL<|Ws n ps ls) hp
  let VD:(upd H p<|.lst<|TL<|Ws n ps ls) p=⇑(.lst<|TL<|Ws n ps ls):=XT;show nm ?_;exists _,Z,p,_,0,.str<|Str.M "places "++nT n,Z,Z,SqL.of VD,Zu (n:=0) Ep Z,Str.M "places",[n],rC,Ep,Ep,(show 1<=10 by decide),λz hz=>D,λpA H2 s2 gS=>?_;show nm ?_;let Wn:=s2 _ _ VD
  exists _,Z,_,Z,p,_,Z,SqL.of Wn,λp2 Tb=>?_;rw[BJ Ep];let e2:(TL<|Ws n ps ls).drop (1:A0).j=TL (List.zipWith PD ps ls):=rfl
  rw[e2];let u3:=XO (o:=.lst<|TL<|List.zipWith PD ps ls) Tb
  let h3:(upd H2 p2<|.lst<|TL<|List.zipWith PD ps ls) p2=⇑(.lst<|TL<|List.zipWith PD ps ls):=XT;let eR:=u3 _ _ gS
  generalize upd H2 p2 (.lst<|TL<|List.zipWith PD ps ls)=H3 at *;let zl:(List.zipWith PD ps ls).f=ps.f:=by rw[QN];ext
  obtain⟨R,hR⟩:∃R,R=List.zipWith (λ(p:A0×A0) l=>[p.1,p.2,l]) ps ls:={_,Z};let Rl:R.f=ps.f:=by rw[hR,QN];grind
  let Rat:∀(i:A5)(p:A0×A0)(l:A0),ps[i]?=⇑p->ls[i]?=⇑l->R[i]?=⇑[p.1,p.2,l]:=λi p l h1 h2=>by rw[hR,JW,h1,h2]
  exists p2,Z,{_,SqL.of h3},Wl (K:=K) (a:=p2) (xs:=TL<|List.zipWith PD ps ls) (λi ys H4=>Same H3 H4/\i<=ps.f/\Bears (QD H4) ys (R.Q i)) {Same.refl _,Qd _,{Z,λi a e=>by simp at e}} (Zk<|by rw[Zq,zl];lia) (λi ys H4 _ zz=>by let(e,hi,h):=zz;show{SqL.of<|e _ _ h3,by rw[h.1,Yw];ext}) ?_ ?_
  .rintro i v ys H4 hi ⟨s4,Vs,hB⟩ S Xy;let(x,rfl,hx):=Aq hi;let Wu:i<ps.f:=by rw[<-zl];show(Xx.S hx).1
   obtain⟨pp,Pq⟩:∃pp,ps[i]?=⇑pp:={_,Xv Wu};obtain⟨l,VX⟩:∃l,ls[i]?=⇑l:={_,Xv<|by ext};rw[JW,Pq,VX]at hx;let rfl:PD pp l=x:=Yn hx;show QF ?_;exists _,Z,Str.M "tie",[pp.1,pp.2,l],Z,Ep,Ep,(show 3<=10 by decide),jB hG hT Pq VX,λr H5 s5 hr=>Xy _ _ {s4.l s5,Wu,?_};rw[YB,Rat i pp l Pq VX];show(hB.imp λ_ _ zz=>by let(r,e,h):=zz;exists r,e,s5 _ _ h).snoc ⟨r,Z,hr⟩
  rintro ys H4 ⟨s4,_,hB⟩ p3 Px;rw[Zq,zl,YF (by ext)]at hB;let u5:=XO (o:=.lst ys) Px
  let h5:(upd H4 p3<|.lst ys) p3=⇑(.lst ys):=XT;let eQ:Bears (QD<|upd H4 p3<|.lst ys) ys R:=hB.imp λ_ _ zz=>by let(r,e,h):=zz;exists r,e,u5 _ _ h
  let eO:=(s4.l u5) _ _ eR;let sH5:=u1.l (s2.l<|u3.l<|s4.l u5)
  generalize upd H4 p3 (.lst ys)=H5 at *;let Nv:=eQ.1
  show nm ?_;let xu:∀i row,R[i]?=⇑row->∃(p:A0×A0)(l:A0),ps[i]?=⇑p/\ls[i]?=⇑l/\row=[p.1,p.2,l]:=λi row h=>by
   let Wu:i<ps.f:=by rw[<-Rl];show(Xx.S h).1
   obtain⟨pp,Pq⟩:∃pp,ps[i]?=⇑pp:={_,Xv Wu};obtain⟨l,VX⟩:∃l,ls[i]?=⇑l:={_,Xv<|by ext};rw[Rat i pp l Pq VX]at h;exists pp,l,Pq,VX,(Yn h).symm
  exists _,Z,pA,_,0,.int n,Z,Z,SqL.of eO,Zu (n:=0) Ep Z,_,Z,p3,Z,{_,SqL.of h5},Wl (K:=K) (a:=p3) (xs:=ys) (λi us H6=>Same H5 H6/\i<=ys.f/\PairsV H6 us (ps.Q i)) {Same.refl _,Qd _,PairsV.nil} (Zk J) (λi us H6 _ zz=>by let(e,hi,h):=zz;show{SqL.of<|e _ _ h5,by rw[h.1,Yw];ext}) ?_ ?_
  .rintro i v us H6 hi ⟨s6,Vs,hU⟩ S Xy;let(row,GV,r,rfl,hr):=eQ.at hi;let(pp,l,Pq,VX,rfl):=xu i row GV;let Xp:=(Xx.S hi).1
   show QF ?_;exists _,Z,r,_,0,.int pp.1,Z,Z,SqL.of<|s6 _ _ hr,Zu (n:=0) Ep Z,_,Z,r,_,1,.int pp.2,Z,Z,SqL.of<|s6 _ _ hr,Zu (n:=1) Ep Z,two,λc hc=>Xy _ _ {s6.l<|XO hc,Xp,?_};rw[YB,Pq];show(hU.Y<|XO hc).snoc ⟨c,Z,XT⟩
  rintro us H6 ⟨s6,_,hU⟩ lA fF;rw[Nv,Rl,Yv]at hU;let u7:=XO (o:=.lst us) fF
  let h7:(upd H6 lA<|.lst us) lA=⇑(.lst us):=XT;let hU7:=hU.Y u7
  let Pr:=s6.l u7;generalize upd H6 lA (.lst us)=H7 at *;intro x dx nx Pp Ob;let t1:Same H7 (upd (upd H7 dx<|.own x) x<|.ins t.A_Web dx []):=Zw (XO Pp) (by rwa[Zd (YZ Ob)])
  exists x,dx,n,lA,false,us,ps,Z,XT,λo=>?_,hU7.Y t1,hG,λH8 hW k3=>{Z,?_}
  .show(Zy nx t1).seq (SqL.of h7)
  let s8:Same H7 H8:=λb o e=>k3 b o (t1 b o e) (Ze e nx);let h8:=(Pr.l s8) _ _ h5
  let hB8:Bears (QD H8) ys R:=eQ.imp λ_ _ zz=>by let(r,e,h):=zz;exists r,e,(Pr.l s8) _ _ h
  exists _,Z,p3,Z,{_,SqL.of h8},Wl (K:=K) (a:=p3) (xs:=ys) (λi us H9=>H9=H8/\us=IL (ls.Q i)) ⟨Z,Z⟩ (Zk J) (λi us H9 _ zz=>by let(e,h):=zz;show{e▸SqL.of h8,by ext}) ?_ ?_
  .rintro i v us H9 hi ⟨rfl,rfl⟩ S Xy;let(row,GV,r,rfl,hr):=hB8.at hi;let(pp,l,Pq,VX,rfl):=xu i row GV;show QF ?_;exists _,Z,r,_,2,.int l,Z,Z,SqL.of hr,Zu (n:=2) Ep Z,Xy _ _ {Z,?_};rw[YB,VX];grind
  rintro us9 H9 ⟨rfl,rfl⟩ aA tq;rw[Nv,Rl,<-hl,Yv];let u9:=XO (o:=.lst<|IL ls) tq
  let sH9:=sH5.l (Pr.l s8);exists two,λtA Pw=>?_;let eN:=XO (o:=.tup [.ref x,.ref aA]) Pw
  show q tA x aA _ (sH9.l<|u9.l eN) (sH9.free tq) XT (hW.Y<|u9.l eN) (eN _ _ XT)
inductive spZL(K:Ad):_
 |mk (a:A7) (kd:B3) (l:Ac) (_:vs=[.ref a]) (_:SqK kd K H a (IL l)) (_:l.f<=1000) (_:Told l) (_:∀H':Hp,Same H H'->Q (.str<|Str.join UB<|l.G nT) H')
def eK(T:Txt K mg t):Xs P w base XA T.qZL 1 (spZL K):=by
 show T.qZL.okI ["numbers"] B ⋯
 .let⟨a,kd,l,rfl,hA,VX,hl,q⟩:=h;exists _,(XM<|Zj<|UQ K Lv wG wH (uw K) ZW<|XZ (Vd Z (sc0:=Za<|top 89) (N0:=["numbers"]) (N':=["number"]) (o:=1) (fr:=[]) ⟨Z,B,B,B,Z,B⟩ (Uk K<|pv 0) (Zs Ep) (λ_ _ _ _=>(Zb 0)) (λ_ _ _ _=>ZK) λ_ _ _ _=>(Zl ZY rC T.n_str Boot.«str»<|XZ (pv 0) XY)) XY),?_;exists Z,_,Z,a,Z,CS (k:=kd) (K:=K) (xs:=IL l) (λi ys H3=>H3=H/\ys=TL ((l.Q i).G nT)) ⟨Z,Z⟩ (Zk D) (λi ys H3 _ zz=>by let(e,ey):=zz;show{e▸hA,by rw[ey,Zq,Xr,Yw];omega}) ?_ ?_
  .rintro i v ys H3 hi ⟨rfl,rfl⟩ S Xy;let(z,rfl,hz):=Um hi;let hb:=hl z (Xo hz)
   show QF ?_;exists _,Z,z,Z,rF,rF,Xy _ _ {Z,?_};rw[YB,hz,YE];show Ap _ _
  rintro ys H3 ⟨rfl,rfl⟩ p hp;rw[Xc,Yv];exists _,p,l.G nT,Z,Z,SqL.of XT,?_,q _<|XO hp;show Ma (AP:=61) (RL hl) D
inductive spZM(K:Ad):_
 |mk (a:A7) (l:Ac) (_:vs=[.ref a]) (_:H a=⇑(.tup<|IL l)) (_:l.f<=1000) (_:Told l) (_:∀H':Hp,Same H H'->Q (.str<|WL l) H')
def GU(T:Txt K mg t):Xs P w base XA T.qZM 2 (spZM K):=by
 show T.qZM.okI ["ties"] B ⋯
 .let⟨a,l,rfl,hA,VX,hl,q⟩:=h;exists _,(XM<|Zj<|Gd (Zg PV (Zf (Zi K) rC T.n_len Boot.«len»<|XZ (pv 0) XY) XQ<|Zp _) (Xz (eK T) hr T.qZL Zv<|XZ (pv 0) XY) ZW),?_;exists _,Z,a,_,Z,.inr<|SqT.of hA,_,_,Z,Z,_,Z,?_;rw[Xc];show Xl (λh=>?_) (λh=>?_)
  .exists _,Z,a,true,l,Z,SqT.of hA,VX,hl,λH1 s1=>?_
   have:=q H1 s1
   unfold WL at this;grind
  .have:=q H (Same.refl _)
   unfold WL at this;rwa[Yk (YV.S rF)]at this
def eJ:(Sp):=λ_ _ _ _=>False
def eE(T:Txt K mg t):Xs P w base XA T.qZN 1 eJ:=by
 show T.qZN.ok ["web","number","inside","outside","tie","size"] B (λvs H Q E h=>?_) (λXI A outer s H vs Q E hr h=>?_)
 .show False.elim h
 .show False.elim h
def eD:(Sp):=λ_ _ _ _=>False
def eC(T:Txt K mg t):Xs P w base XA T.qZO 1 eD:=by
 show T.qZO.ok ["web","tree","beside"] B (λvs H Q E h=>?_) (λXI A outer s H vs Q E hr h=>?_)
 .show False.elim h
 .show False.elim h
def eh:(Sp):=λ_ _ _ _=>False
def d9(T:Txt K mg t):Xs P w base XA T.qZP 1 eh:=by
 show T.qZP.ok ["web","ties"] B (λvs H Q E h=>?_) (λXI A outer s H vs Q E hr h=>?_)
 .show False.elim h
 .show False.elim h
def d8:(Sp):=λ_ _ _ _=>False
def d7(T:Txt K mg t):Xs P w base XA T.qZQ 1 d8:=by
 show T.qZQ.ok ["pair"] B (λvs H Q E h=>?_) (λXI A outer s H vs Q E hr h=>?_)
 .show False.elim h
 .show False.elim h
def d6:(Sp):=λ_ _ _ _=>False
def d5(T:Txt K mg t):Xs P w base XA T.qZR 1 d6:=by
 show T.qZR.ok ["web","lengths","name"] B (λvs H Q E h=>?_) (λXI A outer s H vs Q E hr h=>?_)
 .show False.elim h
 .show False.elim h
def dZ:(Sp):=λ_ _ _ _=>False
def dY(T:Txt K mg t):Xs P w base XA T.qZS 1 dZ:=by
 show T.qZS.ok ["web","lengths","most"] B (λvs H Q E h=>?_) (λXI A outer s H vs Q E hr h=>?_)
 .show False.elim h
 .show False.elim h
inductive spZT(K:Ad)(C Pt:A7):_
 |mk (w b:A7) (n z:A0) (ps:Aa) (R:Ab) (_:vs=[.ref w,.ref b,.str<|Str.M "row",.int z]) (_:WebAt C H w n ps) (_:ZA n ps) (_:RH n ps R) (_:0<=z) (_:z<R⁻¹) (_:Xw H Pt) (_:∀s H',Oi R (.row z) s->SameX Pt H H'->Xw H' Pt->Q (.str s) H')
def dX(T:Txt K mg t)(hB:Wr K mg base t.dZt Pt):Xs P w base XA T.qZT 46 (spZT K t.A_Web Pt):=by
 show T.qZT.okI ["web","lengths","name","number"] B ⋯
 .let⟨w,b,n,z,ps,R,rfl,hW,hG,hR,z0,z1,hT,k⟩:=h;show⟨_,(XN (XD (Zg TY (pv 2) ZW<|Zp _)
   (XM<|Zj<|Xz (GU T) hr T.qZM Zv<|XZ (Xz (eE T) hr T.qZN Zv<|XZ (pv 0)<|XZ (pv 3) XY) XY)
   Zm)
   (XN (XD (Zg TY (pv 2) ZW<|Zp _)
   (XM<|Zj<|Xz (GU T) hr T.qZM Zv<|XZ (Xz (e9 T hB) hr T.qZE Zv<|XZ (pv 0)<|XZ (pv 3) XY) XY)
   Zm)
   (XM<|Zj<|Xz (dY T) hr T.qZS Zv<|XZ (pv 0)<|XZ (pv 1)<|XZ (pv 3) XY))),?_⟩
  exists _,Z,Z,_,Z,?_;show RV (λe=>by cases e) ?_;change(_:Prop)
  show Vi ?_;exists _,Z,Z,_,Z,?_;show IX Z ?_;exists _,Z,_,Z,w,n,ps,z,R,Z,hW,hG,hT,z0,z1,hR.1,λr U H1 hU sx tab hr=>?_;let(t1,t2):=tS hG hR (Xo hU);exists r,U,Z,hr,J,t2,λH2 s2=>k _ H2 ⟨U,hU,Z⟩ (sx.l<|SameX.Y s2)<|tab.Y s2
inductive spZU(K:Ad)(C Pt:A7):_
 |mk (w a:A7) (n:A0) (ps:Aa) (U:Ac) (R:Ab) (_:vs=[.ref w,.ref a]) (_:WebAt C H w n ps) (_:ZA n ps) (_:RH n ps R) (_:Xw H Pt) (_:SqL K H a (IL U)) (_:U∈R) (_:∀s H',Oi R (.next U) s->SameX Pt H H'->Xw H' Pt->Q (.str s) H')
def dW(T:Txt K mg t)(hB:Wr K mg base t.dZt Pt):Xs P w base XA T.qZU 46 (spZU K t.A_Web Pt):=by
 show T.qZU.okI ["web","tree","behind"] B ⋯
 .let⟨w,a,n,ps,U,R,rfl,hW,hG,hR,hT,hS,hU,k⟩:=h;show⟨_,(XN (Zh 2<|Xz (e8 T hB) hr T.qZG Zv<|XZ (pv 0)<|XZ (pv 1) XY)
   (XM<|Zj<|Gd (Zg vJ (pv 2) Sf<|Zp _) ZW<|Xz (GU T) hr T.qZM Zv<|XZ (pv 2) XY)),?_⟩
  let(j,hj):=YG hU;exists _,Z,_,Z,w,a,n,ps,false,U,R,j,Z,hW,hG,hT,hS,(hR.2.2 U).S hU,hR.1,hR.2.1,hj,λv H1 hv sx tab=>?_;show nm ?_;dsimp only;cases hn:R[j+1]? with
  |none=>
   rw[hn]at hv;let rfl:v=.non:=hv;exists _,Z,Z,_,Z,?_;show IX Z ?_;show k _ H1 {j,hj,by rw[hn];rfl} sx tab
  |some W=>
   rw[hn]at hv;let(c,rfl,hc):=hv;exists _,Z,Z,_,Z,?_;show RV (λe=>by cases e) ?_;let(t1,t2):=tS hG hR (Xo hn);exists _,Z,c,W,Z,hc,J,t2,λH2 s2=>k _ H2 {j,hj,by rw[hn];rfl} (sx.l<|SameX.Y s2)<|tab.Y s2
inductive spZV(K:Ad)(C Pt:A7):_
 |mk (w a:A7) (n:A0) (ps:Aa) (U:Ac) (R:Ab) (q:AskW) (_:vs=[.ref w,.str<|UA q,.ref a]) (_:WebAt C H w n ps) (_:ZA n ps) (_:RH n ps R) (_:Xw H Pt) (_:SqL K H a (IL U)) (_:(q=.place U\/q=.next U)) (_:yA R q) (_:∀s H',Oi R q s->SameX Pt H H'->Xw H' Pt->Q (.str s) H')
def dU(T:Txt K mg t)(hB:Wr K mg base t.dZt Pt):Xs P w base XA T.qZV 47 (spZV K t.A_Web Pt):=by
 show T.qZV.okI ["web","name","ties"] B ⋯
 .let⟨w,a,n,ps,U,R,q,rfl,hW,hG,hR,hT,hS,hq,ho,k⟩:=h;show⟨_,(XN (XD (Zg TY (pv 1) ZW<|Zp _)
   (XM<|Zj<|Zl ZY rC T.n_str Boot.«str»<|XZ (Xz (eC T) hr T.qZO Zv<|XZ (pv 0)<|XZ (pv 2) XY) XY)
   Zm)
   (XN (XD (Zg TY (pv 1) ZW<|Zp _)
   (XM<|Zj<|Zl ZY rC T.n_str Boot.«str»<|XZ (Xz (xx T hB) hr T.qZF Zv<|XZ (pv 0)<|XZ (pv 2) XY) XY)
   Zm)
   (XN (XD (Zg TY (pv 1) ZW<|Zp _)
   (XM<|Zj<|Xz (dW T hB) hr T.qZU Zv<|XZ (pv 0)<|XZ (pv 2) XY)
   Zm)
   (XM<|Zj<|Xz (d7 T) hr T.qZQ Zv<|XZ (Xz (d9 T) hr T.qZP Zv<|XZ (pv 0)<|XZ (pv 2) XY) XY)))),?_⟩
  exists _,Z,Z,_,Z,?_;rcases hq with rfl|rfl
  .show RV (λe=>by cases e) ?_;change(_:Prop)
   show Vi ?_;exists _,Z,Z,_,Z,?_;show IX Z ?_;let ho:U∈R:=ho
   exists _,Z,_,Z,w,a,n,ps,false,U,R,Z,hW,hG,hT,hS,(hR.2.2 U).S ho,hR.1,ho,λj H1 hj sx tab=>{_,Z,J,?_,k _ H1 ⟨j,hj,Z⟩ sx tab}
   have:=(Xx.S hj).1
   have:=g7 hG hR
   lia
  .show RV (λe=>by cases e) ?_;change(_:Prop)
   show Vi ?_;exists _,Z,Z,_,Z,?_;show RV (λe=>by cases e) ?_;change(_:Prop)
   show Vi ?_;exists _,Z,Z,_,Z,?_;show IX Z ?_;exists _,Z,_,Z,w,a,n,ps,U,R,Z,hW,hG,hR,hT,hS,ho,k
inductive spZW(K:Ad):_
 |mk (a:A7) (U:Ac) (_:vs=[.ref a]) (_:SqL K H a (TL<|tieW U)) (_:U.f<=100) (_:Told U) (_:∀r H',Same H H'->H' r=⇑(.lst<|IL U)->Q ↑r H')
def dS(T:Txt K mg t):Xs P w base XA T.qZW 3 (spZW K):=by
 show T.qZW.okI ["words"] B ⋯
 .let⟨a,U,rfl,hA,hl,hT,k⟩:=h;show⟨_,(XN (XD (Zg (oN K<|IY hr) (pv 0) (UH<|XZ ZW XY)<|Zp _)
   (XM<|Zj<|UH XY)
   Zm)
   (XM<|Zj<|Vd Z (sc0:=Za<|top 103) (N0:=["words"]) (N':=["word"]) (o:=1) (fr:=[]) ⟨Z,B,B,B,Z,B⟩ (ZD K<|pv 0) (Zs Ep) (λ_ _ _ _=>(Zb 0)) (λ_ _ _ _=>ZK) λ_ _ _ _=>(Xz (GW T) hr T.qZI Zv<|XZ (pv 0) XY))),?_⟩
  exists _,Z,Ep,λd hd=>{1,_,a,d,Z,Z,Ep,ik (l:=tieW U) (m:=[Str.M "-"]) ((XO hd).seq hA)<|SqL.of XT,_,Z,?_};let u1:=XO (o:=.lst [.str "-"]) hd
  show Xl (λe=>?_) (λne=>?_)
  .let c:U=[]:=cL λc=>by
    let(z,l,rfl):=sW c;let hz:=hT z Ya
    have:=Rh.mpr ⟨z,Z,hz.1,hz.2⟩
    rw[(JM e).1]at this;show absurd this B
   subst c;exists Qd _,λr hr=>k r _ (u1.l<|XO hr) XT
  let hw:tieW U=U.G nT:=Yh λc=>ne (by rw[c];rfl);show Vi ?_;let Tv:=u1.seq hA
  rw[hw]at Tv;generalize upd H d (.lst [.str "-"])=H2 at *;exists _,Z,a,Z,{_,Tv},Wl (K:=K) (a:=a) (xs:=TL<|U.G nT) (λi ys H3=>Same H2 H3/\ys=IL (U.Q i)) {Same.refl _,Z} (Zk<|by rw[Zq,Xr];lia) (λi ys H3 _ h=>by let(e,ey):=h;show{e.seq Tv,by rw[ey,Xc,Yw];show Nat.min_le_left ..}) ?_ ?_
  .rintro i v ys H3 hi ⟨s3,rfl⟩ S Xy;let(x,rfl,hx):=Aq hi;rw[Yi]at hx;let(z,hz,rfl):=wJ.S hx;let hzT:=hT z (Xo hz)
   show QF ?_;exists _,Z,z,Z,hzT.1,hzT.2,λH4 s4=>Xy _ _ {s3.l s4,?_};rw[YB,hz];show(ZV _ _).symm
  .rintro ys H3 ⟨s3,rfl⟩ p3 Px;rw[Zq,Xr,Yv];show k p3 _ (u1.l<|s3.l<|XO Px) XT
inductive spZX(K:Ad)(C Pt:A7):_
 |mk (w b:A7) (n:A0) (ps:Aa) (R:Ab) (q:AskW) (_:vs=[.ref w,.ref b,.str (UJ q)]) (_:WebAt C H w n ps) (_:ZA n ps) (_:RH n ps R) (_:yA R q) (_:Xw H Pt) (_:∀s H',Oi R q s->SameX Pt H H'->Xw H' Pt->Q (.str s) H')
def dR(T:Txt K mg t)(hB:Wr K mg base t.dZt Pt):Xs P w base XA T.qZX 48 (spZX K t.A_Web Pt):=by
 show T.qZX.okI ["web","lengths","line","words","name"] B ⋯
 .let⟨w,b,n,ps,R,q,rfl,hW,hG,hR,ho,hT,k⟩:=h;show⟨_,(XN (Zh 3<|UQ K Lv GB sQ jT (pv 2)<|XZ ZW XY)
   (XN (Zh 4<|Zz (Zc K) (pv 3) XQ λ_ _=>rfl)
   (XN (XD (PW.pt<|Lk (Zg (FP K) (pv 4) (Se (v:=V.ref T.g_ALONE.choose) Z T.g_ALONE.choose_spec.1 Z) Z)<|Ll<|Zg TY (Zf (Zi K) rC T.n_len Boot.«len»<|XZ (pv 3) XY) XQ<|Zp _)
   (XM<|Zj<|Xz (d5 T) hr T.qZR Zv<|XZ (pv 0)<|XZ (pv 1)<|XZ (pv 4) XY)
   Zm)
   (XN (XD (PW.pt<|Lk (Zg (FP K) (pv 4) (Se (v:=V.ref T.g_OF_A_NUMBER.choose) Z T.g_OF_A_NUMBER.choose_spec.1 Z) Z)<|Ll<|Zg TY (Zf (Zi K) rC T.n_len Boot.«len»<|XZ (pv 3) XY) XQ<|Zp _)
   (XM<|Zj<|Xz (dX T hB) hr T.qZT Zv<|XZ (pv 0)<|XZ (pv 1)<|XZ (pv 4)<|XZ (Xz (GW T) hr T.qZI Zv<|XZ (Zz (Zc K) (pv 3) XQ λ_ _=>rfl) XY) XY)
   Zm)
   (XN (XD (PW.pt<|Lk (Zg (FP K) (pv 4) (Se (v:=V.ref T.g_OF_TIES.choose) Z T.g_OF_TIES.choose_spec.1 Z) Z)<|Ll<|Zg PV (Zf (Zi K) rC T.n_len Boot.«len»<|XZ (pv 3) XY) XQ<|Zp _)
   (XM<|Zj<|Xz (dU T hB) hr T.qZV Zv<|XZ (pv 0)<|XZ (pv 4)<|XZ (Xz (dS T) hr T.qZW Zv<|XZ (ZR (ZT K) (pv 3) (Wh XQ) Rv) XY) XY)
   Zm)
   (XM Vn)))))),?_⟩
  let z1:100000<=sizeLine:=Ep;let hw:=ie q
  let(many,_):=ZL7 hG hR q ho;let VX:=ZJ9 hG hR q ho
  exists _,Z,Z,_,_,Z,Z,Z,J,?_,λp hp=>?_
  .change(Txt.split _ UB).f<=_;grind
  let e:Txt.split (UJ q) (Str.M " ")=UA q::Va q:=hw;rw[e];let u1:=XO (o:=.lst<|TL<|UA q::Va q) hp
  let VD:(upd H p<|.lst<|TL<|UA q::Va q) p=⇑(.lst<|TL<|UA q::Va q):=XT;generalize upd H p (.lst<|TL<|UA q::Va q)=H1 at *;show nm ?_;dsimp only;exists _,Z,p,_,0,.str<|UA q,Z,Z,SqL.of VD,Zu (n:=0) Ep Z,?_;show nm ?_;dsimp only;let hW1:=hW.Y u1
  let hT1:=hT.Y u1;let al:∀l:A6 C0,(l.G V.str).all SU=A9:=λl=>by rw[Na];show Pm.mpr λ_ _=>rfl
  show HE (UA q∈VU) ((Va q).f+1=1) (λQ q'=>?_) (λQ q'=>?_) (λc1 c2=>?_) (λnA=>?_)
  .exists _,Z,_,VU.G V.str,Z,.inr<|T.g_ALONE.choose_spec.2.sq H1,Z,al _,_,Z,by rwa[iz]
  .exists _,Z,p,_,Z,.inl<|SqL.of VD,Z,_,Z,?_;rwa[Zq,YM,ZO,show decide ((((Va q).f+1:A5):A0)=1)=decide ((Va q).f+1=1) from Sk.mpr J]
  .show absurd c1 (Zx9 q)
  change(_:Prop);show Vi ?_;show HE (UA q∈Wj) ((Va q).f+1=2) (λQ q'=>?_) (λQ q'=>?_) (λc1 c2=>?_) (λnB=>?_)
  .exists _,Z,_,Wj.G V.str,Z,.inr<|T.g_OF_A_NUMBER.choose_spec.2.sq H1,Z,al _,_,Z,by rwa[iz]
  .exists _,Z,p,_,Z,.inl<|SqL.of VD,Z,_,Z,?_;rwa[Zq,YM,ZO,show decide ((((Va q).f+1:A5):A0)=2)=decide ((Va q).f+1=2) from Sk.mpr J]
  .let⟨z,rfl⟩:=ic q c1;obtain⟨b0,b1⟩:0<=z/\z<R⁻¹:=ho
   have:=g7 hG hR
   exists _,Z,_,Z,_,Z,_,Z,p,_,1,.str<|nT z,Z,Z,SqL.of VD,Zu (n:=1) Ep Z,z,Z,J,J,λH2 s2=>?_;exists w,b,n,z,ps,R,Z,hW1.Y s2,hG,hR,b0,b1,hT1.Y s2,λs H' hs sx tb=>k s H' hs ((SameX.Y<|u1.l s2).l sx) tb
  change(_:Prop);show Vi ?_;show HE (UA q∈WI) (1<(Va q).f+1) (λQ q'=>?_) (λQ q'=>?_) (λc1 c2=>?_) (λnC=>?_)
  .exists _,Z,_,WI.G V.str,Z,.inr<|T.g_OF_TIES.choose_spec.2.sq H1,Z,al _,_,Z,by rwa[iz]
  .exists _,Z,p,_,Z,.inl<|SqL.of VD,_,_,Z,Z,_,Z,?_;rwa[Zq,YM,show decide ((1:A0)<(((Va q).f+1:A5):A0))=decide (1<(Va q).f+1) from Sk.mpr J]
  .let⟨U,hU⟩:=g9 q c1;let VT:Va q=tieW U:=by rcases hU with rfl|rfl<;>rfl
   let(b1,b2):=tS hG hR (show U∈R by rcases hU with rfl|rfl<;>show ho)
   exists _,Z,_,Z,_,Z,_,Z,p,_,Z,SqL.of VD,λp2 Wn=>?_;rw[BJ Ep];let e2:(TL<|UA q::Va q).drop (1:A0).j=TL (tieW U):=by rw[VT];rfl
   rw[e2];let u2:=XO (o:=.lst<|TL<|tieW U) Wn
   let Tb:(upd H1 p2<|.lst<|TL<|tieW U) p2=⇑(.lst<|TL<|tieW U):=XT;exists p2,U,Z,SqL.of Tb,J,b2,λr H3 s3 So=>?_;let Nu:=u2.l s3
   exists w,r,n,ps,U,R,q,Z,hW1.Y Nu,hG,hR,hT1.Y Nu,SqL.of So,hU,ho,λs H' hs sx tb=>k s H' hs ((SameX.Y<|u1.l Nu).l sx) tb
  change(_:Prop);show Vi ?_;rcases g8 q with h|h
  .show absurd h nB
  .show absurd h nC
inductive sp_Desk_init(K:Ad)(CD C:A7):_
 |mk (x dx:A7) (T:Tr) (_:vs=[.ref x,.str (RM T.1 T.2.1 T.2.2)]) (_:H x=⇑(.ins CD dx [])) (_:jA T) (_:∀(d:A7)(z:V)(H':Hp),(∀b o,H b=⇑o->b≠x->H' b=⇑o)->H d=A8->DeskAt CD H' x d [z]->StageV C H' z T->Q .non H')
def dQ:FnScope ["self","text"] ["self","text"] (Za sZY):=To B
def dP(T:Txt K mg t):FnOk P w K mg base XA 5 t.aZY t.dZY ["self","text"] (sp_Desk_init K t.A_Desk t.A_Web):=by
 show T.fZY.ok dQ (λvs H Q E h=>?_) (λXI A outer s H vs Q E hr h=>?_)
 .let⟨x,dx,T',rfl,_⟩:=h;rfl
 .let⟨x,dx,T',rfl,hx,⟨g,hl,hT⟩,q⟩:=h;exists _,(XM<|NI (pv 0) (UH<|XZ (Xz (eV T) hr T.qZK Zv<|XZ (pv 1) XY) XY) Z),?_;let one:1<=sizeLine:=Ep
  exists _,Z,T'.1,T'.2.1,T'.2.2,Z,g,hl,hT,λtA w a H1 s1 ha0 Pw hW tq=>{one,λd hd=>?_};let u2:=XO (o:=.lst [.ref tA]) hd
  let s2:=s1.l u2;let Fe:=s2 _ _ hx
  exists _,Z,x,_,dx,_,Z,Fe,T.cl_Desk,T.n_Desk_stages,(by ext),?_;let nxd:x≠d:=λe=>by subst e;rw[s1 _ _ hx]at hd;cases hd
  let ntx:tA≠x:=λe=>by subst e;rw[s1 _ _ hx]at Pw;lia
  let nax:a≠x:=λe=>J;let hd2:(upd H1 d<|.lst [.ref tA]) d=⇑(.lst [.ref tA]):=XT
  show q d ↑tA _ (λb o e hb=>by rw[Zd hb];show s2 _ _ e) (s1.free hd) {dx,XT,by rwa[Zd (YZ nxd)]} {tA,w,a,Z,by rw[Zd ntx];show u2 _ _ Pw,?_,by rw[Zd nax];show u2 _ _ tq};let(dw,tl,xs,g1,g2,g3):=hW.Y u2;let nwx:w≠x:=λe=>by
   subst e;rw[Fe]at g1
   have:=YI (λo=>match o with|some (HO.ins _ _ fs)=>fs.f|_=>0) g1
   show absurd this (by change ¬0=2;decide)
  let ntl:tl≠x:=λe=>by ext
  show{dw,tl,xs,by rw[Zd nwx];show g1,by rw[Zd ntl];show g2,g3.1,λi p e=>?_};let(v,e1,tt,e2,e3):=g3.2 i p e;exists v,e1,tt,e2,by rwa[Zd (λz=>by ext)]
inductive spZZ(K:Ad)(CD:A7):_
 |mk (x d t w a:A7) (zs:A6 V) (_:vs=[.ref x]) (_:DeskAt CD H x d (zs++[.ref t])) (_:H t=⇑(.tup [.ref w,.ref a])) (_:zs.f<=1000) (_:Q ↑w H)
def dO:FnScope ["self"] ["self"] (Za sZZ):=To B
def dN(T:Txt K mg t):FnOk P w K mg base XA 1 t.aZZ t.dZZ ["self"] (spZZ K t.A_Desk):=by
 show T.fZZ.ok dO (λvs H Q E h=>?_) (λXI A outer s H vs Q E hr h=>?_)
 .let⟨x,d,tA,w,a,zs,rfl,_⟩:=h;rfl
 .let⟨x,d,tA,w,a,zs,rfl,⟨dx,hx,hd⟩,ht,hz,q⟩:=h;exists _,(XM<|Zj<|Zz (ZH K) (Zz (Zc K) (Zo K (pv 0) Z) (Zt TH (Zf (Zi K) rC T.n_len Boot.«len»<|XZ (Zo K (pv 0) Z) XY) XQ) λ_ _=>rfl) XQ λ_ _=>rfl),?_;exists _,Z,x,_,dx,_,_,Z,hx,T.cl_Desk,T.n_Desk_stages,uj d,_,Z,x,_,dx,_,_,Z,hx,T.cl_Desk,T.n_Desk_stages,uj d,d,_,Z,.inl<|SqL.of hd,_,_,Z,Z,d,_,_,.ref tA,Z,Z,SqL.of hd,Zu (n:=zs.f) D Eo,tA,_,0,.ref w,Z,Z,SqT.of ht,Z,q
inductive spZ01(K:Ad)(CD:A7):_
 |mk (x d t w a:A7) (zs:A6 V) (_:vs=[.ref x]) (_:DeskAt CD H x d (zs++[.ref t])) (_:H t=⇑(.tup [.ref w,.ref a])) (_:zs.f<=1000) (_:Q ↑a H)
def dM:FnScope ["self"] ["self"] (Za sZ01):=To B
def dJ(T:Txt K mg t):FnOk P w K mg base XA 1 t.aZ01 t.dZ01 ["self"] (spZ01 K t.A_Desk):=by
 show T.fZ01.ok dM (λvs H Q E h=>?_) (λXI A outer s H vs Q E hr h=>?_)
 .let⟨x,d,tA,w,a,zs,rfl,_⟩:=h;rfl
 .let⟨x,d,tA,w,a,zs,rfl,⟨dx,hx,hd⟩,ht,hz,q⟩:=h;exists _,(XM<|Zj<|Zz (ZH K) (Zz (Zc K) (Zo K (pv 0) Z) (Zt TH (Zf (Zi K) rC T.n_len Boot.«len»<|XZ (Zo K (pv 0) Z) XY) XQ) λ_ _=>rfl) XQ λ_ _=>rfl),?_;exists _,Z,x,_,dx,_,_,Z,hx,T.cl_Desk,T.n_Desk_stages,uj d,_,Z,x,_,dx,_,_,Z,hx,T.cl_Desk,T.n_Desk_stages,uj d,d,_,Z,.inl<|SqL.of hd,_,_,Z,Z,d,_,_,.ref tA,Z,Z,SqL.of hd,Zu (n:=zs.f) D Eo,tA,_,1,.ref a,Z,Z,SqT.of ht,Z,q
inductive spZ11(K:Ad)(CD C Pt:A7):_
 |mk (x d:A7) (zs:A6 V) (z:V) (T:Tr) (R:Ab) (q:AskW) (_:vs=[.ref x,.str (UJ q)]) (_:DeskAt CD H x d (zs++[z])) (_:StageV C H z T) (_:jA T) (_:zs.f<=1000) (_:RH T.1 T.2.1 R) (_:yA R q) (_:Xw H Pt) (_:∀s H',Oi R q s->SameX Pt H H'->Xw H' Pt->Q (.str s) H')
def dI:FnScope ["self","line"] ["self","line"] (Za sZ11):=To B
def GS(T:Txt K mg t)(hB:Wr K mg base t.dZt Pt):FnOk P w K mg base XA 49 t.aZ11 t.dZ11 ["self","line"] (spZ11 K t.A_Desk t.A_Web Pt):=by
 show T.fZ11.ok dI (λvs H Q E h=>?_) (λXI A outer s H vs Q E hr h=>?_)
 .let⟨x,d,zs,z,T',R,q,rfl,_⟩:=h;rfl
 .let⟨x,d,zs,z,T',R,q,rfl,hD,⟨tA,w,a,rfl,ht,hW,hA⟩,⟨g,hl,hT⟩,hz,hR,ho,dH,k⟩:=h;exists _,(XM<|Zj<|Xz (dR T hB) hr T.qZX Zv<|XZ (bL (pv 0) T.cl_Desk T.me_Desk_web_now (dN T) (hr.mono Ep) T.bZZ .nil Zv)<|XZ (bL (pv 0) T.cl_Desk T.me_Desk_lengths_now (dJ T) (hr.mono Ep) T.bZ01 .nil Zv)<|XZ (pv 1) XY),?_;let(dx,hx,hd):=id hD;exists _,Z,x,dx,_,Z,hx,rC,x,d,tA,w,a,zs,Z,hD,ht,hz,_,Z,x,dx,_,Z,hx,rC,x,d,tA,w,a,zs,Z,hD,ht,hz,_,Z,w,a,T'.1,T'.2.1,R,q,Z,hW,g,hR,ho,dH,k
inductive spZ21(K:Ad):_
 |mk (a ns k:_) (_:vs=[.ref a,.int k]) (_:SqL K H a (IL ns)) (_:0<=k) (_:∀r:A0,0<=r->r<10^60->Q (.int r) H)
def dG(T:Txt K mg t):Xs P w base XA T.qZ21 1 (spZ21 K):=by
 show T.qZ21.okI ["script","k"] B ⋯
 .let⟨a,ns,k,rfl,hS,hk,q⟩:=h;show⟨_,(XN (XD (Zg SV (pv 1) (Zf (Zi K) rC T.n_len Boot.«len»<|XZ (pv 0) XY)<|Zp _)
   (XM<|Zj<|Zt ZU (Zz (Zc K) (pv 0) (pv 1) λ_ _=>rfl)<|Zt RZ XQ XQ)
   Zm)
   (XM<|Zj XQ)),?_⟩
  exists _,Z,_,Z,a,_,Z,.inl hS,_,_,Z,Z,_,Z,?_;show Dn (λhc=>?_) (λ_=>?_)
  .obtain⟨z,hz⟩:∃z,ns[k.j]?=⇑z:={_,Xv<|by ext};exists _,Z,_,Z,a,_,k,.int z,Z,Z,hS,Zu (n:=k.j) J (by rw[Yi,hz];rfl),_,_,Z,Z,⟨Ep,Ep,Ep⟩,_,_,Z,Z,?_,?_
   .ext
   grind
  .show q 0 Ep Ep
inductive spZ31:_
 |mk (c k:_) (_:vs=[.int c,.int k]) (_:∀r:A0,0<=r->r<2147483587->Q (.int r) H)
def xt(T:Txt K mg t):Xs P w base XA T.qZ31 1 spZ31:=by
 show T.qZ31.okI ["cell","k","first","second"] B ⋯
 .let⟨c,k,rfl,q⟩:=h;show⟨_,(XN (Zh 2<|Zt ZU (Zt UX (Zt Ut (Zt Ut (pv 0)<|Zt UX XQ<|pv 1) XQ) XQ) XQ)
   (XN (Zh 3<|Zt ZU (Zt Ut (Zt Ut (Zt UX (pv 2)<|pv 2)<|Zt UX XQ<|pv 1) XQ) XQ)
   (XM<|Zj<|Zt OX (Zt ZU (Zt UX (pv 3)<|pv 3) XQ) XQ))),?_⟩
  exists _,Z,_,Z,_,_,Z,Z,.inl ⟨Ep,Ep⟩,_,_,Z,Z,_,_,Z,Z,_,_,Z,Z,.inr ⟨Ep,Ep⟩,_,_,Z,Z,(by ext),?_;exists _,Z,_,Z,_,_,Z,Z,.inl ⟨D,D⟩,_,Z,_,_,Z,Z,.inl ⟨Ep,Ep⟩,_,_,Z,Z,_,_,Z,Z,_,_,Z,Z,(by ext),?_;exists _,Z,_,Z,_,_,Z,Z,.inl ⟨D,D⟩,_,_,Z,Z,(by ext),_,_,Z,Z,⟨Ep,Ep⟩,?_;grind
def dF{p:A0->Prop}{l:Ac}{x:A0}(h:∀z∈l,p z)(hx:p x):∀z∈l++[x],p z:=λz hz=>by grind
inductive spZ41(K:Ad):_
 |mk (a:A7) (ns:Ac) (st c:A5) (way:A0) (_:vs=[.ref a,.int st,.int c,.int way]) (_:SqL K H a (IL ns)) (_:ns.f<=63) (_:st<=63) (_:c<=100) (_:∀l ds H',Same H H'->H l=A8->H' l=⇑(.lst<|IL ds)->ds.f=c->(∀z∈ds,0<=z)->Q ↑l H')
def xr:FnScope ["script","start","count","way","total","folded","k","at","told"] ["script","start","count","way"] (Za (top 110)):=To B
def dE(T:Txt K mg t):Xs P w base XA T.qZ41 2 (spZ41 K):=by
 show T.qZ41.okI ["script","start","count","way","total","folded","k","at","told"] B ⋯
 .let⟨a,ns,st,c,way,rfl,hS,hn,WE,hc,q⟩:=h;show⟨_,(XN (Zh 4<|Zt ZU (Zf (bb K Z) rC T.n_sum Boot.«sum»<|XZ (Vd Z (sc0:=Za<|top 110) (N0:=["script","start","count","way","total","folded","k","at","told"]) (N':=["cell"]) (o:=1) (fr:=[]) ⟨Z,B,B,B,Z,B⟩ (ZD K<|ZR (ZT K) (pv 0) (Wh<|pv 1) Rv) (Zs Ep) (λ_ _ _ _=>(Zb 0)) (λ_ _ _ _=>ZK) λ_ _ _ _=>(Zt ZU (pv 0)<|Zt RZ XQ XQ)) XY)<|Zt RZ XQ XQ)
   (XN (PL (i:=5) Z xr.nd Z Z (sc0:=Za<|top 110) (N0:=["script","start","count","way","total","folded","k","at","told"]) (N':=["k"]) (o:=1) (fr:=[]) ⟨Z,B,B,B,Z,B⟩ (ZM Z T.n_range<|XZ (pv 2) XY) (Zs Ep) (λ_ _ _ _=>(Zb 0)) (λ_ _ _ _=>ZK) λ_ _ _ _=>(Zt Ut (Zt UX XQ<|pv 0) XQ))
   (XN (Uu YR Z (bS Z T.n_range<|XZ (pv 1)<|XZ (Zf (Zi K) rC T.n_len Boot.«len»<|XZ (pv 0) XY) XY) (Zb 6)
   (XN (Zh 7<|Zt ZU (pv 6)<|Zf (vG Z) rC T.n_max Boot.«max»<|XZ XQ<|XZ (pv 2) XY)
   (XM (XD (Zg PV (pv 2) XQ<|Zp _)
   (XM<|Ee (Zt ZU (Zt Ut (Zt UX (Zz (Zc K) (pv 5) (pv 7) λ_ _=>rfl) XQ)<|Zz (Zc K) (pv 0) (pv 6) λ_ _=>rfl)<|Zt RZ XQ XQ)<|Jw (pv 5) (pv 7) Ji)
   Zm))))
   (XN (Zh 8<|UH XY)
   (XN (Uu YR Z (ZM Z T.n_range<|XZ (pv 2) XY) (Zb 6)
   (XM (XD (PW.pt<|Lk (Zg TY (pv 3) XQ<|Zp _)<|Ll<|Zg PV (pv 4) XQ<|Zp _)
   (XN (Sd<|UQ K YL JX JY Jf (pv 8)<|XZ (Zt ZU (pv 4) XQ) XY)
   (XM<|Zh 4<|Zt OX (pv 4) XQ))
   (XM<|Sd<|UQ K YL JX JY Jf (pv 8)<|XZ (Xz (xt T) hr T.qZ31 Zv<|XZ (Zz (Zc K) (pv 5) (pv 6) λ_ _=>rfl)<|XZ (pv 6) XY) XY))))
   (XM<|Zj<|pv 8)))))),?_⟩
  exists _,Z,_,Z,(st:A0),Z,a,IL ns,Z,hS,λl1 SH=>?_;let s1:Same H (upd H l1<|.lst<|Xi (IL ns) ⇑(st:A0) none):=XO SH
  obtain⟨ms,hms,CG⟩:∃ms:Ac,Xi (IL ns) ⇑(st:A0) none=IL ms/\ms.f<=63:=by
   exists (ns.drop<|HT.Up (IL ns).f 0 ⇑(st:A0)).Q (HT.Up (IL ns).f (IL ns).f none-HT.Up (IL ns).f 0 ⇑(st:A0)),?_,?_
   .unfold Xi;rw[CW,oR]
   .rw[Yw,QV];lia
  show⟨l1,Z,{_,SqL.of XT},Wl (K:=K) (a:=l1) (xs:=Xi (IL ns) ⇑(st:A0) none) (λi ys H2=>H2=upd H l1 (.lst<|Xi (IL ns) ⇑(st:A0) none)/\∃rs:Ac,ys=IL rs/\rs.f=i/\i<=ms.f) {Z,[],Z,Z,Qd _} (by rw[hms,Xc];show Zk J)
   (λi ys H2 _ zz=>by let(e,rs,ey,el,_):=zz;show{e▸SqL.of XT,by ext}) ?_ ?_⟩
  .rintro i x ys H2 hi ⟨rfl,rs,rfl,el,Vs⟩ S Xy;rw[hms]at hi;let(z,rfl,hz):=Um hi;let Xj:=(Xx.S hz).1
   show QF ?_;exists _,Z,_,_,Z,Z,⟨Ep,Ep,Ep⟩,_,_,Z,Z,(by ext),?_;show Xy _ _ {Z,rs++[z%10^60],?_,?_,Xj}
   .show(ZV _ _).symm
   ext
  .rintro ys H2 ⟨rfl,rs,rfl,el,_⟩ l2 Ru;let s2:=Zw (o:=.lst<|IL rs) s1 Ru
   exists l2,rs,Z,SqL.of XT,_,_,Z,Z,⟨Ep,Ep,Ep⟩,_,_,Z,Z,(by ext),?_;let t0:0<=rs.sum%(10:A0)^((60:A0).j):=Pl _ Ep
   show⟨_,Z,(c:A0),Z,by ext,J,IS (lo:=0) (n:=((c:A0)).j) (λi ys H3=>H3=upd (upd H l1<|.lst<|Xi (IL ns) ⇑(st:A0) none) l2 (.lst<|IL rs)/\∃fs:Ac,ys=IL fs/\fs.f=i) {Z,[],Z,Z} (Zk J)
    (λi ys H3 _ zz=>by let(_,fs,e,el):=zz;ext) ?_ ?_⟩
   .rintro i ys H3 hi ⟨rfl,fs,rfl,EZ⟩ S Xy;show QF ?_;exists _,Z,_,_,Z,Z,.inl ⟨Ep,Ep⟩,_,_,Z,Z,?_;show Xy _ _ {Z,fs++[7*(0+(i:A0))+5],?_,?_}
    .show(ZV _ _).symm
    .rw[Xa,EZ];rfl
   .rintro ys H3 ⟨rfl,fs,rfl,EZ⟩ l3 Od;let s3:=Zw (o:=.lst<|IL fs) s2 Od
    let dD:H l3=A8:=s2.free Od;exists _,Z,_,Z,a,_,Z,.inl<|s3.seq hS,(st:A0),((IL ns).f:A0),Z,{by ext,J,by ext,by rw[Xc];lia},?_;show MS (lo:=(st:A0)) (n:=(((IL ns).f:A0)-(st:A0)).j) (λj σ H4=>∃fs v6 v7,σ=[some ↑a,some<|.int st,some<|.int c,some<|.int way,some<|.int<|rs.sum%(10:A0)^((60:A0).j),some<|.ref l3,v6,v7,none]/\Same H H4/\H4 l3=⇑(.lst<|IL fs)/\fs.f=c)
     {fs,none,none,Z,s3,XT,by rw[EZ];simp} ?_ ?_
    .rintro j σ H4 hj ⟨gs,v6,v7,rfl,s4,h4,eg⟩;rw[Xc]at hj;exists _,Z,_,Z,_,_,Z,_,_,Z,Z,?_,?_
     .lia
     .exists _,Z,_,_,Z,Z,_,Z,?_;show Xl (λPy=>?_) (λPy=>?_)
      .let HG:(if (c:A0)>1 then (c:A0) else 1)=(c:A0):=by split<;>lia
       let at0:0<=((st:A0)+(j:A0))%(c:A0):=Pl _ J;let dC:((st:A0)+(j:A0))%(c:A0)<(c:A0):=JT _ Py
       rw[HG];generalize xq:((st:A0)+(j:A0))%(c:A0)=at' at *;obtain⟨f,hf⟩:∃f,gs[at'.j]?=⇑f:={_,Xv<|by ext};obtain⟨z,hz⟩:∃z,ns[st+j]?=⇑z:={_,Xv J};exists _,Z,_,Z,l3,_,_,_,Z,Z,SqL.of h4,Zu (n:=at'.j) J (by rw[Yi,hf];rfl),_,_,Z,Z,.inr ⟨Ep,Ep⟩,_,Z,_,Z,a,_,_,_,Z,Z,s4.seq hS,Zu (n:=st+j) (by ext) (by rw[Yi,hz];rfl),_,_,Z,Z,_,_,Z,Z,⟨Ep,Ep,Ep⟩,_,_,Z,Z,J,?_;exists _,Z,_,Z,l3,_,_,at'.j,Z,Z,h4,?_,?_
       .try rw[xq]
        unfold PR
        ext
       .show{gs.set at'.j<|(f*31+z)%(10:A0)^((60:A0).j),_,_,Z,Zy dD s4,?_,by ext};rw[XT,IZ]
      .exists gs,_,_,Z,s4,h4,eg
    .rintro σ H4 ⟨gs,v6,v7,rfl,s4,h4,eg⟩;exists Qd _,λl5 GR=>?_;let RC:H l5=A8:=s4.free GR
     let EY:l3≠l5:=Ze h4 GR;show⟨_,Z,(c:A0),Z,J,J,MS (lo:=0) (n:=((c:A0)).j) (λj σ H6=>∃xp ds v6 v7,σ=[some ↑a,some<|.int st,some<|.int c,some<|.int way,some<|.int xp,some<|.ref l3,v6,v7,some ↑l5]/\Same H H6/\H6 l3=⇑(.lst<|IL gs)/\H6 l5=⇑(.lst<|IL ds)/\ds.f=j/\(∀z∈ds,0<=z)/\0<=xp)
      {_,[],_,_,Z,Zw s4 GR,by rw[Zd EY];show h4,XT,Z,λz hz=>(by cases hz),t0} ?_ ?_⟩
     .rintro j σ H6 hj ⟨xp,ds,w6,w7,rfl,s6,EX,Kb,edl,MF,GQ⟩;let app:∀r:A0,(upd H6 l5<|.lst<|IL ds++[.int r]) l5=⇑(.lst<|IL<|ds++[r]):=λr=>by rw[XT,ZV]
      let GP:(IL ds).f<sizeLine:=by rw[Xc];show Zk J
      obtain⟨f,hf⟩:∃f,gs[j]?=⇑f:={_,Xv<|by ext};exists _,Z,Z,_,Z,?_;show Xl (λhw=>?_) (λhw=>?_)
      .exists _,Z,_,_,Z,Z,_,Z,?_;show Xl (λgG=>?_) (λgG=>?_)
       .exists _,Z,.inl {Z,_,SqL.of Kb},_,Z,_,_,Z,Z,(by ext),l5,_,_,Z,Z,Kb,GP,?_;exists _,Z,_,_,Z,Z,⟨Ep,Ep⟩,?_;show{_,ds++[xp%210],_,_,Z,Zy RC s6,by rw[Zd EY];show EX,app _,by ext,dF MF<|Pl _ Ep,?_};lia
       .exists _,Z,.inl {Z,_,SqL.of Kb},_,Z,_,Z,l3,_,_,_,Z,Z,SqL.of EX,Zu (n:=j) (by ext) (by rw[Yi,hf];rfl),_,Z,_,_,Z,λr r0 r1=>?_;exists l5,_,_,Z,Z,Kb,GP,?_;exists _,ds++[r],_,_,Z,Zy RC s6,by rw[Zd EY];show EX,app _,by ext,dF MF r0,GQ
      .exists _,Z,.inl {Z,_,SqL.of Kb},_,Z,_,Z,l3,_,_,_,Z,Z,SqL.of EX,Zu (n:=j) J (by rw[Yi,hf];rfl),_,Z,_,_,Z,λr r0 r1=>?_;exists l5,_,_,Z,Z,Kb,GP,?_;exists _,ds++[r],_,_,Z,Zy RC s6,by rw[Zd EY];show EX,app _,by ext,dF MF r0,GQ
     .rintro σ H6 ⟨xp,ds,w6,w7,rfl,s6,EX,Kb,edl,MF,GQ⟩;exists _,Z,q l5 ds H6 s6 RC Kb (by ext) MF
def PairsV.good{H:Hp}{xs:A6 V}{ps:Aa}{v:V}{p:A0×A0}{n:A0}(h:∀p∈ps,0<=p.1/\p.1<n/\0<=p.2/\p.2<n)(hp:0<=p.1/\p.1<n/\0<=p.2/\p.2<n):∀q∈ps++[p],0<=q.1/\q.1<n/\0<=q.2/\q.2<n:=λq hq=>by
 rcases Xn.S hq with z|z
 .show h q z
 .rw[Xd.S z];show hp
inductive spZ51(K:Ad):_
 |mk (a ds n hang:_) (_:vs=[.ref a,.int n,.bl hang]) (_:SqL K H a (IL ds)) (_:ds.f<=100) (_:(∀z∈ds,0<=z)) (_:1<=n) (_:n<=1000) (_:∀l xs ps H',Same H H'->H l=A8->H' l=⇑(.lst xs)->PairsV H' xs ps->ps.f=ds.f->(∀p∈ps,0<=p.1/\p.1<n/\0<=p.2/\p.2<n)->Q ↑l H')
def dB(T:Txt K mg t):Xs P w base XA T.qZ51 1 (spZ51 K):=by
 show T.qZ51.okI ["draws","places","hang","ties","k","one","other","ends","turn"] B ⋯
 .let⟨a,ds,n,hang,rfl,hS,kW,MF,n1,n2,q⟩:=h;show⟨_,(XN (Zh 3<|UH XY)
   (XN (Uu YR Z (ZM Z T.n_range<|XZ (Zf (Zi K) rC T.n_len Boot.«len»<|XZ (pv 0) XY) XY) (Zb 4)
   (XN (Zh 5<|Zt ZU (Zz (Zc K) (pv 0) (pv 4) λ_ _=>rfl)<|pv 1)
   (XN (Zh 6<|Zt ZU (Zt OX (Zz (Zc K) (pv 0) (pv 4) λ_ _=>rfl)<|pv 1)<|pv 1)
   (XN (XD (PW.pt<|Lk (MY<|pv 2)<|Ll<|Zg SV (pv 4) (Zt TH (pv 1) XQ)<|Zp _)
   (XN (Zh 7<|TX<|XZ (Zt ZU (Zz (Zc K) (pv 0) (pv 4) λ_ _=>rfl)<|Zt Ut (pv 4) XQ)<|XZ (Zt Ut (pv 4) XQ) XY)
   (XN (Zh 5<|Zz (ZH K) (pv 7) (Zt ZU (Zt OX (Zz (Zc K) (pv 0) (pv 4) λ_ _=>rfl) XQ) XQ) λ_ _=>rfl)
   (XM<|Zh 6<|Zz (ZH K) (pv 7) (Zt TH XQ<|Zt ZU (Zt OX (Zz (Zc K) (pv 0) (pv 4) λ_ _=>rfl) XQ) XQ) λ_ _=>rfl)))
   Zm)
   (XM<|Sd<|UQ K YL JX JY Jf (pv 3)<|XZ (TX<|XZ (pv 5)<|XZ (pv 6) XY) XY)))))
   (XN (Zh 8<|Zt ZU (Zf (bb K Z) rC T.n_sum Boot.«sum»<|XZ (pv 0) XY)<|Zf (vG Z) rC T.n_max Boot.«max»<|XZ XQ<|XZ (Zf (Zi K) rC T.n_len Boot.«len»<|XZ (pv 3) XY) XY)
   (XM<|Zj<|Zt Dw (ZR (ZT K) (pv 3) (Wh<|pv 8) Rv)<|ZR (ZT K) (pv 3) Rv<|Wh<|pv 8)))),?_⟩
  exists Qd _,λl hl=>?_;show⟨_,Z,a,_,Z,.inl<|(XO hl).seq hS,_,Z,by ext,D,MS (lo:=0) (n:=((IL ds).f:A0).j) (λi σ H2=>∃xs ps v4 v5 v6 v7,σ=[some ↑a,some<|.int n,some<|.bl hang,some<|.ref l,v4,v5,v6,v7,none]/\Same H H2/\H2 l=⇑(.lst xs)/\PairsV H2 xs ps/\ps.f=i/\∀p∈ps,0<=p.1/\p.1<n/\0<=p.2/\p.2<n)
   {[],[],none,none,none,none,Z,XO hl,XT,PairsV.nil,Z,λp hp=>(by cases hp)} ?_ ?_⟩
  .rintro i σ H2 hi ⟨xs,ps,v4,v5,v6,v7,rfl,s2,h2,hP,Fh,hb⟩;let Wx:i<ds.f:=by rw[Xc]at hi;ext
   obtain⟨d,hd⟩:∃d,ds[i]?=⇑d:={_,Xv Wx};let iD:Wy (IL ds) (0+(i:A0))=⇑(.int d):=Zu (n:=i) J (Uo hd)
   let xl:xs.f<sizeLine:=Zk (by rw[hP.1];lia);let put:∀x y H3 r,Same H2 H3->H3 r=A8->0<=x->x<n->0<=y->y<n->∀u5 u6 u7:Option V,∃xs' dz v4 v5 v6 v7,
     ([some ↑a,some<|.int n,some<|.bl hang,some<|.ref l,some<|.int<|0+(i:A0),u5,u6,u7,none]:A6 (Option V))=[some ↑a,some<|.int n,some<|.bl hang,some<|.ref l,v4,v5,v6,v7,none]/\
     Same H (upd (upd H3 r<|.tup [.int x,.int y]) l<|.lst<|xs++[.ref r])/\(upd (upd H3 r<|.tup [.int x,.int y]) l<|.lst<|xs++[.ref r]) l=⇑(.lst xs')/\PairsV (upd (upd H3 r<|.tup [.int x,.int y]) l<|.lst<|xs++[.ref r]) xs' dz/\dz.f=i+1/\∀p∈dz,0<=p.1/\p.1<n/\0<=p.2/\p.2<n:=by
    intro x y H3 r s3 hr x0 x1 y0 y1 u5 u6 u7;let h3:=s3 _ _ h2
    let s4:=Zw (o:=.tup [.int x,.int y]) s3 hr;let nlr:l≠r:=Ze h3 hr
    show{xs++[.ref r],ps++[(x,y)],_,_,_,_,Z,Zy hl<|s2.l s4,XT,?_,by rw[Xa,Fh];rfl,PairsV.good (H:=H) (xs:=[]) (v:=.non) hb ⟨x0,x1,y0,y1⟩};let xo:PairsV (upd H3 r<|.tup [.int x,.int y]) (xs++[.ref r]) (ps++[(x,y)]):=(hP.Y s4).snoc ⟨r,Z,XT⟩
    exists xo.1,λj p e=>?_;let(v,e1,tt,e2,e3):=xo.2 j p e;exists v,e1,tt,e2,by rwa[Zd (Ux e3 (s4 _ _ h2) (λz=>nomatch z))]
   exists _,Z,_,Z,a,_,_,_,Z,Z,s2.seq hS,iD,_,Z,_,_,Z,Z,J,?_;exists _,Z,_,Z,a,_,_,_,Z,Z,s2.seq hS,iD,_,Z,_,_,Z,Z,⟨D,J⟩,_,Z,_,_,Z,Z,J,?_;let o0:0<=d%n:=Pl _ J
   let o1:d%n<n:=JT _ D;let q0:0<=d/n%n:=Pl _ J
   let q1:d/n%n<n:=JT _ rF;exists _,Z,_,Z,?_;show bh (λhh=>?_) (λhh=>?_)
   .exists _,Z,_,Z,_,_,Z,Z,_,_,Z,Z,_,Z,?_;show Xl (λhk=>?_) (λhk=>?_)
    .let k1:(0:A0)<0+(i:A0)+1:=by ext
     let r0:0<=d%(0+(i:A0)+1):=Pl _ J;let r1:d%(0+(i:A0)+1)<0+(i:A0)+1:=JT _ k1
     exists _,Z,_,Z,a,_,_,_,Z,Z,s2.seq hS,iD,_,Z,_,_,Z,Z,_,_,Z,Z,k1,_,Z,_,_,Z,Z,(by change 2<=sizeLine;decide),λe he=>?_;let se:=XO (o:=.tup [.int (d%(0+(i:A0)+1)),.int (0+(i:A0)+1)]) he
     obtain⟨x,hx,x0,x1⟩:∃x:A0,Wy ([.int (d%(0+(i:A0)+1)),.int (0+(i:A0)+1)]:A6 V) (d/105%2)=⇑(.int x)/\0<=x/\x<n:=by
      rcases(by lia:d/105%2=0\/d/105%2=1) with e|e
      .rw[e];exists _,Z,r0,J
      .rw[e];exists _,Z,J,J
     obtain⟨y,hy,y0,y1⟩:∃y:A0,Wy ([.int (d%(0+(i:A0)+1)),.int (0+(i:A0)+1)]:A6 V) (1-d/105%2)=⇑(.int y)/\0<=y/\y<n:=by
      rcases(by lia:d/105%2=0\/d/105%2=1) with e|e
      .rw[e];exists _,Z,J,J
      .rw[e];exists _,Z,r0,J
     let c2:DV d 105:=⟨Ep,Ep⟩;exists _,Z,_,Z,_,Z,a,_,_,_,Z,Z,(s2.l se).seq hS,iD,_,_,Z,Z,c2,_,_,Z,Z,J,e,_,_,_,Z,Z,SqT.of XT,hx,?_;exists _,Z,_,Z,_,Z,a,_,_,_,Z,Z,(s2.l se).seq hS,iD,_,_,Z,Z,c2,_,_,Z,Z,J,_,_,Z,Z,e,_,_,_,Z,Z,SqT.of XT,hy,?_;exists _,Z,.inl {Z,_,SqL.of<|se _ _ h2},_,Z,_,Z,(by change 2<=sizeLine;decide),λr hr=>?_;exists l,xs,_,Z,Z,(Zw se hr) _ _ h2,xl,put x y _ r se hr x0 x1 y0 y1 _ _ _
    .exists _,Z,.inl {Z,_,SqL.of h2},_,Z,_,Z,(by change 2<=sizeLine;decide),λr hr=>?_;exists l,xs,_,Z,Z,(XO hr) _ _ h2,xl,put _ _ _ r (Same.refl _) hr o0 o1 q0 q1 _ _ _
   .exists _,Z,.inl {Z,_,SqL.of h2},_,Z,_,Z,(by change 2<=sizeLine;decide),λr hr=>?_;exists l,xs,_,Z,Z,(XO hr) _ _ h2,xl,put _ _ _ r (Same.refl _) hr o0 o1 q0 q1 _ _ _
  .rintro σ H2 ⟨xs,ps,v4,v5,v6,v7,rfl,s2,h2,hP,Fh,hb⟩;let Fh:ps.f=ds.f:=by rw[Fh,Xc];simp
   exists _,Z,a,ds,Z,s2.seq hS,_,Z,l,xs,Z,.inl<|SqL.of h2,_,_,Z,_,_,Z,Z,?_,?_
   .lia
   .generalize hT:ds.sum%(if xs⁻¹>1 then xs⁻¹ else 1)=T0;let T1:0<=T0:=by rw[<-hT];show Pl _ J
    let T2:T0.j<=xs.f:=by
     have:T0<(if xs⁻¹>1 then xs⁻¹ else 1):=by rw[<-hT];show JT _ J
     split at this<;>grind
    let e1:Xi xs ⇑T0 none=xs.drop T0.j:=oO T1 T2;let e2:Xi xs none ⇑T0=xs.Q T0.j:=CQ T1 T2
    exists _,rfl,_,rfl,T0,(by first|rfl|show YI V.int hT),l,xs,rfl,SqL.of h2,λr1 VT=>?_
    let s3:=XO (o:=.lst<|Xi xs ⇑T0 none) VT;exists _,rfl,_,rfl,T0,(by first|rfl|show YI V.int hT),l,xs,rfl,SqL.of<|s3 _ _ h2,λr2 Vc=>?_
    let s4:=Zw (o:=.lst<|Xi xs none<|some T0) s3 Vc;let n12:r1≠r2:=Ze XT Vc
    exists r1,r2,_,_,Z,Z,by rw[Zd n12,XT],XT,?_,λr hr=>?_
    .rw[e1,e2,QV,Yw];show PK (by rw[hP.1];grind)
    .let s5:=Zw (o:=.lst<|Xi xs ⇑T0 none++Xi xs none ⇑T0) s4 hr;show q r _ (ps.drop T0.j++ps.Q T0.j) _ (s2.l s5) ((s2.l s4).free hr) XT ?_ ?_ λp hp=>?_
     .let z:=((hP.Y s5).drop T0.j).app ((hP.Y s5).Q T0.j);lia
     .grind
     .rcases Xn.S hp with z|z
      .show hb p (List.mem_of_mem_drop z)
      .show hb p (Gx z)
inductive spZ61(K:Ad):_
 |mk (a ns most count:_) (_:vs=[.ref a,.int most,.int count]) (_:SqL K H a (IL ns)) (_:ns.f<=63) (_:1<=most) (_:most<=14) (_:0<=count) (_:count<=30) (_:∀r l n xs ps H',Same H H'->H' r=⇑(.tup [.int n,.ref l])->H l=A8->H' l=⇑(.lst xs)->PairsV H' xs ps->ZA n ps->n<=most->ps⁻¹<=count->Q ↑r H')
def dy(T:Txt K mg t):Xs P w base XA T.qZ61 3 (spZ61 K):=by
 show T.qZ61.okI ["script","most","count","head","places","many","draws"] B ⋯
 .let⟨a,ns,most,count,rfl,hS,hn,m1,m2,c1,c2,q⟩:=h;show⟨_,(XN (Zh 3<|Xz (dG T) hr T.qZ21 Zv<|XZ (pv 0)<|XZ XQ XY)
   (XN (Zh 4<|Zt Ut XQ<|Zt ZU (pv 3)<|pv 1)
   (XN (Zh 5<|Zf (vE Z) rC T.n_min Boot.«min»<|XZ (pv 2)<|XZ (Zt Ut (Zt ZU (Zt OX (pv 3)<|pv 1)<|Zt Ut (pv 2) XQ)<|Zt UX (Zt ZU (Zt OX (pv 3) XQ) XQ)<|pv 4) XY)
   (XN (Zh 6<|Xz (dE T) hr T.qZ41 Zv<|XZ (pv 0)<|XZ XQ<|XZ (pv 5)<|XZ (Zt ZU (Zt OX (pv 3) XQ) XQ) XY)
   (XM<|Zj<|TX<|XZ (pv 4)<|XZ (Xz (dB T) hr T.qZ51 Zv<|XZ (pv 6)<|XZ (pv 4)<|XZ (Us PV (Zt ZU (Zt OX (pv 3) XQ) XQ) XQ<|Zp _) XY) XY))))),?_⟩
  exists _,Z,a,ns,0,Z,hS,Ep,λhd h0 h1=>?_;let n0:0<=hd%most:=Pl _ J
  let n1:hd%most<most:=JT _ J;exists _,Z,_,Z,_,_,Z,Z,J,_,_,Z,Z,?_;exists _,Z,_,Z,_,Z,_,_,Z,Z,⟨J,J⟩,_,Z,_,_,Z,Z,_,_,Z,Z,J,_,Z,_,_,Z,Z,⟨Ep,Ep⟩,_,_,Z,Z,(by ext),_,Z,_,_,Z,Z,.inr ⟨J,J⟩,_,_,Z,Z,_,_,Z,?_;let e0:0<=hd/most%(count+1):=Pl _ J
  let f0:0<=hd/97%2:=Pl _ Ep;let g0:0<=hd/97%2*(1+hd%most):=Int.mul_nonneg f0 J
  obtain⟨c,hc⟩:∃c:A5,(if hd/most%(count+1)+hd/97%2*(1+hd%most)<count then hd/most%(count+1)+hd/97%2*(1+hd%most) else count)=(c:A0):=
   {(if hd/most%(count+1)+hd/97%2*(1+hd%most)<count then hd/most%(count+1)+hd/97%2*(1+hd%most) else count).j,J}
  let k1:(c:A0)<=count:=by rw[<-hc];split<;>grind
  exists _,Z,_,Z,_,Z,_,_,Z,Z,⟨Ep,Ep⟩,_,_,Z,Z,J,a,ns,1,c,_,YI (λz:A0=>[V.ref a,V.int 1,V.int z,V.int (hd/194%2)]) hc,hS,hn,Ep,J,λl ds H1 s1 Nx SH edl MF=>?_;exists _,Z,_,Z,_,Z,_,Z,_,_,Z,Z,⟨Ep,Ep⟩,_,_,Z,Z,(by ext),_,_,Z,Z,l,ds,_,_,Z,SqL.of SH,J,MF,J,J,λl2 xs ps H2 s2 dv du hP ePl hb=>?_;exists (by change 2<=sizeLine;decide),λr hr=>?_;let s3:=XO (o:=.tup [.int (1+hd%most),.ref l2]) hr
  show q r l2 (1+hd%most) xs ps _ ((s1.l s2).l s3) XT (s1.free dv) (s3 _ _ du) (hP.Y s3) ⟨J,J,J,hb⟩ J (by ext)
inductive spZ71(K:Ad):_
 |mk (n:A0) (a b:A7) (xs:A6 V) (ps:Aa) (kd:B3) (ns:Ac) (_:vs=[.int n,.ref a,.ref b]) (_:SqL K H a xs) (_:PairsV H xs ps) (_:ZA n ps) (_:SqK kd K H b (IL ns)) (_:(∀z∈ns,0<=z/\z<ps⁻¹)) (_:∀(m:A7)(H':Hp),Same H H'->H m=A8->H' m=⇑(.lst<|IL<|WW n.j<|XR ps ns)->Q ↑m H')
def dt(T:Txt K mg t):Xs P w base XA T.qZ71 1 (spZ71 K):=by
 show T.qZ71.okI ["places","ties","some","marks","tie","one","other","gone","kept","place"] B ⋯
 .let⟨n,a,b,xs,ps,kd,ns,rfl,hA,h3,⟨g1,g2,g3,g4⟩,hS,hI,q⟩:=h;show⟨_,(XN (Zh 3<|Zl (bo Z) rC T.n_list Boot.«list»<|XZ (Zl bp rC T.n_range Boot.«range»<|XZ (pv 0) XY) XY)
   (XN (Uu YR Z (Uk K<|pv 2) (Zb 4)
   (XN (Ee (Zz (Zc K) (pv 1) (pv 4) λ_ _=>rfl)<|Uj (n:=2) K Z<|ZC (Zb 5)<|ZC (Zb 6) Uv)
   (XM (XD (Zg Sz (Zz (Zc K) (pv 3) (pv 5) λ_ _=>rfl) (Zz (Zc K) (pv 3) (pv 6) λ_ _=>rfl)<|Zp _)
   (XN (Zh 7<|Zz (Zc K) (pv 3) (pv 6) λ_ _=>rfl)
   (XN (Zh 8<|Zz (Zc K) (pv 3) (pv 5) λ_ _=>rfl)
   (XM (Uu YR Z (ZM Z T.n_range<|XZ (pv 0) XY) (Zb 9)
   (XM (XD (Zg TY (Zz (Zc K) (pv 3) (pv 9) λ_ _=>rfl) (pv 7)<|Zp _)
   (XM<|Ee (pv 8)<|Jw (pv 3) (pv 9) Ji)
   Zm))))))
   Zm))))
   (XM<|Zj<|pv 3))),?_⟩
  exists _,Z,n,Z,λr Vr=>{r,0,n,Z,XT,⟨Ep,Ep,J,J⟩,J,λm hm=>?_};let sm:Same H (upd (upd H r<|.rng 0 n) m<|.lst<|(Tx 0 n).G V.int):=Zw (XO Vr) hm
  let Qi:H m=A8:=(XO Vr).free hm;show⟨_,Z,b,Z,CT (k:=kd) (K:=K) (a:=b) (xs:=IL ns) (λi σ H2=>∃(v4 v5 v6 v7 v8 v9:Option V),σ=[⇑(.int n),some<|.ref a,some<|.ref b,some<|.ref m,v4,v5,v6,v7,v8,v9]/\Same H H2/\H2 m=⇑(.lst<|IL<|WW n.j<|XR ps<|ns.Q i))
   {none,none,none,none,none,none,Z,sm,?_} (λi σ H2 _ zz=>by let(_,_,_,_,_,_,_,s2,_):=zz;show hS.Y s2) ?_ ?_⟩
  .rw[XT,aY];rfl
  .rintro i x σ H2 hi ⟨v4,v5,v6,v7,v8,v9,rfl,s2,WO⟩;let(z,rfl,hz):=Um hi;let(z0,z1):=hI z (Xo hz);obtain⟨p,hp⟩:∃p,ps[z.j]?=⇑p:={_,Xv<|by ext};let(v,hv,tt,rfl,Vq):=h3.2 z.j p hp;let(e1,e2,e3,e4):=g4 p (Xo hp);let ed:ps.R z.j (0,0)=p:=Wf hp
   exists _,Z,_,Z,a,xs,z,.ref tt,Z,Z,s2.seq hA,Zu (n:=z.j) J hv,tt,_,Z,SqT.of<|s2 _ _ Vq,Z,_,_,Z,_,_,Z,Z,?_;let hl:(WW n.j<|XR ps<|ns.Q i).f=n.j:=ZG _ _
   generalize hM:WW n.j (XR ps<|ns.Q i)=M at *;let ha:M[p.1.j]?=⇑(mk M p.1.j):=QE D
   let hb:M[p.2.j]?=⇑(mk M p.2.j):=QE D;let iA:Wy (IL M) p.1=⇑(.int<|mk M p.1.j):=Zu (n:=p.1.j) J (by rw[Yi,ha];rfl)
   let iB:Wy (IL M) p.2=⇑(.int<|mk M p.2.j):=Zu (n:=p.2.j) J (by rw[Yi,hb];rfl);let step:WW n.j (XR ps<|ns.Q<|i+1)=lm M p.1.j p.2.j:=by rw[aZ hz,MB,hM,ed]
   exists _,Z,_,Z,m,_,p.1,_,Z,Z,SqL.of WO,iA,_,Z,_,Z,m,_,p.2,_,Z,Z,SqL.of WO,iB,Z,_,Z,?_;rw[ZO];show WC (λhc=>?_) (λhc=>?_)
   .exists _,_,_,_,_,_,Z,s2,?_;rw[WO,step];unfold lm;lia
   .exists _,Z,_,Z,m,_,p.2,_,Z,Z,SqL.of WO,iB,?_;exists _,Z,_,Z,m,_,p.1,_,Z,Z,SqL.of WO,iA,?_;show⟨_,Z,n,Z,J,J,MS (lo:=0) (n:=n.j) (λj σ H3=>∃(v4 v5 v6 v9:Option V),σ=[⇑(.int n),some<|.ref a,some<|.ref b,some<|.ref m,v4,v5,v6,some<|.int<|mk M p.2.j,some<|.int<|mk M p.1.j,v9]/\Same H H3/\
      H3 m=⇑(.lst<|IL<|(M.Q j).G (λk=>if k=mk M p.2.j then mk M p.1.j else k)++M.drop j)) {_,_,_,_,Z,s2,by rw[WO];rfl} ?_ ?_⟩
    .rintro j σ H3 hj ⟨w4,w5,w6,w9,rfl,s3,Oe⟩;let tm:M[j]?=⇑(mk M j):=QE J
     let Xj:((M.Q j).G λk=>if k=mk M p.2.j then mk M p.1.j else k).f=j:=by rw[Xr,Yw];grind
     let hjv:((M.Q j).G (λk=>if k=mk M p.2.j then mk M p.1.j else k)++M.drop j)[j]?=⇑(mk M j):=by rwa[Ys J,Xj,JU,Uz,Nat.add_zero]
     let ezj:(0:A0)+(j:A0)=(j:A0):=Lo _;let iJ:Wy (IL<|(M.Q j).G (λk=>if k=mk M p.2.j then mk M p.1.j else k)++M.drop j) (0+(j:A0))=⇑(.int<|mk M j):=Zu (n:=j) ezj (by rw[Yi,hjv];rfl)
     let dj:M.drop j=mk M j::M.drop (j+1):=by
      rw[GC J];congr 1
      have:=tm
      rw[Xv J]at this;show Yn this
     exists _,Z,_,Z,m,_,_,_,Z,Z,SqL.of Oe,iJ,_,Z,Z,_,Z,?_;rw[ZO];show Xl (λhe=>?_) (λhe=>?_)
     .exists _,Z,_,Z,_,Z,m,_,_,j,Z,Z,Oe,?_,?_
      .unfold PR;rw[Yk J,Yk D];simp
      .exists _,_,_,_,Z,Zy Qi s3,?_;rw[XT,YB,tm];congr 2;rw[<-IZ,cu _ _ J,Xj,Uz,dj,YE,List.set_cons_zero,YT];change IL (_++_::_)=IL (_++((if mk M j=mk M p.2.j then mk M p.1.j else mk M j)::_))
       rw[Yk he];rfl
     .exists _,_,_,_,Z,s3,?_;rw[Oe,YB,tm,dj];congr 2;rw[YE,YT];change IL (_++_::_)=IL (_++((if mk M j=mk M p.2.j then mk M p.1.j else mk M j)::_))
      rw[Yh he];rfl
    .rintro σ H3 ⟨w4,w5,w6,w9,rfl,s3,Oe⟩;exists _,_,_,_,_,_,Z,s3,?_;rw[Oe,step];unfold lm;grind
  .rintro σ H2 ⟨v4,v5,v6,v7,v8,v9,rfl,s2,WO⟩;rw[Xc,Yv]at WO;exists _,Z,q m H2 s2 Qi WO
inductive spZ81(K:Ad):_
 |mk (n:A0) (a:A7) (xs:A6 V) (ps:Aa) (_:vs=[.int n,.ref a]) (_:SqL K H a xs) (_:PairsV H xs ps) (_:ZA n ps) (_:n<=5) (_:ps.f<=9) (_:∀(r:A7)(ys:A6 V)(L:Ab)(H':Hp),Same H H'->H' r=⇑(.lst ys)->TupsV H' ys L->L.f<=10000->(∀l,l∈L↔Zn n ps l)->L.H UM->Q ↑r H')
def xn:FnScope ["places","ties","told","k","longer","some","first"] ["places","ties"] (Za (top 114)):=To B
def dr(T:Txt K mg t):Xs P w base XA T.qZ81 2 (spZ81 K):=by
 show T.qZ81.okI ["places","ties","told","k","longer","some","first"] B ⋯
 .let⟨n,a,xs,ps,rfl,hA,hP,hG,n5,p9,q⟩:=h;show⟨_,(XN (Zh 2<|UH<|XZ (TX XY) XY)
   (XN (Uu YR Z (ZM Z T.n_range<|XZ (Zt TH (pv 0) XQ) XY) (Zb 3)
   (XN (Zh 4<|UH XY)
   (XN (Uu YR Z (ZD K<|pv 2) (Ef (i:=5) xn.nd Z<|Or.inr Z)
   (XN (Zh 6 XQ)
   (XN (XD (Zg PV (pv 3) XQ<|Zp _)
   (XM<|Zh 6<|Zt Ut (Zz (ZH K) (pv 5) (Zt TH (pv 3) XQ) λ_ _=>rfl) XQ)
   Zm)
   (XM<|Sd<|UQ K YL JJ JK pY (pv 4)<|XZ (Vd rfl (sc0:=Za<|top 114) (N0:=["places","ties","told","k","longer","some","first"]) (N':=["tie","some"]) (o:=1) (fr:=[5]) ⟨rfl,B,B,B,rfl,B⟩ (bS rfl T.n_range<|XZ (pv 6)<|XZ (Zf (Zi K) rC T.n_len Boot.«len»<|XZ (pv 1) XY) XY) (Zs Ep) (λ_ _ _ _=>(Zb 0)) (λ_ _ _ _=>ZK) λ_ _ _ _=>(Zt (RR K) (pv 1)<|TX<|XZ (pv 0) XY)) XY))))
   (XM<|Zh 2<|pv 4))))
   (XM<|Zj<|Vd rfl (sc0:=Za<|top 114) (N0:=["places","ties","told","k","longer","some","first"]) (N':=["some","places","ties"]) (o:=1) (fr:=[0,1]) ⟨rfl,B,B,B,rfl,B⟩ (ZD K<|pv 2) (Zs Ep) (λ_ _ _ _=>(Zb 0)) (λ_ _ _ _=>(PN<|Zg TY (Zf ZO4 rC T.n_len Boot.«len»<|XZ (Zl (oJ K rfl) rC T.n_set Boot.«set»<|XZ (Xz (dt T) hr T.qZ71 Zv<|XZ (pv 1)<|XZ (pv 2)<|XZ (pv 0) XY) XY) XY) XQ<|Zp _)) λ_ _ _ _=>(pv 0)))),?_⟩
  let(g1,g2,g3,g4):=id hG;let Qy:=hP.1
  let one:1<=sizeLine:=Ep;let big:∀k:A5,k<=4->(TU ps⁻¹ k).f<=6561:=λk hk=>Yq (KP p9 k) (by rcases(by grind:k=0\/k=1\/k=2\/k=3\/k=4) with e|e|e|e|e<;>rw[e]<;>decide)
  exists Qd _,λt0 ht0=>{one,λd0 dq=>?_};let s0:=Zw (XO (o:=.tup []) ht0) (o:=.lst [.ref t0]) dq
  let k0:(upd (upd H t0<|.tup []) d0<|.lst [.ref t0]) t0=⇑(.tup []):=XO dq _ _ XT;show⟨_,Z,_,_,Z,Z,_,Z,J,J,MS (lo:=0) (n:=(n-1).j) (λi σ H2=>∃(d:A7)(ys:A6 V)(v3 v4 v5 v6:Option V),σ=[⇑(.int n),some<|.ref a,some<|.ref d,v3,v4,v5,v6]/\Same H H2/\H2 d=⇑(.lst ys)/\TupsV H2 ys (TU ps⁻¹ i))
   {d0,[.ref t0],none,none,none,none,Z,s0,XT,.one ⟨t0,Z,k0⟩} ?_ ?_⟩
  .rintro i σ H2 hi ⟨d,ys,v3,v4,v5,v6,rfl,s2,hd,hL⟩;let hi4:i<4:=J
   exists Qd _,λe he=>?_;let s3:=XO (o:=.lst []) he
   show⟨_,Z,d,Z,{_,SqL.of<|s3 _ _ hd},MT (K:=K) (a:=d) (xs:=ys) (λj σ H4=>∃(zs:A6 V)(v5 v6:Option V),σ=[⇑(.int n),some<|.ref a,some<|.ref d,some<|.int<|0+(i:A0),some<|.ref e,v5,v6]/\Same H2 H4/\H4 e=⇑(.lst zs)/\TupsV H4 zs (((TU ps⁻¹ i).Q j).flatMap (VL ps⁻¹)))
    {[],_,_,Z,s3,XT,TupsV.nil} (λj σ H4 _ zz=>by let(_,_,_,_,e,_):=zz;show SqL.of<|e _ _ hd) ?_ ?_⟩
   .rintro j v σ H4 hj ⟨zs,v5,v6,rfl,s4,EW,hZ⟩;let(l,hl,tt,rfl,GO):=hL.at hj;let Vq:=s4 _ _ GO
    let(ll,hI):=WV.S (Xo hl);let zl:zs.f<=9*6561:=by
     rw[hZ.1];let h1:=Mq (m:=ps.f) ((TU ps⁻¹ i).Q j) λs hs=>(WV.S<|Gx hs).2
     let h2:=big i J;let h3:((TU ps⁻¹ i).Q j).f<=6561:=by rw[Yw];lia
     show Yq h1 (Ni p9 h3)
    let nx0:0<=UD l:=by
     unfold UD;cases q:l.getLast? with
     |none=>lia
     |some x=>have:=(hI.all x<|ER q).1;lia
    let nx1:UD l<=30:=by
     unfold UD;cases q:l.getLast? with
     |none=>ext
     |some x=>have:=(hI.all x<|ER q).2;lia
    exists _,Z,_,_,Z,Z,_,Z,?_;show Xl (λhk=>?_) (λhk=>?_)
    .let XJ:l.f-1<l.f:=J;obtain⟨y,hy⟩:∃y,l[l.f-1]?=⇑y:={_,Xv XJ};let gl:l.getLast?=⇑y:=by rwa[List.getLast?_eq_getElem?]
     let hF:y+1=UD l:=by unfold UD;rw[gl]
     let xq:Wy (IL l) (0+(i:A0)-1)=⇑(.int y):=Zu (n:=l.f-1) J (Uo hy);exists _,Z,_,Z,_,_,Z,Z,tt,_,_,_,Z,Z,SqT.of Vq,xq,_,_,Z,Z,?_;exists _,Z,.inl {Z,_,SqL.of EW},_,Z,_,Z,a,xs,Z,.inl<|(s2.l s4).seq hA,(y+1),xs⁻¹,Z,{D,J,by ext,J},IS (lo:=(y+1)) (n:=(xs⁻¹-(y+1)).j) (λi2 ws H5=>Same H4 H5/\TupsV H5 ws ((List.range i2).G λ(t:A5)=>l++[(y+1)+(t:A0)])) {Same.refl _,TupsV.nil} (Zk D) (λi2 ws H5 _ zz=>by let(_,e):=zz;rw[e.1,Xr,Nm];lia) ?_ ?_
     .rintro i2 ws H5 Wu ⟨s5,hW⟩ S Xy;show nm ?_;exists _,Z,_,Z,one,λp2 Wn=>?_;let s6:=XO (o:=.tup<|IL [(y+1)+(i2:A0)]) Wn
      let EV:=s5.l s6;exists tt,p2,IL l,IL [(y+1)+(i2:A0)],Z,Z,SqT.of<|EV _ _ Vq,SqT.of XT,PK D,λe=>?_,λ_ e=>(nomatch e),λ_ _ p3 Tb=>?_
      .ext
      .show Xy _ _ {EV.l<|XO Tb,?_};rw[SW,YE];show((hW.Y s6).Y (XO Tb)).snoc {p3,Z,by rw[XT];ext}
     .rintro ws H5 ⟨s5,hW⟩ p hp;let s6:=s5.l (XO (o:=.lst ws) hp)
      let xm:=s6 _ _ EW;let wl:ws.f<=100:=by rw[hW.1,Xr,Nm];grind
      exists e,p,zs,ws,Z,Z,xm,XT,PK D,?_;exists _,_,_,Z,Zy he<|s4.l s6,XT,?_;rw[aE hl];let ee:VL ps⁻¹ l=(List.range (xs⁻¹-(y+1)).j).G λ(t:A5)=>l++[(y+1)+(t:A0)]:=by unfold VL;rw[<-hF,Qy]
      rw[ee];show(((hZ.Y s6).app (hW.Y<|XO hp))).mut xm
    .let hF:(0:A0)=UD l:=by have:l=[]:=YV.S (by ext);rw[this];rfl
     exists _,Z,.inl {Z,_,SqL.of EW},_,Z,_,Z,a,xs,Z,.inl<|(s2.l s4).seq hA,(0:A0),xs⁻¹,Z,{D,D,by ext,J},IS (lo:=(0:A0)) (n:=(xs⁻¹-(0:A0)).j) (λi2 ws H5=>Same H4 H5/\TupsV H5 ws ((List.range i2).G λ(t:A5)=>l++[(0:A0)+(t:A0)])) {Same.refl _,TupsV.nil} (Zk J) (λi2 ws H5 _ zz=>by let(_,e):=zz;rw[e.1,Xr,Nm];lia) ?_ ?_
     .rintro i2 ws H5 Wu ⟨s5,hW⟩ S Xy;show nm ?_;exists _,Z,_,Z,one,λp2 Wn=>?_;let s6:=XO (o:=.tup<|IL [(0:A0)+(i2:A0)]) Wn
      let EV:=s5.l s6;exists tt,p2,IL l,IL [(0:A0)+(i2:A0)],Z,Z,SqT.of<|EV _ _ Vq,SqT.of XT,PK D,λe=>?_,λ_ e=>(nomatch e),λ_ _ p3 Tb=>?_
      .show Xy _ _ {EV,?_};let e0:l=[]:=by cases h:l with|nil=>rfl|cons x r=>rw[h]at e;cases e
       rw[SW,YE];show(hW.Y s6).snoc {p2,Z,by rw[e0];show XT}
      .show Xy _ _ {EV.l<|XO Tb,?_};rw[SW,YE];show((hW.Y s6).Y (XO Tb)).snoc {p3,Z,by rw[XT];grind}
     .rintro ws H5 ⟨s5,hW⟩ p hp;let s6:=s5.l (XO (o:=.lst ws) hp)
      let xm:=s6 _ _ EW;let wl:ws.f<=100:=by rw[hW.1,Xr,Nm];lia
      exists e,p,zs,ws,Z,Z,xm,XT,PK D,?_;exists _,_,_,Z,Zy he<|s4.l s6,XT,?_;rw[aE hl];let ee:VL ps⁻¹ l=(List.range (xs⁻¹-(0:A0)).j).G λ(t:A5)=>l++[(0:A0)+(t:A0)]:=by unfold VL;rw[<-hF,Qy]
      rw[ee];show(((hZ.Y s6).app (hW.Y<|XO hp))).mut xm
   .rintro σ H4 ⟨zs,v5,v6,rfl,s4,EW,hZ⟩;exists _,Z,e,zs,_,_,_,_,Z,s2.l s4,EW,?_;rwa[hL.1,Yv]at hZ
  .rintro σ H2 ⟨d,ys,v3,v4,v5,v6,rfl,s2,hd,hL⟩;show⟨_,Z,d,Z,{_,SqL.of hd},Wl (K:=K) (a:=d) (xs:=ys) (λi ws H3=>Same H2 H3/\i<=ys.f/\TupsV H3 ws (((TU ps⁻¹ (n-1).j).Q i).filter λl=>decide<|(L2.seen<|WW n.j<|XR ps l).f=1)) {Same.refl _,Qd _,TupsV.nil} (Zk<|by rw[hL.1];grind)
    (λi ws H3 hi zz=>by let(e,Wu,ey):=zz;show{SqL.of<|e _ _ hd,by rw[ey.1];grind}) ?_ ?_⟩
   .rintro i v ws H3 hi ⟨s3,Vs,hW⟩ S Xy;let(l,hl,tt,rfl,GO):=hL.at hi;let Vq:=s3 _ _ GO
    let Xp:i<ys.f:=(Xx.S hi).1;let(ll,hI):=WV.S (Xo hl);let Nu:=s2.l s3
    show nm ?_;exists _,Z,_,Z,_,Z,n,a,tt,xs,ps,true,l,Z,Nu.seq hA,hP.Y Nu,hG,SqT.of Vq,hI.all,λm H7 s7 Qi Fd=>?_;let lL:(WW n.j<|XR ps l).f=n.j:=ZG _ _
    let sl1:(L2.seen<|WW n.j<|XR ps l).f<=(WW n.j<|XR ps l).f:=PyProof.Rows.firstMet_length_le _ _;exists m,WW n.j<|XR ps l,Z,SqL.of Fd,(by change(WW n.j<|XR ps l).f+1<4096;grind),λst WE=>?_;let s8:=XO (o:=.set (λk=>(L2.seen<|WW n.j<|XR ps l).any (· == k)) (L2.seen<|WW n.j<|XR ps l).f) WE
    exists st,_,_,Z,XT,D,Z,_,Z,?_;rw[ZO];show Xl (λhc=>?_) (λhc=>?_)
    .exists _,Z,Xy _ _ {(s3.l s7).l s8,Xp,?_};rw[az hl,Yk (YA D)];show((hW.Y s7).Y s8).snoc {tt,Z,s8 _ _<|s7 _ _ Vq}
    .show Xy _ _ {(s3.l s7).l s8,Xp,?_};rw[az hl,Yh J,YO];show(hW.Y s7).Y s8
   .rintro ws H3 ⟨s3,_,hW⟩ p hp;rw[hL.1,Yv]at hW;show q p ws _ _ ((s2.l s3).l (XO hp)) XT (hW.Y<|XO hp) ?_ (λl=>?_) ((mX _ _).sublist List.filter_sublist)
    .grind
    .rw[Ye,WV,VR];constructor
     .rintro⟨⟨h1,h2⟩,h3⟩;exists h2,J,(aM J<|ZQ hG h2.all).S h3
     .rintro⟨h1,h2,h3⟩;exists ⟨J,h1⟩,(aM J<|ZQ hG h1.all).mpr h3
inductive spZ91(K:Ad):_
 |mk (a:A7) (ns:Ac) (c:A5) (_:vs=[.ref a,.int c]) (_:SqL K H a (IL ns)) (_:ns.f<=63) (_:c<=30) (_:∀r l H',Same H H'->H r=A8->H' r=⇑(.lst<|IL l)->l.f=c->Told l->Q ↑r H')
def xk:FnScope ["script","count","folded","k","told","m"] ["script","count"] (Za (top 115)):=To B
def dk(T:Txt K mg t):Xs P w base XA T.qZ91 2 (spZ91 K):=by
 show T.qZ91.okI ["script","count","folded","k","told","m"] B ⋯
 .let⟨a,ns,c,rfl,hA,GN,hc,q⟩:=h;show⟨_,(XN (PL (i:=2) Z xk.nd Z Z (sc0:=Za<|top 115) (N0:=["script","count","folded","k","told","m"]) (N':=["k"]) (o:=1) (fr:=[]) ⟨Z,B,B,B,Z,B⟩ (ZM Z T.n_range<|XZ (pv 1) XY) (Zs Ep) (λ_ _ _ _=>(Zb 0)) (λ_ _ _ _=>ZK) λ_ _ _ _=>(Zt Ut (Zt UX XQ<|pv 0) XQ))
   (XN (Uu YR Z (ZM Z T.n_range<|XZ (Zf (Zi K) rC T.n_len Boot.«len»<|XZ (pv 0) XY) XY) (Zb 3)
   (XM (XD (Zg PV (pv 1) XQ<|Zp _)
   (XM<|Ee (Zt ZU (Zt Ut (Zt UX (Zz (Zc K) (pv 2) (Zt ZU (pv 3)<|pv 1) λ_ _=>rfl) XQ)<|Zz (Zc K) (pv 0) (pv 3) λ_ _=>rfl)<|Zt RZ XQ XQ)<|Jw (pv 2) (Zt ZU (pv 3)<|pv 1) Ji)
   Zm)))
   (XN (Zh 4<|UH XY)
   (XN (Uu YR Z (ZM Z T.n_range<|XZ (pv 1) XY) (Zb 3)
   (XN (Zh 5<|Xz (xt T) hr T.qZ31 Zv<|XZ (Zz (Zc K) (pv 2) (pv 3) λ_ _=>rfl)<|XZ (Zt Ut XQ<|pv 3) XY)
   (XM<|Sd<|UQ K YL JX JY Jf (pv 4)<|XZ (Zz (Zc K) (UH<|XZ (Zt ZU (Zt OX (pv 5) XQ) XQ)<|XZ (Zt TH (Zt ZU (Zt OX (pv 5) XQ) XQ) XQ)<|XZ XQ<|XZ (Zt TH (Zt ZU (Zz (Zc K) (pv 2) (pv 3) λ_ _=>rfl)<|Zt UX XQ<|Zt RZ XQ XQ)<|Zt RZ XQ XQ) XY) (Zt ZU (pv 5) XQ) λ_ _=>rfl) XY)))
   (XM<|Zj<|pv 4))))),?_⟩
  let four:4<=sizeLine:=Ep;exists _,Z,(c:A0),Z,by ext,J,IS (lo:=0) (n:=((c:A0)).j) (λi ys H3=>H3=H/\∃fs:Ac,ys=IL fs/\fs.f=i) {Z,[],Z,Z} (Zk J) (λi ys H3 _ zz=>by let(_,fs,e,el):=zz;ext) ?_ ?_
  .rintro i ys H3 hi ⟨rfl,fs,rfl,EZ⟩ S Xy;show QF ?_;exists _,Z,_,_,Z,Z,.inl ⟨Ep,Ep⟩,_,_,Z,Z,?_;show Xy _ _ {Z,fs++[5*(0+(i:A0))+2],?_,?_}
   .show(ZV _ _).symm
   .rw[Xa,EZ];rfl
  rintro ys H3 ⟨rfl,fs,rfl,EZ⟩ l3 Od;let s3:=XO (o:=.lst<|IL fs) Od
  show nm ?_;exists _,Z,a,_,Z,.inl<|s3.seq hA,_,Z,by ext,D,MS (lo:=0) (n:=((IL ns).f:A0).j) (λj σ H4=>∃fs v3,σ=[some ↑a,some<|.int c,some<|.ref l3,v3,none,none]/\Same H3 H4/\H4 l3=⇑(.lst<|IL fs)/\fs.f=c) {fs,none,Z,s3,XT,by ext} ?_ ?_
  .rintro j σ H4 hj ⟨gs,v3,rfl,s4,h4,eg⟩;show nm ?_;exists _,Z,_,_,Z,Z,_,Z,?_;show Xl (λPy=>?_) λ_=>{gs,_,Z,s4,h4,eg};let at0:0<=(0+(j:A0))%(c:A0):=Pl _ J
   let dC:(0+(j:A0))%(c:A0)<(c:A0):=JT _ Py;generalize xq:(0+(j:A0))%(c:A0)=at' at *;obtain⟨f,hf⟩:∃f,gs[at'.j]?=⇑f:={_,Xv<|by ext};obtain⟨z,hz⟩:∃z,ns[j]?=⇑z:={_,Xv<|by ext};show{_,Z,_,Z,_,Z,_,_,Z,Z,Py,l3,_,_,_,Z,Z,SqL.of h4,by show Zu (n:=at'.j) J<|Uo hf,_,_,Z,Z,.inr ⟨Ep,Ep⟩,_,Z,_,Z,a,_,_,_,Z,Z,s4.seq hA,Zu (n:=j) (by ext)<|Uo hz,_,_,Z,Z,_,_,Z,Z,⟨Ep,Ep,Ep⟩,_,_,Z,Z,(by ext),?_};exists _,Z,_,Z,_,Z,_,_,Z,Z,Py,l3,_,_,at'.j,Z,Z,h4,?_,?_
   .try rw[xq]
    unfold PR
    ext
   .show{gs.set at'.j<|(f*7+z)%(10:A0)^((60:A0).j),_,Z,Zy Od s4,?_,by ext};rw[XT,IZ]
  rintro σ H4 ⟨gs,v3,rfl,s4,h4,eg⟩;exists Qd _,λl5 GR=>?_;let EY:l3≠l5:=Ze h4 GR
  let RC:H3 l5=A8:=s4.free GR;let u5:=XO (o:=.lst []) GR
  let s5:=s4.l u5;let h35:=u5 _ _ h4
  let h55:(upd H4 l5<|.lst []) l5=⇑(.lst<|IL []):=XT;show nm ?_;show{_,Z,_,Z,by ext,J,MS (lo:=0) (n:=((c:A0)).j) (λj σ H6=>∃L v3 v5,σ=[some ↑a,some<|.int c,some<|.ref l3,v3,some<|.ref l5,v5]/\Same H3 H6/\H6 l3=⇑(.lst<|IL gs)/\H6 l5=⇑(.lst<|IL L)/\L.f=j/\Told L) {[],v3,none,Z,s5,h35,h55,Z,λz hz=>(by cases hz)} ?_ ?_};rotate_left
  .rintro σ H6 ⟨L,w3,w5,rfl,s6,_,tj,hL,hT⟩;exists _,Z,q l5 L H6 s6 RC tj (by ext) hT
  rintro j σ H6 hj ⟨L,w3,w5,rfl,s6,di,tj,hL,hT⟩;obtain⟨f,hf⟩:∃f,gs[j]?=⇑f:={_,Xv<|by ext};let hfa:Wy (IL gs) (0+(j:A0))=⇑(.int f):=Zu (n:=j) J (Uo hf)
  show nm ?_;exists _,Z,_,Z,l3,_,_,_,Z,Z,SqL.of di,hfa,_,Z,_,_,Z,Z,_,_,Z,λm m0 m1=>?_;show nm ?_;exists _,Z,.inl {Z,_,SqL.of tj},_,Z,_,_,Z,Z,⟨Ep,Ep⟩,_,_,Z,Z,(by ext),_,Z,_,_,Z,Z,⟨Ep,Ep⟩,_,_,Z,Z,(by ext),_,_,Z,Z,_,Z,_,Z,l3,_,_,_,Z,Z,SqL.of di,hfa,_,_,Z,Z,⟨Ep,Ep,Ep⟩,_,_,Z,Z,.inl ⟨Ep,Ep⟩,_,_,Z,Z,(by ext),_,_,Z,Z,⟨Ep,Ep,Ep⟩,_,_,Z,Z,four,λc4 tu=>?_;obtain⟨x,hx,hxb⟩:∃x:A0,Wy (IL [m/8%5,m/8%19-9,1,f%(2*10^(59:A0).j)-10^(59:A0).j]) (m%4)=⇑(.int x)/\(-(10^60)<x/\x<(10:A0)^60):=by
   rcases(by lia:m%4=0\/m%4=1\/m%4=2\/m%4=3) with e|e|e|e<;>rw[e]
   .exists _,Z,J
   .exists _,Z,J
   .exists _,Z,by ext
   .exists _,Z,?_;lia
  let w1:=XO (o:=.lst<|IL [m/8%5,m/8%19-9,1,f%(2*10^(59:A0).j)-10^(59:A0).j]) tu;exists _,Z,_,_,Z,Z,(by ext),c4,_,_,.int x,Z,Z,SqL.of XT,hx,?_;show{l5,_,_,Z,Z,w1 _ _ tj,Zk D,L++[x],_,_,Z,Zy RC<|s6.l w1,?_,by rw[XT,ZV],by ext,λz hz=>(Xn.S hz).elim (hT z) λh=>by rwa[Xd.S h]};rw[Zd EY];show w1 _ _ di
inductive spZa1(K:Ad):_
 |mk (n a b xs ps ls:_) (_:vs=[.int n,.ref a,.ref b]) (_:SqL K H a xs) (_:PairsV H xs ps) (_:SqL K H b (IL ls)) (_:ZA n ps) (_:ls.f=ps.f) (_:Told ls) (_:∀H':Hp,Same H H'->Q (.str<|RM n ps ls) H')
def dh(T:Txt K mg t):Xs P w base XA T.qZa1 1 (spZa1 K):=by
 show T.qZa1.okI ["places","ties","lengths","lines","k","words"] B ⋯
 .let⟨n,a,b,xs,ps,ls,rfl,hA,hP,hB,hG,hl,hT,q⟩:=h;show⟨_,(XN (Zh 3<|UH<|XZ (Zt vH ZW<|Zl ZY rC T.n_str Boot.«str»<|XZ (pv 0) XY) XY)
   (XN (Uu YR Z (ZM Z T.n_range<|XZ (Zf (Zi K) rC T.n_len Boot.«len»<|XZ (pv 1) XY) XY) (Zb 4)
   (XN (Zh 5<|UH<|XZ ZW<|XZ (Zl ZY rC T.n_str Boot.«str»<|XZ (Zz (ZH K) (Zz (Zc K) (pv 1) (pv 4) λ_ _=>rfl) XQ λ_ _=>rfl) XY)<|XZ (Zl ZY rC T.n_str Boot.«str»<|XZ (Zz (ZH K) (Zz (Zc K) (pv 1) (pv 4) λ_ _=>rfl) XQ λ_ _=>rfl) XY) XY)
   (XM<|Sd<|UQ K YL JX JY Jf (pv 3)<|XZ (UQ K Lv wG wH (uw K) ZW<|XZ (Zt Dw (pv 5)<|UH<|XZ (Zl ZY rC T.n_str Boot.«str»<|XZ (Zz (Zc K) (pv 2) (pv 4) λ_ _=>rfl) XY) XY) XY) XY)))
   (XM<|Zj<|UQ K Lv wG wH (uw K) ZW<|XZ (pv 3) XY))),?_⟩
  let HA:=hP.1;let eS:=hG.2.2.1
  let NC:=hG.1;let Rw:=hG.2.1
  let one:1<=sizeLine:=Ep;let three:3<=sizeLine:=Ep
  let z1:100000<=sizeLine:=Ep;let nl:=HX (i:=n) (k:=60) Ep J J
  exists _,Z,n,Z,J,J,_,_,Z,Z,?_,one,λd hd=>?_
  .change 7+(nT n).f<=_;lia
  let u1:=XO (o:=.lst<|TL<|Ws n (ps.Q 0)<|ls.Q 0) hd;show nm ?_;exists _,Z,a,_,Z,.inl<|u1.seq hA,_,Z,by ext,J,MS (lo:=0) (n:=(xs.f:A0).j) (λi σ H4=>∃v4 v5,σ=[⇑(.int n),some<|.ref a,some<|.ref b,some<|.ref d,v4,v5]/\Same H H4/\H4 d=⇑(.lst<|TL<|Ws n (ps.Q i)<|ls.Q i)) ⟨none,none,Z,u1,XT⟩ ?_ ?_
  .rintro i σ H4 hi ⟨v4,v5,rfl,s4,h4⟩;obtain⟨v,hv⟩:∃v,xs[i]?=⇑v:={_,Xv<|by ext};let(p,hp,tt,rfl,Vq):=hP.at hv;obtain⟨l,VX⟩:∃l,ls[i]?=⇑l:={_,Xv<|by ext};let QX:=jB hG hT hp VX
   let b1:=QX p.1 Eo;let b2:=QX p.2 Eo
   let b3:=QX l Eo;show nm ?_;let ia:Wy xs (0+(i:A0))=some ↑tt:=Zu (n:=i) (by ext) hv
   exists _,Z,_,Z,a,_,_,.ref tt,Z,Z,s4.seq hA,ia,tt,_,0,.int p.1,Z,Z,SqT.of<|s4 _ _ Vq,Z,p.1,Z,J,J,_,Z,_,Z,a,_,_,.ref tt,Z,Z,s4.seq hA,ia,tt,_,1,.int p.2,Z,Z,SqT.of<|s4 _ _ Vq,Z,p.2,Z,J,J,three,λc hc=>?_;let u2:=XO (o:=.lst<|TL [Str.M "tie",nT p.1,nT p.2]) hc
   let s5:=s4.l u2;let h5:=u2 _ _ h4
   let hc5:(upd H4 c<|.lst<|TL [Str.M "tie",nT p.1,nT p.2]) c=⇑(.lst<|TL [Str.M "tie",nT p.1,nT p.2]):=XT;show nm ?_;exists _,Z,.inl {Z,_,SqL.of h5},Z,_,Z,_,Z,_,Z,b,_,_,.int l,Z,Z,s5.seq hB,Zu (n:=i) J<|Uo VX,l,Z,J,J,one,λc2 Vm=>?_;let u3:=XO (o:=.lst<|TL [nT l]) Vm
   exists c,c2,_,TL [nT l],Z,Z,u3 _ _ hc5,XT,(show 3+1<=sizeLine by decide),λc3 hc3=>?_;let u4:=XO (o:=.lst<|TL [Str.M "tie",nT p.1,nT p.2]++TL [nT l]) hc3
   let u34:=u3.l u4;let wl:(Ws n (ps.Q i)<|ls.Q i).f<=31:=by rw[jC (by ext),Yw];grind
   exists _,c3,[Str.M "tie",nT p.1,nT p.2,nT l],Z,Z,SqL.of XT,?_,?_
   .show Ma (AP:=61) (λa ha=>?_) (by change 4*61+4<=_;decide);rcases Yo.S ha with e|e
    .rw[e];decide
    .show RL QX a e
   exists d,_,_,Z,Z,u34 _ _ h5,Zk (by rw[Zq];lia),_,_,Z,Zy hd<|s5.l u34,?_;rw[XT];change some (HO.lst<|TL (Ws n (ps.Q i)<|ls.Q i)++[.str (PD p l)])=_
   rw[Ap,jD hp VX]
  rintro σ H4 ⟨v4,v5,rfl,s4,h4⟩;rw[show(xs.f:A0).j=ps.f by ext,Yv,<-hl,Yv]at h4;exists Z,_,Z,_,d,_,Z,Z,SqL.of h4,?_,q H4 s4;show Ma (AP:=400) (Zk7 hG hT) (by rw[jC hl];lia)
inductive spZb1(K:Ad):_
 |mk (a:A7) (l:Ac) (_:vs=[.ref a]) (_:H a=⇑(.tup<|IL l)) (_:l.f<=1000) (_:Told l) (_:∀H':Hp,Same H H'->Q (.str<|WL l) H')
def df(T:Txt K mg t):Xs P w base XA T.qZb1 2 (spZb1 K):=by
 show T.qZb1.okI ["tree"] B ⋯
 .let⟨a,l,rfl,hA,VX,hl,q⟩:=h;show⟨_,(XN (XD (Zg (oN K<|IY hr) (pv 0) (TX XY)<|Zp _)
   (XM<|Zj ZW)
   Zm)
   (XM<|Zj<|UQ K Lv wG wH (uw K) ZW<|XZ (Vd Z (sc0:=Za<|top 117) (N0:=["tree"]) (N':=["tie"]) (o:=1) (fr:=[]) ⟨Z,B,B,B,Z,B⟩ (vw K<|pv 0) (Zs Ep) (λ_ _ _ _=>(Zb 0)) (λ_ _ _ _=>ZK) λ_ _ _ _=>(Zl ZY rC T.n_str Boot.«str»<|XZ (pv 0) XY)) XY)),?_⟩
  exists _,Z,Qd _,λe he=>?_;let s1:=XO (o:=.tup []) he
  let Tv:=s1 _ _ hA;exists 1,_,a,e,Z,Z,Ep,aS (SqT.of Tv) (ms:=[])<|SqT.of XT,_,Z,?_;show Xl (λh=>?_) (λh=>?_)
  .have:=q _ s1
   unfold WL at this;rwa[Yk h]at this
  generalize upd H e (.tup [])=H1 at *;show Vi ?_;exists Z,_,Z,a,Z,{_,SqT.of Tv},vy (K:=K) (a:=a) (xs:=IL l) (λi ys H3=>H3=H1/\ys=TL ((l.Q i).G nT)) ⟨Z,Z⟩ (Zk D) (λi ys H3 _ zz=>by let(e,ey):=zz;show{e▸SqT.of Tv,by rw[ey,Zq,Xr,Yw];ext}) ?_ ?_
  .rintro i v ys H3 hi ⟨rfl,rfl⟩ S Xy;let(z,rfl,hz):=Um hi;let hb:=hl z (Xo hz)
   show QF ?_;exists _,Z,z,Z,J,J,Xy _ _ {Z,?_};rw[YB,hz,YE];show Ap _ _
  rintro ys H3 ⟨rfl,rfl⟩ p hp;rw[Xc,Yv];exists _,p,l.G nT,Z,Z,SqL.of XT,?_,?_
  .show Ma (AP:=61) (RL hl) D
  .have:=q _ (s1.l<|XO (o:=.lst<|TL<|l.G nT) hp)
   unfold WL at this;rwa[Yh h]at this
inductive spZc1(K:Ad):_
 |mk (a b:A7) (U V:Ac) (_:vs=[.ref a,.ref b]) (_:H a=⇑(.tup<|IL U)) (_:H b=⇑(.tup<|IL V)) (_:U.f<=1000) (_:∀H',Same H H'->Q (.int ((U.filter λy=>decide<|y∉V).f:A5)) H')
def xj(T:Txt K mg t):Xs P w base XA T.qZc1 1 (spZc1 K):=by
 show T.qZc1.okI ["one","other"] B ⋯
 .let⟨a,b,U,V,rfl,hA,hB,hl,q⟩:=h;exists _,(XM<|Zj<|Zf (Zi K) rC T.n_len Boot.«len»<|XZ (Vd Z (sc0:=Za<|top 118) (N0:=["one","other"]) (N':=["tie","other"]) (o:=1) (fr:=[1]) ⟨Z,B,B,B,Z,B⟩ (vw K<|pv 0) (Zs Ep) (λ_ _ _ _=>(Zb 0)) (λ_ _ _ _=>(PN<|Zg (FO K) (pv 0) (pv 1) Z)) λ_ _ _ _=>(pv 0)) XY),?_;exists _,Z,a,Z,{_,SqT.of hA},vy (K:=K) (a:=a) (xs:=IL U) (λi ws LH=>LH=H/\i<=U.f/\ws=IL ((U.Q i).filter λy=>decide<|y∉V)) {Z,Qd _,Z} (Zk<|by rw[Xc];lia) (λi ws LH hi h=>by let(e,Wu,ew):=h;show{e▸SqT.of hA,by rw[ew,Xc];show Yq (YW ..)<|by rw[Yw];lia}) ?_ ?_
  .rintro i y ws LH hi ⟨rfl,Vs,rfl⟩ S Xy;let(y,rfl,hy):=Um hi;let Xp:i<U.f:=(Xx.S hy).1
   exists _,Z,_,Z,b,_,Z,.inr<|SqT.of hB,Z,Mz _,_,Z,?_;rw[MA];show WC (λhc=>?_) (λhc=>?_)
   .show Xy _ _ {Z,Xp,?_};rw[Ml hy,Yh (by simpa using hc),YO]
   .exists _,Z,Xy _ _ {Z,Xp,?_};rw[Ml hy,Yk<|YA hc,ZV]
  rintro ws LH ⟨rfl,_,rfl⟩ dA fN;rw[Xc,Yv];exists dA,_,Z,.inl<|SqL.of XT,?_;rw[Xc];show q _ (XO fN)
def Zm9:∀k,k<=4->((subs 9).filter λl=>decide (l.f=k)).f<128:=by decide +kernel
def xi{n:A0}{ps:Aa}{L:Ab}(g:ZA n ps)(hm:n<=5)(hp:ps.f<=9)(hn:L.Nodup)(h:∀l∈L,Zn n ps l):L.f<128:=by
 let g1:=g.1;show EO (hn.length_le_of_subset (l₂:=(subs 9).filter λl=>decide<|l.f=(n-1).j) λl hl=>?_) (Zm9 _ J);let t:=h l hl
 show Ye.mpr {VH.mpr<|XW.mpr {λz hz=>?_,(XW.S t.1).2},YA (by have:=t.2.1;lia)}
 have:=t.1.all z hz
 lia
def QW{CD Pt:A7}{H H2:Hp}{x d:A7}{zs:A6 V}(t:Xw H Pt)(sx:SameX Pt H H2)(h:DeskAt CD H x d zs):DeskAt CD H2 x d zs:=
 by let(dx,h1,h2):=h;exists dx,sx _ _ (t.ne h1 Eo) h1,sx _ _ (t.ne h2 Eo) h2
def tf{C Pt:A7}{H H2:Hp}{v:V}{T:Tr}(t:Xw H Pt)(sx:SameX Pt H H2)(h:StageV C H v T):StageV C H2 v T:=
 by let(a,w,b,e,h1,h2,h3):=h;exists a,w,b,e,sx _ _ (t.ne h1 Eo) h1,h2.samex t sx,sx _ _ (t.ne h3 Eo) h3
def xh{Pt:A7}{H H2:Hp}{xs:A6 V}{L:Ab}(t:Xw H Pt)(sx:SameX Pt H H2)(h:TupsV H xs L):TupsV H2 xs L:=
 {h.1,λi l e=>by let(v,hv,c,rfl,hc):=h.2 i l e;exists _,hv,c,Z,sx _ _ (t.ne hc Eo) hc}
def de{n:A0}{ps:Aa}{L:Ab}(g:ZA n ps)(hs:L.H UM)(hm:∀l,l∈L↔Zn n ps l):∃R:Ab,R.Perm L/\(R≠[]->RH n ps R)/\R[0]?=L[0]?/\Adj Ra R/\∀A AP,R[0]?=⇑A->1<R.f->R[R.f-1]?=⇑AP->Ra A AP:=by
 cases L with
 |nil=>exists [],we _,λh=>absurd Z h,Z,Adj.nil,λA AP h=>by cases h
 |cons F L=>
  let hF:=(hm F).S Ya;let(R,h1,h2,h3):=iO g ⟨F,hF⟩;let VB:∀U,Zn n ps U->HT.lexLt U F=B0:=λU hU=>by
   rcases Yo.S ((hm U).mpr hU) with rfl|h
   .show Cs _
   .show Zd8 ((YS.S hs).1 U h)
  exists R,(SY h2<|au hs).mpr λT=>(h3 T).l (hm T).symm,λ_=>⟨h1,h2,h3⟩,(HF (L:=[]) g h1 hF VB).1,(HF (L:=[]) g h1 hF VB).2.1,λA AP hA hl hB=>?_;let(a1,_,a3):=HF (L:=AP) g h1 hF VB;rw[a1]at hA;cases hA;show(Zm6 hF<|(h3 AP).S (Xo hB)).l (a3 hl hB)
def Zy7{A AP:A6 C0}(h:A.Perm AP)(hA:A.H λa b=>Qj.blt b.cps.m a.cps.m=B0)(hB:AP.H λa b=>Qj.blt b.cps.m a.cps.m=B0):A=AP:=
 cH (λa b _ _ h k=>by let e:=Qj.total _ _ k h;cases a;cases b;rw[Str.mk.injEq];show JC.S e) hA hB h
def SF:FnScope ["script","places","ties","desk","trees","texts","row","found","k","behind_it"] ["script"] (Za sZd1):=To B
def dc(T:Txt K mg t)(hB:Wr K mg base t.dZt Pt):Xs P w base XA T.qZd1 50 (spZd1 K Pt):=by
 show T.qZd1.okI ["script","places","ties","desk","trees","texts","row","found","k","behind_it"] B ⋯
 .let⟨a,ns,rfl,hS,GN,dH,k⟩:=h;show⟨_,(XN (Ee (Xz (dy T) hr T.qZ61 Zv<|XZ (pv 0)<|XZ XQ<|XZ XQ XY)<|Uj (n:=2) K Z<|ZC (Zb 1)<|ZC (Zb 2) Uv)
   (XN (Sb (i:=3) SF.nd Z (Or.inr Z)<|FZ T.k_Desk (dP T) (hr.mono Ep) Z T.c_Desk T.bZY .nil Zv<|XZ (Xz (dh T) hr T.qZa1 Zv<|XZ (pv 1)<|XZ (pv 2)<|XZ (Xz (dk T) hr T.qZ91 Zv<|XZ (pv 0)<|XZ (Zf (Zi K) rC T.n_len Boot.«len»<|XZ (pv 2) XY) XY) XY) XY)
   (XN (Sb (i:=4) SF.nd Z (Or.inr Z)<|Xz (dr T) hr T.qZ81 Zv<|XZ (pv 1)<|XZ (pv 2) XY)
   (XN (Sb (i:=5) SF.nd Z (Or.inr Z)<|Vd Z (sc0:=Za sZd1) (N0:=["script","places","ties","desk","trees","texts","row","found","k","behind_it"]) (N':=["tree"]) (o:=1) (fr:=[]) ⟨Z,B,B,B,Z,B⟩ (ZD K<|pv 4) (Zs Ep) (λ_ _ _ _=>(Zb 0)) (λ_ _ _ _=>ZK) λ_ _ _ _=>(Xz (df T) hr T.qZb1 Zv<|XZ (pv 0) XY))
   (XN (PL (i:=6) Z SF.nd Z Z (sc0:=Za sZd1) (N0:=["script","places","ties","desk","trees","texts","row","found","k","behind_it"]) (N':=["number","desk"]) (o:=1) (fr:=[3]) ⟨Z,B,B,B,Z,B⟩ (ZM Z T.n_range<|XZ (Zf (Zi K) rC T.n_len Boot.«len»<|XZ (pv 4) XY) XY) (Zs Ep) (λ_ _ _ _=>(Zb 0)) (λ_ _ _ _=>ZK) λ_ _ _ _=>(qo (pv 1) T.cl_Desk T.me_Desk_asked (GS T hB) (hr.mono Ep) T.bZ11 .nil Zv<|XZ (Zt vH ZW<|Zl ZY rC T.n_str Boot.«str»<|XZ (pv 0) XY) XY))
   (XN (XD (PW.pt<|QI (Zg (oM K<|IY hr) (Zf (ZG2 K) rC T.n_sorted Boot.«sorted»<|XZ (pv 6) XY) (Zf (ZG2 K) rC T.n_sorted Boot.«sorted»<|XZ (pv 5) XY)<|Zp _)<|Ge<|Zg (oM K<|IY hr) (ZR (ZT K) (pv 6) Rv<|Wh XQ) (ZR (ZT K) (pv 5) Rv<|Wh XQ)<|Zp _)
   (XM<|Zj Sg)
   Zm)
   (XN (PL (i:=7) Z SF.nd Z Z (sc0:=Za sZd1) (N0:=["script","places","ties","desk","trees","texts","row","found","k","behind_it"]) (N':=["text","trees","texts"]) (o:=1) (fr:=[4,5]) ⟨Z,B,B,B,Z,B⟩ (ZD K<|pv 6) (Zs Ep) (λ_ _ _ _=>(Zb 0)) (λ_ _ _ _=>ZK) λ_ _ _ _=>(Zz (Zc K) (pv 1) (UQ K YL sU sV (ZA9 K) (pv 2)<|XZ (pv 0) XY) λ_ _=>rfl))
   (XN (Uu YR Z (ZM Z T.n_range<|XZ (Zf (Zi K) rC T.n_len Boot.«len»<|XZ (pv 6) XY) XY) (Zb 8)
   (XN (XD (Zg Sz (qo (pv 3) T.cl_Desk T.me_Desk_asked (GS T hB) (hr.mono Ep) T.bZ11 .nil Zv<|XZ (Zt vH ZW<|Zz (Zc K) (pv 6) (pv 8) λ_ _=>rfl) XY) (Zl ZY rC T.n_str Boot.«str»<|XZ (pv 8) XY)<|Zp _)
   (XM<|Zj Sg)
   Zm)
   (XN (Zh 9<|Zz (Zc K) (Zt (mE K) (pv 6)<|UH<|XZ ZW XY) (Zt Ut (pv 8) XQ) λ_ _=>rfl)
   (XN (XD (Zg Sz (qo (pv 3) T.cl_Desk T.me_Desk_asked (GS T hB) (hr.mono Ep) T.bZ11 .nil Zv<|XZ (Zt vH ZW<|Zz (Zc K) (pv 6) (pv 8) λ_ _=>rfl) XY) (pv 9)<|Zp _)
   (XM<|Zj Sg)
   Zm)
   (XM (XD (PW.pt<|Lk (Zg PV (pv 8) XQ<|Zp _)<|Ll<|Zg Sz (Xz (xj T) hr T.qZc1 Zv<|XZ (Zz (Zc K) (pv 7) (Zt TH (pv 8) XQ) λ_ _=>rfl)<|XZ (Zz (Zc K) (pv 7) (pv 8) λ_ _=>rfl) XY) XQ<|Zp _)
   (XM<|Zj Sg)
   Zm))))))
   (XM<|Zj<|Ei (Us SV (Zf (Zi K) rC T.n_len Boot.«len»<|XZ (pv 6) XY) XQ<|Zp _)<|Jz<|Us TY (Xz (xj T) hr T.qZc1 Zv<|XZ (Zz (Zc K) (pv 7) XQ λ_ _=>rfl)<|XZ (Zz (Zc K) (pv 7) (Jt Jr XQ) λ_ _=>rfl) XY) XQ<|Zp _))))))))),?_⟩
  let one:1<=sizeLine:=Ep;exists _,Z,a,ns,5,9,Z,hS,GN,Ep,Ep,Ep,Ep,λr l n xs ps H1 s1 VT Nx SH hP hG hnm bY=>?_;exists r,_,Z,SqT.of VT,Z,_,_,Z,_,_,Z,Z,?_;let Qy:=hP.1
  let g1:=hG.1;let hm9:ps.f<=9:=J
  exists _,Z,_,Z,_,Z,_,Z,l,xs,Z,.inl<|SqL.of SH,a,ns,xs.f,Z,s1.seq hS,GN,J,λb ls H2 s2 Me hb VX c9=>?_;let VX:ls.f=ps.f:=VX.l Qy
  exists n,l,b,xs,ps,ls,Z,SqL.of<|s2 _ _ SH,hP.Y s2,SqL.of hb,hG,VX,c9,λH3 s3=>?_;intro x dx nx Pp Ob;let t1:Same H3 (upd (upd H3 dx<|.own x) x<|.ins t.A_Desk dx []):=Zw (XO Pp) (by rwa[Zd (YZ Ob)])
  exists x,dx,(n,ps,ls),Z,XT,⟨hG,VX,c9⟩,λd z H4 k4 dq hD hZ=>{Z,?_};let Sq:Same H3 H4:=λb o e=>k4 b o (t1 b o e) (Ze e nx)
  show nm ?_;dsimp only[List.set];let Hg:=s2.l (s3.l Sq)
  let gf:=Hg _ _ SH;let xo:=hP.Y Hg
  exists _,Z,_,Z,n,l,xs,ps,Z,SqL.of gf,xo,hG,hnm,hm9,λeA ys L H5 s5 td hL gN hmem Ub=>?_;show nm ?_;dsimp only[List.set];let c8:=au Ub
  let bz:=xi hG hnm hm9 c8 λl hl=>(hmem l).S hl;let Nv:=hL.1
  let tcL:TC n ps L.f:=⟨L,c8,hmem,Z⟩;let Qf:=dH.Y (s1.l<|Hg.l s5)
  let hD5:DeskAt t.A_Desk H5 x d ([]++[z]):=hD.Y s5;let hZ5:=hZ.Y s5
  let hO:jA (n,ps,ls):=⟨hG,VX,c9⟩;clear Hg s2 s3 Sq k4 t1 s5 s1 gf xo hP;let told:=λT (h:T∈L)=>ZG5 hG ((hmem T).S h)
  let(R,c7,hRN,c6,hAd,hCl):=de hG Ub hmem;let Og:=c7.length_eq
  exists _,Z,eA,Z,{_,SqL.of td},Wl (K:=K) (a:=eA) (xs:=ys) (λi us H3=>Same H5 H3/\us=TL ((L.Q i).G WL)) {Same.refl _,Z} (Zk J) (λi us H3 _ h=>by let(e,ey):=h;show{SqL.of<|e _ _ td,by rw[ey,Zq,Xr];show sF ..}) ?_ ?_
  .rintro i v us H3 hi ⟨s3,rfl⟩ S Xy;let(U,hU,c,rfl,hc):=hL.at hi;let(t1,t2):=told U (Xo hU);exists _,Z,c,U,Z,s3 _ _ hc,t1,t2,λH4 s4=>Xy _ _ {s3.l s4,?_};rw[YB,hU,YE];show Ap _ _
  rintro us H3 ⟨s3,rfl⟩ p2 Wn;rw[Nv,Yv];show nm ?_;dsimp only[List.set];let s6:=s3.l (XO (o:=.lst<|TL<|L.G WL) Wn)
  let xK:=XT (H:=H3) (a:=p2) (o:=.lst<|TL<|L.G WL);let sY:=s6 _ _ td
  let hL6:=hL.Y s6;let c5:=hD5.Y s6
  let cZ:=hZ5.Y s6;let Tj:=Qf.Y s6
  generalize upd H3 p2 (.lst<|TL<|L.G WL)=H6 at *;clear s6 s3 Wn td hL hD5 hZ5 Qf;exists _,Z,eA,ys,Z,.inl<|SqL.of sY,_,Z,J,J,IS (lo:=0) (n:=(ys.f:A0).j) (λi us H7=>SameX Pt H6 H7/\Xw H7 Pt/\us=TL ((R.Q i).G WL)) {SameX.Y<|Same.refl _,Tj,Z} (Zk J) (λi us H7 _ h=>by let(_,_,ey):=h;rw[ey,Zq,Xr];show sF ..) ?_ ?_
  .rintro i us H7 hi ⟨QY,LB,rfl⟩ S Xy;let hiR:i<R.f:=J
   let rn:=hRN (wA.S J);let hD7:=QW Tj QY c5
   let Hs:=tf Tj QY cZ;let(dx7,hx7,hd7):=id hD7;let nL:(nT<|0+(i:A0)).f<=61:=HX (k:=60) Ep J J
   exists _,Z,x,dx7,_,Z,hx7,rC,_,Z,_,Z,J,J,_,_,Z,Z,?_,x,d,[],z,(n,ps,ls),R,.row<|0+(i:A0),?_,hD7,Hs,hO,Qd _,rn,⟨J,J⟩,LB,λs8 H8 hs RE Wb=>?_
   .show Yq (show 4+(nT<|0+(i:A0)).f<=100 by lia) Ep
   .rw [show Str.M "row "=Str.M "row"++UB from Z];rfl
   let(U,hU,rfl):=hs;rw[show((0:A0)+(i:A0)).j=i by lia]at hU;show Xy _ _ {QY.l RE,Wb,?_};rw[YB,hU,YE];show Ap _ _
  rintro us H7 ⟨QY,LB,rfl⟩ rA Pz;rw[show(ys.f:A0).j=R.f by lia,Yv];show nm ?_;dsimp only[List.set];let sy:=XO (o:=.lst<|TL<|R.G WL) Pz
  let NT:=XT (H:=H7) (a:=rA) (o:=.lst<|TL<|R.G WL);let Fb:=sy _ _ (QY _ _ (Tj.ne xK Eo) xK)
  let hE8:=sy _ _ (QY _ _ (Tj.ne sY Eo) sY);let hL8:=(xh Tj QY hL6).Y sy
  let GL:=(QW Tj QY c5).Y sy;let Of:=(tf Tj QY cZ).Y sy
  let Wb:=LB.Y sy;generalize upd H7 rA (.lst<|TL<|R.G WL)=H8 at *;clear sy QY LB xK sY hL6 c5 cZ Tj Pz;show{_,Z,rA,R.G WL,Z,SqL.of NT,by rw[Xr];lia,λM1 pm1 sm1 q1 Mm=>?_};let sa:=XO (o:=.lst<|TL M1) Mm
  let ha:=XT (H:=H8) (a:=q1) (o:=.lst<|TL M1);generalize upd H8 q1 (.lst<|TL M1)=Ha at *;show{_,Z,p2,L.G WL,Z,SqL.of<|sa _ _ Fb,by rw[Xr];lia,λM2 pm2 sm2 q2 Tt=>?_};let sb:=XO (o:=.lst<|TL M2) Tt
  let Rq:=XT (H:=Ha) (a:=q2) (o:=.lst<|TL M2);generalize upd Ha q2 (.lst<|TL M2)=Hb at *;let eM:M1=M2:=Zy7 (pm1.l<|(c7.G WL).l pm2.symm) sm1 sm2
  exists 1,_,q1,q2,Z,Z,Ep,ik (SqL.of<|sb _ _ ha)<|SqL.of Rq,_,Z,?_;rw[YA eM];show RW ?_;let cY:=sa.l sb
  let ct:∀l:A6 C0,(TL l).Q (1:A0).j=TL (l.Q 1):=λl=>wa.symm;exists _,Z,_,Z,rA,_,Z,SqL.of<|cY _ _ NT,λq3 hq3=>?_;rw[Mp Ep,ct];let sc:=XO (o:=.lst<|TL<|(R.G WL).Q 1) hq3
  let Wi:=XT (H:=Hb) (a:=q3) (o:=.lst<|TL<|(R.G WL).Q 1);generalize upd Hb q3 (.lst<|TL<|(R.G WL).Q 1)=Hc at *;let GK:=cY.l sc
  exists _,Z,_,Z,p2,_,Z,SqL.of<|GK _ _ Fb,λq4 hq4=>?_;rw[Mp Ep,ct];let sd:=XO (o:=.lst<|TL<|(L.G WL).Q 1) hq4
  let En:=XT (H:=Hc) (a:=q4) (o:=.lst<|TL<|(L.G WL).Q 1);generalize upd Hc q4 (.lst<|TL<|(L.G WL).Q 1)=Hd at *;let e1:(R.G WL).Q 1=(L.G WL).Q 1:=by
   rw[<-wa,<-wa];show YI _ ?_;cases R with
   |nil=>cases L with
    |nil=>rfl
    |cons AP L=>cases c6
   |cons A R=>cases L with
    |nil=>cases c6
    |cons AP L=>let rfl:A=AP:=Yn c6;rfl
  exists 1,_,q3,q4,Z,Z,Ep,ik (SqL.of<|sd _ _ Wi)<|SqL.of En,_,Z,?_;rw[YA e1];show RW (Vi ?_);let s9:=GK.l sd
  let Ka:=s9 _ _ NT;let cX:=s9 _ _ Fb
  let hE9:=s9 _ _ hE8;let hL9:=hL8.Y s9
  let FT:=GL.Y s9;let xg:=Of.Y s9
  let NS:=Wb.Y s9;clear s9 GK cY sa sb sc sd ha Rq Wi En NT Fb hE8 hL8 GL Of Wb Mm Tt hq3 hq4 pm1 pm2 sm1 sm2 eM;let yt:∀U,U∈R->U∈L:=λU h=>c7.mem_iff.S h
  exists _,Z,rA,Z,{_,SqL.of Ka},Wl (K:=K) (a:=rA) (xs:=TL<|R.G WL) (λi zs H3=>Same Hd H3/\TupsV H3 zs (R.Q i)) {Same.refl _,TupsV.nil} (Zk<|by rw[Zq,Xr];lia) (λi zs H3 _ h=>by let(e,ey):=h;show{SqL.of<|e _ _ Ka,by rw[ey.1];show sF ..}) ?_ ?_
  .rintro i v zs H3 hi ⟨s3,hz⟩ S Xy;let(s0,rfl,hs0):=Aq hi;rw[Yi]at hs0;let(U,hU,rfl):=wJ.S hs0;let hUL:=yt U (Xo hU)
   let(j,hj):=YG hUL;let(v,hv,c,rfl,hc):=hL9.2 j U hj;exists _,Z,_,Z,.inl {Z,_,SqL.of<|s3 _ _ cX},_,Z,p2,L.G WL,WL U,j,Z,Z,SqL.of<|s3 _ _ cX,by rw[Yi,hj];rfl,λm hm e=>?_,eA,ys,_,.ref c,Z,Z,SqL.of<|s3 _ _ hE9,Zu (n:=j) J hv,Xy _ _ {s3,?_}
   .rw[Yi]at e;let(W,hW,e):=wJ.S e;let rfl:=Zg9 (told W<|Xo hW).2 (told U hUL).2 e
    have:=(Gw (Xx.S hW).1 c8).S (hW.l hj.symm)
    lia
   .rw[YB,hU];show hz.snoc {c,Z,s3 _ _ hc}
  rintro zs H3 ⟨s3,hz⟩ fA ye;rw[Zq,Xr,Yv]at hz;show nm ?_;dsimp only[List.set];let s4:=s3.l (XO (o:=.lst zs) ye)
  let sX:=XT (H:=H3) (a:=fA) (o:=.lst zs);let hzB:=hz.Y (XO (o:=.lst zs) ye)
  let xf:=s4 _ _ Ka;let hDB:=FT.Y s4
  let hZB:=xg.Y s4;let Ti:=NS.Y s4
  generalize upd H3 fA (.lst zs)=HB at *;clear s4 s3 ye hz Ka cX hE9 hL9 FT xg NS;show{_,Z,rA,_,Z,.inl<|SqL.of xf,_,Z,by rw[Zq];lia,by rw[Zq,Xr];lia,?_};rw[Zq,Xr];show MS (λi σ H8=>∃v8 v9:Option V,σ=[some ↑a,some<|.int n,some<|.ref l,some<|.ref x,some<|.ref eA,some<|.ref p2,some<|.ref rA,some<|.ref fA,v8,v9]/\SameX Pt HB H8/\Xw H8 Pt) {none,none,Z,SameX.Y<|Same.refl _,Ti} ?_ ?_
  .rintro i σ H8 hi ⟨v8,v9,rfl,RE,Wb⟩;let hiR:i<R.f:=J
   let rn:=hRN (wA.S J);obtain⟨U,hU⟩:∃U,R[i]?=⇑U:={_,Xv hiR};let cW:=Xo hU
   let(t1,t2):=told U (yt U cW);let tU:=jz t1 t2
   let NT:=RE _ _ (Ti.ne xf Eo) xf;let EU:=RE _ _ (Ti.ne sX Eo) sX
   let ET:=xh Ti RE hzB;let GL:=QW Ti RE hDB
   let Of:=tf Ti RE hZB;let hx:=(show(TL<|R.G WL)[i]?=⇑(.str<|WL U) by rw[TL,Yi,Yi,hU];rfl)
   let(dx8,hx8,hd8):=id GL;show nm ?_;dsimp only[List.set];exists _,Z,x,dx8,_,Z,hx8,rC,_,Z,_,Z,rA,_,_,.str<|WL U,Z,Z,SqL.of NT,Zu (n:=i) J hx,_,_,Z,Z,?_,x,d,[],z,(n,ps,ls),R,.place U,?_,GL,Of,hO,Qd _,rn,cW,Wb,λs9 H9 hs Nq NS=>?_
   .show Yq (show 6+(WL U).f<=100000 by lia) Ep
   .rw [show Str.M "place "=Str.M "place"++UB from Z,Zc8];rfl
   let(j,hj,rfl):=hs;let ej:j=i:=(Gw (Xx.S hj).1 rn.2.1).S (hj.l hU.symm)
   exists _,Z,_,Z,J,J,Z,_,Z,?_;show IW (by rw[ej,Lo];rfl) ?_;show Vi ?_;let Ka:=Nq _ _ (Wb.ne NT Eo) NT
   let hf9:=Nq _ _ (Wb.ne EU Eo) EU;let hz9:=xh Wb Nq ET
   let FT:=QW Wb Nq GL;let xg:=tf Wb Nq Of
   let gj:(TL (R.G WL)++[V.str (Str.M "none")])[i+1]?=⇑(.str<|HC R[i+1]?):=by
    cases hn:R[i+1]? with
    |none=>
     let e:i+1=R.f:=by have:=wL.S hn;lia
     rw[Ys (by rw[Zq,Xr];lia),Zq,Xr,e,Uz];rfl
    |some W=>
     rw[Yu (by rw[Zq,Xr];show(Xx.S hn).1),TL,Yi,Yi,hn];rfl
   exists _,Z,one,λe he=>{rA,e,_,_,Z,Z,SqL.of<|XO he _ _ Ka,SqL.of XT,(by rw[Zq,Xr];show Yq (show R.f+1<=1000 by lia) Ep),λq hq=>?_};let su:=(XO (o:=.lst [V.str (Str.M "none")]) he).l (XO (o:=.lst<|TL (R.G WL)++[V.str (Str.M "none")]) hq)
   exists _,Z,_,_,Z,Z,q,_,_,.str<|HC R[i+1]?,Z,Z,SqL.of XT,Zu (n:=i+1) J gj,?_;show nm ?_;dsimp only[List.set];let hrQ:=su _ _ Ka
   let hfQ:=su _ _ hf9;let hzQ:=hz9.Y su
   let hDQ:=FT.Y su;let hZQ:=xg.Y su
   let GJ:=NS.Y su;let sxQ:=(RE.l Nq).l (SameX.Y su)
   generalize upd (upd H9 e<|.lst [V.str (Str.M "none")]) q (.lst<|TL (R.G WL)++[V.str (Str.M "none")])=HQ at *;clear su he hq Ka hf9 hz9 FT xg Nq RE NS NT EU ET GL Of hx8 hd8;let(dxQ,hxQ,hdQ):=id hDQ;exists _,Z,x,dxQ,_,Z,hxQ,rC,_,Z,_,Z,rA,_,_,.str<|WL U,Z,Z,SqL.of hrQ,Zu (n:=i) J hx,_,_,Z,Z,?_,x,d,[],z,(n,ps,ls),R,.next U,?_,hDQ,hZQ,hO,Qd _,rn,cW,GJ,λs9 HN hs cV xc=>?_
   .show Yq (show 5+(WL U).f<=100000 by lia) Ep
   .rw [show Str.M "next "=Str.M "next"++UB from Z,Zc8];rfl
   let(j2,SM,rfl):=hs;let ej2:j2=i:=(Gw (Xx.S SM).1 rn.2.1).S (SM.l hU.symm)
   exists _,Z,Z,_,Z,?_;show IW (by rw[ej2]) ?_;show Vi ?_;let hfN:=cV _ _ (GJ.ne hfQ Eo) hfQ
   let cU:=xh GJ cV hzQ;let sxF:=sxQ.l cV
   let zl:=cU.1;let(v,hv,c2,rfl,Vm):=cU.2 i U hU;exists _,Z,_,_,Z,Z,_,Z,?_;show Xl (λh0=>?_) (λ_=>?_)
   .obtain⟨W,hW⟩:∃W,R[i-1]?=⇑W:={_,Xv J};let(v,Lf,c1,rfl,cT):=cU.2 (i-1) W hW;let st:Ra W U:=hAd (i-1) W U hW (by rwa[show i-1+1=i by lia])
    let tW:=(told W<|yt W<|Xo hW).1;exists _,Z,_,Z,_,_,Z,Z,fA,zs,_,.ref c1,Z,Z,SqL.of hfN,Zu (n:=i-1) J Lf,_,Z,_,Z,fA,zs,_,.ref c2,Z,Z,SqL.of hfN,Zu (n:=i) J hv,c1,c2,W,U,Z,cT,Vm,tW,λHZ sZ=>{Z,_,Z,?_};show IW (by rw[show(W.filter λy=>decide<|y∉U).f=1 from st];rfl) ?_;show Vi {_,_,Z,sxF.l<|SameX.Y sZ,xc.Y sZ}
   .show Vi {_,_,Z,sxF,xc}
  rintro σ H8 ⟨v8,v9,rfl,RE,Wb⟩;let NT:=RE _ _ (Ti.ne xf Eo) xf
  let EU:=RE _ _ (Ti.ne sX Eo) sX;let ET:=xh Ti RE hzB
  exists _,Z,rA,_,Z,.inl<|SqL.of NT,_,_,Z,Z,?_;rw[Zq,Xr];exists _,Z,?_;show Xl (λh=>k _) λh=>?_;let hl:1<R.f:=J
  obtain⟨A',cS⟩:∃U,R[0]?=⇑U:={_,Xv J};obtain⟨B',hB'⟩:∃U,R[R.f-1]?=⇑U:={_,Xv J};let(v,hv,c1,rfl,cT):=ET.2 0 A' cS;let(v,Lf,c2,rfl,Vm):=ET.2 _ B' hB';let st:=hCl A' B' cS hl hB'
  let zl:=ET.1;let t1:=(told A'<|yt A'<|Xo cS).1
  exists _,Z,fA,zs,0,.ref c1,Z,Z,SqL.of EU,Zu (n:=0) Z hv,?_;let dC:Wy zs (-1)=some ↑c2:=by
   unfold Wy PR;rw[Yh Ep,Yk J];change zs[(-1+zs⁻¹).j]?=_
   rwa[show(-1+zs⁻¹).j=R.f-1 by lia]
  exists _,Z,_,Z,fA,zs,-1,.ref c2,Z,Z,SqL.of EU,dC,c1,c2,A',B',Z,cT,Vm,t1,λHZ sZ=>{Z,?_};rw[show(A'.filter λy=>decide<|y∉B').f=1 from st];show k HZ
def GI{P:Program}{w:World}{K:Ad}{mg:Af}{base:Heap}{t:Adr}{Pt:A7}(T:Txt K mg t)(hB:Wr K mg base t.dZt Pt):Xs P w base XA T.qZd1 50 (spZd1 K Pt):=Kl.choose_spec dc ⟨P,w,K,mg,base,t,Pt⟩ T hB
end My
namespace My
open PySem L2
def Qc{K:Ad}{f:A7}{fd:B9}(F:Fun K "law" "law" sZd1 f fd)(s:B6)(u:B1):BindsTo s fd {[u],[]} [("script",u)]:=by let(oc,od,kV,doc,pm,an,XI,ct,Vf,rfl,lk,SA):=F.ex;show .of_eq rfl
end My
end
open PySem PySem.W PyProof.Rows
set_option maxRecDepth 100000 in
set_option maxHeartbeats 0 in
theorem PySem.Challenge.cw_spanrow_k87_the_row_at_a_desk_holds : PySem.Challenge.rw_spanrow_k87_the_row_at_a_desk.Holds := by
 w_on;o_law;k_head;(case hw=>w_witness2)
 k_fill
 refine L2.Ot (l:=PySem.Challenge.rw_spanrow_k87_the_row_at_a_desk) (n:=63) (k:=50) (x:="script") (CX:=L2.XA) (sp:=λK=>My.spZd1 K 446) (c:=448) (Pt:=446) rfl (by decide) rfl ⟨rfl,by decide,by decide⟩ (λw h Y=>⟨PySem.W.km_in_of Y,PySem.W.km_tabs_of Y 446 (by decide)⟩) ?C ?P ?F (λ_ H a ns hl hO hS=>⟨a,ns,rfl,hS,hl,⟨#[],hO.1,trivial,.inl rfl⟩,λ_=>rfl⟩) (λ_ _ _ _ z=>z)
 case C=>intro w;kernel_rfl
 case P=>intro w;kernel_rfl
 case F =>
  intro w mg fa h KX G Dq
  let f x n:=My.FQ (L2.UE KX) mg x (My.top n)
  obtain⟨⟨aZ0,dZ0,qZ0⟩,⟨aZ1,dZ1,qZ1⟩,⟨aZ2,dZ2,qZ2⟩,⟨aZ3,dZ3,qZ3⟩,⟨aZ4,dZ4,qZ4⟩,⟨aZ5,dZ5,qZ5⟩,⟨aZ6,dZ6,qZ6⟩,⟨aZ7,dZ7,qZ7⟩,⟨aZ9,dZ9,qZ9⟩,⟨aZa,dZa,qZa⟩,⟨aZb,dZb,qZb⟩,⟨aZc,dZc,qZc⟩,⟨aZd,dZd,qZd⟩,⟨aZe,dZe,qZe⟩,⟨aZf,dZf,qZf⟩,⟨aZg,dZg,qZg⟩,⟨aZh,dZh,qZh⟩,⟨aZi,dZi,qZi⟩,⟨aZj,dZj,qZj⟩,⟨aZk,dZk,qZk⟩,⟨aZl,dZl,qZl⟩,⟨aZm,dZm,qZm⟩,⟨aZn,dZn,qZn⟩,⟨aZo,dZo,qZo⟩,⟨aZp,dZp,qZp⟩,⟨aZq,dZq,qZq⟩,⟨aZr,dZr,qZr⟩,⟨aZs,dZs,qZs⟩,⟨aZu,dZu,qZu⟩,⟨aZv,dZv,qZv⟩,⟨aZw,dZw,qZw⟩,⟨aZx,dZx,qZx⟩,⟨aZy,dZy,qZy⟩,⟨aZz,dZz,qZz⟩,⟨aZA,dZA,qZA⟩,⟨aZB,dZB,qZB⟩,⟨aZC,dZC,qZC⟩,⟨aZD,dZD,qZD⟩,⟨aZE,dZE,qZE⟩,⟨aZF,dZF,qZF⟩,⟨aZG,dZG,qZG⟩,⟨aZH,dZH,qZH⟩,⟨aZI,dZI,qZI⟩,⟨aZJ,dZJ,qZJ⟩,⟨aZK,dZK,qZK⟩,⟨aZL,dZL,qZL⟩,⟨aZM,dZM,qZM⟩,⟨aZN,dZN,qZN⟩,⟨aZO,dZO,qZO⟩,⟨aZP,dZP,qZP⟩,⟨aZQ,dZQ,qZQ⟩,⟨aZR,dZR,qZR⟩,⟨aZS,dZS,qZS⟩,⟨aZT,dZT,qZT⟩,⟨aZU,dZU,qZU⟩,⟨aZV,dZV,qZV⟩,⟨aZW,dZW,qZW⟩,⟨aZX,dZX,qZX⟩,⟨aZ21,dZ21,qZ21⟩,⟨aZ31,dZ31,qZ31⟩,⟨aZ41,dZ41,qZ41⟩,⟨aZ51,dZ51,qZ51⟩,⟨aZ61,dZ61,qZ61⟩,⟨aZ71,dZ71,qZ71⟩,⟨aZ81,dZ81,qZ81⟩,⟨aZ91,dZ91,qZ91⟩,⟨aZa1,dZa1,qZa1⟩,⟨aZb1,dZb1,qZb1⟩,⟨aZc1,dZc1,qZc1⟩,⟨aZd1,dZd1,qZd1⟩⟩:f "refuse_not_square" 13 ["table"]/\f "row_taken_off" 14 ["row","pivot","last"]/\f "first_with_some" 15 ["rows"]/\f "determinant" 16 ["table"]/\f "row_without" 17 ["row","number"]/\f "table_without" 18 ["table","number"]/\f "is_tie" 26 ["web","number"]/\f "refuse_bad_web" 25 ["places","ties"]/\f "ties_beside" 29 ["web","ties"]/\f "ties_without" 30 ["ties","left_out"]/\f "is_set" 31 ["web","ties"]/\f "made_set" 32 ["web","ties"]/\f "merged_marks" 33 ["web","marks","ties"]/\f "piece_marks" 34 ["web","ties"]/\f "pieces_of" 35 ["web","ties"]/\f "is_joined" 36 ["web","ties"]/\f "weighted_table" 39 ["web","weights"]/\f "pull_table" 40 ["web"]/\f "tree_count" 41 ["web"]/\f "part_count" 42 ["web","inside","outside"]/\f "is_tree" 44 ["web","ties"]/\f "refuse_no_tree" 45 ["web","tree"]/\f "grown_tree" 46 ["web","inside","order"]/\f "tree_cut" 48 ["web","tree","tie"]/\f "ring_of" 49 ["web","tree","tie"]/\f "least_in" 51 ["web","inside","outside"]/\f "end_pieces" 65 ["web","marks","tie"]/\f "open_ties" 66 ["web","marks","gone"]/\f "whole_part" 68 ["web"]/\f "half_without" 69 ["part"]/\f "half_with" 70 ["part"]/\f "part_size" 71 ["part"]/\f "trees_with_tie" 72 ["part","into"]/\f "undivided_row" 73 ["part"]/\f "trees_between" 74 ["part","size","start","stop"]/\f "number_in" 75 ["part","size","tree"]/\f "refuse_below_nought" 55 ["number"]/\f "row_from" 76 ["web","number","most"]/\f "row_at" 77 ["web","number"]/\f "row_number" 78 ["web","tree"]/\f "row_next" 79 ["web","tree"]/\f "is_number" 85 ["word"]/\f "read_number" 86 ["word"]/\f "read_line" 87 ["line","name","many"]/\f "read_web" 88 ["text"]/\f "numbers_text" 89 ["numbers"]/\f "ties_text" 91 ["ties"]/\f "tree_at" 52 ["web","number"]/\f "number_of" 54 ["web","tree"]/\f "share_of" 81 ["web","ties"]/\f "fraction_text" 92 ["pair"]/\f "answer_alone" 98 ["web","lengths","name"]/\f "rank_text" 99 ["web","lengths","most"]/\f "answer_of_number" 100 ["web","lengths","name","number"]/\f "next_text" 101 ["web","tree"]/\f "answer_of_ties" 102 ["web","name","ties"]/\f "read_ties" 103 ["words"]/\f "answer_to" 104 ["web","lengths","line"]/\f "_law_cell" 108 ["script","k"]/\f "_law_mixed" 109 ["cell","k"]/\f "_law_draws" 110 ["script","start","count","way"]/\f "_law_ties" 111 ["draws","places","hang"]/\f "_law_web" 112 ["script","most","count"]/\f "_law_marks" 113 ["places","ties","some"]/\f "_law_all" 114 ["places","ties"]/\f "_law_lengths" 115 ["script","count"]/\f "_law_text" 116 ["places","ties","lengths"]/\f "_law_tree_text" 117 ["tree"]/\f "_law_apart" 118 ["one","other"]/\My.FQ (L2.UE KX) mg "law" My.sZd1 ["script"]:=by
   dsimp only [L2.UE,f]
   and_intros
   all_goals (refine' My.yP KX G ?a ?l ?c ?k ?b;(case a | l | c | k=>k_is);(case b=>first | exact λ_ _ _ _ _ _=>My.jh λ_=>rfl | exact λ_ _ _ _ _ _=>My.Di λ_ _=>rfl | exact λ_ _ _ _ _ _=>My.un3 λ_ _ _=>rfl | exact λ_ _ _ _ _ _=>My.un4 λ_ _ _ _=>rfl))
  have xb:My.oP (L2.UE KX) mg "Web" "Web.__init__" My.sZ8 ["places","ties"]:=by
   dsimp only [L2.UE];refine' My.KZ KX G ?aC ?a ?i ?l ?c ?k ?pg ?hd ?po ?sa ?mk ?kc ?na
   (case aC | a | i | l | c | k | pg | hd | po | sa | mk | kc=>k_is)
   (case na=>(intro f hf;simp only [Yo,wx,or_false]at hf;rcases hf with rfl | rfl <;> k_is))
  have GH:My.zp (L2.UE KX) mg "Part" "Part.__init__" My.sZt ["web","kept","shut","lead","least","incoming","further"] 446:=by
   dsimp only [L2.UE];refine' My.HK KX G ?aC ?a ?i ?l ?c ?k ?pg ?hd ?po ?sa ?mk ?kc ?na ?z
   (case aC | a | i | l | c | k | pg | hd | po | sa | mk | kc=>k_is)
   (case na=>(intro f hf;simp only [Yo,wx,or_false]at hf;rcases hf with rfl | rfl | rfl | rfl | rfl | rfl | rfl <;> k_is))
   (case z=>kernel_rfl)
  have GG:My.oP (L2.UE KX) mg "Desk" "Desk.__init__" My.sZY ["stages"]:=by
   dsimp only [L2.UE];refine' My.KZ KX G ?aC ?a ?i ?l ?c ?k ?pg ?hd ?po ?sa ?mk ?kc ?na
   (case aC | a | i | l | c | k | pg | hd | po | sa | mk | kc=>k_is)
   (case na=>(intro f hf;simp only [Yo,wx,or_false]at hf;rcases hf with rfl <;> k_is))
  have hZZ:My.um (L2.UE KX) mg "Desk" "web_now" "Desk.web_now" My.sZZ:=by
   dsimp only [L2.UE];refine' My.Ow KX G ?aC ?a ?i ?l ?c ?k
   (case aC=>k_is);(case a=>k_is);(case i=>k_is);(case l=>k_is);(case c=>k_is);(case k=>k_is)
  have cR:My.um (L2.UE KX) mg "Desk" "lengths_now" "Desk.lengths_now" My.sZ01:=by
   dsimp only [L2.UE];refine' My.Ow KX G ?aC ?a ?i ?l ?c ?k
   (case aC=>k_is);(case a=>k_is);(case i=>k_is);(case l=>k_is);(case c=>k_is);(case k=>k_is)
  have cQ:My.um (L2.UE KX) mg "Desk" "asked" "Desk.asked" My.sZ11:=by
   dsimp only [L2.UE];refine' My.Ow KX G ?aC ?a ?i ?l ?c ?k
   (case aC=>k_is);(case a=>k_is);(case i=>k_is);(case l=>k_is);(case c=>k_is);(case k=>k_is)
  have LA:∃ a,mg "ALONE"=some (.ref a)/\My.TupC (L2.UE KX) a [L2.V.str "count",L2.V.str "cheapest"]:=by
   dsimp only [L2.UE];refine' My.Vx KX G ?a ?l ?z ?r
   (case a | l=>k_is);(case z=>decide);(case r=>exact .cons ⟨_,rfl⟩ (.cons ⟨_,rfl⟩ .nil))
  have h_OF_A_NUMBER:∃ a,mg "OF_A_NUMBER"=some (.ref a)/\My.TupC (L2.UE KX) a [L2.V.str "tree",L2.V.str "row",L2.V.str "rank"]:=by
   dsimp only [L2.UE];refine' My.Vx KX G ?a ?l ?z ?r
   (case a | l=>k_is);(case z=>decide);(case r=>exact .cons ⟨_,rfl⟩ (.cons ⟨_,rfl⟩ (.cons ⟨_,rfl⟩ .nil)))
  have h_OF_TIES:∃ a,mg "OF_TIES"=some (.ref a)/\My.TupC (L2.UE KX) a [L2.V.str "number",L2.V.str "place",L2.V.str "next",L2.V.str "share"]:=by
   dsimp only [L2.UE];refine' My.Vx KX G ?a ?l ?z ?r
   (case a | l=>k_is);(case z=>decide);(case r=>exact .cons ⟨_,rfl⟩ (.cons ⟨_,rfl⟩ (.cons ⟨_,rfl⟩ (.cons ⟨_,rfl⟩ .nil))))
  have h_MOST_PLACES:∃ tk,mg "MOST_PLACES"=some (.int 14 tk):=by
   refine' My.UR KX G ?a ?b
   (case a=>k_is);(case b=>exact⟨_,rfl⟩)
  have h_MOST_TIES:∃ tk,mg "MOST_TIES"=some (.int 30 tk):=by
   refine' My.UR KX G ?a ?b
   (case a=>k_is);(case b=>exact⟨_,rfl⟩)
  have h_FIGURES:∃ tk,mg "FIGURES"=some (.str "0123456789" tk):=by
   refine' My.Qo KX G ?a ?b
   (case a=>k_is);(case b=>exact⟨_,rfl⟩)
  have h_MOST_FIGURES:∃ tk,mg "MOST_FIGURES"=some (.int 60 tk):=by
   refine' My.UR KX G ?a ?b
   (case a=>k_is);(case b=>exact⟨_,rfl⟩)
  obtain⟨xa,h_enumerate,wZ,wY,GF,wX,wW,Lz,h_reversed,wV,NR,wU,wR,Ly,wQ⟩:mg "any"=none/\mg "enumerate"=none/\mg "int"=none/\mg "len"=none/\mg "list"=none/\mg "max"=none/\mg "min"=none/\mg "range"=none/\mg "reversed"=none/\mg "set"=none/\mg "sorted"=none/\mg "str"=none/\mg "sum"=none/\mg "tuple"=none/\mg "zip"=none:=by and_intros <;> refine' PySem.W.mg_none_of KX G ?_ <;> k_is
  obtain⟨A_Web,aZ8,dZ8,c_Web,fZ8,cl_Web,k_Web,NQ⟩:=xb;obtain⟨A_Part,aZt,dZt,wO,c_Part,fZt,cl_Part,k_Part,Wv,wN,wM⟩:=GH;obtain⟨A_Desk,aZY,dZY,c_Desk,fZY,cl_Desk,k_Desk,Lx⟩:=GG;obtain⟨C_Desk_web_now,aZZ,dZZ,cc_Desk_web_now,fZZ,me_Desk_web_now⟩:=hZZ;obtain rfl:A_Desk=C_Desk_web_now:=by have e0:=cc_Desk_web_now.symm.trans c_Desk;cases e0;rfl
  obtain⟨C_Desk_lengths_now,aZ01,dZ01,cc_Desk_lengths_now,fZ01,me_Desk_lengths_now⟩:=cR;obtain rfl:A_Desk=C_Desk_lengths_now:=by have e0:=cc_Desk_lengths_now.symm.trans c_Desk;cases e0;rfl
  obtain⟨C_Desk_asked,aZ11,dZ11,cc_Desk_asked,fZ11,me_Desk_asked⟩:=cQ;obtain rfl:A_Desk=C_Desk_asked:=by have e0:=cc_Desk_asked.symm.trans c_Desk;cases e0;rfl
  have T:My.Txt (L2.UE KX) mg ⟨aZ0,aZ1,aZ2,aZ3,aZ4,aZ5,aZ6,aZ7,aZ8,aZ9,aZa,aZb,aZc,aZd,aZe,aZf,aZg,aZh,aZi,aZj,aZk,aZl,aZm,aZn,aZo,aZp,aZq,aZr,aZs,aZt,aZu,aZv,aZw,aZx,aZy,aZz,aZA,aZB,aZC,aZD,aZE,aZF,aZG,aZH,aZI,aZJ,aZK,aZL,aZM,aZN,aZO,aZP,aZQ,aZR,aZS,aZT,aZU,aZV,aZW,aZX,aZY,aZZ,aZ01,aZ11,aZ21,aZ31,aZ41,aZ51,aZ61,aZ71,aZ81,aZ91,aZa1,aZb1,aZc1,aZd1,A_Web,A_Part,A_Desk,dZ0,dZ1,dZ2,dZ3,dZ4,dZ5,dZ6,dZ7,dZ8,dZ9,dZa,dZb,dZc,dZd,dZe,dZf,dZg,dZh,dZi,dZj,dZk,dZl,dZm,dZn,dZo,dZp,dZq,dZr,dZs,dZt,dZu,dZv,dZw,dZx,dZy,dZz,dZA,dZB,dZC,dZD,dZE,dZF,dZG,dZH,dZI,dZJ,dZK,dZL,dZM,dZN,dZO,dZP,dZQ,dZR,dZS,dZT,dZU,dZV,dZW,dZX,dZY,dZZ,dZ01,dZ11,dZ21,dZ31,dZ41,dZ51,dZ61,dZ71,dZ81,dZ91,dZa1,dZb1,dZc1,dZd1⟩:=⟨⟨⟨⟨⟨⟨⟨qZ0,qZ1⟩,⟨qZ2,qZ3⟩⟩,⟨⟨qZ4,qZ5⟩,⟨qZ6,qZ7⟩⟩⟩,⟨⟨⟨fZ8,fZ8.binds (λ_ _ _ _ _ _=>My.un3 λ_ _ _=>rfl)⟩,⟨qZ9,qZa⟩⟩,⟨⟨qZb,qZc⟩,⟨qZd,qZe⟩⟩⟩⟩,⟨⟨⟨⟨qZf,qZg⟩,⟨qZh,qZi⟩⟩,⟨⟨qZj,qZk⟩,⟨qZl,qZm⟩⟩⟩,⟨⟨⟨qZn,qZo⟩,⟨qZp,qZq⟩⟩,⟨⟨qZr,qZs⟩,⟨fZt,fZt.binds (λ_ _ _ _ _ _=>My.un5 λ_ _ _ _ _=>rfl)⟩⟩⟩⟩⟩,⟨⟨⟨⟨⟨qZu,qZv⟩,⟨qZw,qZx⟩⟩,⟨⟨qZy,qZz⟩,⟨qZA,qZB⟩⟩⟩,⟨⟨⟨qZC,qZD⟩,⟨qZE,qZF⟩⟩,⟨⟨qZG,qZH⟩,⟨qZI,qZJ⟩⟩⟩⟩,⟨⟨⟨⟨qZK,qZL⟩,⟨qZM,qZN⟩⟩,⟨⟨qZO,qZP⟩,⟨qZQ,qZR⟩⟩⟩,⟨⟨⟨qZS,qZT⟩,⟨qZU,qZV⟩⟩,⟨⟨qZW,qZX⟩,fZY⟩⟩⟩⟩⟩,⟨⟨⟨⟨⟨⟨fZY.binds (λ_ _ _ _ _ _=>My.Di λ_ _=>rfl),fZZ⟩,⟨fZZ.binds (λ_ _ _ _ _ _=>My.jh λ_=>rfl),fZ01⟩⟩,⟨⟨fZ01.binds (λ_ _ _ _ _ _=>My.jh λ_=>rfl),fZ11⟩,⟨fZ11.binds (λ_ _ _ _ _ _=>My.Di λ_ _=>rfl),qZ21⟩⟩⟩,⟨⟨⟨qZ31,qZ41⟩,⟨qZ51,qZ61⟩⟩,⟨⟨qZ71,qZ81⟩,⟨qZ91,qZa1⟩⟩⟩⟩,⟨⟨⟨⟨qZb1,qZc1⟩,⟨qZd1,c_Web⟩⟩,⟨⟨cl_Web,k_Web⟩,⟨NQ _ (by simp),NQ _ (by simp)⟩⟩⟩,⟨⟨⟨c_Part,cl_Part⟩,⟨k_Part,Wv _ (by simp)⟩⟩,⟨⟨Wv _ (by simp),Wv _ (by simp)⟩,⟨Wv _ (by simp),Wv _ (by simp)⟩⟩⟩⟩⟩,⟨⟨⟨⟨⟨Wv _ (by simp),Wv _ (by simp)⟩,⟨c_Desk,cl_Desk⟩⟩,⟨⟨k_Desk,Lx _ (by simp)⟩,⟨me_Desk_web_now,me_Desk_lengths_now⟩⟩⟩,⟨⟨⟨me_Desk_asked,LA⟩,⟨h_OF_A_NUMBER,h_OF_TIES⟩⟩,⟨⟨h_MOST_PLACES,h_MOST_TIES⟩,⟨h_FIGURES,h_MOST_FIGURES⟩⟩⟩⟩,⟨⟨⟨⟨xa,h_enumerate⟩,⟨wZ,wY⟩⟩,⟨⟨GF,wX⟩,⟨wW,Lz⟩⟩⟩,⟨⟨⟨h_reversed,wV⟩,⟨NR,wU⟩⟩,⟨⟨wR,Ly⟩,wQ⟩⟩⟩⟩⟩⟩;have e0:=Dq.symm.trans qZd1.mm
  cases e0;exact⟨dZd1,λs u=>My.Qc qZd1.fn s u,λbase _ _ HB=>My.GI T ⟨wO,wN,wM,HB,by decide⟩⟩
#print axioms PySem.Challenge.cw_spanrow_k87_the_row_at_a_desk_holds
