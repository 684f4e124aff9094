import PyProof.Rows.All
import Wide.All
import OpenK.AllK
import Wide.FinOn
import Lean
import PyProof.EqAt
import PyProof.EqKinds
import PyProof.TupleCall
import PySem.Challenge.RW_spanrow_k86_answers_by_trial
set_option Elab.async false
set_option linter.all false
set_option bootstrap.genMatcherCode false
set_option genSizeOf false
set_option compiler.extract_closed false
set_option compiler.reuse false
set_option maxRecDepth 100000
section
def zN(t:Bool)(k:Lean.Name)(a:Array Lean.Syntax):(Lean.Syntax):=.node .none ((if t then `Lean.Parser.Tactic else `Lean.Parser.Term)++k) a
def zU(a:Array Lean.Syntax):(Lean.Syntax):=.node .none `null a
def zC:(Nat→Lean.Syntax→Lean.Syntax)
|0,s=>s
|n+1,s=>zN true `rcasesPatMed #[zU #[if s.isIdent then zN true `rcasesPat.one #[s] else if s[1].isMissing then zN true `rcasesPat.ignore #[s[0]] else zN true `rcasesPat.tuple #[s[0],zU ((if s.isOfKind `Lean.Parser.Term.tuple then #[s[1][0],s[1][1]]++s[1][2].getArgs else s[1].getArgs).map λx=>if x.isAtom then x else zN true `rcasesPatLo #[zC n x,zU #[]]),s[2]]]]
def zY(s:Lean.Syntax):(Lean.TSyntax `Lean.Parser.Tactic.rcasesPatLo):=⟨zN true `rcasesPatLo #[zC 9 s,zU #[]]⟩
def zA(p:Lean.Syntax):(List Lean.Syntax):=((if p.isOfKind `Lean.Parser.Term.tuple then #[p[1][0]]++p[1][2].getArgs else p[1].getArgs).filter (!·.isAtom)).toList
def zX:(List Lean.Syntax→List Lean.Syntax)
|a::b::l=>a::.atom .none ","::zX (b::l)
|l=>l
def zW:(Nat→Lean.Ident→Lean.Syntax→List Lean.Syntax→Lean.MacroM (Lean.TSyntax `tactic))
|n+1,q,z,p::r=>do
 let g:Lean.Syntax→Bool:=λp=>p.isIdent&&p.getId != `rfl
 let v i:Lean.Ident:=Lean.mkIdent (.mkSimple s!"zz{n}_{i}")
 let f:Lean.TSyntax `tactic:=⟨zN true `obtain #[.atom .none "obtain",zU #[zC 9 z],zU #[],zU #[.atom .none ":=",zU #[q]]]⟩
 if r.length<2 then pure f else
 let k:Lean.Ident:=if g p then ⟨p⟩ else v 1
 let h (i:Lean.Ident) p:Lean.MacroM (Lean.TSyntax `tactic):=if g p||p[1].isMissing&& !p.isIdent then `(tactic|skip) else if p.isIdent then `(tactic|subst $i) else zW n i p (zA p)
 let mut e:Lean.Term:=q
 let mut a:Array Lean.Term:=#[]
 let mut x:Array Lean.Ident:=#[]
 let mut t<-`(tactic|try clear $q)
 for p in p::r do
  let i:Lean.Ident:=if g p then ⟨p⟩ else v x.size
  if x.size<r.length then
   a:=a.push (←`(And.left $e))
   e:=←`(And.right $e)
  x:=x.push i
  let u<-h i p
  t:=←`(tactic|($t;$u))
 a:=a.push e
 let u<-h k p
 let m<-zW n (v 0) (zN false `anonymousCtor #[.atom .none "⟨",zU (zX r).toArray,.atom .none "⟩"]) r
 `(tactic|first|(refine (λ$[$x]* =>?_) $a*;$t)|(refine Exists.elim $q λ$k $(v 0)=>?_;(try clear $q);$u;$m)|$f:tactic)
|_,_,_,_=>`(tactic|skip)
def zL(s:Lean.Syntax):(Lean.MacroM Lean.Syntax):=
 let d:=s[2][0]
 let p:=if d[0].isOfKind `Lean.Parser.Term.letId then d[0][0] else d[0]
 if d[1].getNumArgs != 0 then Lean.Macro.throwUnsupported else if p.isIdent&&p.getId != `rfl then pure (zN true `tacticHave__ #[s[0],s[1],s[2]]) else
 let o:=zN true `obtain #[s[0],zU #[zC 9 p],zU d[2][0].getArgs,zU #[d[3],zU #[d[4]]]]
 if ((p.reprint.getD "").splitOn ",").length<3 then pure o else do
  let y:=d[4]
  let q<-`(q)
  let b:=y.isIdent&&d[2].getNumArgs==0
  let c:=(p.find? λs=>s.isIdent&&s.getId==y.getId).isSome
  let h:Lean.TSyntax `tactic:=⟨zN true `tacticHave__ #[s[0],s[1],s[2].setArg 0 (zN false `letIdDecl #[zN false `letId #[q],d[1],d[2],d[3],y])]⟩
  let h<-if !b then pure h else if c then `(tactic|($h;try clear $(⟨y⟩))) else `(tactic|skip)
  let w<-zW 30 ⟨if b&&!c then y else q.raw⟩ p (zA p)
  let o:Lean.TSyntax `tactic:=⟨o⟩
  let x<-`(tactic|first|(refine Classical.byContradiction fun n=>?_;$h;$w;refine n ?_;clear n)|$o:tactic)
  pure x.raw
local macro_rules(kind:=Lean.Parser.Tactic.tacticLet__)|s=>zL s
local macro_rules(kind:=Lean.Parser.Tactic.show)|s=>pure (zN true `refine #[s[0],s[1]])
local macro_rules(kind:=Lean.Parser.Tactic.«tacticExists_,,»)|s=>pure (zN true `refine #[s[0],zN false `anonymousCtor #[s[0],s[1],s[0]]])
local macro_rules(kind:=Lean.Parser.Tactic.cases)|s=>if s[3].getNumArgs==0&&s[1][0][0].getNumArgs==2 then pure (.node .none `«tacticBy_cases_:_» #[s[0],zU #[s[1][0][0][0][0],s[1][0][0][1]],s[1][0][1]]) else Lean.Macro.throwUnsupported
local macro_rules(kind:=«term~~~_»)|s=>pure (zN false `proj #[s[1],s[0],Lean.mkIdent `heap.objs.size])
local macro_rules(kind:=coeNotation)|s=>pure (zN false `app #[zN false `dotIdent #[s[0],Lean.mkIdent `ref],zU #[s[1]]])
local macro_rules
|`($x⁻¹)=>`((($x).length:Int))
def zG:List (String×String):=[("f","length"),("j","toNat"),("l","trans"),("m","toList"),("o","size"),("C","heap"),("E","toArray"),("G","get?"),("H","ofString"),("M","lookup"),("Q","map"),("R","take"),("S","getD"),("U","Pairwise"),("X","mpr"),("Y","mp")]
def zF(s:String):(Option String):=zG.lookup s
def zJ:Lean.Name→Lean.Name
|.str p s=>.str (zJ p) ((zF s).getD s)
|n=>n
def zI:Lean.Name→Lean.Name
|.str p s=>if p.isAnonymous then .str p (([("A0","Int"),("A5","Nat"),("A6","List"),("A7","Addr"),("A8","none"),("A9","true"),("B0","false"),("B1","Value"),("B2","Bool"),("B3","Array"),("B4","Expr"),("B5","Shared"),("B6","Stmt"),("B7","FuncData"),("B8","Str"),("B9","Scope")].lookup s).getD s) else .str (zI p) ((zF s).getD s)
|n=>n
def zR:Nat→Lean.Syntax→Option Lean.Syntax
|_,.ident i r n p=>if n.hasMacroScopes then none else let m:=zI n;if m==n then none else some (.ident i r m p)
|e+1,.node i k a=>if k== `Lean.Parser.Term.app then (zR e a[0]!).map λx=>.node i k (a.set! 0 x) else if k== `Lean.Parser.Term.proj then let f:Option Lean.Syntax:=if a[2]!.isIdent then let n:=a[2]!.getId;let m:=zJ n;if m==n then none else some (Lean.mkIdent m) else none
 match zR e a[0]!,f with
 |none,none=>none
 |x,f=>some (.node i k #[x.getD a[0]!,a[1]!,f.getD a[2]!])
 else none
|_,_=>none
def zS(s:Lean.Syntax):Lean.MacroM Lean.Syntax:=(zR 20 s).elim Lean.Macro.throwUnsupported pure
local macro_rules(kind:=ident)|s=>zS s
local macro_rules(kind:=Lean.Parser.Term.proj)|s=>zS s
local macro_rules(kind:=Lean.Parser.Term.app)|s=>zS s
local macro_rules(kind:=«term{_}»)|s=>pure (zN false `anonymousCtor #[s[0],s[1],s[2]])
local macro_rules|`(tactic|ext)=>`(tactic|simp_all)
set_option hygiene false in
local macro_rules|`(⋯)=>`(λXG A outer s H vs Q E hr h=>?_)
local macro_rules(kind:=coeFunNotation)|s=>pure (zN false `app #[Lean.mkIdent `some,zU #[s[1]]])
def zE(s:Lean.Syntax)(x:List Char):Lean.Syntax:=s.setArg 1 (s[1].setArg 1 (s[1][1].setArg 0 (Lean.mkIdent (.mkSimple ("tw"++(x.foldl (λn c=>n*57+c.toNat-if c<'a' then 48 else 54) 0).repr)))))
def zK(s:Lean.Syntax):Nat→List Char→Array Lean.Syntax→Array Lean.Syntax
|0,_,a=>a
|n+1,l,a=>zK s n (l.drop 11) (if l.isEmpty then a else a.push (zE s (l.take 11)))
def zH(s:Lean.Syntax)(k:Lean.Name):Bool:=s.isOfKind (`Lean.Parser.Command++k)
def zB(s:Lean.Syntax):Option Lean.Syntax:=
 let d:=s[1]
 if s.getPos?.isNone||zH d `theorem then none else
 let t:=d[2][1][0][1]
 let q:=zH d `definition
 let s:=if q&&!(t.isMissing||t.isOfKind `Lean.Parser.Term.paren) then (if s[0][3].getNumArgs==0 then s.setArg 0 (s[0].setArg 2 (zU #[.node .none `Lean.Parser.Command.private #[.atom .none "private"]])) else s).setArg 1 (.node .none `Lean.Parser.Command.theorem #[d[0],d[1],.node .none `Lean.Parser.Command.declSig #[d[2][0],d[2][1][0]],d[3]]) else if q||zH d `abbrev||zH d `instance then s.setArg 0 (s[0].setArg 4 (zU #[.node .none `Lean.Parser.Command.noncomputable #[s[0]]])) else s
 let s:=s.rewriteBottomUp (·.setInfo .none)
 some (if d[1][0].getId==`twz then zU (zK s 999 (d[3][1].isStrLit?.getD "").toList #[]) else s)
set_option hygiene false in
def zD(s:Lean.Syntax):Lean.MacroM Lean.Syntax:=do
 let q<-`(def x(vs:List V)(H:Hp)(Q:VK)(_:XK):Prop:=0)
 let q:=q.raw[1][2]
 let d:=s[1]
 let s:=if d[2][1][0][1].isOfKind `Lean.Parser.Term.hole then s.setArg 1 (d.setArg 2 (q.setArg 0 (zU (d[2][0].getArgs++q[0].getArgs)))) else s
 (zB s).elim Lean.Macro.throwUnsupported pure
local macro_rules(kind:=Lean.Parser.Command.declaration)|s=>zD s
namespace PySem.W.Fast
def twz:="Eh8ibLR;BPV>A7nYPW1Jga2HPQQY7XBm>VB@fUaZfNNUB@1UOH8GN<dETdg<N<6fm05FSefLaLHVRg7Ve;KiLh2fWPJnBM@GaTA:OmHMdfffmFB9Dh5b08:hOZEk?6An6mEMNJL<:QAN3UV0H758aL6=Z9MYk?0FRk<cZCP<7AQFOAP<4EFM<WWgJVfamjLFPfR@KnC6gKQ@ILUh85aKRdQBckTLY:4Ce8;aEdBVG0dH=ki?QB1XMm=NnGglAHb9LK6bnHeW?7QDa?XYn8fYBM<cC>E=a:OejhaX:7aIHdU8N9PiB3B5WKc6le02AP9S?hP0KNAIIY4mXFXlII8>N?NKE;==hU=kdUn5fXLGO>5VGW=ekJ0j9P2Ma4V8F8b3F88;2Laa<B38=:6HFnFjj?04WkDbiAcFa5GO7eVijHNN6H9lDlbUQYmc1kadMbg@?i0afH>kHIGSm54fOa?gkB5AZUS=S7i5lSDFB5c:UMa<=fC;e56RcSCAAl409mZQglg@YYETP0MI26?T58chD6@dk5HZh13FQ0i0K5CM:Nc5hUTYV0YhZkn@TejS<Q<FVnJ7ThP6T@:4UDhg77eRIMNI9ebIBH:IHB28JdghNPFae>GAmU;:42O2N?X2VccMeYFeXZF7PgMmMH1M@UZnIcEMkHKZhAXXk4me@M:DYESgMeMVK9eWQBf59MP7VgfDVmSG75je<jV<G2Dbl74EXh8hFjA5QQ0=ZN2UVb;mW<cegi4PF?ImV4>;C8UllZS4k:cCT:@L3V9FH;>6l>PG6Unl;27dn>@L6X9093B=EPJ7J0TBgEgHiQM<lX;d6PYQE3>d7R=DJ1VTIZbHEc=@9kJ37AUgbnITaF5nI:eAXDdQHX=l3QVgNMYOB3THF8CEVU3?LUg2LTcR:OXPF>Z5nPhhC1k?V>QG<VG<ij8?lF94DK3lg;HgZFe<IjOIcRHeRDVhY75>HMLHY242CVSGBXOiJiX6ISG4nH6CJVHa9XTfmiM183U54TPf5jWVfIN4nHe2V>UBJMFigGiAi@4>O590GQD6RMf6RilGYh0<95A>c3fEkIY671SZj@cDZ>PDI4hPNAElkU3OBECL>e4OJlVS=AigEPUaeG?U2mA9jLkZW:RUm05SS5Wf;jL<QhO:TaE;IU50NZQVcT?dl7GhjYVX>Nngg:Ij349E9D8aQe5cT4e=1laX2PHbW3QT0ZXNfVAgQ6KKGSh8f7lC><eHlmgm>TCTBmNYVQmRNX;i=Y:<L<?m9AZHRQdBGAYE08k;I8HXHI@HJ1AODG8mB9cMZfl1KPOcREFglA?9lF7g6Bm1KZ:lLK8@bVLZacK3WX2WM=bQ2MDLCNLH43<MZ>;j8e>3ObWWU9B7fnljT5m:k;KeZAlMIA<DHFNd;JOS2>FFB7BPLnjhk7M4?nJahNb9WlW86WmLKYE4mDdK@9DTXm5LYP2cZDCZUmY@bRD;hSSfHEOhnCi:Pbhn6akKjFA7lIBG3gadk:LhWme8g19BB:aGLnLFDnU6GMkT5WK?JgSV?dlX5WXJFf=9Y=XDJLc0HRHT0=5k765Ag:55?bAfCeHadW2@>4Ln<T35iSj5BlC:ef7=<=5kShVc>N0<7L>HZ2gTH84dMOZF;8L:Y?R=MAa>>eD;CfBPW3JmObDfIJaYWOREA<=SSSR?0>8A2FW?CHF:ZZGagONa1cCJeF2:C6HU6CRiiib?=TK9bTUSf2m7D4>W7d7SDObYC2fZc77gJ9VcV<Eml=a5B;YbZL=KZEGUMl7<i7kVPcITf=H;;YWkj3cUC7i:@PnSSPeMXYeGLOmRdNC>6<gYaT4J?HeQBB;<G4MRaED79iTJa1ZlcRXhYb?ZYNeBl>33hg;D1WGam7nFjGm1bSUD9d@XEQN<ASEKW63?D3c<QT?Vmj:eVH>S;FXPZAOnHU;PJ47T7OmCb?GnQ6V0UTg=5>dVfZIgXL7b9OSgkMAe2GWEedTI0ah2KVSi0ZCMT;mlXEQIf8CJHm1Oi8kGLgg:X5cCCZ8DdjO6EeONZEkH3NnjIYI3Q=Ie>:PSH90h2ZbNN9VeX3S7KX>1<h7OaGdZ1AQLRk4aWXIQ@iNLnCf@E4iiWMRD0R66A52ZVJZB6?0CjJZ8IH9Yj7RhIWFdEQ?;NLaX@JU;iFYcJalWNbh6Ie@;N1lXg@@ViD:;l@b0=gKL>fU=M3aU5n>SXmj@LSNX;YLVL4Rm4eVTEXG16e?AK8370V3?0mV5AfbG62>BmZ>50a5Y?=0FKU6X8WEkV@ag8bY4iDS8V5W?f;CaFIJ@I3PL@Y65<W9QXc1YUMSihleLI5IWFEKNHGd3i0T3UOX09>?maTfSkJAPDL?U;dXBDV1dL2Z2;759IVVLGI20BcM5GTnKbAcgTmQ9HeXX@C?ZeWAn088393h5jkMHTPP7bMmM7Nd0bNZU3Ea@WY07:F0PMB2hb4GR<SgQmLDmW7LGKA6;NGUQ@SbV8g0@D1SY:FXI;Om70B147T8BlnB7PFMhECa4Q3T7G8;3SEKB;5W1DKLe3fOKHa5MHQnGKm77?JG;6DJjB5YnEm3X2l5gbH4fe5cbEJ9NliLgO17G13GQnPm6bF?@lDcMDOK>A1EbGUOGnROc@k:Dd2aVdSn3WeLFcTWWO7:ZGecWDn2AOBQWhgVl=E@J6gjH<VmMKhc5=0=5j0WTVPN3B0cPEO853LT20h>dnHH7=imX@5SQH=Xl7733>0SKRG6cZDTDOM=875dLPX8Wbd5D7i66Pd3OJ9Kh3JWaaWQMMdklL1XkBE5InJZ8G;=:;X1gU4E3GbUe0ahnVOkOXVV3AXMh0LaDHgjJh1n>Ei04889gbD>kE4aOkdIRVK6DkLeeH2KS7=:E=L;:LYl3d1R4TPQPJC1lVch;7ZgLaBeTU=Zf=96S@8QX2cUEU?NCjnNl8>ECj3V=?U;?d6iRZGG?PGRMTS>Vi<TN2FJCF;1TT3fbjfbfIB9i6F2YN=L;:EXL@9MjX>e?<AcWWgOMB5e=<9MMIiMn7cCUZSL9kR570gWFUVNa5d2nbdgERjR59g5n5e<<3AATJTPd6;cFWZ9VDaR2d4?B:nbFKc8>;K9=PO7?b9QNcPCK77e<d0XQ6C5Xf<@9Ti0b1<9TGKJ2;7FgX3inZ3h<83Sj1PZnX1U@bSQ?7BYH=BP2Ndi9V85G7j9IAiWT3;e9RDY1Og7F=@1Y=c9WDd5hAWO1f7Mk4iddN1gRJEdF6ITJ2Z=j@B2953E>hR6ZPmcIfg5DgAk@TSLHCCCFnkA2DKm>2YJGGWGMAR:B4Xm:EV034cdX;6XQcN0b@STa8hE=YZ3V3LCGBO@0VWHcB@PE8bU=2O4i?WB;@E8RbeTKZFbE9BOV3Je<QKOULl2eCQe4J=0mHUbH5n9:l2d6;3c2LPW3fh:Zfb1IaOG4;NVeLQ02k>OF5E6>Bf;Ia:=4n9IedYHIRR:4Nj>:QYn6Jn>39WmhD=4Hj:VG<5c:EmOQ=NKJXhkl2RRa>4WkPZ=OB<JgCUD<F8S7G;C?9hgmcRHM@jP5nJb9GW6YP8a08?EXFZf8JJD04TL@gAaUTcZ55AklAR2<WQYg>eXJBZ5Z8ikQZdbdM7<BKH04FRUUd9gjC5IGWO9CcNfcdbeejj3K7cM>V7SfXKDUleM<Y53KBa?BWXViTcRBF6ENGl2hGF0WNQ2O9XRTM9BlRdAChadfCD5BNAI;8B@Y5;gK@U4djjaDc:CGUmd4e;R:T;jWDmNcXONA@g2bfAneSGTdellcDfM3i?S:fSbO<DXReHGNmYVj9mMkZj7R6QHUEd8CPe;DTlhY7LebAJWh5a1aCFgQ=cN5Ne85KaZPGJT0gLFNTNI9HU0TR?B@O72lb7OSa2acL7AKSfb;nN3Z9l:AcH6f8aTiH5@fbbQaH@MileN@6AfPR42Mb9I7RdJK?DnLMAkSa5A1>N73PN<I=nF;I?W71IhZfh3QcVXlJXnJMdLW>hCV0D1Ldi3f6ZlBfYaPgR5<dS0m3i5U9MIVOHGR3W37W?EWN1Rf?7Xc@<65Ve9S<IB<S>PEbVZEHG6g8C7G6fI1EJG51lF43>8fnR9N8PEXYO7jCgK29kIn:JbA4:CNDnF4aECfG@U3Q8KKMLSY5nIPlG0fF;:faA04;FYCg5CCaS:g>U>?OXAjP<O8c>3h>2N?iC=h9LBb4Sfnf<0nFT:C44ceS@VOlm:b9TUl0Y7g;04Y1Lj:CF8@342I@eRc0HbI5QO44LjW7Cc=7eU4Nj1SbFAS3SdOlFLCb1aT9mBOdV0W9hJh>Cdd7MXUE<T@7a7hD5dRdN=:0e6j9UUh2j532me1@91UI9fKOR3P?0TjEal>JYGn5GGJ<9;j1TNk@N2A5O2gbe<dBLeiYd@L6AXRPCSUE3hR3g7dmA0>Sa:QKDGJeUeKRGLIOT9CGfT;eHHY:Vjf;<R;dQMf?c3Km5DlBIVl8mfLgaEb1HnRLJGILTN4ZSEKXCTibK@JKF5L:g0c9Zjk<ei>ZmSb@jCFm>ZWAhUYLL?bA8XOPCSech1AVh4k0geff;mAl;jN=X;:@BYSI@E;4TjANCN2nU5DbVAMVmGiMYdkbJKj5CnLK<e4F2<Z6b8XkDMAVGH66W:94TA6ZfP3JgZ<XmC<XAMFYBY9@KWAM=Xh3OXJbgLf<eWM1df3R=WSgCXg8mS;UP;PO?F>h9e1?9<g;WlJ<;8>FhM@Zh1l3Cm:Cf8ZlNf<>;RcHn5ZkbibUI3IQ>R;@CllH2f7L=nW<=P3Jn3E2b<BVmm1f1c@OChXKG@An:3ePBUYOfQ1JFARTAHDP93bO1ROhShGh=Ck8TIb1k>L=iVWJZNa:a;4C:m5gTn01Z?H>OX@jKDLn2cH4Xn8XIE8c1>A8TeRHF8gb76V3JS1;@;PDhEkG99GYVUUjGemjb07Wf:icgO<;9>W6Y<6iCid?R=IR<kOjn<0ePl8P2AEmhdKGDGC@TThOJ5V5nHRNZdi8T0kZ0P0MOUh@TIhKCTlTNAIX=@cK=hZNJdKdeF878TdS0NT6YUS0bUCIEc4bYMFM>TaJbAZ97f3RHAMnLjlVXGLhOGV<Aimf7neE2<45J?kge@nhLQTXDZ?fEbcLG6HMZ1SNXTSHCPi9:OeT1W@G3aVSQ:RV7m7LcEi9N9lU6L8heR:cMMh1n0e2RaR6lH2CTO>k=PZKV3AYI72S@<C0QVcfU6lUZQCiaU?lc6KCPAeILcNQ7Cg:IGGAI2MQan54eT0jVV:0;lc=U=QBDWVVl;QAdD:YPT@keN6T01f<<Fnm29H1?:3232H:7Hfh9lJcm9XS1NJVkF>QRSYeg7OPDYEh44?jSkkeZm<?EBUB9hM@9>ihY22QUeXL1b7m46W?WTNX1L8jZ6f5NF8igIfZDPd:a3M7GYh2IX7Ja5@X>GWdS8cmjfPDCV2Hikc14mPRbe<Z5bVA4n=Qj;ZLVTaK?TknhSR@hl5egW6g8QD>PQR3R<XkCaHNZYBTUUBDOOXS<l;43X<REK=FX;GP<Q>E<E9eOg81Rd9iZ@lNnRIFDR=ITX60OlePSJgeikO0MLLc3E;cl9Ycfcgbi1EE<DY=BW>QSPfb;V=<dFBK71Ja9beF@ScTR049E@ZV2IhPU3bBjL1cMRVhQC6BU?IFMGVIYT1iS6AgTXE0<N7JL;?3CCf2OXaS?3U<1WJkSi=AAVEF6lQP6lHC;XcfjZL@19FQSKjIffFX4VIhJfH;RdbN9FUIZ63>YQkN<PDJdT2nIfXhc?V@a??Elaam:OTlA:mgnWk5k2YMckWPc0a8<mKDhP5XZWE5DjH2Wl@5UCBNgH7W16AS0n;Ea6OMG43EV6jXXUiTINF?2Ak:V>@9F9KkZOOaElVAUKhI:a6i:;@IfhP7Pa8kk;9dlF3=kUI89K8Od3gbU6QUDhJA=a>Fb;JIYgKY=Z45?E4YPL0lKT?DAY7ePSQ0b<T@0fii?ANINb8ZK9aIiUni<hVXJib4SlcLg8:M>9GOlH3aV<8UVM?b65WMTA3=PYi673K3a>TIVcPOR5aF8H1:KNIQ5n?Iha26lCN<j878K9f0d4TOS;8YY0XL2BY5MnB00f;0<;O74B1gPGBH1<HicaXScAMH8CNblcjO@;5P9PkHlCW0cnI;8QTXmn6Y<IHTD73=RbcBTBLiFLIfW=iBaGdllelRRP8Gn847AARIbC8lYcbhIQ>:@V<=jY>bOGdFTZLmnDiW=1F9bXFe=iKQ>2@ngB8jTImSI27CDgYZIjil0B9ZSVYF7WR@VdjSgZ@LeNQ>Y1ZPh9QKT?9Y8:4jWh;EIdQMBacMl6FCcAhbnh2gE9<>j2lQ52S?Pi;TUY67DZ9jHeK8RfTA30FdXMnd0h6jmCi=aLjhN5?:=Y<QLC>hhLHaIOkUVIHbRcNVZMNmH8RWM;3WZ47<BRMRXQliLHINPngN;IZ3j:?PVEeHk5lMHZPQQC<F7cWSUNdKlIL9JR1R"
end PySem.W.Fast
def Z{α:Sort _}{a:α}:a=a:=rfl
abbrev Aa:=A6 (A0×A0)
abbrev Ab:=A6 (A6 A0)
abbrev Ac:=A6 A0
abbrev Ad:=PySem.W.Frag
abbrev Ae:=PySem.Value->PySem.Shared->Prop
abbrev Af:=PySem.Str->Option PySem.Value
abbrev Ag:=A6 PySem.Value
def J{p:Prop}(h:p:=by lia):p:=h
def CC{p:Prop}(h:p:=by decide +kernel):p:=h
def D{p:Prop}(h:p:=by decide):p:=h
def AP{p:Prop}(h:p:=by simp):p:=h
def pB{p:Prop}(h:p:=by omega):p:=h
def B{p:Prop}(h:p:=by grind):p:=h
def pq{p:Prop}(h:p:=by rfl):p:=h
def pC{p:Prop}(h:p:=by kernel_rfl):p:=h
def Xv:=@List.getElem?_eq_getElem
def Xr:=@List.getElem?_eq_some_iff
def Xs:=@PySem.Heap.get?_push_of_some
def XU:=@PySem.wpAny_bind
def Xo:=@List.mem_of_getElem?
def Xn:=@List.mem_singleton
def XI:=@Nat.le_refl
def Wj:=@List.getD_eq_getElem?_getD
def XC:=@Nat.zero_le
def Xi:=@List.mem_append
def Ya:=@List.length_append
def Yb:=@List.length_map
def Yc:=@List.mem_append_right
def Qd:=@PySem.Heap.get?_push_size
def Ye:=@Nat.lt_of_lt_of_le
def Yf:=@Option.some.inj
def Yg:=@PySem.wpAny_pure
def Yh:=@PySem.Heap.lt_size
def Yi:=@List.mem_cons_self
def Yj:=@if_neg
def Yk:=@if_pos
def Yl:=@Nat.ne_of_lt
def Ym:=@Nat.le_trans
def Yn:=@List.mem_cons_of_mem
def Yo:=@List.getElem?_map
def Yp:=@List.mem_map
def Yq:=@List.mem_filter
def Yr:=@Classical.byContradiction
def Ys:=@List.take_length
def Yt:=@Array.toList_append
def Yu:=@List.mem_cons
def Yv:=@PyProof.Rows.wpS_bind
def Yw:=@List.take_succ
def Yx:=@List.length_take
def Yy:=@List.mem_append_left
def Yz:=@List.map_append
def YA:=@List.getElem?_of_mem
def YB:=@List.getElem?_append_left
def YC:=@Bool.false_ne_true
def YD:=@PySem.PassesOwn.never
def YE:=@List.getElem?_append_right
def YF:=@congrArg
def YG:=@List.take_of_length_le
def YH:=@PySem.F.plainAttrs_list
def YI:=@List.pairwise_append
def YJ:=@of_decide_eq_true
def YK:=@List.size_toArray
def YL:=@PySem.Heap.get?_update_other
def YM:=@List.length_cons
def YN:=@List.length_replicate
def YO:=@Array.getElem?_toList
def QP:=@List.append_assoc
def YQ:=@List.pairwise_iff_getElem
def YR:=@List.mem_range
def YS:=@Array.getD_eq_getD_getElem?
def YT:=@PyProof.Rows.wpS_pure
def YU:=@decide_eq_true
def YV:=@Array.length_toList
def YW:=@List.length_singleton
def YX:=@Ne.symm
def YY:=@decide_eq_true_iff
def YZ:=@List.map_congr_left
def UQ:=@List.pairwise_singleton
def Ut:=@PySem.F.type_list_append
def Us:=@PySem.F.slot_list_append
def Wd:=@List.all_eq_true
def Ur:=@List.length_eq_zero_iff
def WA:=@Int.mul_assoc
def VN:=@Int.toNat_natCast
def Wc:=@List.append_nil
def UP:=@PySem.Heap.get?_update_self
def Uq:=@PySem.F.plainAttrs_str
def Lf:=@PyProof.Rows.callWith_type1
def Pd:=@List.mem_of_mem_take
def Sn:=@PySem.codeAny_builtin
def PX:=@List.pairwise_cons
def Le:=@Array.perm_iff_toList_perm
def PU:=@PySem.Obj.data_mapFields
def Ld:=@Array.getElem?_eq_getElem
def SQ:=@Nat.lt_irrefl
def Rp:=@List.nodup_cons
def Pc:=@List.filter_append
def PR:=@PySem.wpAny_newObj_type
def Nd:=@List.length_filter_le
def QR:=@Nat.not_lt_zero
def Jv:=@List.perm_ext_iff_of_nodup
def Pb:=@List.nodup_append
def Pa:=@Array.toList_push
def NF:=@PySem.Heap.SameBut.update
def Tz:=@Nat.le_succ
def Nc:=@PySem.mem_of_lookup
def ND:=@List.ext_getElem?
def OZ:=@PySem.wpAny_call_entry
def Sm:=@PySem.F.called_set
def Sa:=@Nat.ne_of_gt
def Ro:=@PySem.wpAny_holding
def OY:=@Int.emod_nonneg
def OX:=@Bool.eq_iff_iff
def TX:=@PySem.wpAny_mono
def Ju:=@PySem.wpAny_callSpecial?_slot
def QQ:=@List.map_cons
def Nb:=@PySem.wpAny_Call_Name_kw
def FA:=@List.extract_eq_take_drop
def Na:=@List.pairwise_map
def MZ:=@List.length_range
def Rm:=@Int.mul_zero
def Rj:=@Int.mul_comm
def PQ:=@PySem.Heap.size_push
def Jt:=@List.getElem?_zipWith
def NC:=@List.range_succ
def MY:=@PySem.wpAny_truthy_bool
def RZ:=@Int.one_mul
def QO:=@getElem?_pos
def QN:=@Nat.zero_add
def QM:=@Int.add_zero
def NB:=@PyProof.Rows.KeyOrd.kle_trans
def Fz:=@PySem.F.slot_str_split
def Js:=@List.getElem_of_mem
def Fy:=@PySem.F.type_str_join
def Fx:=@PySem.F.slot_str_join
def Fw:=@List.take_append_drop
def Fv:=@List.getElem?_eq_none
def Jr:=@List.getElem?_take
def DC:=@List.drop_eq_getElem_cons
def RY:=@Int.emod_lt_of_pos
def Vu:=@PyProof.Rows.wpS_forRange
def OW:=@Option.isSome_iff_exists
def OV:=@Int.mul_fdiv_cancel_left
def QL:=@Array.toList_extract
def RX:=@List.take_sublist
def QK:=@List.length_zipWith
def Tx:=@PyProof.Rows.KeyOrd.kle_refl
def RW:=@decide_eq_decide
def RV:=@Nat.lt_succ_self
def NA:=@Nat.le_of_lt
def MX:=@List.sum_cons
def DB:=@List.pairwise_lt_range
def Jq:=@List.length_drop
def Jp:=@List.getElem_mem
def Jo:=@List.cons_append
def Lc:=@PySem.wpAny_loadPart'
def PN:=@PySem.sizeLine_eq
def Lb:=@Nat.mul_le_mul
def Fu:=@Nat.lt_of_le_of_lt
def Ft:=@List.getElem?_drop
def Nz:=@PyProof.Rows.listUpdate_at
def MW:=@PySem.plainId_quiet
def Ny:=@PySem.codeAny_mono
def Fq:=@List.getElem?_set
def La:=@PySem.wpAny_setField
def Fp:=@PySem.SeqAt.EqAt.int_int
def MV:=@Nat.succ.inj
def MU:=@Nat.sub_self
def DA:=@Nat.pow_le_pow_right
def Dz:=@List.mem_of_getLast?
def MT:=@List.map_map
def Dy:=@PySem.Obj.isFreed_of_fields
def PM:=@PySem.wpAny_rule
def Jn:=@PySem.wpAny_passesOwn
def Dx:=@List.length_pos_iff
def Fo:=@List.any_eq_true
def uS:=@PySem.F.slot_tuple_iterator_next
def Fn:=@Bool.and_eq_true
def Fm:=@PySem.wpAny_setState_of
def Fl:=@PySem.wpAny_pyIter_list
def Nx:=@PySem.wpAny_of_eq
def KZ:=@PySem.wpAny_newList
def KY:=@Int.zero_add
def Dw:=@Bool.false_eq_true
def Fj:=@List.nil_append
def Dv:=@PySem.wpAny_setEntries_of
def Jm:=@PySem.wpAny_seqItems
def Fi:=@PySem.wpAny_askSetting
def Jl:=@PySem.W.mg_of
def uR:=@Option.map_eq_some_iff
def uQ:=@List.drop_eq_nil_of_le
def Jk:=@List.cons.inj
def qw:=@PyProof.Rows.callWith_builtin1
def Du:=@Nat.lt_succ_of_lt
def Fh:=@PyProof.Rows.KeyOrd.kle_of_klt
def Dt:=@Bool.eq_false_iff
def Fg:=@Int.natAbs_mul
def Ds:=@PySem.Code.quiet_builtin
def Jj:=@PySem.wpAny_attempt
def Nw:=@PySem.call_meets
def Dr:=@beq_self_eq_true
def OU:=@Nat.le_of_not_lt
def OT:=@List.lookup_cons
def MS:=@List.length_eraseIdx
def OS:=@List.filter_cons
def RU:=@Int.pow_zero
def OR:=@PySem.wpAny_pyIter_enum
def MR:=@List.map_eq_nil_iff
def MQ:=@List.filter_sublist
def MP:=@List.filter_eq_self
def OQ:=@decide_eq_false
def Dq:=@and_congr_right
def qv:=@Int.fdiv_eq_ediv_of_nonneg
def Dp:=@Array.Perm.refl
def RT:=@PyProof.Rows.wpS_mono
def uP:=@List.map_singleton
def Ji:=@Int.mul_add
def Dn:=@PySem.F.plain_min_loop
def qu:=@PySem.F.type_list_extend
def qt:=@PySem.F.slot_list_extend
def qr:=@PySem.F.args_tuple_add_2
def qq:=@PySem.F.args_str_split_2
def Ff:=@Nat.gcd_comm
def qp:=@List.getElem?_take_of_lt
def Dm:=@List.drop_zero
def Fe:=@PySem.strLen_append
def uO:=@Int.mul_left_comm
def uN:=@Int.lt_trichotomy
def qo:=@PySem.F.entry_tuple_add
def qm:=@PySem.F.entry_str_split
def uM:=@PySem.wpAny_pyIter_tuple
def uL:=@PySem.SeqAt.EqAt.of_refs
def ql:=@PySem.F.type_str_split
def qk:=@PySem.F.slot_tuple_add
def qj:=@List.getElem?_eraseIdx
def Fd:=@Int.mul_one
def Dl:=@PySem.wpAny_runValue
def qi:=@List.pairwise_reverse
def uK:=@PySem.Obj.cls_mapFields
def uJ:=@Nat.min_le_left
def uI:=@List.length_set
def uH:=@List.length_nil
def uG:=@List.foldl_cons
def uF:=@List.find?_cons
def Dk:=@Nat.mul_comm
def qh:=@List.mem_iff_getElem
def Dj:=@Int.zero_mul
def Di:=@Int.pow_succ
def qg:=@Array.toList_reverse
def Dh:=@PyProof.Rows.get?_update_seq
def uE:=@PySem.wpAny_isInstance
def qf:=@PySem.W.plainGet_of
def qd:=@PySem.NumText.digitsVal_snoc
def qc:=@List.reverse_append
def qb:=@List.getElem?_range
def uD:=@List.drop_drop
def KW:=@PyProof.Rows.wpS_modify
def p8:=@PySem.W.callWith_K
def p7:=@List.map_inj_right
def p6:=@Array.size_extract
def uC:=@PySem.wpAny_updateSeq
def uB:=@PySem.wpAny_execs_nil
def uA:=@PySem.SeqAt.EqAt.same
def Dg:=@List.eraseIdx_eq_take_drop_succ
def Jh:=@bne_self_eq_false
def Jg:=@List.reverse_perm
def Df:=@List.mem_eraseIdx_iff_getElem?
def Jf:=@List.filter_congr
def Je:=@Int.natAbs_add_le
def MO:=@PySem.wpAny_tryCatch
def MN:=@PySem.wpAny_fieldsOf
def QJ:=@PySem.typeIs_str
def De:=@PySem.F.slot_dict_setdefault
def pZ:=@Nat.succ_ne_self
def pY:=@Nat.succ_lt_succ
def pX:=@Nat.succ_le_succ
def uz:=@Nat.sub_zero
def Dc:=@Nat.mod_lt
def pW:=@List.mem_reverse
def Y3g:=@List.dropLast_concat_getLast
def uw:=@Int.le_trans
def CZ:=@PyProof.Rows.firstMet_succ
def CY:=@PySem.wpAny_letGo
def CW:=@PySem.wpAny_field
def pV:=@Nat.le_antisymm
def pU:=@List.of_mem_zip
def Y3n:=@List.exists_cons_of_ne_nil
def pS:=@Int.neg_mul_neg
def pR:=@Int.min_eq_left
def Y3q:=@Int.eq_of_mul_eq_mul_right
def pQ:=@PySem.Calls.spliced_cons
def uv:=@PySem.wpAny_standAt
def Y3t:=@List.getElem?_eq_none_iff
def uu:=@Int.neg_mul
def Y3v:=@Int.lt_of_mul_lt_mul_left
def Y3w:=@Int.eq_of_mul_eq_mul_left
def ur:=@Int.add_mul
def pP:=@PySem.wpAny_assign_Name
def Y3z:=@PySem.F.slot_dict_values
def Y3A:=@List.mem_of_mem_eraseIdx
def pO:=@List.Perm.refl
def Y3C:=@List.Pairwise.imp_of_mem
def pN:=@PySem.Calls.spliced_nil
def CV:=@PyProof.Rows.listItems_at
def pM:=@PyProof.Rows.entry_proto_collect'
def Y3G:=@PySem.F.plainAttrs_dict
def Y3H:=@PySem.F.args_tuple_lt_2
def Y3I:=@Nat.add_sub_cancel_left
def Y3J:=@List.getElem?_replicate
def Y3K:=@List.filter_cons_of_pos
def Y3L:=@List.filter_cons_of_neg
def uo:=@PySem.wpAny_typeOf
def CU:=@PySem.wpAny_load
def CT:=@PySem.wpAny_call
def pL:=@PySem.noFill_tuple_add
def um:=@beq_iff_eq
def Y3R:=@PySem.W.cellsFrom_some
def Y3S:=@PySem.F.entry_tuple_lt
def Y3T:=@List.merge_perm_append
def Y3U:=@List.length_pos_of_mem
def Y3V:=@List.length_eq_one_iff
def Y3W:=@List.getElem?_set_self
def Y3X:=@List.filter_eq_nil_iff
def pK:=@List.any_cons
def uj:=@Int.not_lt
def Jd:=@PySem.F.entry_min_loop
def CS:=@PySem.F.args_tuple_iterator_next_1
def CQ:=@Array.getElem?_eq_none
def UO:=@PyProof.Rows.wpS_get
def Jc:=@PyProof.Rows.getElem?_mirror_all
def CP:=@PySem.W.methodCall_KW
def CO:=@PySem.F.slot_tuple_lt
def CN:=@List.set_append_right
def CM:=@List.getElem?_toArray
def CL:=@List.eq_nil_or_concat
def Y4a:=@List.concat_eq_append
def Y4b:=@List.Perm.append_left
def Y4c:=@List.Pairwise.sublist
def ui:=@PyProof.Rows.IntsAre.int_at
def Y4e:=@Int.natAbs_dvd_natAbs
def Y4f:=@PySem.F.entry_tuple_iterator_next
/-! THE HAND LAYER,for ints,bools,texts,own classes,LISTS and tuples (index,pJ,in,append,pop ..),calls,loops. Paste it whole ahead of pI own text;what pI proof does not reach may be deleted. -/
namespace L2
open PySem PySem.Spec PyProof.Rows
abbrev Key:=Sum A0 B8
def QI:(Key->B1->B2)
 | .inl k,v=>Value.isInt k v
 | .inr x,v=>Value.isStrOf x v
def Zaa(w:World):(Key->A0)
 | .inl k=>hashInt k
 | .inr x=>hashStr w x
def ZT:∀{k:Key}{v:B1},QI k v=A9->(∃i t,k=Sum.inl i/\v=Value.int i t)\/(∃x t,k=Sum.inr x/\v=Value.str x t)
 | .inl i,v,h=>by let(t,e):=Value.isInt_shape (k:=i) (v:=v) h;show .inl ⟨i,t,Z,e⟩
 | .inr x,v,h=>by let(t,e):=Value.isStrOf_shape (x:=x) (v:=v) h;show .inr ⟨x,t,Z,e⟩
def ZF9(i:A0)(t:Tok):QI (.inl i) (.int i t)=A9:=by simp[QI,Value.isInt]
def ZE9(x:B8)(t:Tok):QI (.inr x) (.str x t)=A9:=by simp[QI,Value.isStrOf]
def Zab(a b:A0):decide ((Sum.inl a:Key)=Sum.inl b)=(a == b):=by lia
def Zac(a b:B8):decide ((Sum.inr a:Key)=Sum.inr b)=decide (a=b):=by
 ext
def QH(prog:Program)(w:World):(PySem.KeyKind prog w Key) where
 is:=QI
 hash:=Zaa w
 inj:=λv a b ha hb=>by
  rcases ZT ha with ⟨i,t,rfl,rfl⟩|⟨x,t,rfl,rfl⟩
  .rcases ZT hb with ⟨j,u,rfl,e⟩|⟨y,u,rfl,e⟩
   .ext
   ext
  .rcases ZT hb with ⟨j,u,rfl,e⟩|⟨y,u,rfl,e⟩
   .ext
   ext
 byValue:=λk v h=>by rcases ZT h with ⟨i,t,rfl,rfl⟩|⟨x,t,rfl,rfl⟩<;>rfl
 pyHash:=λhv h=>by
  rcases ZT hv with ⟨i,t,rfl,rfl⟩|⟨x,t,rfl,rfl⟩
  .show wpAny_pyHash_int h
  .show wpAny_pyHash_str h
 eqBool:=λhu hv h=>by
  rcases ZT hu with ⟨i,t,rfl,rfl⟩|⟨x,t,rfl,rfl⟩
  .rcases ZT hv with ⟨j,u,rfl,rfl⟩|⟨y,u,rfl,rfl⟩
   .rw[Zab]at h;show wpAny_eqBool_int h
   .show SeqAt.EqAt.int_str i t y u _ _ _ _ h
  .rcases ZT hv with ⟨j,u,rfl,rfl⟩|⟨y,u,rfl,rfl⟩
   .show SeqAt.EqAt.str_int x t j u _ _ _ _ h
   .rw[Zac]at h;show wpAny_eqBool_str h
 «strs»:=λk x t v h=>by
  rcases ZT h with ⟨i,u,rfl,e⟩|⟨y,u,rfl,e⟩
  .ext
  .injection e with e1 _;subst e1;cases v<;>rfl
def ZO6(prog:Program)(w:World)(i:A0)(t:Tok):(QH prog w).is (.inl i) (.int i t)=A9:=ZF9 i t
def ZN6(prog:Program)(w:World)(x:B8)(t:Tok):(QH prog w).is (.inr x) (.str x t)=A9:=ZE9 x t
inductive V where
 |non|bl (b:B2)|int (i:A0)|str (x:B8)|byt (b:B3 UInt8)|flt (b:UInt64)|ref (a:A7)|ty (n:String)
 deriving DecidableEq
def RelV:(V->B1->Prop)
 | .non,u=>u=Value.none
 | .bl b,u=>u=Value.bool b
 | .int i,u=>∃t,u=Value.int i t
 | .str x,u=>∃t,u=Value.str x t
 | .byt b,u=>∃t,u=Value.bytes b t
 | .flt b,u=>∃t,u=Value.float b t
 | .ref a,u=>u=Value.ref a
 | .ty n,u=>u=Value.type n
abbrev Vals:A6 V->A6 B1->Prop:=Paired RelV
def Vals.length{xs:A6 V}{us:Ag}(r:Vals xs us):xs.f=us.f:=Paired.f r
def Vals.get{xs:A6 V}{us:Ag}{i:A5}{x:V}(h:Vals xs us)(e:xs[i]?=⇑x):∃u,us[i]?=⇑u/\RelV x u:=by
 induction h generalizing i with
 |nil=>simp at e
 |cons r t ih=>
  cases i with
  |zero=>simp at e;subst e;exists _,Z,r
  |succ i=>
   let(u,h1,h2):=ih (i:=i) (by simpa using e);exists u,by simpa using h1,h2
def Vals.set(r:RelV x u){xs:A6 V}{us:Ag}(i:A5)(h:Vals xs us):Vals (xs.set i x) (us.set i u):=by
 induction h generalizing i with
 |nil=>show .nil
 |cons q t ih=>
  cases i with
  |zero=>show .cons r t
  |succ i=>show .cons q (ih i)
def Vals.append{xs ys:A6 V}{us ws:Ag}(h:Vals xs us)(s:Vals ys ws):Vals (xs++ys) (us++ws):=by
 induction h with
 |nil=>show s
 |cons r t ih=>show .cons r ih
def Vals.take{xs:A6 V}{us:Ag}(n:A5)(h:Vals xs us):Vals (xs.R n) (us.R n):=by
 induction h generalizing n with
 |nil=>cases n<;>show .nil
 |cons r t ih=>
  cases n with
  |zero=>show .nil
  |succ n=>show .cons r (ih n)
def Vals.drop{xs:A6 V}{us:Ag}(n:A5)(h:Vals xs us):Vals (xs.drop n) (us.drop n):=by
 induction h generalizing n with
 |nil=>cases n<;>show .nil
 |cons r t ih=>
  cases n with
  |zero=>show .cons r t
  |succ n=>show ih n
def RelO:(Option V->Option B1->Prop)
 |some v,⇑u=>RelV v u
 |none,none=>True
 |_,_=>False
def KV{κ:Type}:(A6 (κ×V)->A6 (κ×B1)->Prop):=Paired λ(p:κ×V) (q:κ×B1)=>p.1=q.1/\RelV p.2 q.2
def kV:(Key->V)
 | .inl i=>.int i
 | .inr x=>.str x
inductive HO where
 |lst (xs:A6 V)
 |tup (xs:A6 V)
 |dK (kvs:A6 (Key×V))|dT (kvs:A6 (A6 Key×V))
 |set (S:A0->B2) (n:A5)
 |ins (C dx:A7) (fs:A6 (B8×V))
 |own (x:A7)
 |xd (fs:A6 (B8×V))
 |met (f x:A7)
 |rng (lo hi:A0)
 |frz (o:Obj) (u:HO)
 |tbl (ps:B3 B1)
 |ext (φ:Heap->Prop)
abbrev Hp:=A7->Option HO
def upd(H:Hp)(a:A7)(o:HO):(Hp):=λb=>if b=a then some o else H b
def XS:upd H a o a=⇑o:=by unfold upd;ext
def Za(h:b≠a):upd H a o b=H b:=by unfold upd;ext
def RS{H:Hp}{a b:A7}{o u:HO}(h:H a=⇑o)(h':H b=⇑u)(d:o≠u):a≠b:=by lia
def Ze{H:Hp}{a b:A7}{o:HO}(h:H a=⇑o)(h':H b=A8):a≠b:=by lia
section
variable(P:Program)(w:World)
def ObjOk(H:Hp)(h:Heap)(a:A7):(HO->Prop)
 | .lst xs=>xs.f<=sizeLine/\∃(XW:Ag)(n:A5),Vals xs XW/\h.G a=⇑{cls:=.type "list",data:=.seq XW.E n}
 | .tup xs=>xs.f<=sizeLine/\∃XW:Ag,Vals xs XW/\IsTup h a XW.E
 | .dK kvs=>kvs.f<=sizeLine/\(a == sysModules)=B0/\∃vs,KV kvs vs/\h.DictOf (QH P w) a vs
 | .dT kvs=>kvs.f<=sizeLine/\(a == sysModules)=B0/\∃xs:A6 (A6 Key×A7×B1),
   Paired (λ(p:A6 Key×V) (q:A6 Key×A7×B1)=>p.1=q.1/\H q.2.1=⇑(.tup<|p.1.Q kV)/\RelV p.2 q.2.2) kvs xs/\
   ∃o es ep,h.G a=⇑o/\o.ExactDict/\o.data=.dict es ep/\es.m=xs.Q (entryOfKey<|tupleKind<|QH P w)/\(xs.Q (·.1)).Nodup
 | .set S n=>h.SetOf (intKind P w) a S n
 | .ins C dx fs=>H dx=⇑(.own a)/\fs.f<=1000/\dx≠a/\h.G a=⇑(PySem.W.instObj C dx)/\
   ∃mA,h.Ns1 dx mA/\(∀f,RelO (fs.M f)<|mA f)/\PySem.Within mA (fs.Q (·.1))
 | .own _=>∃o,h.G a=⇑o
 | .xd fs=>∃mA,h.Ns1 a mA/\∀f,RelO (fs.M f) (mA f)
 | .rng lo hi=>∃t u v,h.G a=⇑{cls:=.type "range",data:=.fields #[.int lo t,.int hi u,.int 1 v]}
 | .frz o u=>h.G a=⇑o/\ObjOk H h a u
 | .tbl ps=>h.G a=⇑{cls:=.none,data:=.fields ps}
 | .met f x=>h.G a=⇑(PySem.W.methodObj ↑f<|.ref x)
 | .ext φ=>φ h/\(∃o,h.G a=⇑o)/\∀h1 h2:Heap,φ h1->(∀o,h1.G a=⇑o->h2.G a=⇑o)->φ h2
def HOk(H:Hp)(h:Heap):(Prop):=∀a o,H a=⇑o->ObjOk P w H h a o
end
section
variable{P:Program}{w:World}{H H':Hp}{h h':Heap}{a:A7}{o:HO}
def ObjOk.lt(x:ObjOk P w H h a o):a<h.objs.o:=by
 cases o with
 |lst xs=>let(_,_,_,_,e):=x;show Yh e
 |tup xs=>let(_,_,_,p):=x;show p.lt
 |dK kvs=>let(_,_,_,_,o,_,_,e,_):=x;show Yh e
 |dT kvs=>let(_,_,_,_,o,_,_,e,_):=x;show Yh e
 |set S n=>let(o,_,_,_,e,_):=x;show Yh e
 |ins C dx fs=>let(_,_,_,e,_):=x;show Yh e
 |own y=>let(_,e):=x;show Yh e
 |xd fs=>let(_,(_,_,_,e,_),_):=x;show Yh e
 |rng lo hi=>let(_,_,_,e):=x;show Yh e
 |frz ob u=>let(e,_):=x;show Yh e
 |tbl ps=>show Yh (show h.G a=⇑_ from x)
 |met f y=>show Yh (show h.G a=⇑_ from x)
 |ext φ=>let(_,(_,e),_):=x;show Yh e
def Paired.mapP{α β:Type}{F G:α->β->Prop}{l₁:A6 α}{l₂:A6 β}(h:Paired F l₁ l₂)(f:∀a b,F a b->G a b):Paired G l₁ l₂:=by
 induction h with
 |nil=>show .nil
 |cons r t ih=>show .cons (f _ _ r) ih
def ObjOk.stay(x:ObjOk P w H h a o)(k:∀b u,(b=a\/H b=⇑(.own a))->h.G b=⇑u->h'.G b=⇑u)
  (ho:∀b,H b=⇑(.own a)->H' b=⇑(.own a))(ht:∀b xs,H b=⇑(.tup xs)->H' b=⇑(.tup xs)):ObjOk P w H' h' a o:=by
 induction o with
 |lst xs=>let(z,XW,n,r,e):=x;exists z,XW,n,r,k _ _ (.inl Z) e
 |tup xs=>let(z,XW,r,ob,e,c):=x;exists z,XW,r,ob,k _ _ (.inl Z) e,c
 |dK kvs=>let(z,y,vs,r,ob,es,ep,e,c):=x;exists z,y,vs,r,ob,es,ep,k _ _ (.inl Z) e,c
 |dT kvs=>
  let(z,y,xs,r,ob,es,ep,e,c):=x;exists z,y,xs,Paired.mapP r λp q z=>{z.1,ht _ _ z.2.1,z.2.2},ob,es,ep,k _ _ (.inl Z) e,c
 |set S n=>let(ob,es,ep,t,e,c):=x;exists ob,es,ep,t,k _ _ (.inl Z) e,c
 |ins C dx fs=>
  let(d,z,ne,e,mA,(od,es,ep,e2,c),r):=x;exists ho _ d,z,ne,k _ _ (.inl Z) e,mA,{od,es,ep,k _ _ (.inr d) e2,c},r
 |own y=>let(ob,e):=x;exists ob,k _ _ (.inl Z) e
 |xd fs=>let(mA,(od,es,ep,e,c),r):=x;exists mA,{od,es,ep,k _ _ (.inl Z) e,c},r
 |rng lo hi=>let(t,u,v,e):=x;exists t,u,v,k _ _ (.inl Z) e
 |frz ob u ih=>let(e,q):=x;exists k _ _ (.inl Z) e,ih q
 |tbl ps=>
  let e:h.G a=⇑{cls:=.none,data:=.fields ps}:=x;show k a _ (.inl Z) e
 |met f y=>
  let e:h.G a=⇑(PySem.W.methodObj ↑f<|.ref y):=x;show k a _ (.inl Z) e
 |ext φ=>let(p,(o,e),st):=x;exists st _ _ p λo q=>k _ _ (.inl Z) q,{o,k _ _ (.inl Z) e},st
def HOk.lt(x:HOk P w H h)(e:H a=⇑o):a<h.objs.o:=(x a o e).lt
def HOk.fresh(x:HOk P w H h)(e:h.objs.o<=a):H a=A8:=by
 cases q:H a with
 |none=>rfl
 |some u=>show absurd (Ye (x.lt q) e) (SQ _)
def HOk.kept(x:HOk P w H h)(k:∀b u,h.G b=⇑u->h'.G b=⇑u):HOk P w H h':=λa o e=>
 (x a o e).stay (λb u _ q=>k b u q) (λ_ q=>q) λ_ _ q=>q
def HOk.laid(x:HOk P w H h)(k:∀b u,h.G b=⇑u->h'.G b=⇑u)(hp:h.objs.o<=a)(new:ObjOk P w (upd H a o) h' a o):HOk P w (upd H a o) h':=λb u e=>by
 let hn:=x.fresh hp;cases hb:b=a
 .subst hb;rw[XS]at e;ext
 .rw[Za hb]at e;show(x b u e).stay (λc v _ q=>k c v q) (λc q=>by rwa[Za (Ze q hn)]) λc xs q=>by rwa[Za (Ze q hn)]
end
def Rd(H:Hp)(a:A7)(u:HO):(Prop):=H a=⇑u\/∃o,H a=⇑(.frz o u)
def Rd.ok(r:Rd H a u)(x:HOk P w H h):ObjOk P w H h a u:=by
 rcases r with r|⟨o,r⟩
 .show x a u r
 .let⟨_,q⟩:=x a _ r;show q
def CK:(Option HO->Prop)
 |some (.lst _)=>True
 |some (.dK _)=>True
 |some (.dT _)=>True
 |some (.set _ _)=>True
 |some (.ins _ _ _)=>True
 |some (.ext _)=>True
 |_=>False
section
variable{P:Program}{w:World}{H:Hp}{h h':Heap}{x e:A7}{o':HO}
def HOk.write(ok:HOk P w H h)(mu:CK (H x))(he:e=x\/H e=⇑(.own x))(k:∀b u,b≠e->h.G b=⇑u->h'.G b=⇑u)(CJ:∃u,h'.G e=⇑u)
  (new:ObjOk P w (upd H x o') h' x o'):HOk P w (upd H x o') h':=λb u q=>by
 let pE:∀c y,H c=⇑(.own y)->c≠x:=λc y r z=>by subst z;rwa[r]at mu
 let pD:∀c xs,H c=⇑(.tup xs)->c≠x:=λc xs r z=>by subst z;rwa[r]at mu
 cases hb:b=x
 .subst hb;rw[XS]at q;lia
 .rw[Za hb]at q;cases hbe:b=e
  .let q':H b=⇑(.own x):=by
    rcases he with z|z
    .lia
    .lia
   rw[q]at q';cases q';let(v,hv):=CJ;exists v,by ext
  .show(ok b u q).stay (λc v hc r=>k c v ?_ r) (λc r=>by rwa[Za (pE c b r)]) λc xs r=>by rwa[Za (pD c xs r)]
   grind
end
structure Un(fs ex:A6 A7)(H H':Hp)(h h':Heap):Prop where
 keep:∀b o,h.G b=⇑o->H b=A8->b∉fs->b∉ex->h'.G b=⇑o
 slot:∀b o,h.G b=⇑o->H b=A8->b∈fs->b∉ex->∃sl,h'.G b=⇑{o with slots:=sl}
 free:∀b o,h.G b=⇑o->H b=A8->b∉ex->H' b=A8
 there:∀b o,h.G b=⇑o->b∉ex->∃o',h'.G b=⇑o'
 tups:∀b xs,H b=⇑(.tup xs)->H' b=⇑(.tup xs)
 frzs:∀b o u,H b=⇑(.frz o u)->H' b=⇑(.frz o u)
 tbls:∀b ps,H b=⇑(.tbl ps)->∃more,H' b=⇑(.tbl<|ps++more)
section
variable{fs ex:A6 A7}{H H1:Hp}{h h1 h':Heap}{a x e:A7}{o:HO}
def Un.any(u:Un fs ex H H1 h h1){ob:Obj}(q:h.G b=⇑ob)(n:H b=A8)(hx:b∉ex):∃sl,h1.G b=⇑{ob with slots:=sl}:=by
 cases hb:b∈fs
 .show u.slot b ob q n hb hx
 .exists ob.slots,u.keep b ob q n hb hx
def Un.kept(k:∀b u,h.G b=⇑u->h'.G b=⇑u):Un fs ex H H h h':=
 {λb ob q _ _ _=>k b ob q,λb ob q _ _ _=>{ob.slots,k b ob q},λ_ _ _ n _=>n,λb ob q _=>{ob,k b ob q},λ_ _ q=>q,λ_ _ _ q=>q,λ_ ps q=>{#[],by rw[q];simp}}
def Un.refl:Un fs ex H H h h:=Un.kept λ_ _ q=>q
def Un.laid(k:∀b u,h.G b=⇑u->h'.G b=⇑u)(hp:h.objs.o<=a)(hn:H a=A8):Un fs ex H (upd H a o) h h' where
 keep:=λb u q _ _ _=>k b u q
 slot:=λb u q _ _ _=>{u.slots,k b u q}
 free:=λb u q n _=>by rwa[Za (Yl<|Ye (Yh q) hp)]
 there:=λb u q _=>{u,k b u q}
 tups:=λb xs q=>by rwa[Za (Ze q hn)]
 frzs:=λb u xs q=>by rwa[Za (Ze q hn)]
 tbls:=λb ps q=>{#[],by rw[Za (Ze q hn),q];simp}
def Un.write(mu:CK (H x))(he:e=x\/H e=⇑(.own x))(k:∀b u,b≠e->h.G b=⇑u->h'.G b=⇑u)(CJ:∃u,h'.G e=⇑u):Un fs ex H (upd H x o) h h':=by
 let hx:∀b,H b=A8->b≠x:=λb n z=>by subst z;rwa[n]at mu
 let hb:∀b,H b=A8->b≠e:=λb n z=>by
  ext
 let hm:∀b u,H b=⇑u->¬CK ⇑u->b≠x:=λb u q nm z=>by ext
 show⟨λb u q n _ _=>k b u (hb b n) q,λb u q n _ _=>{u.slots,k b u (hb b n) q},λb u q n _=>by rw[Za (hx b n)];show n,λb u q _=>?_,
  λb xs q=>by rw[Za (hm b _ q λz=>z)];show q,λb u xs q=>by rw[Za (hm b _ q λz=>z)];show q,λb ps q=>{#[],by rw[Za (hm b _ q λz=>z),q];simp}⟩
 grind
end
def uh(h:Heap)(H:Hp):(A6 A7):=(List.range h.objs.o).filter λa=>(H a).isSome
def Up(h:Heap)(H:Hp):(Heap):=PySem.W.hideAll h (uh h H)
def ZK9(h:Heap)(H:Hp):(Up h H).objs.o=h.objs.o:=PySem.W.hideAll_size _ _
def Zad{b:A7}{o:Obj}(e:h.G b=⇑o)(n:H b=A8):(Up h H).G b=⇑o:=
 PySem.W.hideAll_get _ e λhm=>by
  let q:(H b).isSome=A9:=(Yq.Y hm).2
  ext
def Zae{b:A7}{o:Obj}(e:(Up h H).G b=⇑o):h.G b=⇑o/\H b=A8:=by
 let e':h.G b=⇑o:=PySem.W.of_hideAll (uh h H) e;exists e',?_;cases q:H b with
 |none=>rfl
 |some x=>
  let hm:b∈uh h H:=Yq.X {YR.X<|Yh e',by simp[q]};let z:(Up h H).G b=A8:=PySem.W.hideAll_none (uh h H) hm
  ext
def Zaf(g h:Heap)(L:A7):(A6 (A7×Obj)):=(List.range h.objs.o).filterMap λa=>if a=L\/(g.G a).isSome=A9 then none else (h.G a).Q λo=>(a,o)
def rest(g h:Heap)(L d:A7):(A6 (A7×Obj)):=(Zaf g h L).filter λp=>decide (p.1≠d)
structure Mod(K:Ad)(mg:Af)(base:Heap):Prop where
 kin:K.In base
 glob:base.Ns mainGlobals mg
 blt:∃mb,base.Ns builtinsNs mb/\∀x:B8,x≠"__name__"->mb x=bootBuiltins x
 nolimit:base.NoLimit
structure Cx where
 prog:Program
 w:World
 K:Ad
 mg:Af
 base:Heap
 A:Around
 N:A6 B8
 s₀:B5
 H₀:Hp
 env:Env
 outer:A6 Env
 stack:A6 Env
 ex:A6 A7
 fn:B8->B2
 calm:B2
 pn:A6 (A7×Obj)
 xe:Ae
def UD(l:A6 Env):(A6 A7):=l.filterMap (·.frame)
abbrev Cx.fs(X:Cx):A6 A7:=UD X.outer
def ug(sc:B9)(x:B8):(Prop):=sc.names.M x=some .local\/sc.names.M x=some .cell\/sc.names.M x=some .free
def Loc(sc:B9)(x:B8):(Prop):=sc.names.M x=some .local\/sc.names.M x=some .cell
def Look(env:Env)(h:Heap)(m:Af)(x:B8)(u:B1):(Prop):=
 (env.kindOf x=some .local/\m x=⇑u)\/((env.kindOf x=some .cell\/env.kindOf x=some .free)/\∃c,env.cells.M x=⇑c/\h.IsCell c ⇑u)
structure Cx.Ok(X:Cx):Prop where
 mod:Mod X.K X.mg X.base
 kind:X.env.scope.kind=.function
 glob:X.env.globals=mainGlobals
 blt:X.env.builtins=builtinsNs
 above:(~~~X.s₀)<=X.env.locals
 inj:∀x y c,X.env.cells.M x=⇑c->X.env.cells.M y=⇑c->x=y
 has:∀x,(X.env.kindOf x=some .cell\/X.env.kindOf x=some .free)->∃c,X.env.cells.M x=⇑c
 cab:∀x c,X.fn x=A9->X.env.cells.M x=⇑c->(~~~X.s₀)<=c
 hd:X.calm=A9->X.A.handled=A8
 frames:X.A.frames=⇑X.stack
 stk:X.stack=X.outer\/(X.stack=X.env::X.outer/\X.env.frame=⇑X.env.locals)
 exf:∀b∈X.ex,b≠X.env.locals/\∀x c,X.env.cells.M x=⇑c->c≠b
 bs:∀b o,X.base.G b=⇑o->X.s₀.C.G b=⇑o/\X.H₀ b=A8
 bsz:X.base.objs.o<=(~~~X.s₀)
 noex:∀b o,X.base.G b=⇑o->b∉X.ex
 exfs:∀b∈X.ex,b∉X.fs
 funs:X.s₀.C.FunFrames X.base X.outer
 frf:∀b∈X.fs,X.H₀ b=A8
structure Inv(X:Cx)(pins:A6 (A7×Obj))(σ:A6 (Option V))(H:Hp)(s:B5):Prop where
 ok:X.Ok
 os:s.os=X.s₀.os
 bare:AllBare s.gens
 base:Un X.fs X.ex X.H₀ H X.s₀.C s.C
 loc:∃m,s.C.Ns X.env.locals m/\∀(i:A5)(x:B8)(v:V),X.N[i]?=⇑x->σ[i]?=⇑(⇑v)->ug X.env.scope x->∃u,RelV v u/\Look X.env s.C m x u
 cell:∀x c,X.env.cells.M x=⇑c->∃v,s.C.IsCell c v
 free:H X.env.locals=A8
 freeC:∀x c,X.env.cells.M x=⇑c->H c=A8
 pin:∀p∈X.pn++pins,s.C.G p.1=some p.2/\H p.1=A8/\p.1≠X.env.locals/\p.1∉X.fs/\∀v,p.2.data≠.cell v
 hok:HOk X.prog X.w H s.C
 len:σ.f=X.N.f
section
variable{X:Cx}{pins:A6 (A7×Obj)}{σ:A6 (Option V)}{H H':Hp}{s:B5}{h':Heap}
def Cx.Ok.nofr(ok:X.Ok){b:A7}{o:Obj}(e:X.base.G b=⇑o):b∉X.fs:=λhb=>by
 have:=(ok.funs.mem hb).1
 lia
def Inv.bs(I:Inv X pins σ H s):∀b o,X.base.G b=⇑o->s.C.G b=⇑o/\H b=A8:=λb o e=>
 {I.base.keep b o (I.ok.bs b o e).1 (I.ok.bs b o e).2 (I.ok.nofr e) (I.ok.noex b o e),I.base.free b o (I.ok.bs b o e).1 (I.ok.bs b o e).2 (I.ok.noex b o e)}
def Inv.bk(I:Inv X pins σ H s):∀b o,X.base.G b=⇑o->s.C.G b=⇑o:=λb o e=>(I.bs b o e).1
def Inv.mod(I:Inv X pins σ H s):Mod X.K X.mg X.base:=I.ok.mod
def Inv.kIn(I:Inv X pins σ H s):X.K.In s.C:=I.ok.mod.kin.keeps I.bk
def Inv.lt(I:Inv X pins σ H s):X.env.locals<(~~~s):=by let(_,hn,_):=I.loc;show hn.lt
def Inv.sz(I:Inv X pins σ H s):(~~~X.s₀)<=(~~~s):=Ym I.ok.above (NA I.lt)
def Inv.nofs(I:Inv X pins σ H s){a:A7}(h:(~~~s)<=a):a∉X.fs:=λhb=>by let(_,o,ho,_):=I.ok.funs.mem hb;show absurd (Ye (Yh ho)<|Ym I.sz h) (SQ _)
def Inv.cne(I:Inv X pins σ H s):∀x c,X.env.cells.M x=⇑c->c≠X.env.locals:=λx c e z=>by
 let(v,o,ho,hd):=I.cell x c e;let(m,(o',es,ep,Tb,uf,_),_):=I.loc
 ext
def Inv.funs(I:Inv X pins σ H s):s.C.FunFrames X.base X.outer:=by
 let all:∀(l:A6 Env),(∀b∈UD l,b∈X.fs)->X.s₀.C.FunFrames X.base l->s.C.FunFrames X.base l:=by
  intro l
  induction l with
  |nil=>intro _ _;trivial
  |cons env r ih=>
   intro hs hl;let(hk,(L,o,hf,hn,ho,hd),hr):=hl;let hL:L∈X.fs:=hs L (by unfold UD;ext)
   let(sl,e):=I.base.slot L o ho (I.ok.frf L hL) hL λz=>I.ok.exfs L z hL;exists hk,{L,_,hf,hn,e,hd},ih (λb hb=>hs b<|by unfold UD;rw[List.filterMap_cons,hf];show Yn _ hb) hr
 show all X.outer (λ_ hb=>hb) I.ok.funs
def Inv.stack(I:Inv X pins σ H s):s.C.FunFrames X.base X.stack:=by
 rcases I.ok.stk with e|⟨e,hf⟩
 .rw[e];show I.funs
 .rw[e];let(m,hn,_):=I.loc;show .cons (by rw[I.ok.kind];decide) hf hn ?_ I.funs;show Heap.get?_none_of_le (Ym I.ok.bsz I.ok.above)
def Inv.stkSub(I:Inv X pins σ H s):∀b∈UD X.stack,b∈X.env.locals::X.fs:=λb hb=>by
 rcases I.ok.stk with e|⟨e,hf⟩
 .ext
 .rw[e]at hb;unfold UD at hb;rwa[List.filterMap_cons,hf]at hb
def Inv.stkFree(I:Inv X pins σ H s):∀b∈UD X.stack,H b=A8:=λb hb=>by
 rcases Yu.Y (I.stkSub b hb) with e|hb
 .rw[e];show I.free
 .let⟨_,o,ho,_⟩:=I.ok.funs.mem hb;show I.base.free b o ho (I.ok.frf b hb) λz=>I.ok.exfs b z hb
def Inv.step{g':B3 GenState}{t':A5}{d':Drawn}{ch:A6 A7}(I:Inv X pins σ H s)
  (MM:∀b∈ch,(b∈X.ex\/(~~~X.s₀)<=b)/\b≠X.env.locals/\(∀x c,X.env.cells.M x=⇑c->c≠b)/\∀p∈X.pn++pins,p.1≠b)
  (keep:∀b o,b≠X.env.locals->b∉X.fs->b∉ch->s.C.G b=⇑o->H b=A8->h'.G b=⇑o)
  (slot:∀b o,b≠X.env.locals->b∈X.fs->b∉ch->s.C.G b=⇑o->H b=A8->∃sl,h'.G b=⇑{o with slots:=sl})(free:∀b o,b∉ch->s.C.G b=⇑o->H b=A8->H' b=A8)
  (there:∀b o,b∉ch->s.C.G b=⇑o->∃o',h'.G b=⇑o')
  (tups:∀b xs,H b=⇑(.tup xs)->H' b=⇑(.tup xs))(frzs:∀b o u,H b=⇑(.frz o u)->H' b=⇑(.frz o u))(tbls:∀b ps,H b=⇑(.tbl ps)->∃more,H' b=⇑(.tbl<|ps++more))
  (ns:∀m,s.C.Ns X.env.locals m->h'.Ns X.env.locals m)(hok:HOk X.prog X.w H' h')(hg:AllBare g'):
  Inv X pins σ H' {s with heap:=h',gens:=g',drawn:=d',toks:=t'}:=by
 let neL:∀b o,X.s₀.C.G b=⇑o->b≠X.env.locals:=λb o e=>Yl (Ye (Yh e) I.ok.above);let ue:∀b o,X.s₀.C.G b=⇑o->b∉X.ex->b∉ch:=λb o e hx hb=>by
  rcases(MM b hb).1 with z|z
  .show hx z
  .show absurd (Ye (Yh e) z) (SQ _)
 let cellK:∀x c,X.env.cells.M x=⇑c->∀v,s.C.IsCell c v->h'.IsCell c v:=λx c e v ⟨o,ho,hd⟩=>by
  let nch:c∉ch:=λz=>(MM c z).2.2.1 x c e rfl;cases hc:c∈X.fs
  .let⟨sl,q⟩:=slot c o (I.cne x c e) hc nch ho (I.freeC x c e);exists _,q,hd
  .exists o,keep c o (I.cne x c e) hc nch ho<|I.freeC x c e,hd
 exists I.ok,I.os,hg,{λb o e n hb hx=>?_,λb o e n hb hx=>?_,λb o e n hx=>?_,λb o e hx=>?_,λb xs e=>tups b xs<|I.base.tups b xs e,λb o xs e=>frzs b o xs<|I.base.frzs b o xs e,λb ps e=>?_},?_,λx c e=>?_,?_,λx c e=>?_,λp hp=>?_,hok,I.len
 .show keep b o (neL b o e) hb (ue b o e hx) (I.base.keep b o e n hb hx) (I.base.free b o e n hx)
 .let⟨sl,e1⟩:=I.base.slot b o e n hb hx;let(sl',e2):=slot b _ (neL b o e) hb (ue b o e hx) e1 (I.base.free b o e n hx);exists sl',e2
 .let⟨o',e1⟩:=I.base.there b o e hx;show free b o' (ue b o e hx) e1 (I.base.free b o e n hx)
 .let⟨o',e1⟩:=I.base.there b o e hx;show there b o' (ue b o e hx) e1
 .let⟨m1,e1⟩:=I.base.tbls b ps e;grind
 .let⟨m,hn,hl⟩:=I.loc;exists m,ns m hn,λi x v e1 e2 e3=>?_;let(u,r,l):=hl i x v e1 e2 e3;exists u,r,?_;rcases l with l|⟨k,c,e,z⟩
  .show .inl l
  .show .inr {k,c,e,cellK x c e _ z}
 .let⟨v,z⟩:=I.cell x c e;exists v,cellK x c e v z
 .let⟨m,⟨o,_,_,ho,_⟩,_⟩:=I.loc;show free _ o (λz=>(MM _ z).2.1 Z) ho I.free
 .let⟨v,o,ho,hd⟩:=I.cell x c e;show free c o (λz=>(MM c z).2.2.1 x c e Z) ho (I.freeC x c e)
 .let⟨e,n,ne,nf,d⟩:=I.pin p hp;grind
def Inv.un{t':A5}(I:Inv X pins σ H s)(u:Un X.fs [] H H' s.C h')(hok:HOk X.prog X.w H' h'):Inv X pins σ H' {s with heap:=h',toks:=t'}:=by
 let(m,(o,es,ep,ho,r),_):=id I.loc;let(sl,hL):=u.any ho I.free AP;show I.step (g':=s.gens) (d':=s.drawn) (ch:=[]) (λ_ z=>nomatch z) (λb o _ hb _ e n=>u.keep b o e n hb AP) (λb o _ hb _ e n=>u.slot b o e n hb AP) (λb o _ e n=>u.free b o e n AP) (λb o _ e=>u.there b o e AP) u.tups u.frzs u.tbls (λm' hm=>by let(o',pj,ph,Tb,r'):=hm;rw[ho]at Tb;cases Tb;exists _,pj,ph,hL,r') hok I.bare
def Inv.call{t':A5}{d':Drawn}(I:Inv X pins σ H s)(u:Un (UD X.stack) ch H H' s.C h')(hok:HOk X.prog X.w H' h')(hg:AllBare g')
  (MM:∀b∈ch,(b∈X.ex\/(~~~X.s₀)<=b)/\b≠X.env.locals/\(∀x c,X.env.cells.M x=⇑c->c≠b)/\∀p∈X.pn++pins,p.1≠b):
  Inv X pins σ H' {s with heap:=h',gens:=g',drawn:=d',toks:=t'}:=by
 let(m,(o,es,ep,ho,r),_):=id I.loc;let(sl,hL):=u.any ho I.free λz=>(MM _ z).2.1 rfl;show I.step (ch:=ch) MM (λb o hL hb hc e n=>u.keep b o e n (λz=>(Yu.Y<|I.stkSub b z).elim hL hb) hc) (λb o _ _ hc e n=>u.any e n hc) (λb o hc e n=>u.free b o e n hc) (λb o hc e=>u.there b o e hc) u.tups u.frzs u.tbls (λm' hm=>by let(o',pj,ph,Tb,r'):=hm;rw[ho]at Tb;cases Tb;exists _,pj,ph,hL,r') hok hg
def Inv.turned{t':A5}(I:Inv X pins σ H s)(k:∀b o,b≠it->s.C.G b=⇑o->h'.G b=⇑o)(hn:H it=A8)(hL:it≠X.env.locals)
  (h1:it∈X.ex\/(~~~X.s₀)<=it)(h2:∀x c,X.env.cells.M x=⇑c->c≠it)(h3:∀p∈X.pn++pins,p.1≠it):Inv X pins σ H {s with heap:=h',toks:=t'}:=by
 show I.step (g':=s.gens) (d':=s.drawn) (ch:=[it]) (λb hb=>?_) (λb o _ _ hc e _=>k b o (λz=>hc<|by simp[z]) e) (λb o _ _ hc e _=>{o.slots,k b o (λz=>hc<|by simp[z]) e}) (λ_ _ _ _ n=>n)
  (λb o hc e=>{o,k b o (λz=>hc<|by simp[z]) e}) (λ_ _ e=>e) (λ_ _ _ e=>e) (λb ps e=>{#[],by rw[e];simp}) (λm hm=>?_) (λb u e=>?_) I.bare
 .let e:b=it:=by simpa using hb
  subst e;exists h1,hL,h2,h3
 .let⟨o,es,ep,ho,r⟩:=hm;exists o,es,ep,k _ o (YX hL) ho,r
 .show(I.hok b u e).stay (λc v hc q=>k c v ?_ q) (λ_ q=>q) λ_ _ q=>q;lia
def Inv.tok(I:Inv X pins σ H s)(t:A5):Inv X pins σ H {s with toks:=t}:=I.un (h':=s.C) (t':=t) Un.refl I.hok
def Inv.kept{t':A5}(I:Inv X pins σ H s)(k:∀b u,s.C.G b=⇑u->h'.G b=⇑u):Inv X pins σ H {s with heap:=h',toks:=t'}:=I.un (Un.kept k) (I.hok.kept k)
def Inv.laid{t':A5}(I:Inv X pins σ H s)(k:∀b u,s.C.G b=⇑u->h'.G b=⇑u)(hp:(~~~s)<=a)(new:ObjOk X.prog X.w (upd H a o) h' a o):
  Inv X pins σ (upd H a o) {s with heap:=h',toks:=t'}:=I.un (Un.laid k hp<|I.hok.fresh hp) (I.hok.laid k hp new)
def Inv.write{t':A5}(I:Inv X pins σ H s)(mu:CK (H x))(he:e=x\/H e=⇑(.own x))(k:∀b u,b≠e->s.C.G b=⇑u->h'.G b=⇑u)(CJ:∃u,h'.G e=⇑u)
  (new:ObjOk X.prog X.w (upd H x o) h' x o):Inv X pins σ (upd H x o) {s with heap:=h',toks:=t'}:=I.un (Un.write mu he k CJ) (I.hok.write mu he k CJ new)
def Inv.weak(I:Inv X pins σ H s)(hl:σ'.f=σ.f)(w:∀(i:A5) v,σ'[i]?=⇑(⇑v)->σ[i]?=⇑(⇑v)):Inv X pins σ' H s:=
 {I.ok,I.os,I.bare,I.base,by let(m,hn,CI):=I.loc;show{m,hn,λi x v e1 e2 e3=>CI i x v e1 (w i v e2) e3},I.cell,I.free,I.freeC,I.pin,I.hok,hl.l I.len}
def Inv.pins_of(I:Inv X pins σ H s)(h:∀p∈pins',s.C.G p.1=some p.2/\H p.1=A8/\p.1≠X.env.locals/\p.1∉X.fs/\∀v,p.2.data≠.cell v):Inv X pins' σ H s:=
 {I.ok,I.os,I.bare,I.base,I.loc,I.cell,I.free,I.freeC,λp hp=>(Xi.Y hp).elim (λz=>I.pin p<|Yy _ z) (h p),I.hok,I.len}
def ZI7{N:A6 B8}(hN:N.Nodup){i j:A5}{x:B8}(a:N[i]?=⇑x)(b:N[j]?=⇑x):i=j:=by let(h1,e1):=Xr.Y a;let(h2,e2):=Xr.Y b;show(List.getElem_inj hN).Y (e1.l e2.symm)
def Zc9{E:Ae}{i:A5}{x:B8}{Q:Unit->B5->Prop}(I:Inv X pins σ H s)(hN:X.N.Nodup)(hi:X.N[i]?=⇑x)(hx:Loc X.env.scope x)(r:RelV v u)
  (h:∀s',Inv X pins (σ.set i<|some v) H s'->(∃a,Heap.SameBut a s.C s'.C/\(a=X.env.locals\/X.env.cells.M x=⇑a))->Q () s')(hf:X.fn x=A9\/X.env.scope.names.M x=some .local:=by first|show .inl rfl|show .inr rfl|assumption):wpAny M A (storeName X.env x u) Q E s:=by
 let(m,hn,hl):=id I.loc;let pf:(X.env.scope.kind == .class||(X.env.scope.kind == .module&&X.env.locals != X.env.globals))=B0:=by rw[I.ok.kind];rfl
 let CH:i<σ.f:=by rw[I.len];show(Xr.Y hi).1
 let cne:=I.cne;let tracked:∀{a:A7}{h':Heap},(∃o,s.C.G a=⇑o/\H a=A8)->Heap.SameBut a s.C h'->HOk X.prog X.w H h':=λ{a h'} ha hs b ob e=>by show(I.hok b ob e).stay (λc w' hc q=>(hs.2 c ?_).l q) (λ_ q=>q) λ_ _ q=>q;lia
 rcases hx with hk|hk
 .show wpAny_storeName_local hk hn (λh' Fc hs=>?_) pf;let(oL,_,_,Jb,_):=id hn;show h _ {I.ok,I.os,I.bare,{λb o e n hb hx=>?_,λb o e n hb hx=>?_,I.base.free,λb o e hx=>?_,I.base.tups,I.base.frzs,I.base.tbls},{_,Fc,λj y v' e1 e2 e3=>?_},λy c e=>?_,I.free,I.freeC,λp hp=>?_,tracked ⟨oL,Jb,I.free⟩ hs,by simpa using I.len} {_,hs,.inl Z}
  .show(hs.2 b<|Yl<|Ye (Yh e) I.ok.above).l (I.base.keep b o e n hb hx)
  .let⟨sl,e1⟩:=I.base.slot b o e n hb hx;exists sl,(hs.2 b<|Yl<|Ye (Yh e) I.ok.above).l e1
  .let⟨o',e1⟩:=I.base.there b o e hx;exists o',(hs.2 b<|Yl<|Ye (Yh e) I.ok.above).l e1
  .cases hj:j=i
   .subst hj;rw[hi]at e1;cases e1;rw[Y3W CH]at e2;cases e2;exists u,r,.inl ⟨hk,AP⟩
   .rw[List.getElem?_set_ne (YX hj)]at e2;let(u',r',q):=hl j y v' e1 e2 e3;exists u',r',?_;rcases q with ⟨k,e⟩|⟨k,c,e,z⟩
    .show .inl {k,?_}
     have:y≠x:=λe=>hj (ZI7 hN e1<|e▸hi)
     ext
    .show .inr {k,c,e,z.sameBut hs<|cne y c e}
  .let⟨w',z⟩:=I.cell y c e;exists w',z.sameBut hs<|cne y c e
  .let⟨e,n,ne,nf,d⟩:=I.pin p hp;exists (hs.2 p.1 ne).l e,n,ne,nf,d
 .let Fb:X.fn x=A9:=by
   rcases hf with z|z
   .show z
   .ext
  let(c,hc):=I.ok.has x (.inl hk);let(w',z):=I.cell x c hc;show wpAny_storeName_cell I.ok.kind hk hc z λh' VV hs=>?_;let(oc,pd,hocd):=id z;show h {s with heap:=h'} {I.ok,I.os,I.bare,{λb o e n hb hx=>?_,λb o e n hb hx=>?_,I.base.free,λb o e hx=>?_,I.base.tups,I.base.frzs,I.base.tbls},{m,hn.sameBut hs<|YX<|cne x c hc,λj y v' e1 e2 e3=>?_},λy c' e=>?_,I.free,I.freeC,λp hp=>?_,tracked {oc,pd,I.freeC x c hc} hs,by simpa using I.len} {c,hs,.inr hc}
  .show(hs.2 b<|Yl<|Ye (Yh e)<|I.ok.cab x c Fb hc).l (I.base.keep b o e n hb hx)
  .let⟨sl,e1⟩:=I.base.slot b o e n hb hx;exists sl,(hs.2 b<|Yl<|Ye (Yh e)<|I.ok.cab x c Fb hc).l e1
  .let⟨o',e1⟩:=I.base.there b o e hx;exists o',(hs.2 b<|Yl<|Ye (Yh e)<|I.ok.cab x c Fb hc).l e1
  .cases hj:j=i
   .subst hj;rw[hi]at e1;cases e1;rw[Y3W CH]at e2;cases e2;exists u,r,.inr {.inl hk,c,hc,VV}
   .rw[List.getElem?_set_ne (YX hj)]at e2;let(u',r',q):=hl j y v' e1 e2 e3;exists u',r',?_;rcases q with q|⟨k,c',e,z'⟩
    .show .inl q
    .show .inr {k,c',e,z'.sameBut hs ?_};rintro rfl;show hj (ZI7 hN e1<|I.ok.inj _ _ _ e hc▸hi)
  .cases CG:c'=c
   .grind
   .let⟨w2,z2⟩:=I.cell y c' e;exists w2,z2.sameBut hs CG
  .let⟨e,n,ne,nf,d⟩:=I.pin p hp;exists (hs.2 p.1 ?_).l e,n,ne,nf,d;grind
def CF{E:Ae}{i:A5}{x:B8}{Q:Unit->B5->Prop}(I:Inv X pins σ H s)(hN:X.N.Nodup)(hi:X.N[i]?=⇑x)(hx:Loc X.env.scope x)(r:RelV v u)
  (h:∀s',Inv X pins (σ.set i<|some v) H s'->Q () s')(hf:X.fn x=A9\/X.env.scope.names.M x=some .local:=by first|show .inl rfl|show .inr rfl|assumption):wpAny M A (storeName X.env x u) Q E s:=
 Zc9 I hN hi hx r (λs' I' _=>h s' I') hf
def Inv.call'(I:Inv X pins σ H s)(ho:s'.os=s.os)(u:Un (UD X.stack) ch H H' s.C s'.C)(hok:HOk X.prog X.w H' s'.C)(hg:AllBare s'.gens)
  (MM:∀b∈ch,(b∈X.ex\/(~~~X.s₀)<=b)/\b≠X.env.locals/\(∀x c,X.env.cells.M x=⇑c->c≠b)/\∀p∈X.pn++pins,p.1≠b):Inv X pins σ H' s':=by
 let(h',g',d',t',o'):=s';let e:o'=s.os:=ho
 subst e;show I.call (g':=g') (t':=t') (d':=d') u hok hg MM
end
abbrev XK:=B1->Option A7->Hp->Prop
abbrev St:=A6 (Option V)
abbrev VK:=V->Hp->Prop
abbrev TE:=St->Hp->VK->Prop
abbrev TT:=St->Hp->(B2->Hp->Prop)->Prop
abbrev TA:=St->Hp->(A6 V->Hp->Prop)->Prop
structure Ends where
 nx:St->Hp->Prop
 rt:VK
 bk:St->Hp->Prop:=λ_ _=>False
 ct:St->Hp->Prop:=λ_ _=>False
abbrev TS:=Ends->St->Hp->Prop
def EP(X:Cx)(pins:A6 (A7×Obj))(σ:St)(Q:VK)(u:B1)(s':B5):(Prop):=∃v H',Inv X pins σ H' s'/\RelV v u/\Q v H'
def TP(X:Cx)(pins:A6 (A7×Obj))(σ:St)(Q:B2->Hp->Prop)(b:B2)(s':B5):(Prop):=∃H',Inv X pins σ H' s'/\Q b H'
def Zag(X:Cx)(pins:A6 (A7×Obj))(σ:St)(Q:A6 V->Hp->Prop)(us:Ag)(s':B5):(Prop):=∃vs H',Inv X pins σ H' s'/\Vals vs us/\Q vs H'
def SP(X:Cx)(pins:A6 (A7×Obj))(tB:Ends)(f:Flow)(s':B5):(Prop):=
 match f with
 | .next=>∃σ' H',Inv X pins σ' H' s'/\tB.nx σ' H'
 | .brk=>∃σ' H',Inv X pins σ' H' s'/\tB.bk σ' H'
 | .cont=>∃σ' H',Inv X pins σ' H' s'/\tB.ct σ' H'
 | .ret u=>∃v σ' H',Inv X pins σ' H' s'/\RelV v u/\tB.rt v H'
def PE(X:Cx)(e:B4)(t:TE):(Prop):=
 ∀(pins:A6 (A7×Obj))(s:B5)(σ:St)(H:Hp)(Q:VK),Inv X pins σ H s->t σ H Q->wpAny (model X.prog X.w) X.A (eval e X.env) (EP X pins σ Q) X.xe s
def PT(X:Cx)(e:B4)(t:TT):(Prop):=
 ∀(pins:A6 (A7×Obj))(s:B5)(σ:St)(H:Hp)(Q:B2->Hp->Prop),Inv X pins σ H s->t σ H Q->wpAny (model X.prog X.w) X.A (isTrue e X.env<|eval e X.env) (TP X pins σ Q) X.xe s
def PW(X:Cx)(e:B4)(t:TT):(Prop):=
 ∀(whole:Sem B1)(pins:A6 (A7×Obj))(s:B5)(σ:St)(H:Hp)(Q:B2->Hp->Prop),Inv X pins σ H s->t σ H Q->wpAny (model X.prog X.w) X.A (isTrue e X.env whole) (TP X pins σ Q) X.xe s
def PW.pt(h:PW X e t):PT X e t:=h _
def PA(X:Cx)(es:A6 B4)(t:TA):(Prop):=
 ∀(pos:Pos)(pins:A6 (A7×Obj))(s:B5)(σ:St)(H:Hp)(Q:A6 V->Hp->Prop),Inv X pins σ H s->t σ H Q->wpAny (model X.prog X.w) X.A (spliced<|backTo pos<|starEach es X.env) (Zag X pins σ Q) X.xe s
def PS(X:Cx)(st:B6)(t:TS):(Prop):=
 ∀(pins:A6 (A7×Obj))(s:B5)(σ:St)(H:Hp)(tB:Ends),Inv X pins σ H s->t tB σ H->wpAny (model X.prog X.w) X.A (exec st X.env) (SP X pins tB) X.xe s
def PSs(X:Cx)(st:A6 B6)(t:TS):(Prop):=
 ∀(pins:A6 (A7×Obj))(s:B5)(σ:St)(H:Hp)(tB:Ends),Inv X pins σ H s->t tB σ H->wpAny (model X.prog X.w) X.A (execs st X.env) (SP X pins tB) X.xe s
def thn{α:Type}{t:Sem α}{Q Q':α->B5->Prop}{M:Model}{A:Around}{E:Ae}{s:B5}(h:wpAny M A t Q E s)(hQ:∀a s,Q a s->Q' a s):wpAny M A t Q' E s:=TX h hQ λ_ _ x=>x
section
variable{X:Cx}
inductive isB(x:V)(H:Hp)(Q:B2->Hp->Prop):Prop
 |mk (k:B2) (_:x=.bl k) (_:Q k H)
inductive tVar(i:A5)(σ:St)(H:Hp)(Q:VK):Prop
 |mk (v:_) (_:σ[i]?=⇑(⇑v)) (_:Q v H)
def tC(v:V):(TE):=λ_ H Q=>Q v H
def Zah{x:B8}{pos:Pos}(hN:X.N[i]?=⇑x)(hv:ug X.env.scope x)(hd:(x == ("__debug__":B8))=B0:=by decide)(Sl:(x == ("__classdict__":B8))=B0:=by decide):PE X (.Name x pos) (tVar i):=by
 intro pins s σ H Q I h;let(v,e,h):=h;let(m,hn,hl):=I.loc;let(u,r,l):=hl i x v hN e hv;let fin:EP X pins σ Q u s:=⟨v,H,I,r,h⟩
 rcases l with ⟨hk,hm⟩|⟨hk,c,hc,TV⟩
 .show wpAny_Name (wpAny_loadName_local I.ok.kind hk hn hm fin) hd
 .rcases hk with hk|hk
  .show wpAny_Name (wpAny_loadName_cell I.ok.kind hk hc TV fin) hd
  .show wpAny_Name (wpAny_loadName_free I.ok.kind hk hc TV fin Sl) hd
def XN{i j pos}:PE X (.Constant (.int i) j pos) (tC (.int i)):=λ_ _ _ H _ I h=>wpAny_Constant_int {.int i,H,I.tok _,{_,Z},h}
def Uo{b j pos}:PE X (.Constant (.bool b) j pos) (tC (.bl b)):=λ_ _ _ H _ I h=>Constant_bool {.bl b,H,I,Z,h}
def ud{j pos}:PE X (.Constant .none j pos) (tC .non):=λ_ _ _ H _ I h=>Constant_none ⟨.non,H,I,Z,h⟩
def ZP{x j pos}:PE X (.Constant (.str x) j pos) (tC (.str x)):=λ_ _ _ H _ I h=>Calls.Constant_str {.str x,H,I.tok _,{_,Z},h}
def Gl(X:Cx)(x:B8):(Prop):=X.env.kindOf x=some .globalImplicit
def o9{E:Ae}{u:B1}{pos:Pos}{Q:Ae}(I:Inv X pins σ H s)(hg:Gl X x)(hm:X.mg x=⇑u)(h:Q u s)
  (hd:(x == ("__debug__":B8))=B0:=by decide):wpAny (model X.prog X.w) X.A (eval (.Name x pos) X.env) Q E s:=
 Calls.Name_function_global I.ok.kind hg (Calls.loadGlobal_global (by rw[I.ok.glob];show I.mod.glob.keeps I.bk) hm h) hd
def PL{E:Ae}{u:B1}{pos:Pos}{Q:Ae}(I:Inv X pins σ H s)(hg:Gl X x)(hm:X.mg x=A8)(hv:bootBuiltins x=⇑u)(h:Q u s)
  (hn:x≠"__name__":=by decide)(hd:(x == ("__debug__":B8))=B0:=by decide):wpAny (model X.prog X.w) X.A (eval (.Name x pos) X.env) Q E s:=by let(mb,h1,h2):=I.mod.blt;show Calls.Name_function_global I.ok.kind hg (Calls.loadGlobal_builtin (by rw[I.ok.glob];show I.mod.glob.keeps I.bk) hm (by rw[I.ok.blt];show h1.keeps I.bk) ((h2 x hn).l hv) h) hd
def Ja{u:B1}{pos:Pos}(hg:Gl X x)(hm:X.mg x=⇑u)(r:RelV v u)(hd:(x == ("__debug__":B8))=B0:=by decide):PE X (.Name x pos) (tC v):=
 λ_ _ _ H _ I h=>o9 I hg hm ⟨v,H,I,r,h⟩ hd
variable{a b:B4}{ta tb:TE}{pos:Pos}
def PC(X:Cx)(op:CmpOp)(a b:B4)(t:TE):(Prop):=
 ∀(pins:A6 (A7×Obj))(s:B5)(σ:St)(H:Hp)(Q:VK),Inv X pins σ H s->t σ H Q->
  wpAny (model X.prog X.w) X.A (eval a X.env) (λv s₁=>wpAny (model X.prog X.w) X.A (eval b X.env) (λu s₂=>wpAny (model X.prog X.w) X.A (compareOp op v u) (EP X pins σ Q) X.xe s₂) X.xe s₁) X.xe s
def Zai(t:TE):(TT):=λσ H Q=>t σ H λx H1=>isB x H1 Q
def MK{e:B4}{t:TE}(h:PE X e t)(he:∀whole,isTrue e X.env whole=(do let v <-whole;standAt e.pos;holding [v] (truthy v)):=by intro _;rfl):PT X e (Zai t):=by intro pins s σ H Q I hw;show isTrue_plain (thn (h pins s σ H _ I hw) λv s1 zz=>?_) (he _);let(x,H1,I1,r1,q1):=zz;let(d,rfl,q):=q1;cases r1;show MY ⟨H1,I1,q⟩
variable{tA uc:TT}{rest:A6 B4}
def CB(t u:TT):(TT):=λσ H Q=>t σ H λc H1=>if c=A9 then u σ H1 Q else Q false H1
def tOr(t u:TT):(TT):=λσ H Q=>t σ H λc H1=>if c=A9 then Q true H1 else u σ H1 Q
def Zaj(t:TT):(TT):=λσ H Q=>t σ H λc H1=>Q (!c) H1
def EZ(ha:PT X a tA):PW X (.BoolOp .And [a] pos) tA:=by
 intro wh pins s σ H Q I h;show isTrue_and (thn (ha pins s σ H Q I h) λc s1 e=>?_);cases c with
 |true=>show isTrue_and_nil e
 |false=>show e
def t9(ha:PT X a tA):PW X (.BoolOp .Or [a] pos) tA:=by
 intro wh pins s σ H Q I h;show isTrue_or (thn (ha pins s σ H Q I h) λc s1 e=>?_);cases c with
 |false=>show isTrue_or_nil e
 |true=>show e
def EY(ha:PT X a tA)(hb:PW X (.BoolOp .And (b::rest) pos) uc):PW X (.BoolOp .And (a::b::rest) pos) (CB tA uc):=by
 intro wh pins s σ H Q I h;show isTrue_and (thn (ha pins s σ H _ I h) λc s1 XE=>?_);let(H1,I1,q1):=XE;cases c with
 |true=>show hb wh pins s1 σ H1 Q I1 q1
 |false=>exists H1,I1,q1
def MJ(ha:PT X a tA)(hb:PW X (.BoolOp .Or (b::rest) pos) uc):PW X (.BoolOp .Or (a::b::rest) pos) (tOr tA uc):=by
 intro wh pins s σ H Q I h;show isTrue_or (thn (ha pins s σ H _ I h) λc s1 XE=>?_);let(H1,I1,q1):=XE;cases c with
 |true=>exists H1,I1,q1
 |false=>show hb wh pins s1 σ H1 Q I1 q1
def MI(ha:PT X a tA):PT X (.UnaryOp .Not a pos) (Zaj tA):=by intro pins s σ H Q I h;show isTrue_not (ha pins s σ H (λc H1=>Q (!c) H1) I h)
def Zak(ta tb:TE):(TE):=λσ H Q=>ta σ H λx H1=>∃c,x=.bl c/\if c=A9 then tb σ H1 Q else Q (.bl false) H1
def Zal(ta tb:TE):(TE):=λσ H Q=>ta σ H λx H1=>∃c,x=.bl c/\if c=A9 then Q (.bl true) H1 else tb σ H1 Q
def IZ{op}(h:PE X a t):PE X (.BoolOp op [a] pos) t:=λpins s σ H Q I hw=>BoolOp_one (h pins s σ H Q I hw)
def IY(ha:PE X a ta)(hb:PE X (.BoolOp .And (b::rest) pos) tb):PE X (.BoolOp .And (a::b::rest) pos) (Zak ta tb):=by
 intro pins s σ H Q I h;show BoolOp_and (thn (ha pins s σ H _ I h) λv s1 XE=>?_);let(x,H1,I1,r1,q1):=XE;let(c,rfl,q1):=q1;cases r1;show MY ?_;cases c with
 |true=>show hb pins s1 σ H1 Q I1 q1
 |false=>exists .bl false,H1,I1,Z,q1
def o5(ha:PE X a ta)(hb:PE X (.BoolOp .Or (b::rest) pos) tb):PE X (.BoolOp .Or (a::b::rest) pos) (Zal ta tb):=by
 intro pins s σ H Q I h;show BoolOp_or (thn (ha pins s σ H _ I h) λv s1 XE=>?_);let(x,H1,I1,r1,q1):=XE;let(c,rfl,q1):=q1;cases r1;show MY ?_;cases c with
 |false=>show hb pins s1 σ H1 Q I1 q1
 |true=>exists .bl true,H1,I1,Z,q1
def tIf(t:TT)(ta tb:TE):(TE):=λσ H Q=>t σ H λc H1=>if c=A9 then ta σ H1 Q else tb σ H1 Q
def t8{c:B4}(hc:PT X c tA)(ha:PE X a ta)(hb:PE X b tb):PE X (.IfExp c a b pos) (tIf tA ta tb):=by
 intro pins s σ H Q I h;show wpAny_IfExp (thn (hc pins s σ H _ I h) λd s1 XE=>?_);let(H1,I1,q1):=XE;cases d with
 |true=>show ha pins s1 σ H1 Q I1 q1
 |false=>show hb pins s1 σ H1 Q I1 q1
end
def SqL(K:Ad)(H:Hp)(a:A7)(xs:A6 V):(Prop):=
 Rd H a (.lst xs)\/
  ∃(o:Obj)(XW:B3 B1)(n:A5),K.M a=⇑o/\o.cls=.type "list"/\o.dict=A8/\o.data=.seq XW n/\XW.o<=sizeLine/\Vals xs XW.m
def SqT(K:Ad)(H:Hp)(a:A7)(xs:A6 V):(Prop):=
 Rd H a (.tup xs)\/
  ∃(o:Obj)(XW:B3 B1)(n:A5),K.M a=⇑o/\o.cls=.type "tuple"/\o.data=.seq XW n/\XW.o<=sizeLine/\Vals xs XW.m
def o4:(B1->Option V)
 | .none=>some .non
 | .bool b=>⇑(.bl b)
 | .int i _=>⇑(.int i)
 | .str x _=>⇑(.str x)
 | .bytes b _=>⇑(.byt b)
 | .float b _=>⇑(.flt b)
 | .ref a=>some ↑a
 | .type n=>⇑(.ty n)
 |_=>none
def RelV.abs(r:RelV x u):o4 u=⇑x:=by
 cases x with
 |non=>cases r;rfl
 |bl _=>cases r;rfl
 |int _=>let(t,rfl):=r;rfl
 |str _=>let(t,rfl):=r;rfl
 |byt _=>let(t,rfl):=r;rfl
 |flt _=>let(t,rfl):=r;rfl
 |ref _=>cases r;rfl
 |ty _=>cases r;rfl
def RelV.inj(r:RelV x u)(q:RelV y u):x=y:=Yf (r.abs.symm.l q.abs)
def Vals.inj{xs ys:A6 V}{us:Ag}(h:Vals xs us)(h':Vals ys us):xs=ys:=by
 induction h generalizing ys with
 |nil=>cases h';rfl
 |cons r t ih=>cases h' with
  |cons r' t'=>rw[r.inj r',ih t']
section
variable{X:Cx}{pins:A6 (A7×Obj)}{σ:St}{H:Hp}{s:B5}{a:A7}{xs ys:A6 V}
def SqL.of{K:Ad}(h:H a=⇑(.lst xs)):SqL K H a xs:=.inl (.inl h)
def SqT.of{K:Ad}(h:H a=⇑(.tup xs)):SqT K H a xs:=.inl (.inl h)
def Inv.list(I:Inv X pins σ H s)(h:SqL X.K H a xs):∃XW:Ag,Vals xs XW/\PlainL s.C a XW.E/\xs.f<=sizeLine:=by
 rcases h with h|⟨o,XW,n,hk,hc,hd,hs,hz,r⟩
 .let⟨z,XW,n,r,e⟩:=h.ok I.hok;exists XW,r,{_,n,e,Z,Z,Z},z
 .exists XW.m,r,{o,n,I.kIn a o hk,hc,hd,pB},?_;let e:=r.f
  ext
def Inv.tuple(I:Inv X pins σ H s)(h:SqT X.K H a xs):∃XW:Ag,Vals xs XW/\IsTup s.C a XW.E/\xs.f<=sizeLine:=by
 rcases h with h|⟨o,XW,n,hk,hc,hs,hz,r⟩
 .let⟨z,XW,r,p⟩:=h.ok I.hok;exists XW,r,p,z
 .exists XW.m,r,{o,I.kIn a o hk,hc,n,pB},?_;let e:=r.f
  ext
def Inv.list_inj(I:Inv X pins σ H s)(h:SqL X.K H a xs)(h':SqL X.K H a ys):xs=ys:=by
 let(XW,r,(o,n,e,_,_,d),_):=I.list h;let(its',r',(o',n',e',_,_,d'),_):=I.list h';rw[e]at e';cases e';rw[d]at d';injection d' with d1 _
 have:XW=its':=by simpa using YF Array.toList d1
 subst this;show r.inj r'
def Inv.tuple_inj(I:Inv X pins σ H s)(h:SqT X.K H a xs)(h':SqT X.K H a ys):xs=ys:=by
 let(XW,r,(o,e,_,n,d),_):=I.tuple h;let(its',r',(o',e',_,n',d'),_):=I.tuple h';rw[e]at e';cases e';rw[d]at d';injection d' with d1 _
 have:XW=its':=by simpa using YF Array.toList d1
 subst this;show r.inj r'
end
abbrev Cx.wish(X:Cx)(E:Ae):Cx:={X with xe:=E}
abbrev Cx.nox(X:Cx):Cx:=X.wish λ_ _=>False
def Cx.Ok.wish{X:Cx}(ok:X.Ok)(E:Ae):(X.wish E).Ok:=
 ⟨ok.mod,ok.kind,ok.glob,ok.blt,ok.above,ok.inj,ok.has,ok.cab,ok.hd,ok.frames,ok.stk,ok.exf,ok.bs,ok.bsz,ok.noex,ok.exfs,ok.funs,ok.frf⟩
def Cx.Ok.unwish{X:Cx}{E:Ae}(ok:(X.wish E).Ok):X.Ok:=
 ⟨ok.mod,ok.kind,ok.glob,ok.blt,ok.above,ok.inj,ok.has,ok.cab,ok.hd,ok.frames,ok.stk,ok.exf,ok.bs,ok.bsz,ok.noex,ok.exfs,ok.funs,ok.frf⟩
section
variable{X:Cx}{pins:A6 (A7×Obj)}{σ:St}{H:Hp}{s:B5}{E:Ae}
def Inv.wish(I:Inv X pins σ H s)(E:Ae):Inv (X.wish E) pins σ H s:={I.ok.wish E,I.os,I.bare,I.base,I.loc,I.cell,I.free,I.freeC,I.pin,I.hok,I.len}
def Inv.unwish(I:Inv (X.wish E) pins σ H s):Inv X pins σ H s:=⟨I.ok.unwish,I.os,I.bare,I.base,I.loc,I.cell,I.free,I.freeC,I.pin,I.hok,I.len⟩
def SP.unwish(h:SP (X.wish E) pins tB f s'):SP X pins tB f s':=by
 cases f with
 |next=>let(σ',H',I,q):=h;exists σ',H',I.unwish,q
 |brk=>let(σ',H',I,q):=h;exists σ',H',I.unwish,q
 |cont=>let(σ',H',I,q):=h;exists σ',H',I.unwish,q
 |ret u=>let(v,σ',H',I,r,q):=h;exists v,σ',H',I.unwish,r,q
def PSs.nox{st:A6 B6}{t:TS}(h:PSs X.nox st t):PSs X st t:=λpins s σ H tB I hw=>
 TX (h pins s σ H tB (I.wish _) hw) (λ_ _ q=>q.unwish) λ_ _ z=>False.elim z
end
section
variable{X:Cx}{st:B6}{rest:A6 B6}{t u:TS}{e:B4}{te:TE}{pos:Pos}
def CA:(TS):=λtB σ H=>tB.nx σ H
def IX(t u:TS):(TS):=λtB σ H=>t {tB with nx:=u tB} σ H
def Zn:PSs X [] CA:=λ_ _ σ H _ I h=>uB ⟨σ,H,I,h⟩
def XR(h1:PS X st t)(h2:PSs X rest u):PSs X (st::rest) (IX t u):=by
 intro pins s σ H tB I h;show wpAny_execs_cons (thn (h1 pins s σ H {tB with nx:=u tB} I h) λf s1 q=>?_);cases f with
 |next=>
  let(σ',H',I',q):=q;show h2 pins s1 σ' H' tB I' q
 |ret v=>show q
 |brk=>show q
 |cont=>show q
def XJ(h1:PS X st t):PSs X [st] t:=by
 intro pins s σ H tB I h;show wpAny_execs_cons (thn (h1 pins s σ H tB I h) λf s1 q=>?_);cases f with
 |next=>show uB q
 |ret v=>show q
 |brk=>show q
 |cont=>show q
def Inv.quiet(I:Inv X pins σ H s):interactive X.env=B0:=by simp[interactive,I.ok.kind]
def oZ(te:TE):(TS):=λtB σ H=>te σ H λ_ H1=>tB.nx σ H1
def ZV(he:PE X e te)(hs:swapsWith e none pos.line X.env=pure false:=by rfl):PS X (.Expr e pos) (oZ te):=by intro pins s σ H tB I h;show wpAny_Expr_any (thn (he pins s σ H _ I h) λv s1 zz=>by let(x,H1,I1,r1,q1):=zz;exists σ,H1,I1,q1) I.quiet hs
def oY(te:TE):(TS):=λtB σ H=>te σ H tB.rt
def Zm(he:PE X e te):PS X (.Return ⇑e pos) (oY te):=by intro pins s σ H tB I h;show wpAny_Return_some (thn (he pins s σ H _ I h) λv s1 zz=>by let(x,H1,I1,r1,q1):=zz;exists x,σ,H1,I1,r1,q1)
def Cz(c:TT)(t u:TS):(TS):=λtB σ H=>c σ H λb H1=>if b=A9 then t tB σ H1 else u tB σ H1
def WO{c:B4}{a b:A6 B6}{tc:TT}(hc:PT X c tc)(ha:PSs X a t)(hb:PSs X b u):PS X (.If c a b pos) (Cz tc t u):=by
 intro pins s σ H tB I h;show wpAny_If (thn (hc pins s σ H _ I h) λd s1 XE=>?_);let(H1,I1,q1):=XE;cases d with
 |true=>show ha pins s1 σ H1 tB I1 q1
 |false=>show hb pins s1 σ H1 tB I1 q1
def oX:(TS):=λ_ _ _=>False
def PK:PS X st oX:=λ_ _ _ _ _ _ h=>h.elim
end
abbrev TG:=V->St->Hp->(St->Hp->Prop)->Prop
abbrev IW:=A6 V->St->Hp->(St->Hp->Prop)->Prop
def PG(X:Cx)(target:B4)(t:TG):(Prop):=
 ∀(pins:A6 (A7×Obj))(s:B5)(σ:St)(H:Hp)(v:V)(u:B1)(Q:St->Hp->Prop),Inv X pins σ H s->RelV v u->t v σ H Q->
  wpAny (model X.prog X.w) X.A (assign target X.env u) (λ_ s'=>∃σ' H',Inv X pins σ' H' s'/\Q σ' H') X.xe s
def Cy(X:Cx)(ts:A6 B4)(t:IW):(Prop):=
 ∀(pins:A6 (A7×Obj))(s:B5)(σ:St)(H:Hp)(vs:A6 V)(us:Ag)(Q:St->Hp->Prop),Inv X pins σ H s->Vals vs us->t vs σ H Q->
  wpAny (model X.prog X.w) X.A (assignInOrder ((assignEach ts X.env).Q (·.2)) us) (λ_ s'=>∃σ' H',Inv X pins σ' H' s'/\Q σ' H') X.xe s
abbrev OP:=V->V->V->Hp->(Hp->Prop)->Prop
def IV(X:Cx)(t:OP):(Prop):=
 ∀(pins:A6 (A7×Obj))(s:B5)(σ:St)(H:Hp)(o i v:V)(ov iv u:B1)(Q:Hp->Prop),Inv X pins σ H s->RelV o ov->RelV i iv->RelV v u->t o i v H Q->
  wpAny (model X.prog X.w) X.A (setItem ov iv u) (λ_ s'=>∃H',Inv X pins σ H' s'/\Q H') X.xe s
abbrev EX:=V->V->Hp->VK->Prop
def t7(X:Cx)(op:Operator)(t:EX):(Prop):=
 ∀(pins:A6 (A7×Obj))(s:B5)(σ:St)(H:Hp)(x y:V)(v u:B1)(Q:VK),Inv X pins σ H s->RelV x v->RelV y u->t x y H Q->
  wpAny (model X.prog X.w) X.A (inplaceOp op v u) (EP X pins σ Q) X.xe s
section
variable{X:Cx}{pos:Pos}
def OO(i:A5):(TG):=λv σ H Q=>Q (σ.set i<|some v) H
def t6{x:B8}(hN:X.N.Nodup)(hi:X.N[i]?=⇑x)(hx:Loc X.env.scope x)(hf:X.fn x=A9\/X.env.scope.names.M x=some .local:=by first|show .inl rfl|show .inr rfl|assumption):PG X (.Name x pos) (OO i):=by intro pins s σ H v u Q I r h;show pP (CF I hN hi hx r (λs' I'=>{_,H,I',h}) hf)
def Zb(i:A5){x:B8}(hN:decide X.N.Nodup=A9:=by kernel_rfl)(hi:X.N[i]?=⇑x:=by rfl)(hx:Loc X.env.scope x:=by show .inl rfl)(hf:X.fn x=A9\/X.env.scope.names.M x=some .local:=by first|show .inl rfl|show .inr rfl|assumption):PG X (.Name x pos) (OO i):=t6 (YJ hN) hi hx hf
inductive gNil(vs:A6 V)(σ:St)(H:Hp)(Q:St->Hp->Prop):Prop
 |mk  (_:vs=[]) (_:Q σ H)
inductive gCons(t:TG)(u:IW)(vs:A6 V)(σ:St)(H:Hp)(Q:St->Hp->Prop):Prop
 |mk (v r:_) (_:vs=v::r) (_:t v σ H λσ' H'=>u r σ' H' Q)
def PJ:Cy X [] gNil:=by intro pins s σ H vs us Q I r h;let(e,h):=h;show assignInOrder_nil ⟨σ,H,I,h⟩
def Zw{e:B4}{es:A6 B4}{t:TG}{u:IW}(h1:PG X e t)(h2:Cy X es u)
  (hs:(assignEach (e::es) X.env).Q (·.2)=assign e X.env::(assignEach es X.env).Q (·.2):=by rfl):Cy X (e::es) (gCons t u):=by
 intro pins s σ H vs us Q I r h;let(v,vr,e1,h):=h;subst e1;cases r with
 |cons r rr=>
  rw[hs];show assignInOrder_cons (thn (h1 pins s σ H _ _ _ I r h) λ_ s1 XE=>?_);let(σ1,H1,I1,q1):=XE;show h2 pins s1 σ1 H1 _ _ Q I1 rr q1
inductive gTup(K:Ad)(n:A5)(t:IW)(v:V)(σ:St)(H:Hp)(Q:St->Hp->Prop):Prop
 |mk (a xs:_) (_:v=.ref a) (_:SqT K H a xs) (_:xs.f=n) (_:t xs σ H Q)
def Cw{k:A5}(hc:X.calm=A9)(h:Cy X es t)
  (hn:(assignEach es X.env).f=n:=by rfl)(Wo:(assignEach es X.env).findIdx? (·.1)=A8:=by rfl):PG X (.Tuple es k pos) (gTup X.K n t):=by
 intro pins s σ H v u Q I r hw;let(a,xs,e1,hq,hl,hw):=hw;subst e1;cases r;let(XW,rv,ht,hz):=I.tuple hq;show assign_Tuple_tuple (I.ok.hd hc) ht (by simp[hn,<-hl,rv.length]) Wo λh' hx=>?_;let I1:Inv X pins σ H {s with heap:=h'}:=I.kept (t':=s.toks) λb o e=>hx b o (Yl<|Yh e) e
 show h pins _ σ H xs _ Q I1 pB hw
def oW(to ti:TE)(t:OP):(TG):=λv σ H Q=>to σ H λo H1=>ti σ H1 λi H2=>t o i v H2 λH3=>Q σ H3
def t5{o i:B4}{to ti:TE}{t:OP}(ho:PE X o to)(hi:PE X i ti)(hs:IV X t)
  (ha:∀v,assign (.Subscript o i pos) X.env v=(do
   let ov <-holding [v] (eval o X.env)
   let iv <-holding [v,ov] (eval i X.env)
   standAt pos
   holding [v,ov,iv] (setItem ov iv v)
   release [v,ov,iv] []):=by intro _;rfl):PG X (.Subscript o i pos) (oW to ti t):=by intro pins s σ H v u Q I r h;rw[ha];show XU (Ro<|thn (ho pins s σ H _ I h) λov s1 XE=>?_);let(x,H1,I1,r1,q1):=XE;show XU (Ro<|thn (hi pins s1 σ H1 _ I1 q1) λiv s2 XE=>?_);let(y,H2,I2,r2,q2):=XE;show XU (uv<|XU<|Ro<|thn (hs pins s2 σ H2 x y v ov iv u _ I2 r1 r2 r q2) λ_ s3 XE=>?_);let(H3,I3,q3):=XE;show wpAny_release ⟨σ,H3,I3,q3⟩
def tAsg(te:TE)(g:TG):(TS):=λtB σ H=>te σ H λx H1=>g x σ H1 tB.nx
def EW{tg e:B4}{te:TE}{g:TG}(he:PE X e te)(hg:PG X tg g)(hs:swapsWithSole [tg] e pos.line X.env=pure false:=by rfl)(hw:swappedStores [tg] e X.env=pure none:=by rfl)
  (h1:(assignEach [tg] X.env).Q (·.2)=[assign tg X.env]:=by rfl):PS X (.Assign [tg] e pos) (tAsg te g):=by intro pins s σ H tB I h;show wpAny_Assign_stores (thn (he pins s σ H _ I h) λv s1 XE=>?_) hs hw;let(x,H1,I1,r1,q1):=XE;rw[h1];show thn (hg pins s1 σ H1 x v _ I1 r1 q1) λ_ s2 q=>q
def PH{i:A5}{x:B8}{e:B4}{te:TE}{pos':Pos}(hN:X.N.Nodup)(hi:X.N[i]?=⇑x)(hx:Loc X.env.scope x)(he:PE X e te)(hs:swapsWith e ⇑(.Name x pos') pos.line X.env=pure false:=by rfl)(hf:X.fn x=A9\/X.env.scope.names.M x=some .local:=by first|show .inl rfl|show .inr rfl|assumption):
  PS X (.Assign [.Name x pos'] e pos) (tAsg te<|OO i):=by intro pins s σ H tB I h;show wpAny_Assign_Name (thn (he pins s σ H _ I h) λv s1 XE=>?_) hs;let(y,H1,I1,r1,q1):=XE;show CF I1 hN hi hx r1 (λs2 I2=>{_,H1,I2,q1}) hf
def Zd(i:A5){x:B8}{e:B4}{te:TE}{pos':Pos}(he:PE X e te)(hN:decide X.N.Nodup=A9:=by kernel_rfl)(hi:X.N[i]?=⇑x:=by rfl)(hx:Loc X.env.scope x:=by show .inl rfl)(hs:swapsWith e (some<|.Name x pos') pos.line X.env=pure false:=by rfl)(hf:X.fn x=A9\/X.env.scope.names.M x=some .local:=by first|show .inl rfl|show .inr rfl|assumption):PS X (.Assign [.Name x pos'] e pos) (tAsg te<|OO i):=PH (YJ hN) hi hx he hs hf
def oV(i:A5)(te:TE)(ti:EX):(TS):=λtB σ H=>∃x,σ[i]?=⇑(⇑x)/\te σ H λy H1=>ti x y H1 λz H2=>tB.nx (σ.set i<|some z) H2
def Cv{i:A5}{x:B8}{e:B4}{te:TE}{op:Operator}{ti:EX}{pos':Pos}(hN:X.N.Nodup)(hi:X.N[i]?=⇑x)(hx:Loc X.env.scope x)(he:PE X e te)(ho:t7 X op ti)(hf:X.fn x=A9\/X.env.scope.names.M x=some .local:=by first|show .inl rfl|show .inr rfl|assumption):
  PS X (.AugAssign (.Name x pos') op e pos) (oV i te ti):=by
 intro pins s σ H tB I h;let(v,e1,h):=h;let(m,hn,hl):=I.loc;let vis:ug X.env.scope x:=by rcases hx with k|k;show .inl k;show .inr (.inl k)
 let(u,r,l):=hl i x v hi e1 vis;show wpAny_AugAssign_Name ?_;let go:wpAny (model X.prog X.w) X.A (eval e X.env) (λw s₂=>wpAny (model X.prog X.w) X.A (inplaceOp op u w) (λr s₃=>wpAny (model X.prog X.w) X.A (storeName X.env x r) (λ_=>SP X pins tB .next) X.xe s₃) X.xe s₂) X.xe s:=by show thn (he pins s σ H _ I h) λw s1 XE=>?_;let(y,H1,I1,r1,q1):=XE;show thn (ho pins s1 σ H1 v y u w _ I1 r r1 q1) λz s2 XE=>?_;let(zv,H2,I2,r2,q2):=XE;show CF I2 hN hi hx r2 (λs3 I3=>{_,H2,I3,q2}) hf
 rcases l with ⟨hk,hm⟩|⟨hk,c,hc,TV⟩
 .show wpAny_loadName_local I.ok.kind hk hn hm go
 .rcases hk with hk|hk
  .show wpAny_loadName_cell I.ok.kind hk hc TV go
  .rcases hx with k|k
   .have:X.env.scope.names.M x=some .free:=hk
    ext
   .have:X.env.scope.names.M x=some .free:=hk
    ext
def oU(to ti te:TE)(tget:V->V->Hp->VK->Prop)(tZ:EX)(tset:OP):(TS):=λtB σ H=>to σ H λo H1=>ti σ H1 λi H2=>tget o i H2 λx H3=>te σ H3 λy H4=>tZ x y H4 λz H5=>tset o i z H5 λH6=>tB.nx σ H6
def Cu(X:Cx)(t:V->V->Hp->VK->Prop):(Prop):=
 ∀(pins:A6 (A7×Obj))(s:B5)(σ:St)(H:Hp)(o i:V)(ov iv:B1)(Q:VK),Inv X pins σ H s->RelV o ov->RelV i iv->t o i H Q->
  wpAny (model X.prog X.w) X.A (getItem ov iv) (EP X pins σ Q) X.xe s
def tY{o i e:B4}{to ti te:TE}{tget:V->V->Hp->VK->Prop}{tZ:EX}{tset:OP}{op:Operator}{Tw:Pos}(ho:PE X o to)(hi:PE X i ti)(hg:Cu X tget)(he:PE X e te)(hp:t7 X op tZ)(hs:IV X tset)
  (ha:∀ov iv new,augStore i ov iv new=(do holding [new,ov,iv] (setItem ov iv new);release [new,ov,iv] [];pure .next):=by intros;rfl):PS X (.AugAssign (.Subscript o i Tw) op e pos) (oU to ti te tget tZ tset):=by intro pins s σ H tB I h;show wpAny_AugAssign_SubscriptAny (thn (ho pins s σ H _ I h) λov s1 XE=>?_) ha;let(x1,H1,I1,r1,q1):=XE;show thn (hi pins s1 σ H1 _ I1 q1) λiv s2 XE=>?_;let(x2,H2,I2,r2,q2):=XE;show thn (hg pins s2 σ H2 x1 x2 ov iv _ I2 r1 r2 q2) λold s3 XE=>?_;let(x3,H3,I3,r3,q3):=XE;show thn (he pins s3 σ H3 _ I3 q3) λv s4 XE=>?_;let(x4,H4,I4,r4,q4):=XE;show thn (hp pins s4 σ H4 x3 x4 old v _ I4 r3 r4 q4) λnew s5 XE=>?_;let(x5,H5,I5,r5,q5):=XE;show thn (hs pins s5 σ H5 x1 x2 x5 ov iv new _ I5 r1 r2 r5 q5) λ_ s6 zz=>by let(H6,I6,q6):=zz;exists σ,H6,I6,q6
def ipI(f:A0->A0->A0):(EX):=λx y H Q=>∃i j,x=.int i/\y=.int j/\Q (.int<|f i j) H
def Ct:t7 X .Add (ipI λi j=>i+j):=by intro pins s σ H x y v u Q I r1 r2 h;let(i,j,e1,e2,q):=h;subst e1;subst e2;let(t,rfl):=r1;let(t',rfl):=r2;show iadd_int {.int _,H,I.tok _,{_,Z},q}
def IU:t7 X .Sub (ipI λi j=>i-j):=by intro pins s σ H x y v u Q I r1 r2 h;let(i,j,e1,e2,q):=h;subst e1;subst e2;let(t,rfl):=r1;let(t',rfl):=r2;show isub_int {.int _,H,I.tok _,{_,Z},q}
def oT(c:TT)(tb:TS):(TS):=λtB σ H=>∃W:A5->St->Hp->Prop,(∃m,W m σ H)/\∀m σ H,W m σ H->
 c σ H λb H1=>if b=A9 then ∃N:St->Hp->Prop,(∀σ' H',N σ' H'->∃m',m'<m/\W m' σ' H')/\tb {tB with nx:=N,ct:=N,bk:=tB.nx} σ H1 else tB.nx σ H1
def tX{c:B4}{body:A6 B6}{tc:TT}{tb:TS}(hp:PassesOwn (model X.prog X.w) X.A X.env X.xe)(hc:PT X c tc)(hb:PSs X body tb):PS X (.While c body [] pos) (oT tc tb):=by
 intro pins s σ H tB I h;let(W,(m0,w0),turn):=h;show wpAny_While (codeAny_whileLoop (λn s'=>∃σ' H',Inv X pins σ' H' s'/\W n σ' H') ?_ m0 ⟨σ,H,I,w0⟩);intro n s1 Ω;let⟨σ1,H1,I1,w1⟩:=Ω;show Jn hp (thn (hc pins s1 σ1 H1 _ I1<|turn n σ1 H1 w1) λb s2 XE=>?_);let(H2,I2,q2):=XE;cases b with
 |true=>
  let(N,hN,q2):=q2;show Jn hp (thn (hb pins s2 σ1 H2 _ I2 q2) λf s3 q3=>?_);cases f with
  |next=>
   let(σ3,H3,I3,n3):=q3;let(m',hm,w3):=hN σ3 H3 n3;exists m',hm,σ3,H3,I3,w3
  |cont=>
   let(σ3,H3,I3,n3):=q3;let(m',hm,w3):=hN σ3 H3 n3;exists m',hm,σ3,H3,I3,w3
  |brk=>show q3
  |ret v=>show q3
 |false=>
  show uB ⟨σ1,H2,I2,q2⟩
end
structure It where
 go:A5->Hp->Prop
 yld:A5->Hp->V->Hp->Prop
 stop:A5->Hp->Prop
def FpOk(X:Cx)(pins:A6 (A7×Obj))(H:Hp)(b:A7):(Prop):=
 H b=A8/\b≠X.env.locals/\b∉X.fs/\(b∈X.ex\/(~~~X.s₀)<=b)/\(∀x c,X.env.cells.M x=⇑c->c≠b)/\∀p∈X.pn++pins,p.1≠b
def Inv.fpOk{b:A7}(I:Inv X pins σ H s)(hb:(~~~s)<=b)(hn:H' b=A8):FpOk X pins H' b:=by
 exists hn,Sa<|Ye I.lt hb,I.nofs hb,.inr<|Ym I.sz hb,λx c e z=>?_,λp hp z=>?_
 .let⟨v,q⟩:=I.cell x c e;show absurd (Ye q.lt<|by rwa[z]) (SQ _)
 .show absurd (Ye (Yh (I.pin p hp).1)<|by rwa[z]) (SQ _)
structure Turn(P:Program)(w:World)(K:Ad)(tg:B4)(o7:It)(fp:A6 A7)(it:A7)(tn:A5->Heap->Prop):Prop where
 mem:it∈fp
 obj:∀i h,tn i h->∀b∈fp,∃o,h.G b=⇑o/\∀v,o.data≠.cell v
 keep:∀i h h',tn i h->(∀b∈fp,∀o,h.G b=⇑o->h'.G b=⇑o)->tn i h'
 item:∀(X:Cx),X.prog=P->X.w=w->X.K=K->X.calm=A9->∀(i:A5)(pins:A6 (A7×Obj))(s:B5)(σ:St)(H:Hp)(E:Ae),Inv X pins σ H s->(∀b∈fp,FpOk X pins H b)->tn i s.C->o7.go i H->
  wpAny (model P w) X.A (pyNext<|.ref it) (λr s1=>∃u,r=⇑u/\
   wpAny (model P w) X.A (letOwnedTupleGo tg ↑it u) (λ_ s2=>∃x H',Inv X pins σ H' s2/\RelV x u/\o7.yld i H x H'/\tn (i+1) s2.C/\∀b∈fp,H' b=A8) E s1) E s
 done:∀(X:Cx),X.prog=P->X.w=w->X.K=K->X.calm=A9->∀(i:A5)(pins:A6 (A7×Obj))(s:B5)(σ:St)(H:Hp)(E:Ae),Inv X pins σ H s->(∀b∈fp,FpOk X pins H b)->tn i s.C->o7.stop i H->
  wpAny (model P w) X.A (pyNext<|.ref it) (λr s1=>r=A8/\Inv X pins σ H s1) E s
 self:∀(A:Around)(i:A5)(s:B5)(Q:Ae)(E:Ae),tn i s.C->Q ↑it s->wpAny (model P w) A (pyIter<|.ref it) Q E s
abbrev TI:=St->Hp->(It->Hp->Prop)->Prop
def PIE(X:Cx)(pins:A6 (A7×Obj))(σ:St)(tg:B4)(R:It->Hp->Prop)(tW:B1)(s2:B5):(Prop):=
 ∃(it:A7)(fp:A6 A7)(tn:A5->Heap->Prop)(o7:It)(H':Hp),tW=.ref it/\Inv X pins σ H' s2/\Turn X.prog X.w X.K tg o7 fp it tn/\tn 0 s2.C/\(∀b∈fp,FpOk X pins H' b)/\R o7 H'
def PI(X:Cx)(tg iter:B4)(wi:TI):(Prop):=
 ∀(pins:A6 (A7×Obj))(s:B5)(σ:St)(H:Hp)(R:It->Hp->Prop),Inv X pins σ H s->wi σ H R->
  wpAny (model X.prog X.w) X.A (eval iter X.env) (λv s1=>wpAny (model X.prog X.w) X.A (pyIter v) (PIE X pins σ tg R) X.xe s1) X.xe s
def MH{E:Ae}{s:B5}{it:A7}{o:Obj}{n:String}{vs:B3 B1}{Q:Unit->B5->Prop}(ho:s.C.G it=⇑o)(hc:o.cls=.type n)(hd:o.data=.fields vs)
  (hn:["enumerate","zip","dict_itemiterator","dict_reverseitemiterator","odict_iterator","itertools.zip_longest","itertools.pairwise"].contains n=B0)(hQ:Q () s):wpAny M A (letOwnedTupleGo tg ↑it u) Q E s:=by
 cases tg<;>first
  |show Yg hQ
  | (cases u<;>first
    |show Yg hQ
    | (show XU (CU ho ?_)
       rw[hc,hd];change wpAny M A (if (["enumerate","zip","dict_itemiterator","dict_reverseitemiterator","odict_iterator","itertools.zip_longest","itertools.pairwise"].contains n&&vs[0]? == some (rawInt _))=A9 then _ else _) Q E s
       rw[Yj J];show Yg hQ))
def ON(K:Ad)(a:A7):(It):=
 {λi H=>∃xs x,SqL K H a xs/\xs[i]?=⇑x,λi H x H'=>H'=H/\∀xs,SqL K H a xs->xs[i]?=⇑x,λi H=>∃xs,SqL K H a xs/\xs.f<=i}
def OM(K:Ad)(a:A7):(It):=
 {λi H=>∃xs x,SqT K H a xs/\xs[i]?=⇑x,λi H x H'=>H'=H/\∀xs,SqT K H a xs->xs[i]?=⇑x,λi H=>∃xs,SqT K H a xs/\xs.f<=i}
def KU(lo:A0)(n:A5):(It):={λi _=>i<n,λi H x H'=>H'=H/\x=.int (lo+i),λi _=>n<=i}
def ZE5{P:Program}{w:World}{K:Ad}{tg:B4}(a it:A7):Turn P w K tg (ON K a) [it] it (λi h=>h.IsListIter it a i) where
 mem:=AP
 obj:=λi h st b hb=>by
  let e:b=it:=by simpa using hb
  subst e;let(o,e,c,d):=st;exists o,e,λv z=>by ext
 keep:=λi h h' st k=>st.at λo e=>k it AP o e
 item:=by
  intro X hP hw hK hc i pins s σ H E I hf st hg;subst hP hw hK;let(xs,x,hq,hx):=hg;let(XW,rv,p,hz):=I.list hq;let(u,hu,ru):=rv.get hx;let(f0,f1,f2,f3,f4,f5):=hf it AP;show wpAny_pyNext_list_item st p.isList (x:=u) (by simpa using hu) λh' XT sb=>?_;let I1:Inv X pins σ H {s with heap:=h'}:=I.turned (t':=s.toks) (λb o hb e=>(sb.2 b hb).l e) f0 f1 f3 f4 f5
  let(o,e,c,d):=id XT;exists u,Z,MH (s:={s with heap:=h'}) e c d D {x,H,I1,ru,{Z,λys hy=>by rwa[I.list_inj hy hq]},XT,λb hb=>(hf b hb).1}
 done:=by
  intro X hP hw hK hc i pins s σ H E I hf st hg;subst hP hw hK;let(xs,hq,hx):=hg;let(XW,rv,p,hz):=I.list hq;let(f0,f1,f2,f3,f4,f5):=hf it AP;let hl:=rv.f
  show wpAny_pyNext_list_end (I.ok.hd hc) st p.isList (by simp;ext) λh' eb=>{Z,I.turned (t':=s.toks) (λb o hb e=>eb b o hb e) f0 f1 f3 f4 f5}
 self:=λ_ _ _ _ _ st h=>wpAny_pyIter_listiter st h
def Za4{P:Program}{w:World}{K:Ad}{tg:B4}(a it:A7):Turn P w K tg (OM K a) [it] it (λi h=>h.IsTupleIter it a i) where
 mem:=AP
 obj:=λi h st b hb=>by
  let e:b=it:=by simpa using hb
  subst e;let(o,e,c,d):=st;exists o,e,λv z=>by ext
 keep:=λi h h' st k=>st.at λo e=>k it AP o e
 item:=by
  intro X hP hw hK hc i pins s σ H E I hf st hg;subst hP hw hK;let(xs,x,hq,hx):=hg;let(XW,rv,p,hz):=I.tuple hq;let(u,hu,ru):=rv.get hx;let(f0,f1,f2,f3,f4,f5):=hf it AP;show wpAny_pyNext_tuple_item st (show s.C.IsTuple a XW.E from p) (x:=u) (by simpa using hu) λh' XT sb=>?_;let I1:Inv X pins σ H {s with heap:=h'}:=I.turned (t':=s.toks) (λb o hb e=>(sb.2 b hb).l e) f0 f1 f3 f4 f5
  let(o,e,c,d):=id XT;exists u,Z,MH (s:={s with heap:=h'}) e c d D {x,H,I1,ru,{Z,λys hy=>by rwa[I.tuple_inj hy hq]},XT,λb hb=>(hf b hb).1}
 done:=by
  intro X hP hw hK hc i pins s σ H E I hf st hg;subst hP hw hK;let(xs,hq,hx):=hg;let(XW,rv,p,hz):=I.tuple hq;let(f0,f1,f2,f3,f4,f5):=hf it AP;let hl:=rv.f
  show wpAny_pyNext_tuple_end (I.ok.hd hc) st (show s.C.IsTuple a XW.E from p) (by ext) λh' eb=>{Z,I.turned (t':=s.toks) (λb o hb e=>eb b o hb e) f0 f1 f3 f4 f5}
 self:=λ_ _ _ _ _ st h=>wpAny_pyIter_tupleiter st h
def Zd7{P:Program}{w:World}{K:Ad}{tg:B4}(it:A7)(lo:A0)(n:A5):Turn P w K tg (KU lo n) [it] it (λi h=>IsRangeIter h it (lo+(i:A5)*1) ((n:A0)-(i:A5)) 1) where
 mem:=AP
 obj:=λi h st b hb=>by
  ext
 keep:=λi h h' st k=>k it AP _ st
 item:=by
  intro X hP hw hK hc i pins s σ H E I hf st hg;subst hP hw hK;let(f0,f1,f2,f3,f4,f5):=hf it AP;let W:=Walks.range (prog:=X.prog) (w:=X.w) (I.ok.hd hc) it lo 1 n
  show W.item i s _ _ hg st λv h' tk hv XT kk=>?_;let(t,rfl):=hv;let I1:Inv X pins σ H {s with heap:=h',toks:=tk}:=I.turned (λb o hb e=>kk b o (by ext) e) f0 f1 f3 f4 f5
  exists _,Z,MH (s:={s with heap:=h',toks:=tk}) (n:="range_iterator") XT Z Z D {.int<|lo+i,H,I1,{t,?_},⟨Z,Z⟩,XT,λb hb=>(hf b hb).1}
  ext
 done:=by intro X hP hw hK hc i pins s σ H E I hf st hg;let(f0,f1,f2,f3,f4,f5):=hf it AP;show wpAny_pyNext_range_end (I.ok.hd hc) st (by have:n<=i:=hg;lia) λh' eb=>{Z,I.turned (t':=s.toks) (λb o hb e=>eb b o hb e) f0 f1 f3 f4 f5}
 self:=λ_ _ _ _ _ st h=>wpAny_pyIter_rangeiter st h
section
variable{X:Cx}{tg:B4}
inductive xList(K:Ad)(x:V)(H1:Hp)(R:It->Hp->Prop):Prop
 |mk (a:_) (_:x=.ref a) (_:∃xs,SqL K H1 a xs) (_:R (ON K a) H1)
def Cs(K:Ad)(tl:TE):(TI):=λσ H R=>tl σ H λx H1=>xList K x H1 R
inductive xTpl(K:Ad)(x:V)(H1:Hp)(R:It->Hp->Prop):Prop
 |mk (a:_) (_:x=.ref a) (_:∃xs,SqT K H1 a xs) (_:R (OM K a) H1)
def Cr(K:Ad)(tl:TE):(TI):=λσ H R=>tl σ H λx H1=>xTpl K x H1 R
def oS{l:B4}{tl:TE}(hl:PE X l tl):PI X tg l (Cs X.K tl):=by
 intro pins s σ H R I h;show thn (hl pins s σ H _ I h) λv s1 XE=>?_;let(x,H1,I1,r1,q1):=XE;let(a,e,(xs,hq),q):=q1;subst e;cases r1;let(XW,rv,p,hz):=I1.list hq;show Fl p.isList ?_;exists (~~~s1),[(~~~s1)],_,_,H1,Z,I1.kept (t':=s1.toks) λb o e=>Xs _ e,ZE5 a _,{_,Qd _ Z,Z,Z},λb hb=>?_,q;let e:b=(~~~s1):=by simpa using hb
 subst e;show I1.fpOk (XI _) (I1.hok.fresh<|XI _)
def Cq{l:B4}{tl:TE}(hl:PE X l tl):PI X tg l (Cr X.K tl):=by
 intro pins s σ H R I h;show thn (hl pins s σ H _ I h) λv s1 XE=>?_;let(x,H1,I1,r1,q1):=XE;let(a,e,(xs,hq),q):=q1;subst e;cases r1;let(XW,rv,p,hz):=I1.tuple hq;show uM (show s1.C.IsTuple a XW.E from p) ?_;exists (~~~s1),[(~~~s1)],_,_,H1,Z,I1.kept (t':=s1.toks) λb o e=>Xs _ e,Za4 a _,{_,Qd _ Z,Z,Z},λb hb=>?_,q;let e:b=(~~~s1):=by simpa using hb
 subst e;show I1.fpOk (XI _) (I1.hok.fresh<|XI _)
def Zx7{R:It->Hp->Prop}{E:Ae}{lo hi:A0}{t u v:Tok}{tk:A5}(I:Inv X pins σ H s)(h1:-(2^62)<=lo)(h2:lo<2^62)(h3:-(2^62)<=hi)(h4:hi<2^62)
  (q:R (KU lo (hi-lo).j) H):wpAny (model X.prog X.w) X.A (pyIter<|.ref (~~~s)) (PIE X pins σ tg R) E {s with heap:=s.C.push {cls:=.type "range",data:=.fields #[.int lo t,.int hi u,.int 1 v]},toks:=tk}:=by
 show wpAny_pyIter_range (IsRange.new ..) (small_one h1 h2 h3 h4) ?_;let I1:Inv X pins σ H {s with heap:=s.C.push {cls:=.type "range",data:=.fields #[.int lo t,.int hi u,.int 1 v]},toks:=tk}:=I.kept λb o e=>Xs _ e
 show⟨(s.C.push {cls:=.type "range",data:=.fields #[.int lo t,.int hi u,.int 1 v]}).objs.o,[(s.C.push {cls:=.type "range",data:=.fields #[.int lo t,.int hi u,.int 1 v]}).objs.o],_,_,H,Z,
  I1.kept (t':=tk) λb o e=>Xs _ e,Zd7 _ lo (hi-lo).j,?_,λb hb=>?_,q⟩
 .let e1:lo+((0:A5):A0)*1=lo:=AP;let e2:(((hi-lo).j:A5):A0)-((0:A5):A0)=Builtin.Range.rangeSize lo hi 1:=by rw[rangeSize_one];split<;>grind
  rw[e1,e2];show Qd _ rfl
 .let e:b=(s.C.push {cls:=.type "range",data:=.fields #[.int lo t,.int hi u,.int 1 v]}).objs.o:=by simpa using hb
  subst e;show I1.fpOk (XI _) (I1.hok.fresh<|XI _)
inductive xRng(vs:A6 V)(H1:Hp)(R:It->Hp->Prop):Prop
 |mk (j:A0) (_:vs=[.int j]) (_:-(2^62)<=j) (_:j<2^62) (_:R (KU 0 j.j) H1)
def oQ(ta:TA):(TI):=λσ H R=>ta σ H λvs H1=>xRng vs H1 R
def oP(ta:TA):(TI):=λσ H R=>ta σ H λvs H1=>∃i j:A0,vs=[.int i,.int j]/\(-(2^62)<=i/\i<2^62/\-(2^62)<=j/\j<2^62)/\R (KU i (j-i).j) H1
def ZO{a:B4}{ta:TA}{p pos:Pos}(hg:Gl X "range")(hm:X.mg "range"=A8)(ha:PA X [a] ta)(hs:starEach [a] X.env=[(false,eval a X.env)]:=by rfl):PI X tg (.Call (.Name "range" p) [a] [] pos) (oQ ta):=by
 intro pins s σ H R I h;show Call_ (PL I hg hm boot_range<|Lf (thn (ha pos pins s σ H _ I h) λus s1 XE=>?_) hs Z);let(vs,H1,I1,r1,q1):=XE;let(j,e,q1,q2,q):=q1;subst e;cases r1 with
 |cons r rr=>
  cases rr;let(t,rfl):=r;show call_range_1 (Zx7 I1 (by ext) (by ext) q1 q2<|by simpa using q)
def ZS5{a b:B4}{ta:TA}{p pos:Pos}(hg:Gl X "range")(hm:X.mg "range"=A8)(ha:PA X [a,b] ta)(hs:starEach [a,b] X.env=[(false,eval a X.env),(false,eval b X.env)]:=by rfl)(UC:starEach [b] X.env=[(false,eval b X.env)]:=by rfl):
  PI X tg (.Call (.Name "range" p) [a,b] [] pos) (oP ta):=by
 intro pins s σ H R I h;show Call_ (PL I hg hm boot_range<|Lf (thn (ha pos pins s σ H _ I h) λus s1 zz=>?_) (by rw[hs,UC])<|by rw[UC];rfl);let(vs,H1,I1,r1,q1):=zz;let(i,j,e,(q1,q2,q3,q4),q):=q1;subst e;cases r1 with
 |cons r rr=>
  cases rr with
  |cons r' rr=>
   cases rr;let(t,rfl):=r;let(t',rfl):=r';show call_range_2 (Zx7 I1 q1 q2 q3 q4 q)
def oO(wi:TI)(g:TG)(tb:TS):(TS):=λtB σ H=>wi σ H λo7 H1=>∃W:A5->A5->St->Hp->Prop,(∃m,W 0 m σ H1)/\∀i m σ H,W i m σ H->
 (o7.stop i H/\tB.nx σ H)\/(o7.go i H/\∃N:St->Hp->Prop,(∀σ' H',N σ' H'->∃m',m'<m/\W (i+1) m' σ' H')/\∀x H',o7.yld i H x H'->g x σ H' λσ2 H2=>tb {tB with nx:=N,ct:=N,bk:=tB.nx} σ2 H2)
def VM(fp:A6 A7)(h:Heap):(A6 (A7×Obj)):=fp.filterMap λb=>(h.G b).Q λo=>(b,o)
def EU{b:A7}{o:Obj}(hb:b∈fp)(e:h.G b=⇑o):(b,o)∈VM fp h:=List.mem_filterMap.X {b,hb,by rw[e];rfl}
def oM{p:A7×Obj}(hp:p∈VM fp h):p.1∈fp/\h.G p.1=some p.2:=by
 let(b,hb,e):=List.mem_filterMap.Y hp;cases q:h.G b with
 |none=>ext
 |some o=>
  grind
def Inv.pinned(I:Inv X pins σ H s)(hf:∀b∈fp,FpOk X pins H b)(ho:∀b∈fp,∃o,s.C.G b=⇑o/\∀v,o.data≠.cell v):Inv X (pins++VM fp s.C) σ H s:=
 I.pins_of λp hp=>(Xi.Y hp).elim (λz=>I.pin p<|Yc _ z) λz=>by let(hb,e):=oM z;let(f0,f1,f2,_):=hf p.1 hb;grind
def Inv.unpinned{pins pl:A6 (A7×Obj)}(I:Inv X (pins++pl) σ H s):Inv X pins σ H s:=I.pins_of λp hp=>I.pin p (Yc _<|Yy _ hp)
def WU{iter:B4}{body:A6 B6}{wi:TI}{g:TG}{tb:TS}{pos:Pos}(hp:PassesOwn (model X.prog X.w) X.A X.env X.xe)(hc:X.calm=A9)(hi:PI X tg iter wi)(hg:PG X tg g)(hb:PSs X body tb)
  (hs:∀x,foldedSetIterable iter X.env x=pure x:=by intro _;rfl):PS X (.For tg iter body [] pos) (oO wi g tb):=by
 intro pins s σ H tB I h;show wpAny_For (thn (hi pins s σ H _ I h) λv s1 h1=>thn h1 λtW s2 h2=>?_) hs;let(it,fp,tn,o7,H2,e,I2,T,WN,f2,W,(m0,w0),turn):=h2;subst e;let IT:∀{H':Hp},(∀b∈fp,H' b=A8)->∀b∈fp,FpOk X pins H' b:=λhn b hb=>{hn b hb,(f2 b hb).2}
 show codeAny_forLoop_any (λn s'=>∃i σ' H',Inv X pins σ' H' s'/\tn i s'.C/\(∀b∈fp,H' b=A8)/\W i n σ' H') ?_ m0 {0,σ,H2,I2,WN,λb hb=>(f2 b hb).1,w0};intro n s3 Ω;let⟨i,σ3,H3,I3,VU,fr3,w3⟩:=Ω;rcases turn i n σ3 H3 w3 with ⟨stop,qn⟩|⟨go,N,hN,step⟩
 .show Jn hp (thn (T.done X Z Z Z hc i pins s3 σ3 H3 X.xe I3 (IT fr3) VU stop) λr s4 zz=>?_);let(hr,I4):=zz;subst hr;show uB ⟨σ3,H3,I4,qn⟩
 .show Jn hp (thn (T.item X Z Z Z hc i pins s3 σ3 H3 X.xe I3 (IT fr3) VU go) λr s4 XE=>?_);let(u,hr,h4):=XE;subst hr;show Jn hp (thn h4 λ_ s5 XE=>?_);let(x,H5,I5,r5,y5,Vk,Cp):=XE;let Co:=I5.pinned (IT Cp) (T.obj _ _ Vk)
  show Jn hp (thn (hg _ s5 σ3 H5 x u _ Co r5<|step x H5 y5) λ_ s6 XE=>?_);let(σ6,H6,I6,q6):=XE;show Jn hp (thn (hb _ s6 σ6 H6 _ I6 q6) λf s7 q7=>?_);let again:∀{σ7:St}{H7:Hp},Inv X (pins++VM fp s5.C) σ7 H7 s7->N σ7 H7->∃m,m<n/\∃i σ' H',Inv X pins σ' H' s7/\tn i s7.C/\(∀b∈fp,H' b=A8)/\W i m σ' H':=λ{σ7 H7} I7 n7=>by let(m',hm,w7):=hN σ7 H7 n7;exists m',hm,i+1,σ7,H7,I7.unpinned,T.keep _ _ _ Vk λb hb o e=>(I7.pin (b,o)<|Yc _<|Yc _<|EU hb e).1,λb hb=>?_,w7;let(o,e,d):=T.obj _ _ Vk b hb;show(I7.pin (b,o)<|Yc _<|Yc _<|EU hb e).2.1
  cases f with
  |next=>let(σ7,H7,I7,n7):=q7;show again I7 n7
  |cont=>let(σ7,H7,I7,n7):=q7;show again I7 n7
  |brk=>let(σ7,H7,I7,q7):=q7;exists σ7,H7,I7.unpinned,q7
  |ret v=>let(x7,σ7,H7,I7,r7,q7):=q7;exists x7,σ7,H7,I7.unpinned,r7,q7
end
def ET{K:Ad}{a:A7}{xs:A6 V}{g:TG}{tb:TS}{tB:Ends}{σ:St}{H:Hp}(Pv:A5->St->Hp->Prop)(h0:Pv 0 σ H)(hl:∀i σ H,i<=xs.f->Pv i σ H->SqL K H a xs)
  (hs:∀i x σ H,xs[i]?=⇑x->Pv i σ H->g x σ H λσ2 H2=>tb {tB with nx:=Pv<|i+1,ct:=Pv<|i+1,bk:=tB.nx} σ2 H2)(hd:∀σ H,Pv xs.f σ H->tB.nx σ H):
  ∃W:A5->A5->St->Hp->Prop,(∃m,W 0 m σ H)/\∀i m σ H,W i m σ H->
   ((ON K a).stop i H/\tB.nx σ H)\/((ON K a).go i H/\∃N:St->Hp->Prop,(∀σ' H',N σ' H'->∃m',m'<m/\W (i+1) m' σ' H')/\∀x H',(ON K a).yld i H x H'->g x σ H' λσ2 H2=>tb {tB with nx:=N,ct:=N,bk:=tB.nx} σ2 H2):=by
 exists λi m σ H=>m=xs.f-i/\i<=xs.f/\Pv i σ H,{xs.f,AP,XC _,h0},?_;intro i m σ H Ω;let⟨rfl,hi,p⟩:=Ω;let q:=hl i σ H hi p
 cases Xu:i<xs.f
 .show .inr {{xs,xs[i],q,by simp[Xu]},Pv<|i+1,λσ' H' p'=>{xs.f-(i+1),B,Z,Xu,p'},λx H' y=>?_};let(e,y):=y;subst e;show hs i x σ _ (y xs q) p
 .let e:i=xs.f:=J;subst e;show .inl {{xs,q,XI _},hd σ H p}
def tV{K:Ad}{a:A7}{xs:A6 V}{g:TG}{tb:TS}{tB:Ends}{σ:St}{H:Hp}(Pv:A5->St->Hp->Prop)(h0:Pv 0 σ H)(hl:∀i σ H,i<=xs.f->Pv i σ H->SqT K H a xs)
  (hs:∀i x σ H,xs[i]?=⇑x->Pv i σ H->g x σ H λσ2 H2=>tb {tB with nx:=Pv<|i+1,ct:=Pv<|i+1,bk:=tB.nx} σ2 H2)(hd:∀σ H,Pv xs.f σ H->tB.nx σ H):
  ∃W:A5->A5->St->Hp->Prop,(∃m,W 0 m σ H)/\∀i m σ H,W i m σ H->
   ((OM K a).stop i H/\tB.nx σ H)\/((OM K a).go i H/\∃N:St->Hp->Prop,(∀σ' H',N σ' H'->∃m',m'<m/\W (i+1) m' σ' H')/\∀x H',(OM K a).yld i H x H'->g x σ H' λσ2 H2=>tb {tB with nx:=N,ct:=N,bk:=tB.nx} σ2 H2):=by
 exists λi m σ H=>m=xs.f-i/\i<=xs.f/\Pv i σ H,{xs.f,AP,XC _,h0},?_;intro i m σ H Ω;let⟨rfl,hi,p⟩:=Ω;let q:=hl i σ H hi p
 cases Xu:i<xs.f
 .show .inr {{xs,xs[i],q,by simp[Xu]},Pv<|i+1,λσ' H' p'=>{xs.f-(i+1),B,Z,Xu,p'},λx H' y=>?_};let(e,y):=y;subst e;show hs i x σ _ (y xs q) p
 .let e:i=xs.f:=B;subst e;show .inl {{xs,q,XI _},hd σ H p}
def UN{lo:A0}{n:A5}{g:TG}{tb:TS}{tB:Ends}{σ:St}{H:Hp}(Pv:A5->St->Hp->Prop)(h0:Pv 0 σ H)
  (hs:∀i σ H,i<n->Pv i σ H->g (.int<|lo+i) σ H λσ2 H2=>tb {tB with nx:=Pv<|i+1,ct:=Pv<|i+1,bk:=tB.nx} σ2 H2)(hd:∀σ H,Pv n σ H->tB.nx σ H):
  ∃W:A5->A5->St->Hp->Prop,(∃m,W 0 m σ H)/\∀i m σ H,W i m σ H->
   ((KU lo n).stop i H/\tB.nx σ H)\/((KU lo n).go i H/\∃N:St->Hp->Prop,(∀σ' H',N σ' H'->∃m',m'<m/\W (i+1) m' σ' H')/\∀x H',(KU lo n).yld i H x H'->g x σ H' λσ2 H2=>tb {tB with nx:=N,ct:=N,bk:=tB.nx} σ2 H2):=by
 exists λi m σ H=>m=n-i/\i<=n/\Pv i σ H,{n,AP,XC _,h0},?_;intro i m σ H Ω;let⟨rfl,hi,p⟩:=Ω;cases Xu:i<n
 .show .inr {Xu,Pv<|i+1,λσ' H' p'=>{n-(i+1),B,Z,Xu,p'},λx H' y=>?_};let(e,y):=y;subst e y;show hs i σ _ Xu p
 .let e:i=n:=J;subst e;show .inl {XI _,hd σ H p}
abbrev R2:=V->V->Hp->VK->Prop
def Ww(X:Cx)(f:B1->B1->Sem B1)(r:R2):(Prop):=
 ∀(pins:A6 (A7×Obj))(s:B5)(σ:St)(H:Hp)(x y:V)(v u:B1)(Q:VK),Inv X pins σ H s->RelV x v->RelV y u->r x y H Q->
  wpAny (model X.prog X.w) X.A (f v u) (EP X pins σ Q) X.xe s
def oK(X:Cx)(f:B1->Sem B1)(r:V->Hp->VK->Prop):(Prop):=
 ∀(pins:A6 (A7×Obj))(s:B5)(σ:St)(H:Hp)(x:V)(v:B1)(Q:VK),Inv X pins σ H s->RelV x v->r x H Q->
  wpAny (model X.prog X.w) X.A (f v) (EP X pins σ Q) X.xe s
def VL(X:Cx)(f:B1)(r:A6 V->Hp->VK->Prop):(Prop):=
 ∀(pins:A6 (A7×Obj))(s:B5)(σ:St)(H:Hp)(xs:A6 V)(us:Ag)(Q:VK),Inv X pins σ H s->Vals xs us->r xs H Q->
  wpAny (model X.prog X.w) X.A (call f us) (EP X pins σ Q) X.xe s
def Cn(r:R2)(ta tb:TE):(TE):=λσ H Q=>ta σ H λx H1=>tb σ H1 λy H2=>r x y H2 Q
def tUn(r:V->Hp->VK->Prop)(ta:TE):(TE):=λσ H Q=>ta σ H λx H1=>r x H1 Q
inductive rI(C:A0->A0->Prop)(g:A0->A0->V)(x:V)(y:V)(H:Hp)(Q:VK):Prop
 |mk (i j:_) (_:x=.int i) (_:y=.int j) (_:C i j) (_:Q (g i j) H)
inductive rI0(g:A0->A0->V)(x:V)(y:V)(H:Hp)(Q:VK):Prop
 |mk (i j:_) (_:x=.int i) (_:y=.int j) (_:Q (g i j) H)
inductive rU(g:A0->V)(x:V)(H:Hp)(Q:VK):Prop
 |mk (i:_) (_:x=.int i) (_:Q (g i) H)
section
variable{X:Cx}{a b:B4}{ta tb:TE}{pos:Pos}
def IS(ha:PE X a ta)(hb:PE X b tb){pins:A6 (A7×Obj)}{s:B5}{σ:St}{H:Hp}{R:V->V->Hp->Prop}(I:Inv X pins σ H s)
  (h:ta σ H λx H1=>tb σ H1 λy H2=>R x y H2){Q:Ae}{f:B1->B1->Sem B1}
  (hf:∀v u s2 x y H2,Inv X pins σ H2 s2->RelV x v->RelV y u->R x y H2->wpAny (model X.prog X.w) X.A (f v u) Q X.xe s2):
  wpAny (model X.prog X.w) X.A (eval a X.env) (λv s₁=>wpAny (model X.prog X.w) X.A (eval b X.env) (λu s₂=>wpAny (model X.prog X.w) X.A (f v u) Q X.xe s₂) X.xe s₁) X.xe s:=by show thn (ha pins s σ H _ I h) λv s1 XE=>?_;let(x,H1,I1,r1,q1):=XE;show thn (hb pins s1 σ H1 _ I1 q1) λu s2 XE=>?_;let(y,H2,I2,r2,q2):=XE;show hf v u s2 x y H2 I2 r1 r2 q2
def Zp(ho:Ww X (binaryOp op) r)(ha:PE X a ta)(hb:PE X b tb):PE X (.BinOp a op b pos) (Cn r ta tb):=by intro pins s σ H Q I h;show wpAny_BinOp (IS ha hb I h λv u s2 x y H2 I2 rx ry q=>ho pins s2 σ H2 x y v u Q I2 rx ry q)
def OL{op:UnaryOp}{r:V->Hp->VK->Prop}(ho:oK X (unaryOp op) r)(ha:PE X a ta):PE X (.UnaryOp op a pos) (tUn r ta):=by intro pins s σ H Q I h;show UnaryOp_ (thn (ha pins s σ H _ I h) λv s1 zz=>by let(x,H1,I1,r1,q1):=zz;show ho pins s1 σ H1 x v Q I1 r1 q1)
def ES{f:B1->B1->Sem B1}{C:A0->A0->Prop}{g:A0->A0->A0}
  (rule:∀(i j:A0)(t u:Tok)(s:B5)(Q:Ae)(E:Ae),C i j->Q (.int (g i j) s.toks) {s with toks:=s.toks+1}->wpAny (model X.prog X.w) X.A (f (.int i t)<|.int j u) Q E s):
  Ww X f (rI C λi j=>.int<|g i j):=by intro pins s σ H x y v u Q I rx ry h;let(i,j,rfl,rfl,hc,q):=h;let(t,rfl):=rx;let(t',rfl):=ry;show rule i j t t' s _ _ hc {.int<|g i j,H,I.tok _,{_,Z},q}
def Cm{f:B1->B1->Sem B1}{g:A0->A0->A0}
  (rule:∀(i j:A0)(t u:Tok)(s:B5)(Q:Ae)(E:Ae),Q (.int (g i j) s.toks) {s with toks:=s.toks+1}->wpAny (model X.prog X.w) X.A (f (.int i t)<|.int j u) Q E s):
  Ww X f (rI0 λi j=>.int<|g i j):=by intro pins s σ H x y v u Q I rx ry h;let(i,j,rfl,rfl,q):=h;let(t,rfl):=rx;let(t',rfl):=ry;show rule i j t t' s _ _ {.int<|g i j,H,I.tok _,{_,Z},q}
def IQ{f:B1->B1->Sem B1}{g:A0->A0->B2}
  (rule:∀(i j:A0)(t u:Tok)(s:B5)(Q:Ae)(E:Ae),Q (.bool<|g i j) s->wpAny (model X.prog X.w) X.A (f (.int i t)<|.int j u) Q E s):
  Ww X f (rI0 λi j=>.bl<|g i j):=by intro pins s σ H x y v u Q I rx ry h;let(i,j,rfl,rfl,q):=h;let(t,rfl):=rx;let(t',rfl):=ry;show rule i j t t' s _ _ {.bl<|g i j,H,I,Z,q}
def Ck(i j:A0):(Prop):=0<j/\j<1073741824
def oJ(i j:A0):(Prop):=0<=j/\j<=1000000/\i.natAbs<2^64
def CMul(i j:A0):(Prop):=(-(2^64)<i/\i<2^64)\/(-(2^64)<j/\j<2^64)
def CMul.ok(h:CMul i j):IntMulOk i j:=by
 rcases h with ⟨h1,h2⟩|⟨h1,h2⟩
 .show .of_left (intBits_le_64 h1 h2)
 .show .of_right (intBits_le_64 h1 h2)
def Tv:Ww X (binaryOp .Add) (rI0 λi j=>.int (i+j)):=Cm λ_ _ _ _ _ _ _ q=>add_int q
def PF:Ww X (binaryOp .Sub) (rI0 λi j=>.int (i-j)):=Cm λ_ _ _ _ _ _ _ q=>sub_int q
def UM:Ww X (binaryOp .Mult) (rI CMul λi j=>.int (i*j)):=ES λ_ _ _ _ _ _ _ hc q=>mul_int q hc.ok
def RR:Ww X (binaryOp .FloorDiv) (rI Ck λi j=>.int (i/j)):=ES λi j _ _ _ _ _ hc q=>by
 let h1:(0:A0)<j:=hc.1;let h2:j<1073741824:=hc.2
 show floordiv_int J (by rwa[qv i J]) (.inl<|PyProof.noPylong_small B)
def ZR:Ww X (binaryOp .Mod) (rI (λ_ j=>0<j) λi j=>.int (i%j)):=ES λi j _ _ _ _ _ hc q=>by show mod_int' B (by rwa[Int.fmod_eq_emod_of_nonneg i J])
def RQ:Ww X (binaryOp .Pow) (rI oJ λi j=>.int (i^j.j)):=ES λ_ _ _ _ _ _ _ hc q=>pow_int_small hc.1 hc.2.1 hc.2.2 q
def unI{f:B1->Sem B1}{g:A0->A0}
  (rule:∀(i:A0)(t:Tok)(s:B5)(Q:Ae)(E:Ae),Q (.int (g i) s.toks) {s with toks:=s.toks+1}->wpAny (model X.prog X.w) X.A (f<|.int i t) Q E s):
  oK X f (rU λi=>.int<|g i):=by intro pins s σ H x v Q I rx h;let(i,rfl,q):=h;let(t,rfl):=rx;show rule i t s _ _ {.int<|g i,H,I.tok _,{_,Z},q}
def IP:oK X (unaryOp .USub) (rU λi=>.int (-i)):=unI λ_ _ _ _ _ q=>neg_int q
end
def Cj:(V->V->B2)
 | .non,.non=>true | .non,.int _=>true | .int _,.non=>true | .non,.bl _=>true | .bl _,.non=>true | .non,.str _=>true | .str _,.non=>true
 | .int _,.int _=>true | .bl _,.bl _=>true | .str _,.str _=>true | .byt _,.byt _=>true
 | .int _,.str _=>true | .str _,.int _=>true | .bl _,.str _=>true | .str _,.bl _=>true
 |_,_=>false
inductive rEq(x:V)(y:V)(H:Hp)(Q:VK):Prop
 |mk  (_:Cj x y=A9) (_:Q (.bl<|decide<|x=y) H)
inductive rNe(x:V)(y:V)(H:Hp)(Q:VK):Prop
 |mk  (_:Cj x y=A9) (_:Q (.bl<|!decide (x=y)) H)
def Wn:decide (V.int i=V.int j)=(i == j):=by lia
def KS:decide (V.bl i=V.bl j)=(i == j):=by lia
def KR:decide (V.str i=V.str j)=(i == j):=by lia
def KQ:decide (V.byt i=V.byt j)=(i.m == j.m):=by
 rw[OX]
 ext
section
variable{X:Cx}{a b c:B4}{ta tb tc:TE}{pos:Pos}
def ZX{k k':B2}(I:Inv X pins σ H s)(q:Q (.bl k) H)(e:k=k'):EP X pins σ Q (.bool k') s:=by subst e;exists .bl k,H,I,Z,q
def TU:Ww X (compareOp .Eq) rEq:=by
 intro pins s σ H x y v u Q I rx ry h;let(hs,q):=h;cases x with
 |non=>
  cases rx;cases y with
  |non=>cases ry;show PySem.EqNone.eq_none_none (ZX I q AP)
  |bl j=>cases ry;show PySem.EqNone.eq_none_bool (ZX I q AP)
  |int j=>let(t',rfl):=ry;show PySem.EqNone.eq_none_int (ZX I q AP)
  |str j=>let(t',rfl):=ry;show PySem.EqNone.eq_none_str (ZX I q AP)
  |_=>show absurd (show false=A9 from hs) YC
 |bl i=>
  cases rx;cases y with
  |non=>cases ry;show PySem.EqNone.eq_bool_none (ZX I q AP)
  |bl j=>cases ry;show eq_bool (ZX I q KS)
  |str j=>let(t',rfl):=ry;show PySem.EqMixed.eq_bool_str (ZX I q AP)
  |_=>show absurd (show false=A9 from hs) YC
 |int i=>
  let(t,rfl):=rx;cases y with
  |non=>cases ry;show PySem.EqNone.eq_int_none (ZX I q AP)
  |int j=>let(t',rfl):=ry;show eq_int (ZX I q Wn)
  |str j=>let(t',rfl):=ry;show PySem.EqMixed.eq_int_str (ZX I q AP)
  |_=>show absurd (show false=A9 from hs) YC
 |str i=>
  let(t,rfl):=rx;cases y with
  |non=>cases ry;show PySem.EqNone.eq_str_none (ZX I q AP)
  |bl j=>cases ry;show PySem.EqMixed.eq_str_bool (ZX I q AP)
  |int j=>let(t',rfl):=ry;show PySem.EqMixed.eq_str_int (ZX I q AP)
  |str j=>let(t',rfl):=ry;show eq_str (ZX I q KR)
  |_=>show absurd (show false=A9 from hs) YC
 |byt i=>
  let(t,rfl):=rx;cases y with
  |byt j=>let(t',rfl):=ry;show PySem.W.eq_bytes (ZX I q KQ)
  |_=>show absurd (show false=A9 from hs) YC
 |_=>cases y<;>show absurd (show false=A9 from hs) YC
def Sk:Ww X (compareOp .NotEq) rNe:=by
 intro pins s σ H x y v u Q I rx ry h;let(hs,q):=h;cases x with
 |non=>
  cases rx;cases y with
  |non=>cases ry;show PySem.EqNone.ne_none_none (ZX I q AP)
  |bl j=>cases ry;show PySem.EqNone.ne_none_bool (ZX I q AP)
  |int j=>let(t',rfl):=ry;show PySem.EqNone.ne_none_int (ZX I q AP)
  |str j=>let(t',rfl):=ry;show PySem.EqNone.ne_none_str (ZX I q AP)
  |_=>show absurd (show false=A9 from hs) YC
 |bl i=>
  cases rx;cases y with
  |non=>cases ry;show PySem.EqNone.ne_bool_none (ZX I q AP)
  |bl j=>cases ry;show ne_bool (ZX I q<|YF not KS)
  |str j=>let(t',rfl):=ry;show PySem.EqMixed.ne_bool_str (ZX I q AP)
  |_=>show absurd (show false=A9 from hs) YC
 |int i=>
  let(t,rfl):=rx;cases y with
  |non=>cases ry;show PySem.EqNone.ne_int_none (ZX I q AP)
  |int j=>let(t',rfl):=ry;show ne_int (ZX I q<|YF not Wn)
  |str j=>let(t',rfl):=ry;show PySem.EqMixed.ne_int_str (ZX I q AP)
  |_=>show absurd (show false=A9 from hs) YC
 |str i=>
  let(t,rfl):=rx;cases y with
  |non=>cases ry;show PySem.EqNone.ne_str_none (ZX I q AP)
  |bl j=>cases ry;show PySem.EqMixed.ne_str_bool (ZX I q AP)
  |int j=>let(t',rfl):=ry;show PySem.EqMixed.ne_str_int (ZX I q AP)
  |str j=>let(t',rfl):=ry;show ne_str (ZX I q<|YF not KR)
  |_=>show absurd (show false=A9 from hs) YC
 |byt i=>
  let(t,rfl):=rx;cases y with
  |byt j=>let(t',rfl):=ry;show PySem.W.ne_bytes (ZX I q<|YF not KQ)
  |_=>show absurd (show false=A9 from hs) YC
 |_=>cases y<;>show absurd (show false=A9 from hs) YC
def OK:Ww X (compareOp .Lt) (rI0 λi j=>.bl (decide (i<j))):=IQ λ_ _ _ _ _ _ _ q=>lt_int q
def SO:Ww X (compareOp .LtE) (rI0 λi j=>.bl (decide (i<=j))):=IQ λ_ _ _ _ _ _ _ q=>le_int q
def QG:Ww X (compareOp .Gt) (rI0 λi j=>.bl (decide (j<i))):=IQ λ_ _ _ _ _ _ _ q=>gt_int q
def KP:Ww X (compareOp .Is) (λx y H Q=>y=.non/\Q (.bl (decide (x=.non))) H):=by
 intro pins s σ H x y v u Q I rx ry h;let(rfl,q):=h;cases ry;show is_none_gen (ZX I q ?_);cases x<;>first
  | (cases rx;rfl)
  | (let(t,rfl):=rx;rfl)
def oI:Ww X (compareOp .NotIn) (λx y H Q=>∃i j,x=.str i/\y=.str j/\Q (.bl (!(!(Builtin.Str.occurrences j i 0 j.f 1).isEmpty))) H):=by intro pins s σ H x y v u Q I rx ry h;let(i,j,rfl,rfl,q):=h;let(t,rfl):=rx;let(t',rfl):=ry;show notIn_str (ZX I q Z)
def Zq(b:B4)(h:op≠.In:=by decide)(h2:op≠.NotIn:=by decide):behindInMarks op b=B0:=by
 let e1:(op == CmpOp.In)=B0:=by cases op<;>first|rfl|lia
 let e2:(op == CmpOp.NotIn)=B0:=by cases op<;>first|rfl|lia
 cases b<;>simp[behindInMarks,e1,e2]
def KO(ho:Ww X (compareOp op) r)(ha:PE X a ta)(hb:PE X b tb)(hm:behindInMarks op b=B0):PE X (.Compare a [op] [b] pos) (Cn r ta tb):=by intro pins s σ H Q I h;show wpAny_Compare1 (IS ha hb I h λv u s2 x y H2 I2 rx ry q=>ho pins s2 σ H2 x y v u Q I2 rx ry q) hm
def Ci(t:TE):(TT):=λσ H Q=>t σ H λx H'=>isB x H' Q
def Zk{op:CmpOp}{r:R2}(ho:Ww X (compareOp op) r)(ha:PE X a ta)(hb:PE X b tb)(hm:behindInMarks op b=B0):PT X (.Compare a [op] [b] pos) (Ci (Cn r ta tb)):=by
 intro pins s σ H Q I h;show wpAny_isTrue_Compare1 (thn (ha pins s σ H _ I h) λv s1 ⟨x,H1,I1,r1,q1⟩=>thn (hb pins s1 σ H1 _ I1 q1) λu s2 ⟨y,H2,I2,r2,q2⟩=>
  thn (ho pins s2 σ H2 x y v u _ I2 r1 r2 q2) λc s3 ⟨z,H3,I3,r3,k,e,q3⟩=>?_) hm
 subst e;cases r3;show MY ⟨H3,I3,q3⟩
def Cg(r r':R2)(ta tb tc:TE):(TE):=λσ H Q=>ta σ H λx H1=>tb σ H1 λy H2=>r x y H2 λz H3=>∃k,z=.bl k/\
 (if k=A9 then tc σ H3 λw' H4=>r' y w' H4 Q else Q (.bl false) H3)
def oH{op IM:CmpOp}{r r':R2}(ho:Ww X (compareOp op) r)(Tb:Ww X (compareOp IM) r')(ha:PE X a ta)(hb:PE X b tb)(hc:PE X c tc)
  (hm:lastMarks [op,IM] [b,c]=B0:=by with_unfolding_all rfl):PE X (.Compare a [op,IM] [b,c] pos) (Cg r r' ta tb tc):=by
 intro pins s σ H Q I h;show Compare_chain (thn (ha pins s σ H _ I h) λv s1 ⟨x,H1,I1,r1,q1⟩=>chain_link (thn (hb pins s1 σ H1 _ I1 q1) λu s2 ⟨y,H2,I2,r2,q2⟩=>
  thn (ho pins s2 σ H2 x y v u _ I2 r1 r2 q2) λd s3 ⟨z,H3,I3,r3,k,e,q3⟩=>?_)) hm
 subst e;cases r3;show MY ?_;cases k with
 |false=>show ite_ff {.bl false,H3,I3,Z,q3}
 |true=>show ite_tt (chain_last<|thn (hc pins s3 σ H3 _ I3 q3) λw' s4 zz=>by let(z',H4,I4,r4,q4):=zz;show Tb pins s4 σ H4 y z' u w' Q I4 r2 r4 q4)
def tS{op IM:CmpOp}{r r':R2}(ho:Ww X (compareOp op) r)(Tb:Ww X (compareOp IM) r')(ha:PE X a ta)(hb:PE X b tb)(hc:PE X c tc)
  (hm:lastMarks [op,IM] [b,c]=B0:=by with_unfolding_all rfl):PT X (.Compare a [op,IM] [b,c] pos) (Ci<|Cg r r' ta tb tc):=by
 intro pins s σ H Q I h;show isTrue_chain (thn (ha pins s σ H _ I h) λv s1 ⟨x,H1,I1,r1,q1⟩=>test_link (thn (hb pins s1 σ H1 _ I1 q1) λu s2 ⟨y,H2,I2,r2,q2⟩=>
  thn (ho pins s2 σ H2 x y v u _ I2 r1 r2 q2) λd s3 ⟨z,H3,I3,r3,k,e,q3⟩=>?_)) hm
 subst e;cases r3;show MY ?_;cases k with
 |false=>
  let(k',e',q'):=q3;cases e';show ite_ff ⟨H3,I3,q'⟩
 |true=>
  show ite_tt (test_last<|thn (hc pins s3 σ H3 _ I3 q3) λw' s4 zz=>?_);let(z',H4,I4,r4,q4):=zz;show thn (Tb pins s4 σ H4 y z' u w' _ I4 r2 r4 q4) λd' s5 XE=>?_;let(z2,H5,I5,r5,k2,e2,q5):=XE;subst e2;cases r5;show MY ⟨H5,I5,q5⟩
def IK:(sizeLine:A5)<2^63:=by decide
def ZJ:Ww X (binaryOp .Add) (λx y H Q=>∃i j,x=.str i/\y=.str j/\i.f+j.f<=sizeLine/\Q (.str (i++j)) H):=by intro pins s σ H x y v u Q I rx ry h;let(i,j,rfl,rfl,hz,q):=h;let(t,rfl):=rx;let(t',rfl):=ry;show add_str (λt' tk=>{.str<|i++j,H,I.tok _,{_,Z},q}) hz
def Ve{us:Ag}(r:Vals [x] us):∃u,us=[u]/\RelV x u:=by
 cases r with
 |cons r1 r2=>cases r2;ext
def IJ{us:Ag}(r:Vals [x,y] us):∃u w',us=[u,w']/\RelV x u/\RelV y w':=by
 cases r with
 |cons r1 r2=>
  cases r2 with
  |cons r3 r4=>cases r4;exists _,_,Z,r1,r3
def tR(hc:X.calm=A9):VL X (.builtin "max") (λxs H Q=>∃i j,xs=[.int i,.int j]/\Q (.int (if j>i then j else i)) H):=by
 intro pins s σ H xs us Q I r h;let(i,j,rfl,q):=h;let(u,w',rfl,(t,rfl),(t',rfl)):=IJ r;show max_two_ints (I.ok.hd hc) λh' tk k=>{_,H,I.kept k,?_,q};cases hj:j>i
 .rw[Yk hj,Yk hj];exists _,Z
 .rw[Yj hj,Yj hj];exists _,Z
def II(hc:X.calm=A9):VL X (.builtin "min") (λxs H Q=>∃i j,xs=[.int i,.int j]/\Q (.int (if j<i then j else i)) H):=by
 intro pins s σ H xs us Q I r h;let(i,j,rfl,q):=h;let(u,w',rfl,(t,rfl),(t',rfl)):=IJ r;show min_two_ints (I.ok.hd hc) λh' tk k=>{_,H,I.kept k,?_,q};cases hj:j<i
 .rw[Yk hj,Yk hj];exists _,Z
 .rw[Yj hj,Yj hj];exists _,Z
def Zu5:VL X (.type "str") (λxs H Q=>∃i,xs=[.int i]/\i.natAbs.log2<1920/\Q (.str (toString i)) H):=by intro pins s σ H xs us Q I r h;let(i,rfl,hz,q):=h;let(u,rfl,t,rfl):=Ve r;show PySem.P.str_of_int hz {.str _,H,I.tok _,{_,Z},q}
end
structure ObjM(h:Heap)(x dx C:A7)(mA:Af):Prop where
 obj:h.G x=⇑(PySem.W.instObj C dx)
 ns:h.Ns1 dx mA
 ne:dx≠x
def Zy9{h:Heap}{mA:Af}(n:h.Ns1 dx mA):∃od,h.G dx=⇑od/\∀name,PySem.W.lookIn name od=⇑(mA name):=by
 let(o,es,ep,ho,hd,hk,_,hm):=n;exists o,ho,λname=>?_;let e:=hm name
 unfold nsFind findBy at e;rw[<-Array.find?_toList]at e;unfold PySem.W.lookIn;rw[hd];dsimp only;split
 .ext
 .rename_i q;rw[q]at e;let a:es.m.any (·.refKey)=B0:=by rw[List.any_eq_false];intro y hy;let(z,t,oG):=hk y (Array.mem_toList_iff.Y hy);simp[DictEntry.refKey,oG]
  grind
def ObjM.look{mA:Af}(I:ObjM h x dx C mA):∃od,PySem.W.InstAt h x (PySem.W.instObj C dx) C ⇑od/\∀name,PySem.W.lookIn name od=⇑(mA name):=
 let ⟨od,ho,hl⟩:=Zy9 I.ns
 {od,⟨I.obj,Z,Z,ho⟩,hl}
section
variable{prog:Program}{w:World}{A:Around}{E:Ae}{s:B5}{K:Ad}{x dx C f:A7}{mA:Af}{name:B8}{v:B1}
def oF{Q:Ae}(X:K.In s.C)(I:ObjM s.C x dx C mA)(hg:PySem.W.plainGet K C name=A9)(hh:PySem.W.hasDictIn K C=A9)
  (ha:PySem.W.findIn K ↑C name=⇑none)(hv:mA name=⇑v)(KN:PySem.W.handedIn v=A9)(h:Q v {s with toks:=s.toks+1}):
  wpAny (model prog w) A (getAttr ↑x name expr) Q E s:=by let(od,o7,hl):=I.look;show PySem.W.get_value X o7 (qf hg).1 (PySem.W.findObj_own hh ha Z<|by rw[hl,hv]) KN h
def oE{Q:B1×A6 B1->B5->Prop}(X:K.In s.C)(I:ObjM s.C x dx C mA)(hg:PySem.W.plainGet K C name=A9)
  (hf:PySem.W.findIn K ↑C name=⇑(some<|.ref f))(ht:PySem.W.isFn K ↑f=A9)(hv:mA name=A8)(h:Q (.ref f,[.ref x]) s):
  wpAny (model prog w) A (getMethod ↑x name pl) Q E s:=by let(od,o7,hl):=I.look;show PySem.W.method_fn X o7 (qf hg).1 (qf hg).2 hf (um.Y ht) (by change(PySem.W.lookIn name od).Q (·.isSome)=⇑false;rw[hl,hv];rfl) h
def oB{Q:Unit->B5->Prop}(X:K.In s.C)(I:ObjM s.C x dx C mA)
  (hs:PySem.W.findIn K ↑C "__setattr__"=⇑(some<|.builtin "object.__setattr__"))(hp:PySem.W.plainOver K C=A9)(ht:PySem.W.takerIn K C name=⇑none)(hh:PySem.W.hasDictIn K C=A9)
  (hw:PySem.Within mA ns)(hsz:ns.f<=sizeLine)
  (h:∀h',ObjM h' x dx C (λy=>if y=name then some v else mA y)->Heap.SameBut dx s.C h'->Q () {s with heap:=h',toks:=s.toks+2}):
  wpAny (model prog w) A (setAttr ↑x name v) Q E s:=by
 let(od,o7,hl):=I.look;show PySem.W.set_plain X o7 hs (PySem.W.osa_open (s:={s with toks:=s.toks+1}) (r:=A8) X o7 hp ht λb=>?_);let(cd,hc,uf):=PySem.W.any_some hh;let hx:s.C.G x=⇑⟨.ref C,⇑dx,.plain,#[]⟩:=I.obj
 show XU (Yg<|XU<|XU<|wpAny_loadPart hx<|XU<|PySem.W.Looks.here (s:={s with toks:=s.toks+1}) (PySem.W.looks_clsIn X hc) ?_);rw[uf];show Yg (a:=⇑dx) (XU<|Yg<|XU ?_);show wpAny_nsSet1 (s:={s with toks:=s.toks+1}) I.ns λh' PD UC=>?_;let(oD,esD,epD,hoD,oz,hcD):=PD.count (PySem.Within.cons name v hw);show XU (wpAny_lookBehind hoD (by rw[oz];show pastItsLine_dict<|Ym hcD<|by ext) ?_);show Yg (h _ {(UC.2 _<|YX I.ne).l I.obj,PD,I.ne} UC)
def oy{R:Result->B5->Prop}{vs:Ag}{kw:A6 (B8×B1)}(X:K.In s.C)(hm:PySem.W.makesIn K C=A9)
  (hi:PySem.W.findIn K ↑C "__init__"=⇑(some<|.ref f))(hf:PySem.W.typeIn K ↑f=⇑(.type "function"))
  (h:codeAny (model prog w) (A.under<|.builtin "type.__call__" {.ref C::vs,kw}) (.call ↑f {.ref ((~~~s)+1)::vs,kw}) (PySem.W.InitBack ((~~~s)+1) R)
   {s with heap:=(s.C.push PySem.W.emptyDict).push (PySem.W.instObj C (~~~s))}):
  codeAny (model prog w) A (.call ↑C ⟨vs,kw⟩) R s:=by show PySem.W.make_core (PySem.W.makes_of X hm) (PySem.W.looks_findIn X hi) (λself=>PySem.W.bind_fn X self hf) (.inl Z) h
end
def WC(f:B8)(v:V):(A6 (B8×V)->A6 (B8×V))
 |[]=>[(f,v)]
 | (g,x)::r=>if g=f then (g,v)::r else (g,x)::WC f v r
def ER(f g:B8)(v:V):∀fs:A6 (B8×V),(WC f v fs).M g=if g=f then some v else fs.M g
 |[]=>by change List.M g [(f,v)]=_;grind
 | (k,x)::r=>by let ih:=ER f g v r;rw[show WC f v ((k,x)::r)=(if k=f then (k,v)::r else (k,x)::WC f v r) from Z];grind
def ox(f:B8)(v:V):∀fs:A6 (B8×V),f∈(WC f v fs).Q (·.1)/\∀g,g∈fs.Q (·.1)->g∈(WC f v fs).Q (·.1)
 |[]=>{by simp[WC],λg h=>by simp at h}
 | (k,x)::r=>by let(i1,i2):=ox f v r;rw[show WC f v ((k,x)::r)=(if k=f then (k,v)::r else (k,x)::WC f v r) from Z];grind
def Zq3(f:B8)(v:V):∀fs:A6 (B8×V),(WC f v fs).f<=fs.f+1
 |[]=>by simp[WC]
 | (k,x)::r=>by let ih:=Zq3 f v r;rw[show WC f v ((k,x)::r)=(if k=f then (k,v)::r else (k,x)::WC f v r) from Z];grind
def RelO.some_of{v:V}(r:RelO ⇑v o):∃u,o=⇑u/\RelV v u:=by
 cases o with
 |none=>show(show False from r).elim
 |some u=>exists u,Z,r
def RelO.none_of(r:RelO none o):o=A8:=by
 cases o with
 |none=>rfl
 |some u=>show(show False from r).elim
def ZM9(r:RelV v u):PySem.W.handedIn u=A9:=by
 cases v with
 |non=>cases (show u=Value.none from r);rfl
 |bl b=>cases (show u=Value.bool b from r);rfl
 |int i=>let(t,e):=(show ∃t,u=Value.int i t from r);cases e;rfl
 |str x=>let(t,e):=(show ∃t,u=Value.str x t from r);cases e;rfl
 |byt b=>let(t,e):=(show ∃t,u=Value.bytes b t from r);cases e;rfl
 |flt b=>let(t,e):=(show ∃t,u=Value.float b t from r);cases e;rfl
 |ref a=>cases (show u=Value.ref a from r);rfl
 |ty n=>cases (show u=Value.type n from r);rfl
section
variable{P:Program}{w:World}{H:Hp}{h:Heap}{a C dx:A7}{fs:A6 (B8×V)}
def IG(hok:HOk P w H h)(e:H a=⇑(.ins C dx fs)):∃mA,ObjM h a dx C mA/\(∀f,RelO (fs.M f) (mA f))/\PySem.Within mA (fs.Q (·.1))/\fs.f<=1000/\H dx=⇑(.own a):=by let(d,z,ne,ob,mA,n,r,q):=(show ObjOk P w H h a (.ins C dx fs) from hok a _ e);exists mA,⟨ob,n,ne⟩,r,q,z,d
end
structure Cls(K:Ad)(C:A7):Prop where
 pg:PySem.W.plainGet K C Str.empty=A9
 hd:PySem.W.hasDictIn K C=A9
 po:PySem.W.plainOver K C=A9
 sa:PySem.W.findIn K ↑C "__setattr__"=⇑(some<|.builtin "object.__setattr__")
def Cls.get{K:Ad}{C:A7}(c:Cls K C)(f:B8):PySem.W.plainGet K C f=A9:=c.pg
def NoAttr(K:Ad)(C:A7)(f:B8):(Prop):=PySem.W.findIn K ↑C f=⇑none
def NoAttr.taker{K:Ad}{C:A7}{f:B8}(n:NoAttr K C f):PySem.W.takerIn K C f=⇑none:=by unfold PySem.W.takerIn;rw[show PySem.W.findIn K ↑C f=⇑none from n];rfl
structure Meth(K:Ad)(C:A7)(m:B8)(f:A7):Prop where
 at_:PySem.W.findIn K ↑C m=⇑(some<|.ref f)
 fn:PySem.W.isFn K ↑f=A9
 kp:PySem.W.keepIn K ↑f=A9
section
variable{X:Cx}{pins:A6 (A7×Obj)}{σ:St}{H:Hp}{s:B5}{a C dx:A7}{fs:A6 (B8×V)}{f:B8}{v:V}{A:Around}{E:Ae}
def Zn8{Q:Ae}(I:Inv X pins σ H s)(e:H a=⇑(.ins C dx fs))(c:Cls X.K C)(n:NoAttr X.K C f)(l:fs.M f=⇑v)
  (h:∀u s',Inv X pins σ H s'->RelV v u->Q u s'):wpAny (model X.prog X.w) A (getAttr ↑a f b) Q E s:=by let(mA,O,r,_,_,_):=IG I.hok e;let(u,hu,ru):=RelO.some_of (v:=v) (o:=mA f) B;show oF I.kIn O (c.get f) c.hd n hu (ZM9 ru) (h u _ (I.tok _) ru)
def ZB4{Q:B1×A6 B1->B5->Prop}(I:Inv X pins σ H s)(e:H a=⇑(.ins C dx fs))(c:Cls X.K C)(k:Meth X.K C m g)(l:fs.M m=A8)
  (h:Q (.ref g,[.ref a]) s):wpAny (model X.prog X.w) A (getMethod ↑a m pl) Q E s:=by
 let(mA,O,r,_,_,_):=IG I.hok e;let hn:mA m=A8:=RelO.none_of B
 show oE I.kIn O (c.get m) k.at_ k.fn hn h
def Zs7{Q:Unit->B5->Prop}(I:Inv X pins σ H s)(e:H a=⇑(.ins C dx fs))(c:Cls X.K C)(n:NoAttr X.K C f)(hl:fs.f<1000)(ry:RelV y u)
  (h:∀s',Inv X pins σ (upd H a<|.ins C dx<|WC f y fs) s'->Q () s'):wpAny (model X.prog X.w) A (setAttr ↑a f u) Q E s:=by
 let(mA,O,r,wi,_,ho):=IG I.hok e;let hz:(fs.Q (·.1)).f<=sizeLine:=by rw[Yb,PN];lia
 show oB I.kIn O c.sa c.po n.taker c.hd wi hz λh' O' sb=>h _ ?_;let hd:∃o,h'.G dx=⇑o:=by let(o,_,_,e',_):=O'.ns;exists o,e'
 show I.write (x:=a) (e:=dx) (by rw[e];show True.intro) (.inr ho) (λb q hb z=>(sb.2 b hb).l z) hd ?_;exists by rw[Za O.ne];show ho,?_,O.ne,O'.obj,_,O'.ns,λg=>?_,λg hg=>?_
 .have:=Zq3 f y fs;lia
 .rw[ER];cases q:g=f
  .rw[Yk q,Yk q];show ry
  ext
 .cases q:g=f
  .rw[q];show(ox f y fs).1
  .show(ox f y fs).2 g (wi g λz=>hg ?_)
   ext
def Inv.made(I:Inv X pins σ H s):Inv X pins σ (upd (upd H (~~~s) (.own ((~~~s)+1))) ((~~~s)+1) (.ins C (~~~s) []))
  {s with heap:=(s.C.push PySem.W.emptyDict).push (PySem.W.instObj C (~~~s))}:=by
 let e1:(s.C.push PySem.W.emptyDict).G (~~~s)=⇑PySem.W.emptyDict:=Qd s.C rfl;let e2:((s.C.push PySem.W.emptyDict).push (PySem.W.instObj C (~~~s))).G ((~~~s)+1)=⇑(PySem.W.instObj C (~~~s)):=by
  have:=Qd (s.C.push PySem.W.emptyDict) (o:=PySem.W.instObj C (~~~s)) rfl
  rwa[PQ]at this
 let e3:(s.C.push PySem.W.emptyDict).Ns (~~~s) (λ_=>none):={PySem.W.emptyDict,#[],_,e1,Z,λe he=>absurd he AP,λ_=>rfl};let I1:=I.laid (a:=(~~~s)) (o:=.own<|(~~~s)+1) (h':=s.C.push PySem.W.emptyDict) (t':=s.toks) (λb u q=>Xs _ q) (XI _) {_,e1}
 show I1.laid (a:=(~~~s)+1) (o:=.ins C (~~~s) []) (t':=s.toks) (λb u q=>Xs _ q) (Nat.le_of_eq<|PQ _ _) ?_;let ne:(~~~s)≠(~~~s)+1:=Yl (RV _)
 exists by rw[Za ne,XS],XC _,ne,e2,λ_=>none,(Heap.Ns1.of_empty e3).at λo q=>Xs _ q,λ_=>True.intro,λy hy=>absurd Z hy
def ou{pos:Pos}{Q:Ae}(hb:attributeBase e f env (eval e env)=eval e env)
  (h:wpAny (model prog w) A (eval e env) (λo s₁=>wpAny (model prog w) A (getAttr o f true) Q E s₁) E s):wpAny (model prog w) A (eval (.Attribute e f pos) env) Q E s:=
 Attribute_any_ h (by rw[arm_eval_Attribute,hb])
end
inductive xFld(K:Ad)(f:B8)(x:V)(H1:Hp)(Q:VK):Prop
 |mk (a C dx fs v:_) (_:x=.ref a) (_:H1 a=⇑(.ins C dx fs)) (_:Cls K C) (_:NoAttr K C f) (_:fs.M f=⇑v) (_:Q v H1)
def Cf(K:Ad)(ta:TE)(f:B8):(TE):=λσ H Q=>ta σ H λx H1=>xFld K f x H1 Q
def oq(K:Ad)(ta tv:TE)(f:B8):(TS):=λtB σ H=>tv σ H λy H1=>ta σ H1 λx H2=>∃a C dx fs,x=.ref a/\H2 a=⇑(.ins C dx fs)/\Cls K C/\NoAttr K C f/\fs.f<1000/\
 tB.nx σ (upd H2 a<|.ins C dx<|WC f y fs)
section
variable{X:Cx}{o e value:B4}{f:B8}{pos pos':Pos}{ta tv:TE}
def Ce(he:PE X e ta)(hb:attributeBase e f X.env (eval e X.env)=eval e X.env):PE X (.Attribute e f pos) (Cf X.K ta f):=by intro pins s σ H Q I h;show ou hb (thn (he pins s σ H _ I h) λu s1 XE=>?_);let(x,H1,I1,rx,a,C,dx,fs,v,ex,ea,c,n,l,q):=XE;subst ex;let rfl:u=Value.ref a:=rx;show Zn8 I1 ea c n l λu' s2 I2 ru=>⟨v,H1,I2,ru,q⟩
def IF(ha:PE X o ta)(hv:PE X value tv)(hs:swapsWith value ⇑(.Attribute o f pos') pos.line X.env=pure false):PS X (.Assign [.Attribute o f pos'] value pos) (oq X.K ta tv f):=by intro pins s σ H tB I h;show plainObj_wpAny_Assign_Attribute (thn (hv pins s σ H _ I h) λu s1 zz=>?_) hs;let(y,H1,I1,ry,q):=zz;show thn (ha pins s1 σ H1 _ I1 q) λov s2 XE=>?_;let(x,H2,I2,rx,a,C,dx,fs,ex,ea,c,n,l,q2):=XE;subst ex;let rfl:ov=Value.ref a:=rx;show Zs7 I2 ea c n l ry λs3 I3=>{σ,_,I3,q2}
end
structure Room(k:A5)(A:Around):Prop where
 hd:A.handled=A8
 dp:A.depth+3*k+5<recursionLimit
 un:A.units+16*k+200<cLine
def Room.mono(r:Room k A)(h:j<=k):Room j A:={r.hd,by have:=r.dp;lia,by have:=r.un;lia}
def Room.deeper(r:Room (k+1) A)(env:Env):Room k (A.deeper env):=
 {r.hd,by have:=r.dp;change A.depth+1+3*k+5<_;lia,by have:=r.un;change A.units+3+16*k+200<_;lia}
def Room.in1(r:Room (k+1) A):Room k A.in1:=
 {r.hd,by have:=r.dp;lia,by have:=r.un;lia}
def ZS7{A:Around}{C:A7}{us:Ag}{kw:A6 (B8×B1)}:(A.under (.builtin "type.__call__" {.ref C::us,kw})).depth=A.depth+1:=by
 first|rfl|simp[Around.under,Code.weight,Code.isCreation,Code.isGuard,Code.isCaller,Code.frames,Code.isFrame,guardIds]
def ZR7{A:Around}{C:A7}{us:Ag}{kw:A6 (B8×B1)}:(A.under (.builtin "type.__call__" {.ref C::us,kw})).units=A.units+1:=by
 first|rfl|simp[Around.under,Code.cUnits,Code.frames,Code.isFrame]
def Room.make(r:Room (k+1) A)(C:A7)(us:Ag)(kw:A6 (B8×B1)):Room k (A.under (.builtin "type.__call__" {.ref C::us,kw})):=
 {r.hd,by have:=r.dp;rw[ZS7];lia,by have:=r.un;rw[ZR7];lia}
def Room.depth(r:Room k A):A.depth<recursionLimit:=by have:=r.dp;lia
def Room.units(r:Room k A):A.units+64<cLine:=by have:=r.un;lia
def MG:(TA):=λ_ H Q=>Q [] H
def IE(ta:TE)(tr:TA):(TA):=λσ H Q=>ta σ H λx H1=>tr σ H1 λxs H2=>Q (x::xs) H2
section
variable{X:Cx}{e:B4}{es:A6 B4}{te:TE}{t:TA}{pos:Pos}
def XX:PA X [] MG:=λ_ _ _ _ H Q I h=>pN {[],H,I,.nil,h}
def XZ(ha:PE X e te)(hr:PA X es t)(hs:starEach (e::es) X.env=(false,eval e X.env)::starEach es X.env:=by rfl):PA X (e::es) (IE te t):=by intro pos pins s σ H Q I h;rw[hs];show pQ (thn (ha pins s σ H _ I h) λu s1 XE=>?_);let(x,H1,I1,r1,q1):=XE;show thn (hr pos pins s1 σ H1 _ I1 q1) λus s2 zz=>by let(xs,H2,I2,r2,q2):=zz;exists x::xs,H2,I2,.cons r1 r2,q2
inductive xTup(xs:A6 V)(H1:Hp)(Q:VK):Prop
 |mk (_:xs.f<=sizeLine) (_:∀p,H1 p=A8->Q ↑p (upd H1 p<|.tup xs))
def Cd(t:TA):(TE):=λσ H Q=>t σ H λxs H1=>xTup xs H1 Q
inductive xLst(xs:A6 V)(H1:Hp)(Q:VK):Prop
 |mk (_:xs.f<=sizeLine) (_:∀p,H1 p=A8->Q ↑p (upd H1 p<|.lst xs))
def oo(t:TA):(TE):=λσ H Q=>t σ H λxs H1=>xLst xs H1 Q
def ZZ{x1}(h:PA X es t):PE X (.Tuple es x1 pos) (Cd t):=by
 intro pins s σ H Q I hq;show wpAny_Tuple_spliced (thn (h pos pins s σ H _ I hq) λus s1 ⟨xs,H1,I1,r,z,q⟩=>{by rw[<-r.f];show z,?_});let hf:H1 (~~~s1)=A8:=I1.hok.fresh (XI _)
 exists .ref (~~~s1),upd H1 (~~~s1)<|.tup xs,I1.laid (t':=s1.toks) (λb u e=>Xs _ e) (XI _) ?_,Z,q _ hf;exists z,us,r,{_,Qd _ Z,Z,_,Z}
def UL(h:PA X es t):PE X (.List es pos) (oo t):=by
 intro pins s σ H Q I hq;show wpAny_List_spliced (thn (h pos pins s σ H _ I hq) λus s1 ⟨xs,H1,I1,r,z,q⟩=>{by rw[<-r.f];show z,?_});let hf:H1 (~~~s1)=A8:=I1.hok.fresh (XI _)
 exists .ref (~~~s1),upd H1 (~~~s1)<|.lst xs,I1.laid (t':=s1.toks) (λb u e=>Xs _ e) (XI _) ?_,Z,q _ hf;exists z,us,0,r,Qd _ Z
end
abbrev Sp:=A6 V->Hp->VK->XK->Prop
abbrev PB:=A6 Env->Hp->B5->XK->Ae
structure Env0(P:Program)(w:World)(K:Ad)(mg:Af)(base:Heap)(A:Around)(outer:A6 Env)(s:B5)(H:Hp):Prop where
 frames:A.frames=⇑outer
 mod:Mod K mg base
 bs:∀b o,base.G b=⇑o->s.C.G b=⇑o/\H b=A8
 bsz:base.objs.o<=(~~~s)
 funs:s.C.FunFrames base outer
 frf:∀b∈UD outer,H b=A8
 hok:HOk P w H s.C
 bare:AllBare s.gens
def CE(outer:A6 Env)(P:Program)(w:World)(H:Hp)(s:B5)(Q:VK)(u:B1)(s':B5):(Prop):=
 ∃v H',s'.os=s.os/\AllBare s'.gens/\Un (UD outer) [] H H' s.C s'.C/\HOk P w H' s'.C/\RelV v u/\Q v H'
def CR(CX:PB)(outer:A6 Env)(P:Program)(w:World)(H:Hp)(s:B5)(Q:VK)(E:XK)(r:Result)(s':B5):(Prop):=
 match r with
 | .ok (.ret u)=>CE outer P w H s Q u s'
 | .ok _=>False
 | .error e=>CX outer H s E e s'
structure FnOk(P:Program)(w:World)(K:Ad)(mg:Af)(base:Heap)(CX:PB)(k:A5)(f:A7)(fd:B7)(ps:A6 B8)(sp:Sp):Prop where
 len:∀vs H Q E,sp vs H Q E->vs.f=ps.f
 run:∀(A:Around)(outer:A6 Env)(s:B5)(H:Hp)(args:Args)(us:Ag)(vs:A6 V)(Q:VK)(E:XK),Room k A->Env0 P w K mg base A outer s H->BindsTo s fd args (ps.zip us)->Vals vs us->sp vs H Q E->
  codeAny (model P w) A (.call ↑f args) (CR CX outer P w H s Q E) s
def Env0.make{P:Program}{w:World}{K:Ad}{mg:Af}{base:Heap}{A:Around}{outer:A6 Env}{s:B5}{H:Hp}(e:Env0 P w K mg base A outer s H)(C:A7)(us:Ag)(kw:A6 (B8×B1)):
  Env0 P w K mg base (A.under<|.builtin "type.__call__" {.ref C::us,kw}) outer s H:={by first|show e.frames|(simpa[Around.under,Code.envs,Code.isFrame,pushEnvs] using e.frames),e.mod,e.bs,e.bsz,e.funs,e.frf,e.hok,e.bare}
def Env0.in1{P:Program}{w:World}{K:Ad}{mg:Af}{base:Heap}{A:Around}{outer:A6 Env}{s:B5}{H:Hp}(e:Env0 P w K mg base A outer s H):
  Env0 P w K mg base A.in1 outer s H:=⟨e.frames,e.mod,e.bs,e.bsz,e.funs,e.frf,e.hok,e.bare⟩
section
variable{X:Cx}{pins:A6 (A7×Obj)}{σ:St}{H:Hp}{s s':B5}
def Inv.env0(I:Inv X pins σ H s):Env0 X.prog X.w X.K X.mg X.base X.A X.stack s H:=
 {I.ok.frames,I.ok.mod,I.bs,Ym I.ok.bsz I.sz,I.stack,I.stkFree,I.hok,I.bare}
def Inv.after(I:Inv X pins σ H s)(h:CE X.stack X.prog X.w H s Q u s'):EP X pins σ Q u s':=by let(v,H',os,bare,un,hok,r,q):=h;let(hh,g,d,t,Cc):=s';let rfl:Cc=s.os:=os;exists v,H',I.call (h':=hh) (g':=g) (d':=d) (t':=t) (ch:=[]) un hok bare λb z=>absurd z AP,r,q
end
def Cb(sp:Sp)(Um:A6 V)(E:XK)(t:TA):(TE):=λσ H Q=>t σ H λvs H1=>sp (vs++Um) H1 Q E
def Ca(C:A7)(m:B8)(sp:Sp)(Um:A6 V)(E:XK)(ta:TE)(t:TA):(TE):=λσ H Q=>ta σ H λx H1=>∃a dx fs,x=.ref a/\H1 a=⇑(.ins C dx fs)/\fs.M m=A8/\
 t σ H1 λvs H2=>sp (x::(vs++Um)) H2 Q E
def BZ(C:A7)(sp:Sp)(Um:A6 V)(E:XK)(t:TA):(TE):=λσ H Q=>t σ H λvs H1=>∀x dx,H1 x=A8->H1 dx=A8->dx≠x->
 sp (.ref x::(vs++Um)) (upd (upd H1 dx<|.own x) x<|.ins C dx []) (λv H2=>v=.non/\Q ↑x H2) E
def Binds(K:Ad)(fd:B7)(ps:A6 B8)(ds:Ag):(Prop):=
 ∀(s:B5)(us:Ag),K.In s.C->(us++ds).f=ps.f->BindsTo s fd {us,[]} (ps.zip<|us++ds)
def Binds.all{K:Ad}{fd:B7}{ps:A6 B8}(h:∀us:Ag,us.f=ps.f->bindArgs fd {us,[]}=pure (ps.zip us)):Binds K fd ps []:=λs us _ hl=>by rw[Wc]at hl ⊢;show .of_eq (h us hl)
def KL(CX:PB)(X:Cx)(E:XK):(Prop):=∀(pins:A6 (A7×Obj))(σ:St)(H:Hp)(s:B5)(e:B1)(s':B5),Inv X pins σ H s->CX X.stack H s E e s'->X.xe e s'
section
variable{X:Cx}{CX:PB}{k:A5}{f C:A7}{fd:B7}{ps:A6 B8}{sp:Sp}{Um:A6 V}{ds:Ag}{E:XK}{x m:B8}{p pos apos:Pos}{e o:B4}{es:A6 B4}{ta:TE}{t:TA}
def ID(F:FnOk X.prog X.w X.K X.mg X.base CX k f fd ps sp)(hr:Room k X.A)(hb:Binds X.K fd ps ds)(hd:Vals Um ds)(hx:KL CX X E)
  (I:Inv X pins σ H s)(r:Vals vs us)(h:sp (vs++Um) H Q E):wpAny (model X.prog X.w) X.A (call ↑f us) (EP X pins σ Q) X.xe s:=by
 let r2:Vals (vs++Um) (us++ds):=r.append hd;let hl:(us++ds).f=ps.f:=by rw[<-r2.f];show F.len _ _ _ _ h
 show CT (Ny (F.run X.A X.stack s H {us,[]} (us++ds) (vs++Um) Q E hr I.env0 (hb s us I.kIn hl) r2 h) λr s' hq=>?_);cases r with
 |error e=>show hx pins σ H s e s' I hq
 |ok fl=>
  cases fl with
  |ret u=>show I.after hq
  |next=>show False.elim hq
  |brk=>show False.elim hq
  |cont=>show False.elim hq
def BY(F:FnOk X.prog X.w X.K X.mg X.base CX k f fd ps sp)(hr:Room k X.A)(hg:Gl X x)(hm:X.mg x=some ↑f)(hk:PySem.W.keepIn X.K ↑f=A9)(hb:Binds X.K fd ps ds)(hd:Vals Um ds)(hx:KL CX X E)
  (ha:PA X (e::es) t)(RP:(x == ("__debug__":B8))=B0:=by decide)(he:starEach (e::es) X.env=(false,eval e X.env)::starEach es X.env:=by rfl)(UB:(backTo pos<|starEach es X.env).any (·.1)=B0:=by rfl):
  PE X (.Call (.Name x p) (e::es) [] pos) (Cb sp Um E t):=by intro pins s σ H Q I h;show Nb (o9 I hg hm ?_ RP);show p8 (h₀:=X.base) I.ok.mod.kin hk (thn (ha pos pins s σ H _ I h) λus s1 ⟨vs,H1,I1,r,q⟩=>{I1.kIn,?_}) he UB;show ID F hr hb hd hx I1 r q
def EO(he:PE X o ta)(c:Cls X.K C)(hm:Meth X.K C m f)(F:FnOk X.prog X.w X.K X.mg X.base CX k f fd ps sp)(hr:Room k X.A)(hb:Binds X.K fd ps ds)(hd:Vals Um ds)(hx:KL CX X E)(ha:PA X (e::es) t)
  (Wo:starEach (e::es) X.env=(false,eval e X.env)::starEach es X.env:=by rfl)(UB:(backTo pos<|starEach es X.env).any (·.1)=B0:=by rfl)
  (ht:eval (.Call (.Attribute o m apos) (e::es) [] pos) X.env=(do
   let ov <-eval o X.env
   standAt apos.atName
   let (f,first) <-holding [ov] (getMethod ov m pl)
   callWith pos f first (backTo pos<|starEach (e::es) X.env) (backToKw pos<|keywordEach [] X.env)):=by rfl):
  PE X (.Call (.Attribute o m apos) (e::es) [] pos) (Ca C m sp Um E ta t):=by intro pins s σ H Q I h;show CP (pl:=pl) (thn (he pins s σ H _ I h) λu s1 XE=>?_) ht;let(x,H1,I1,rx,a,dx,fs,ex,ea,l,q):=XE;subst ex;let rfl:u=Value.ref a:=rx;show ZB4 I1 ea c hm l ?_;show p8 (first:=[.ref a]) (h₀:=X.base) I.ok.mod.kin hm.kp (thn (ha pos pins s1 σ H1 _ I1 q) λus s2 ⟨vs,H2,I2,r,q2⟩=>{I2.kIn,?_}) Wo UB;show ID (us:=.ref a::us) (vs:=.ref a::vs) F hr hb hd hx I2 (.cons rfl r) q2
def ZC7(he:PE X o ta)(c:Cls X.K C)(hm:Meth X.K C m f)(F:FnOk X.prog X.w X.K X.mg X.base CX k f fd ps sp)(hr:Room k X.A)(hb:Binds X.K fd ps ds)(hd:Vals Um ds)(hx:KL CX X E)
  (ht:eval (.Call (.Attribute o m apos) [] [] pos) X.env=(do
   let ov <-eval o X.env
   standAt apos.atName
   let (f,first) <-holding [ov] (getMethod ov m pl)
   callWith pos f first (backTo pos<|starEach [] X.env) (backToKw pos<|keywordEach [] X.env)):=by rfl):
  PE X (.Call (.Attribute o m apos) [] [] pos) (Ca C m sp Um E ta MG):=by intro pins s σ H Q I h;show CP (pl:=pl) (thn (he pins s σ H _ I h) λu s1 XE=>?_) ht;let(x,H1,I1,rx,a,dx,fs,ex,ea,l,q):=XE;subst ex;let rfl:u=Value.ref a:=rx;show ZB4 I1 ea c hm l ?_;show PySem.W.callWith_K0 (first:=[.ref a]) I1.kIn hm.kp (ID (us:=[.ref a]) (vs:=[.ref a]) F hr hb hd hx I1 (.cons rfl .nil) q)
structure Mk(K:Ad)(C f:A7):Prop where
 makes:PySem.W.makesIn K C=A9
 init:PySem.W.findIn K ↑C "__init__"=⇑(some<|.ref f)
 fn:PySem.W.isFn K ↑f=A9
 kp:PySem.W.keepIn K ↑C=A9
def om(M:Mk X.K C f)(F:FnOk X.prog X.w X.K X.mg X.base CX k f fd ps sp)(hr:Room (k+1) X.A)(hb:Binds X.K fd ps ds)(hd:Vals Um ds)
  (hx:KL CX X E)(I:Inv X pins σ H s)(r:Vals vs us)
  (h:∀x dx,H x=A8->H dx=A8->dx≠x->sp (.ref x::(vs++Um)) (upd (upd H dx<|.own x) x<|.ins C dx []) (λv H2=>v=.non/\Q ↑x H2) E):
  wpAny (model X.prog X.w) X.A (call ↑C us) (EP X pins σ Q) X.xe s:=by
 let hq:=h ((~~~s)+1) (~~~s) (I.hok.fresh<|Tz _) (I.hok.fresh<|XI _) (Yl<|RV _);let I2:=Inv.made (C:=C) I
 let r2:Vals (V.ref ((~~~s)+1)::(vs++Um)) (Value.ref ((~~~s)+1)::(us++ds)):=.cons Z (r.append hd);let hl:(Value.ref ((~~~s)+1)::us++ds).f=ps.f:=by let e:=r2.f;rw[F.len _ _ _ _ hq]at e;show e.symm
 show CT (oy (f:=f) I.kIn M.makes M.init (um.Y M.fn) (Ny (F.run _ X.stack _ _ {Value.ref ((~~~s)+1)::us,[]} (Value.ref ((~~~s)+1)::(us++ds)) _ _ E (hr.make C us [])
  (I2.env0.make C us []) (hb _ (Value.ref ((~~~s)+1)::us) I2.kIn hl) r2 hq) λr s' MF=>?_))
 cases r with
 |error e=>show hx pins σ _ _ e s' I2 MF
 |ok fl=>
  cases fl with
  |ret u=>
   let(v,H',I3,rv,ev,q3):=I2.after MF;subst ev;exists rv,{V.ref<|(~~~s)+1,H',I3,Z,q3}
  |next=>show False.elim MF
  |brk=>show False.elim MF
  |cont=>show False.elim MF
def tQ(M:Mk X.K C f)(F:FnOk X.prog X.w X.K X.mg X.base CX k f fd ps sp)(hr:Room (k+1) X.A)(hg:Gl X x)(hm:X.mg x=some ↑C)(hb:Binds X.K fd ps ds)(hd:Vals Um ds)(hx:KL CX X E)
  (ha:PA X (e::es) t)(RP:(x == ("__debug__":B8))=B0:=by decide)(he:starEach (e::es) X.env=(false,eval e X.env)::starEach es X.env:=by rfl)(UB:(backTo pos<|starEach es X.env).any (·.1)=B0:=by rfl):
  PE X (.Call (.Name x p) (e::es) [] pos) (BZ C sp Um E t):=by intro pins s σ H Q I h;show Nb (o9 I hg hm ?_ RP);show p8 (h₀:=X.base) I.ok.mod.kin M.kp (thn (ha pos pins s σ H _ I h) λus s1 ⟨vs,H1,I1,r,q⟩=>{I1.kIn,?_}) he UB;show om M F hr hb hd hx I1 r q
end
structure FnScope(N P:A6 B8)(sc:B9):Prop where
 kind:sc.kind=.function
 co:sc.isCoroutine=B0
 gen:sc.isGenerator=B0
 nd:N.Nodup
 pre:N.R P.f=P
 par:∀x∈P,sc.names.M x=some .local\/sc.names.M x=some .cell
 nofree:∀y∈sc.names,y.2≠.free
def Zv6{kindOf:B8->Option NameKind}:∀{binds:A6 (B8×B1)}{m:Af},(∀v,(x,v)∉binds)->bindL kindOf binds m x=m x
 |[],_,_=>rfl
 | (n,v)::r,m,h=>by
  unfold bindL;rw[Zv6 λw hw=>h w (Yn _ hw)];split
  .grind
  .rfl
def Zx6{kindOf:B8->Option NameKind}:∀{binds:A6 (B8×B1)}{m:Af},(∀v,(x,v)∉binds)->bindC kindOf binds m x=m x
 |[],_,_=>rfl
 | (n,v)::r,m,h=>by
  unfold bindC;rw[Zx6 λw hw=>h w (Yn _ hw)];split
  .rfl
  grind
def Zw6{kindOf:B8->Option NameKind}{x:B8}{v:B1}:∀{P:A6 B8}{vs:Ag}{i:A5}{m:Af},P.Nodup->P[i]?=⇑x->vs[i]?=⇑v->kindOf x=some .local->
  bindL kindOf (P.zip vs) m x=⇑v
 |[],_,_,_,_,h,_,_=>by simp at h
 |_::_,[],_,_,_,_,h,_=>by simp at h
 |p::P,w::vs,0,m,nd,h1,h2,hk=>by
  simp at h1 h2;subst h1;subst h2;change bindL kindOf ((p,w)::P.zip vs) m p=_
  unfold bindL;rw[Zv6 λv hv=>(Rp.Y nd).1 (pU hv).1,Yk hk];simp
 |p::P,w::vs,i+1,m,nd,h1,h2,hk=>by change bindL kindOf ((p,w)::P.zip vs) m x=_;show Zw6 (i:=i) (Rp.Y nd).2 (by simpa using h1) (by simpa using h2) hk
def Zy6{kindOf:B8->Option NameKind}{x:B8}{v:B1}:∀{P:A6 B8}{vs:Ag}{i:A5}{m:Af},P.Nodup->P[i]?=⇑x->vs[i]?=⇑v->kindOf x≠some .local->
  bindC kindOf (P.zip vs) m x=⇑v
 |[],_,_,_,_,h,_,_=>by simp at h
 |_::_,[],_,_,_,_,h,_=>by simp at h
 |p::P,w::vs,0,m,nd,h1,h2,hk=>by
  simp at h1 h2;subst h1;subst h2;change bindC kindOf ((p,w)::P.zip vs) m p=_
  unfold bindC;rw[Zx6 λv hv=>(Rp.Y nd).1 (pU hv).1,Yj hk];simp
 |p::P,w::vs,i+1,m,nd,h1,h2,hk=>by change bindC kindOf ((p,w)::P.zip vs) m x=_;show Zy6 (i:=i) (Rp.Y nd).2 (by simpa using h1) (by simpa using h2) hk
def start(N:A6 B8)(vs:A6 V):(St):=vs.Q some++List.replicate (N.f-vs.f) none
def Tu(CX:PB)(P:Program)(w:World)(K:Ad)(mg:Af)(base:Heap)(N:A6 B8)(qual:B8)(scope:B9)(f:A7)(cd:B1)(A:Around)(outer:A6 Env)(s:B5)(H:Hp)(E:XK):(Cx) where
 prog:=P
 w:=w
 K:=K
 mg:=mg
 base:=base
 A:=A.deeper (envOfC qual scope (~~~s) f cd)
 N:=N
 s₀:=s
 H₀:=H
 env:=envOfC qual scope (~~~s) f cd
 outer:=outer
 stack:=envOfC qual scope (~~~s) f cd::outer
 ex:=[]
 calm:=A9
 fn:=λ_=>true
 pn:=[]
 xe:=λe s'=>wpAny (model P w) (A.deeper<|envOfC qual scope (~~~s) f cd) (leaving (envOfC qual scope (~~~s) f cd) e) (λ_ Sj=>CX outer H s E e Sj) (λe' Sj=>CX outer H s E e' Sj) s'
def ZR8{sc:B9}(h:sc.names.M x=some .cell):∃c,(cellsFrom n sc.names []).M x=⇑c:=by let q:=Y3R sc.names n [] (.inl h);show OW.Y q
def ZI9{CX:PB}{P:Program}{w:World}{K:Ad}{mg:Af}{base:Heap}{N ps:A6 B8}{qual:B8}{scope:B9}{f:A7}{cd:B1}{A:Around}{outer:A6 Env}{s s1:B5}{H:Hp}{E:XK}{us:Ag}{vs:A6 V}
  (S:FnScope N ps scope)(hd:A.handled=A8)(e0:Env0 P w K mg base A outer s H)(hl:vs.f=ps.f)(r:Vals vs us)
  (x:InCallC s (~~~s) (bindL (envOfC qual scope (~~~s) f cd).kindOf (ps.zip us) λ_=>none) (cellsFrom ((~~~s)+1) scope.names []) (bindC (envOfC qual scope (~~~s) f cd).kindOf (ps.zip us) λ_=>none) s1):
  Inv (Tu CX P w K mg base N qual scope f cd A outer s H E) [] (start N vs) H s1:=by
 let UB:ps.f<=N.f:=by have:=YF List.f S.pre;rw[Yx]at this;lia
 let(h1,tk,rfl,hk):=x.done;let IC:∀b:A7,b∉(Tu CX P w K mg base N qual scope f cd A outer s H E).ex:=λb z=>absurd (show b∈([]:A6 A7) from z) AP
 show⟨{e0.mod,S.kind,Z,Z,XI _,λy z c h1 h2=>?_,λy hy=>?_,λy c _ h=>?_,λ_=>hd,Around.frames_deeper e0.frames,.inr ⟨Z,Z⟩,λb z=>absurd z<|IC b,e0.bs,e0.bsz,λb _ _=>IC b,λb z=>absurd z<|IC b,e0.funs,e0.frf},
  rfl,e0.bare,Un.kept hk,{_,x.toInCall.ns,λi y v h1 h2 h3=>?_},λy c h=>{_,x.cell y c h},e0.hok.fresh<|XI _,λy c h=>?_,λp hp=>absurd (show p∈([]:A6 (A7×Obj)) from hp) AP,e0.hok.kept hk,?_⟩
 .show name_of_addr x.apart (Nc h1) (Nc h2)
 .rcases hy with hy|hy
  .show ZR8 hy
  .show absurd Z (S.nofree _<|Nc hy)
 .show NA (x.above y c<|Nc h)
 .let hi:i<vs.f:=by
   unfold start at h2;cases hi:i<vs.f
   .show hi
   .grind
  let ha:vs[i]?=⇑v:=by
   unfold start at h2;rw[YB (by simpa using hi),Yo]at h2;cases e:vs[i]? with
   |none=>ext
   |some a=>ext
  let(u,hu,rv):=r.get ha;let hp:ps[i]?=⇑y:=by rwa[<-S.pre,qp (by ext)]
  let ndP:ps.Nodup:=by rw[<-S.pre];show S.nd.sublist (RX _ _)
  exists u,rv,?_;rcases S.par y (Xo hp) with k|k
  .show .inl {k,Zw6 ndP hp hu k}
  .let⟨c,e⟩:=ZR8 (n:=(~~~s)+1) k;show .inr {.inl k,c,e,?_};let q:=x.cell y c e
   rwa[Zy6 ndP hp hu (by change scope.names.M y≠_;lia)]at q
 .show e0.hok.fresh (NA<|x.above y c<|Nc h)
 .unfold start;change _=N.f
  ext
def KJ{CX:PB}{P:Program}{w:World}{K:Ad}{mg:Af}{base:Heap}{k:A5}{f:A7}{name qual:B8}{params:Arguments}{body:A6 B6}{scope:B9}{dV kV doc pm XG ct oc:B1}{an od:Option A7}
  {UA:B3 (Option B1)}{N ps:A6 B8}{sp:Sp}(lk:K.M f=⇑{oc,od,.func<|PySem.W.fnOf name qual params body scope dV kV doc pm an XG ct,UA})(Sl:PySem.W.codeIn K XG qual=A9)(S:FnScope N ps scope)
  (len:∀vs H Q E,sp vs H Q E->vs.f=ps.f)
  (VJ:∀(A:Around)(outer:A6 Env)(s:B5)(H:Hp)(vs:A6 V)(Q:VK)(E:XK),Room k (A.deeper<|envOfC qual scope (~~~s) f XG)->sp vs H Q E->
   ∃t,PSs (Tu CX P w K mg base N qual scope f XG A outer s H E) body t/\t {nx:=λ_ H'=>Q .non H',rt:=Q} (start N vs) H):
  FnOk P w K mg base CX (k+1) f (PySem.W.fnOf name qual params body scope dV kV doc pm an XG ct) ps sp:=by
 exists len,λA outer s H args us vs Q E hr e0 hb r SN=>?_;let hl:=len _ _ _ _ SN
 let KX:K.In s.C:=e0.mod.kin.keeps λb o e=>(e0.bs b o e).1;let lim:s.C.NoLimit:=e0.mod.nolimit.keeps λb o e=>(e0.bs b o e).1
 let BX:∀y∈ps.zip us,scope.names.M y.1=some .local\/(scope.names.M y.1=some .cell/\((cellsFrom ((~~~s)+1) scope.names []).M y.1).isSome=A9):=λ⟨n,v⟩ hy=>by
  rcases S.par n (pU hy).1 with q|q
  .show .inl q
  .show .inr {q,Y3R _ _ _<|.inl q}
 show codeAny_call_function hr.depth (KX _ _ lk) Z S.co S.gen Z (PySem.W.codeRec_of KX Sl) (hb _ _ _ _ ?_);show wpAny_newFunctionEnv_cells S.kind BX λenv he s1 x=>?_;subst he;exists lim.keeps x.toInCall.keep,codeAny_func ?_;let(t,ht,hq):=VJ A outer s H vs Q E (hr.deeper _) SN;let I:Inv (Tu CX P w K mg base N qual scope f XG A outer s H E) [] (start N vs) H s1:=ZI9 S hr.hd e0 hl r x
 show TX (ht [] s1 (start N vs) H _ I hq) (λfl s' hs=>?_) λe s' hs=>hs;let fin:∀{σ':St}{H':Hp}{v:V}{u:B1},Inv (Tu CX P w K mg base N qual scope f XG A outer s H E) [] σ' H' s'->RelV v u->Q v H'->CE outer P w H s Q u s':=
  λ{σ' H' v u} o7 rv q=>⟨v,H',o7.os,o7.bare,o7.base,o7.hok,rv,q⟩
 cases fl with
 |ret u=>
  let(v,σ',H',o7,rv,q):=hs;show fin o7 rv q
 |next=>
  let(σ',H',o7,q):=hs;show fin (v:=V.non) (u:=Value.none) o7 Z q
 |brk=>
  let(_,_,_,q):=hs;show False.elim q
 |cont=>
  let(_,_,_,q):=hs;show False.elim q
section
variable{X:Cx}{x:B8}{p pos:Pos}{e:B4}{es:A6 B4}{t:TA}{id T:String}{r:A6 V->Hp->VK->Prop}
def tCB(r:A6 V->Hp->VK->Prop)(t:TA):(TE):=λσ H Q=>t σ H λvs H1=>r vs H1 Q
def Zf(hc:VL X (.builtin id) r)(hg:Gl X x)(hm:X.mg x=A8)(hv:bootBuiltins x=⇑(.builtin id))(ha:PA X (e::es) t)(hn:x≠"__name__":=by decide)(RP:(x == ("__debug__":B8))=B0:=by decide)
  (he:starEach (e::es) X.env=(false,eval e X.env)::starEach es X.env:=by rfl)(UB:(backTo pos<|starEach es X.env).any (·.1)=B0:=by rfl):PE X (.Call (.Name x p) (e::es) [] pos) (tCB r t):=by intro pins s σ H Q I h;show Nb (PL I hg hm hv ?_ hn RP);show qw (thn (ha pos pins s σ H _ I h) λus s1 zz=>by let(vs,H1,I1,r1,q1):=zz;show hc pins s1 σ H1 vs us Q I1 r1 q1) he UB
def Zi(hc:VL X (.type T) r)(hg:Gl X x)(hm:X.mg x=A8)(hv:bootBuiltins x=⇑(.type T))(ha:PA X (e::es) t)(hn:x≠"__name__":=by decide)(RP:(x == ("__debug__":B8))=B0:=by decide)
  (he:starEach (e::es) X.env=(false,eval e X.env)::starEach es X.env:=by rfl)(UB:(backTo pos<|starEach es X.env).any (·.1)=B0:=by rfl):PE X (.Call (.Name x p) (e::es) [] pos) (tCB r t):=by intro pins s σ H Q I h;show Nb (PL I hg hm hv ?_ hn RP);show Lf (thn (ha pos pins s σ H _ I h) λus s1 zz=>by let(vs,H1,I1,r1,q1):=zz;show hc pins s1 σ H1 vs us Q I1 r1 q1) he UB
end
end L2
namespace HT
open PySem PyProof.Rows
def lexLt:(Ac->Ac->B2)
 |[],[]=>false
 |[],_::_=>true
 |_::_,[]=>false
 |x::xs,y::ys=>if x=y then lexLt xs ys else decide (x<y)
def Xz(x y:A0)(xs ys:Ac):lexLt (x::xs) (y::ys)=if x=y then lexLt xs ys else decide (x<y):=rfl
def Zr4:lexLt [] []=B0:=rfl
def ZK3(y:A0)(ys:Ac):lexLt [] (y::ys)=A9:=rfl
def ZL3(x:A0)(xs:Ac):lexLt (x::xs) []=B0:=rfl
def oj(A:Around)(s:B5)(a:A0)(t:Tok)(c:A0)(u:Tok):∃e,SeqAt.EqAt A s (.int a t) (.int c u) e/\(e=A9↔a=c):=
 {(a == c),Fp a t c u,AP}
def Zw7(A:Around)(s:B5)(a:A0)(t:Tok)(c:A0)(u:Tok)(prog:Program)(w:World)(E:Ae)(Q:Ae)(h:Q (.bool (decide (a<c))) s):
  wpAny (model prog w) A (richCompare .Lt (.int a t)<|.int c u) Q E s:=
 (PyProof.Rows.lt_int h:wpAny (model prog w) A (compareOp .Lt (.int a t)<|.int c u) Q E s)
section
open PySem.SeqAt
open PySem.AutoSeq1 (wpAny_loadPart')
open PySem.MeetsSeq PySem.MeetsSeq2 PySem.MeetsSeq3
def Zb4(l b:A7)(items Wv:B3 B1)(n n2:A5)(dd Pz:Option A7)(sl Py:B3 (Option B1))(ns ms:Ac)(hi:IntsAre items.m ns)(hj:IntsAre Wv.m ms):
  Meets (Builtin.«tuple.__lt__» {[.ref l,.ref b],[]})
   (λ_ R s=>s.C.G l=⇑{cls:=.type "tuple",dict:=dd,data:=.seq items n,slots:=sl}/\s.C.G b=⇑{cls:=.type "tuple",dict:=Pz,data:=.seq Wv n2,slots:=Py}/\
    R (.ok<|.ret<|.bool<|lexLt ns ms) s):=
 .of_wp λprog w A R s h=>by
  let(hp,g,d,tk,os):=s;let(hl,hb,h):=h;let f2:=AutoSeq1.sub_tuple_tuple
  let z1:items.o=ns.f:=by rw[<-hi.f];simp
  let z2:Wv.o=ms.f:=by rw[<-hj.f];simp
  wp_walk using Lc hl,Lc hb,wpAny_forIn_list _ (λrest b s'=>b.1=none/\s'=⟨hp,g,d,tk,os⟩/\∃(vs ws:Ag)(EN EM:Ac),rest=vs.zip ws/\
   IntsAre vs EN/\IntsAre ws EM/\EN.f+Wv.o=EM.f+items.o/\R (.ok<|.ret<|.bool<|lexLt EN EM) ⟨hp,g,d,tk,os⟩) _
  case turn=>
   rintro⟨y,x⟩ rest b s' ⟨Uz,rfl,vs,ws,EN,EM,hz,oi,tP,hlen,hR⟩;cases oi with
   |nil=>cases hz
   |cons a t oh=>
    cases tP with
    |nil=>cases hz
    |cons c u og=>
     injection hz with tO KI;injection tO with hy hx;subst hy hx;rw[Xz]at hR;simp only[YM]at hlen;let(e,he,BW):=oj A.in1 ⟨hp,g,d,tk,os⟩ a t c u;show XU (he prog w _ _ ?_);cases e with
     |true=>
      rw[Yk (BW.Y Z)]at hR
      wp_walk
      exists Z,Z,_,_,_,_,KI,oh,og,J,hR
     |false=>
      rw[Yj λq=>absurd (BW.X q) YC]at hR;let oe:=Zw7 A.in1 ⟨hp,g,d,tk,os⟩ a t c u prog w
      wp_walk using oe
      exists _,Z,by simpa using hR
  case fin=>
   rintro⟨b1,b2⟩ s' ⟨Uz,rfl,vs,ws,EN,EM,hz,oi,tP,hlen,hR⟩;subst Uz;let hv:lexLt EN EM=decide (items.o<Wv.o):=by
    cases oi with
    |nil=>
     cases tP with
     |nil=>
      rw[Zr4]
      ext
     |cons c u hw=>
      simp only[uH,YM]at hlen;rw[ZK3]
      ext
    |cons a t hv=>
     cases tP with
     |nil=>
      simp only[uH,YM]at hlen;rw[ZL3];lia
     |cons c u hw=>
      ext
   rw[hv]at hR
   wp_walk
   exists _,Z,by simpa[Builtin.Tuple.tupleCompareSizes] using hR
  case h=>
   exists Z,Z,items.m,Wv.m,ns,ms,Z,hi,hj,J,h
end
section
variable{prog:Program}{w:World}{A:Around}{E:Ae}{s:B5}
def UK{Q:Ae}(hl:IsTup s.C l items)(hb:IsTup s.C b Wv)(hi:IntsAre items.m ns)(hj:IntsAre Wv.m ms)
  (hu:A.units<cLine)(h:Q (.bool<|lexLt ns ms) s):wpAny (model prog w) A (compareOp .Lt ↑l<|.ref b) Q E s:=by
 let((cls,dd,data,sl),ho,hc,n,hd):=id hl;let((IB,Pz,data2,Py),Vd,Vt,n2,hd2):=id hb;subst hc hd Vt hd2;show richCompare_meets_room (op:=.Lt) {_,ho,Z} {_,Vd,Z} CO Y3S (Y3H _ _) (Zb4 l b items Wv n n2 dd Pz sl Py ns ms hi hj)
  {ho,Vd,show Value.bool (lexLt ns ms)≠Value.notImplemented/\Q (.bool<|lexLt ns ms) s from⟨(λx=>nomatch x),h⟩} hu
def ME{vs ws:Ag}{Q:Ae}(ht:IsTup s.C t vs.E)(hb:IsTup s.C b ws.E)(hv:vs≠[])
  (h1:ws=[]->Q ↑t s)(h2:ws≠[]->Q (.ref (~~~s)) {s with heap:=s.C.push {cls:=.type "tuple",data:=.seq (vs++ws).E} })
  (hsz:vs.f+ws.f<=sizeLine):wpAny (model prog w) A (binaryOp .Add ↑t<|.ref b) Q E s:=by
 let((cls,dd,data,sl),ho,hc,n,hd):=id ht;let((IB,Pz,data2,Py),Vd,Vt,n2,hd2):=id hb;subst hc hd Vt hd2;let e:vs.E++ws.E=(vs++ws).E:=AP
 cases hw:ws=[]
 .show concat_meets {_,ho,Z} {_,Vd,Z} pL seq_tuple_add qk qo (qr _ _)
   (tuple_addW1 t b vs.E ws.E n n2 dd Pz sl Py (by simpa using hv)<|by simp[hw]) {ho,Vd,h1 hw}
 .show concat_meets {_,ho,Z} {_,Vd,Z} pL seq_tuple_add qk qo (qr _ _)
   (tuple_addW2 t b vs.E ws.E n n2 dd Pz sl Py (by ext) (by ext)<|by show hsz) ⟨ho,Vd,?_⟩
  rw[e];show h2 hw
def Uy(n d:A5):(Option A0->A5)
 |none=>d
 |some v=>if v<0 then (v+(n:A0)).j else min v.j n
def VI(n d:A5):Uy n d none=d:=rfl
end
end HT
namespace L2
open PySem PySem.Spec PyProof.Rows
abbrev TO:=St->Hp->(Option A0->Hp->Prop)->Prop
def PO(X:Cx)(e:Option B4)(t:TO):(Prop):=
 ∀(pins:A6 (A7×Obj))(s:B5)(σ:St)(H:Hp)(Q:Option A0->Hp->Prop),Inv X pins σ H s->t σ H Q->
  wpAny (model X.prog X.w) X.A (evalPart e X.env) (λu s'=>∃o H',Inv X pins σ H' s'/\IsPart u o/\Q o H') X.xe s
def n9:(TO):=λ_ H Q=>Q none H
inductive xPart(x:V)(H1:Hp)(Q:Option A0->Hp->Prop):Prop
 |mk (i:A0) (_:x=.int i) (_:Q ⇑i H1)
def BV(t:TE):(TO):=λσ H Q=>t σ H λx H1=>xPart x H1 Q
section
variable{X:Cx}{e:B4}{te:TE}{lo hi:Option B4}{tl th:TO}{pos p2:Pos}
def QF:PO X none n9:=by intro pins s σ H Q I h;show Yg ⟨none,H,I,.none,h⟩
def RO(h:PE X e te):PO X ⇑e (BV te):=by intro pins s σ H Q I hw;show thn (h pins s σ H _ I hw) λu s1 XE=>?_;let(x,H1,I1,r1,q1):=XE;let(i,rfl,q):=q1;let(t,rfl):=r1;exists some i,H1,I1,.int i t,q
def tN(X:Cx)(r:V->Option A0->Option A0->Hp->VK->Prop):(Prop):=
 ∀(pins:A6 (A7×Obj))(s:B5)(σ:St)(H:Hp)(x:V)(v vl vu:B1)(lo hi:Option A0)(sl:A7)(Q:VK),Inv X pins σ H s->RelV x v->s.C.IsSliceOf sl vl vu .none->IsPart vl lo->IsPart vu hi->r x lo hi H Q->
  ∃T id,typeLookup (.type T) "__getitem__"=pure (some<|.builtin id)/\s.TypeIs v T/\wpAny (model X.prog X.w) X.A (getItem v<|.ref sl) (EP X pins σ Q) X.xe s
def tSl(r:V->Option A0->Option A0->Hp->VK->Prop)(te:TE)(tl th:TO):(TE):=λσ H Q=>te σ H λx H1=>tl σ H1 λl H2=>th σ H2 λu H3=>r x l u H3 Q
def VH{r:V->Option A0->Option A0->Hp->VK->Prop}(hr:tN X r)(he:PE X e te)(hl:PO X lo tl)(hu:PO X hi th):PE X (.Subscript e (.Slice lo hi none p2) pos) (tSl r te tl th):=by
 intro pins s σ H Q I h;show Subscript_ (thn (he pins s σ H _ I h) λv s1 XE=>?_);let(x,H1,I1,r1,q1):=XE;show wpAny_Slice (thn (hl pins s1 σ H1 _ I1 q1) λvl s2 zz=>?_);let(l,H2,I2,pl,q2):=zz;show thn (hu pins s2 σ H2 _ I2 q2) λvu s3 XE=>?_;let(u,H3,I3,pu,q3):=XE;show Yg ?_;let I4:Inv X pins σ H3 {s3 with heap:=s3.C.push {cls:=.type "slice",data:=.fields #[vl,vu,.none]} }:=I3.kept (t':=s3.toks) λb ob q=>Xs _ q
 let(T,id,hT,ht,hg):=hr pins {s3 with heap:=s3.C.push {cls:=.type "slice",data:=.fields #[vl,vu,.none]} } σ H3 x v vl vu l u (~~~s3) Q I4 r1 (Heap.IsSliceOf.new ..) pl pu q3;show tail_any (ops:=[.ref (~~~s3),v]) ht hT hg (by with_unfolding_all rfl)
def Xl(xs:A6 V)(lo hi:Option A0):(A6 V):=(xs.drop<|HT.Uy xs.f 0 lo).R (HT.Uy xs.f xs.f hi-HT.Uy xs.f 0 lo)
def n8(xs:A6 V)(lo hi:Option A0):(Xl xs lo hi).f<=xs.f:=by unfold Xl;rw[Yx,Jq];lia
def BU(K:Ad):(R2):=λx y H Q=>∃a b xs ys,x=.ref a/\y=.ref b/\SqT K H a xs/\SqT K H b ys/\xs≠[]/\xs.f+ys.f<=sizeLine/\
 (ys=[]->Q ↑a H)/\(ys≠[]->∀p,H p=A8->Q ↑p (upd H p<|.tup<|xs++ys))
def Vals.nil_iff(r:Vals xs us):us=[]↔xs=[]:=by
 cases r with
 |nil=>simp
 |cons _ _=>simp
def BS:Ww X (binaryOp .Add) (BU X.K):=by intro pins s σ H x y v u Q I rx ry h;let(a,b,xs,ys,rfl,rfl,ha,hb,hx,hz,q1,q2):=h;cases rx;cases ry;let(XW,r1,p1,_):=I.tuple ha;let(Vs,r2,p2,_):=I.tuple hb;show HT.ME p1 p2 (λz=>hx<|r1.nil_iff.Y z) (λz=>{.ref a,H,I,Z,q1<|r2.nil_iff.Y z}) (λz=>?_) (by rwa[<-r1.f,<-r2.f]);exists .ref (~~~s),_,I.laid (t':=s.toks) (o:=.tup<|xs++ys) (λb ob q=>Xs _ q) (XI _) ?_,Z,q2 (λw=>z<|r2.nil_iff.X w) _<|I.hok.fresh<|XI _;exists by ext,_,r1.append r2,IsTup.new _ _
end
def QE(n:A5)(i:A0):(Option A5):=if 0<=i then (if i<n then some i.j else none) else if -(n:A0)<=i then some (i+n).j else none
def VQ{α:Type}(xs:A6 α)(i:A0):(Option α):=(QE xs.f i).bind λj=>xs[j]?
def BR{j:A5}(h:QE n i=⇑j):seqIndex? i n=⇑j/\j<n/\-(n:A0)<=i/\i<n:=by
 unfold QE at h;cases h0:0<=i
 .rw[Yk h0]at h;cases h1:i<n
  .rw[Yk h1]at h;let e:i.j=j:=Yf h
   exists by rw[seqIndex_of h0 h1,e],J,J,h1
  ext
 .rw[Yj h0]at h;cases h1:-(n:A0)<=i
  .rw[Yk h1]at h;let e:(i+n).j=j:=Yf h
   exists by rw[seqIndex_neg (by ext) h1,e],J,h1,J
  ext
def n6{α:Type}{xs:A6 α}{i:A0}{v:α}(h:VQ xs i=⇑v):∃j,seqIndex? i xs.f=⇑j/\xs[j]?=⇑v/\j<xs.f/\-xs⁻¹<=i/\i<xs.f:=by
 unfold VQ at h;cases e:QE xs.f i with
 |none=>ext
 |some j=>
  rw[e]at h;let(h1,h2,h3,h4):=BR e;exists j,h1,h,h2,h3,h4
def n4(b:B4):(Prop):=∀o i,subscripted b false o i=operate [o,i] (getItem o i)
def IA(X:Cx)(r:R2):(Prop):=
 ∀(value slice:B4)(pins:A6 (A7×Obj))(s:B5)(σ:St)(H:Hp)(x y:V)(v u:B1)(Q:VK),Inv X pins σ H s->RelV x v->RelV y u->r x y H Q->
  subscripted slice false v u=operate [v,u] (getItem v u)->wpAny (model X.prog X.w) X.A (subscriptTail value slice v u) (EP X pins σ Q) X.xe s
def tL(X:Cx)(id:String)(r:V->A6 V->Hp->VK->Prop):(Prop):=
 ∀(pins:A6 (A7×Obj))(s:B5)(σ:St)(H:Hp)(x:V)(xs:A6 V)(v:B1)(us:Ag)(Q:VK),Inv X pins σ H s->RelV x v->Vals xs us->r x xs H Q->
  wpAny (model X.prog X.w) X.A (call (.builtin id)<|v::us) (EP X pins σ Q) X.xe s
section
variable{X:Cx}{a b:B4}{ta tb:TE}{pos:Pos}
def ZB(hr:IA X r)(ha:PE X a ta)(hb:PE X b tb)(hs:n4 b):PE X (.Subscript a b pos) (Cn r ta tb):=by intro pins s σ H Q I h;show Subscript_ (IS ha hb I h λv u s2 x y H2 I2 rx ry q=>hr a b pins s2 σ H2 x y v u Q I2 rx ry q<|hs _ _)
inductive rIxL(K:Ad)(x:V)(y:V)(H:Hp)(Q:VK):Prop
 |mk (p xs i v:_) (_:x=.ref p) (_:y=.int i) (_:SqL K H p xs) (_:VQ xs i=⇑v) (_:Q v H)
inductive rIxT(K:Ad)(x:V)(y:V)(H:Hp)(Q:VK):Prop
 |mk (p xs i v:_) (_:x=.ref p) (_:y=.int i) (_:SqT K H p xs) (_:VQ xs i=⇑v) (_:Q v H)
def nZ:(R2):=λx y H Q=>∃z i c,x=.str z/\y=.int i/\z.f<=sizeLine/\VQ z.cps.m i=⇑c/\Q (.str {#[c]}) H
def nY:IA X (rIxL X.K):=by
 intro value slice pins s σ H x y v u Q I rx ry h hs;let(p,xs,i,z,rfl,rfl,hq,he,q):=h;cases rx;let(t,rfl):=ry;let(XW,r,pl,hz):=I.list hq;let(j,h1,h2,h3,h4,h5):=n6 he;let(w,ew,MD):=r.get h2;let hl:=r.f
 let hn:=IK;let fin:EP X pins σ Q w s:=⟨z,H,I,MD,q⟩
 cases h0:0<=i
 .let hj:i.j=j:=by rw[seqIndex_of h0 h5]at h1;show Yf h1
  show item_listR pl.isList h0 J (by ext) fin hs
 .let hj:(i+(XW.E.o:A0)).j=j:=by rw[seqIndex_neg (by ext) h4]at h1;rw[YK,<-hl];show Yf h1
  show subscriptTail_builtinR (x:=w) pl.isList.typeIs slot_list_getitem.M
   (wpAny_getItem_list_neg (Q:=λr s'=>r=w/\EP X pins σ Q r s') pl.isList (by ext) (by ext) J (by rw[hj];simpa using ew) ⟨Z,fin⟩) hs
def nX:IA X (rIxT X.K):=by
 intro value slice pins s σ H x y v u Q I rx ry h hs;let(p,xs,i,z,rfl,rfl,hq,he,q):=h;cases rx;let(t,rfl):=ry;let(XW,r,pl,hz):=I.tuple hq;let(j,h1,h2,h3,h4,h5):=n6 he;let(w,ew,MD):=r.get h2;let hl:=r.f
 let hn:=IK;let fin:EP X pins σ Q w s:=⟨z,H,I,MD,q⟩
 show subscriptTail_builtinR (x:=w) pl.typeIs slot_tuple_getitem.M
  (getItem_tuple (j:=j) (Q:=λr s'=>r=w/\EP X pins σ Q r s') pl J J (by ext) (by simpa using ew) ⟨Z,fin⟩) hs
def nW:IA X nZ:=by
 intro value slice pins s σ H x y v u Q I rx ry h hs;let(z,i,c,rfl,rfl,hz,he,q):=h;let(t,rfl):=rx;let(t',rfl):=ry;let(j,h1,h2,h3,h4,h5):=n6 he;let hl:z.cps.m.f=z.f:=by simp[Str.length]
 rw[hl]at h1 h4 h5;let hn:=IK
 show tail_any (QJ s z t) slot_str_getitem.M (getItem_str (c:=c) (by
  lia) (by ext) {.str {#[c]},H,I.tok _,{_,Z},q}) hs
def ZQ7(XW:Ag)(n j:A5)(u:B1):Obj.mapSeq (·.setIfInBounds j u) {cls:=.type "list",data:=.seq XW.E n}={cls:=.type "list",data:=.seq (XW.set j u).E n}:=by simp[Obj.mapSeq]
def Inv.lst{pins:A6 (A7×Obj)}{σ:St}{H:Hp}{s:B5}{p:A7}{xs:A6 V}(I:Inv X pins σ H s)(h:H p=⇑(.lst xs)):
  ∃(XW:Ag)(n:A5),Vals xs XW/\s.C.G p=⇑{cls:=.type "list",data:=.seq XW.E n}/\xs.f<=sizeLine:=by let(z,XW,n,r,e):=I.hok p _ h;exists XW,n,r,e,z
def Inv.lstUpd{p:A7}{xs ys:A6 V}{XW its':Ag}{f:Obj->Obj}(I:Inv X pins σ H s)(h:H p=⇑(.lst xs))
  (ho:s.C.G p=⇑{cls:=.type "list",data:=.seq XW.E n})(hf:f {cls:=.type "list",data:=.seq XW.E n}={cls:=.type "list",data:=.seq its'.E n'})(r:Vals ys its')(hz:ys.f<=sizeLine)(t:A5):
  Inv X pins σ (upd H p<|.lst ys) {s with heap:=s.C.update p f,toks:=t}:=by
 let e:(s.C.update p f).G p=⇑{cls:=.type "list",data:=.seq its'.E n'}:=by rw[UP f ho (by rw[hf]<;>rfl),hf]
 show I.write (x:=p) (e:=p) (by rw[h];trivial) (.inl Z) (λb u hb q=>(YL _ _<|YX hb).l q) {_,e} ?_;exists hz,its',n',r,e
inductive rSetL(o:V)(i:V)(v:V)(H:Hp)(Q:Hp->Prop):Prop
 |mk (p xs k j:_) (_:o=.ref p) (_:i=.int k) (_:H p=⇑(.lst xs)) (_:QE xs.f k=⇑j) (_:Q (upd H p<|.lst<|xs.set j v))
def KH:IV X rSetL:=by
 intro pins s σ H o i v ov iv u Q I ro ri rv h;let(p,xs,k,j,rfl,rfl,hp,hj,q):=h;cases ro;let(t,rfl):=ri;let(XW,n,r,ho,hz):=I.lst hp;let(h1,h2,h3,h4):=BR hj;let hl:=r.f
 let hn:=IK;let I':Inv X pins σ (upd H p<|.lst<|xs.set j v) {s with heap:=s.C.update p (Obj.mapSeq (·.setIfInBounds j u))}:=
  I.lstUpd hp ho (ZQ7 XW n j u) (r.set rv j) (by ext) s.toks
 cases h0:0<=k
 .let hk:k.j=j:=by rw[seqIndex_of h0 h4]at h1;show Yf h1
  show PySem.W.ki_setAt ho h0 J (by ext) (by rw[hk];exists _,I',q)
 .let hk:(k+(XW.E.o:A0)).j=j:=by rw[seqIndex_neg J h3]at h1;rw[YK,<-hl];show Yf h1
  show PySem.W.ki_setBack ho B (by ext) J (by rw[hk];exists _,I',q)
def KG(i:A0)(n:A5):max 0 (min (if i<0 then i+n else i) n)=((if i<0 then (i+n).j else min i.j n:A5):A0):=by
 cases h:i<0
 .rw[Yk h,Yk h,pR J,Int.ofNat_toNat,Int.max_comm]
 .let⟨m,rfl⟩:=Int.eq_ofNat_of_zero_le (uj.Y h);rw[Yj h,Yj h,VN];grind
def nV(lo hi:Option A0)(n:A5):(sliceBounds lo hi none n).1=((HT.Uy n 0 lo:A5):A0)/\(sliceBounds lo hi none n).2.1=((HT.Uy n n hi:A5):A0)/\(sliceBounds lo hi none n).2.2=1:=by exists by cases lo<;>first|rfl|show KG _ n,by cases hi<;>first|rfl|show KG _ n,rfl
def Zh4(XW:Ag)(lo hi:Option A0):slicePick XW.E lo hi none=((XW.drop (HT.Uy XW.f 0 lo)).R (HT.Uy XW.f XW.f hi-HT.Uy XW.f 0 lo)).E:=by let(h1,h2,h3):=nV lo hi XW.E.o;unfold slicePick;rw[h1,h2,h3];simp only[sliceRange_one,pick_run,YK]<;>rfl
inductive rSlL(K:Ad)(x:V)(lo:Option A0)(hi:Option A0)(H:Hp)(Q:VK):Prop
 |mk (a xs:_) (_:x=.ref a) (_:SqL K H a xs) (_:∀p,H p=A8->Q ↑p (upd H p<|.lst<|Xl xs lo hi))
def nU:tN X (rSlL X.K):=by
 intro pins s σ H x v vl vu lo hi sl Q I rx hs pl pu h;let(a,xs,rfl,hx,q):=h;cases rx;let(XW,r,ht,hz):=I.list hx;let hlen:=r.f
 exists "list",_,slot_list_getitem.M,ht.isList.typeIs,?_;show wpAny_getItem_list_slice ht.isList hs pl pu .none AP ?_ (by ext);rw[Zh4,<-hlen];exists .ref (~~~s),_,I.laid (t':=s.toks) (o:=.lst<|Xl xs lo hi) (λb ob q=>Xs _ q) (XI _) ?_,Z,q _<|I.hok.fresh<|XI _;exists Ym (n8 xs lo hi) hz,_,0,(r.drop<|HT.Uy xs.f 0 lo).R (HT.Uy xs.f xs.f hi-HT.Uy xs.f 0 lo),Qd _ Z
def SM:(V->B2)
 | .non=>true
 | .bl _=>true
 | .int _=>true
 | .str _=>true
 |_=>false
def Nv:(V->V->B2)
 | .non,.non=>true
 | .bl a,.bl b=>a == b
 | .bl a,.int b=>(if a then 1 else 0) == b
 | .int a,.bl b=>a == (if b then 1 else 0)
 | .int a,.int b=>a == b
 | .str a,.str b=>a == b
 |_,_=>false
def BQ(ry:RelV y u)(rx:RelV x v)(fy:SM y=A9)(fx:SM x=A9):SeqAt.EqAt A s u v (Nv y x):=by
 cases y with
 |non=>
  cases ry;cases x with
  |non=>cases rx;show uA _
  |bl b=>cases rx;show SeqAt.EqAt.none_bool b
  |int b=>let(t,rfl):=rx;show SeqAt.EqAt.none_int b t
  |str b=>let(t,rfl):=rx;show SeqAt.EqAt.none_str b t
  |_=>show absurd (show false=A9 from fx) YC
 |bl a=>
  cases ry;cases x with
  |non=>cases rx;show SeqAt.EqAt.bool_none a
  |bl b=>cases rx;show SeqAt.EqAt.bool_bool a b
  |int b=>let(t,rfl):=rx;show SeqAt.EqAt.bool_int a b t
  |str b=>let(t,rfl):=rx;show SeqAt.EqAt.bool_str a b t
  |_=>show absurd (show false=A9 from fx) YC
 |int a=>
  let(t',rfl):=ry;cases x with
  |non=>cases rx;show SeqAt.EqAt.int_none a t'
  |bl b=>cases rx;show SeqAt.EqAt.int_bool a t' b
  |int b=>let(t,rfl):=rx;show Fp a t' b t
  |str b=>let(t,rfl):=rx;show SeqAt.EqAt.int_str a t' b t
  |_=>show absurd (show false=A9 from fx) YC
 |str a=>
  let(t',rfl):=ry;cases x with
  |non=>cases rx;show SeqAt.EqAt.str_none a t'
  |bl b=>cases rx;show SeqAt.EqAt.str_bool a t' b
  |int b=>let(t,rfl):=rx;show SeqAt.EqAt.str_int a t' b t
  |str b=>let(t,rfl):=rx;show SeqAt.EqAt.str_str a t' b t
  |_=>show absurd (show false=A9 from fx) YC
 |_=>show absurd (show false=A9 from fy) YC
def Si(x:V)(u:B1):(B2):=match u with
 | .none=>Nv .non x
 | .bool b=>Nv (.bl b) x
 | .int i _=>Nv (.int i) x
 | .str z _=>Nv (.str z) x
 |_=>false
def BP(r:RelV y u)(f:SM y=A9):Si x u=Nv y x:=by
 cases y with
 |non=>cases r;rfl
 |bl b=>cases r;rfl
 |int i=>let(t,rfl):=r;rfl
 |str z=>let(t,rfl):=r;rfl
 |_=>show absurd (show false=A9 from f) YC
def tK{xs:A6 V}{us:Ag}(h:Vals xs us)(f:xs.all SM=A9):us.any (Si x)=xs.any λy=>Nv y x:=by
 induction h with
 |nil=>rfl
 |cons r t ih=>
  rw[List.all_cons,Fn]at f;rw[pK,pK,BP r f.1,ih f.2]
def OJ(rx:RelV x v)(fx:SM x=A9){xs:A6 V}{us:Ag}(h:Vals xs us)(f:xs.all SM=A9):∀u∈us,SeqAt.EqAt A s u v (Si x u):=by
 induction h with
 |nil=>intro u hu;cases hu
 |cons r t ih=>
  intro u' hu;rw[List.all_cons,Fn]at f;rcases Yu.Y hu with rfl|hu
  .rw[BP r f.1];show BQ r rx f.1 fx
  .show ih f.2 u' hu
def KD(x:V)(xs:A6 V):(B2):=xs.any λy=>Nv y x
def rIn(K:Ad)(neg:B2):(R2):=λx y H Q=>∃p xs,y=.ref p/\(SqL K H p xs\/SqT K H p xs)/\SM x=A9/\xs.all SM=A9/\Q (.bl<|if neg then !KD x xs else KD x xs) H
def Zq9:Ww X (compareOp .In) (rIn X.K false):=by
 intro pins s σ H x y v u Q I rx ry h;let(p,xs,rfl,hq,fx,fs,q):=h;cases ry;rcases hq with hq|hq
 .let⟨XW,r,pl,hz⟩:=I.list hq;show SeqAt.in_listAt (Si x) pl.isList (λw hw=>OJ rx fx r fs w<|by simpa using hw) ⟨.bl _,H,I,Z,?_⟩;rwa[show XW.E.any (Si x)=XW.any (Si x) by simp,tK r fs]
 .let⟨XW,r,pl,hz⟩:=I.tuple hq;show SeqAt.in_tupleAt (Si x) pl (λw hw=>OJ rx fx r fs w<|by simpa using hw) ⟨.bl _,H,I,Z,?_⟩;rwa[show XW.E.any (Si x)=XW.any (Si x) by simp,tK r fs]
def nS:Ww X (compareOp .NotIn) (rIn X.K true):=by
 intro pins s σ H x y v u Q I rx ry h;let(p,xs,rfl,hq,fx,fs,q):=h;cases ry;rcases hq with hq|hq
 .let⟨XW,r,pl,hz⟩:=I.list hq;show SeqAt.notIn_listAt (Si x) pl.isList (λw hw=>OJ rx fx r fs w<|by simpa using hw) ⟨.bl _,H,I,Z,?_⟩;rwa[show XW.E.any (Si x)=XW.any (Si x) by simp,tK r fs]
 .let⟨XW,r,pl,hz⟩:=I.tuple hq;show SeqAt.notIn_tupleAt (Si x) pl (λw hw=>OJ rx fx r fs w<|by simpa using hw) ⟨.bl _,H,I,Z,?_⟩;rwa[show XW.E.any (Si x)=XW.any (Si x) by simp,tK r fs]
inductive yR0(K:Ad)(xs:A6 V)(H:Hp)(Q:VK):Prop
 |mk (p ys:_) (_:xs=[.ref p]) (_:(SqL K H p ys\/SqT K H p ys)) (_:Q (.int ys.f) H)
def Zy5:VL X (.builtin "len") (yR0 X.K):=by
 intro pins s σ H xs us Q I r h;let(p,ys,rfl,hq,q):=h;let(u,rfl,rx):=Ve r;cases rx;let hn:=IK
 rcases hq with hq|hq
 .let⟨XW,r',pl,hz⟩:=I.list hq;let hlen:=r'.f
  show Calls.call_len_list pl.isList B {.int ys.f,H,I.tok _,{s.toks+1,by ext},q}
 .let⟨XW,r',pl,hz⟩:=I.tuple hq;let hlen:=r'.f
  show len_tuple pl B {.int ys.f,H,I.tok _,{s.toks+1,by ext},q}
def Zx5:VL X (.builtin "len") (λxs H Q=>∃z,xs=[.str z]/\z.f<=sizeLine/\Q (.int z.f) H):=by
 intro pins s σ H xs us Q I r h;let(z,rfl,hz,q):=h;let(u,rfl,t,rfl):=Ve r;let hn:=IK
 show len_str J {.int z.f,H,I.tok _,{_,Z},q}
def Zw5:VL X (.type "list") (λxs H Q=>∃p ys,xs=[.ref p]/\(SqL X.K H p ys\/SqT X.K H p ys)/\∀l,H l=A8->Q ↑l (upd H l (.lst ys))):=by
 intro pins s σ H xs us Q I r h;let(p,ys,rfl,hq,q):=h;let(u,rfl,rx):=Ve r;cases rx;let fin:∀(XW:Ag),Vals ys XW->ys.f<=sizeLine->∀(h':Heap)(c':A5),(∀b o',s.C.G b=⇑o'->h'.G b=⇑o')->
   h'.G (~~~s)=⇑{cls:=.type "list",dict:=A8,data:=.seq XW.E c',slots:=#[]}->EP X pins σ Q (.ref (~~~s)) {s with heap:=h'}:=λXW r' hz h' c' kp e=>
  {.ref (~~~s),_,I.laid (t':=s.toks) kp (XI _)<|show ObjOk X.prog X.w _ h' _ (.lst ys) from⟨hz,XW,c',r',e⟩,Z,q _<|I.hok.fresh<|XI _}
 rcases hq with hq|hq
 .let⟨XW,r',pl,hz⟩:=I.list hq;let hlen:=r'.f
  let(o,ho,hc,n,hd):=pl.isList;show call_list_seq p (.inl Z) ho hc hd (λh' c' kp e=>fin XW r' hz h' c' kp e) (by ext)
 .let⟨XW,r',pl,hz⟩:=I.tuple hq;let hlen:=r'.f
  let(o,ho,hc,n,hd):=pl;show call_list_seq p (.inr Z) ho hc hd (λh' c' kp e=>fin XW r' hz h' c' kp e) (by ext)
def ZJ4:VL X (.type "tuple") (λxs H Q=>∃p ys,xs=[.ref p]/\((SqL X.K H p ys/\∀l,H l=A8->Q ↑l (upd H l (.tup ys)))\/(SqT X.K H p ys/\Q ↑p H))):=by
 intro pins s σ H xs us Q I r h;let(p,ys,rfl,h):=h;let(u,rfl,rx):=Ve r;cases rx;rcases h with ⟨hq,q⟩|⟨hq,q⟩
 .let⟨XW,r',pl,hz⟩:=I.list hq;let hlen:=r'.f
  show call_tuple_list pl.isList (λh' kp=>?_) B;let I1:Inv X pins σ H {s with heap:=h'}:=I.kept (t':=s.toks) kp
  let I2:Inv X pins σ (upd H h'.objs.o<|.tup ys) {s with heap:=h'.push {cls:=.type "tuple",data:=.seq XW.E} }:=
   I1.laid (t':=s.toks) (λb o e=>Xs _ e) (XI _) (show ObjOk X.prog X.w _ _ _ (.tup ys) from{hz,XW,r',IsTup.new _ _})
  exists .ref h'.objs.o,_,I2,Z,q _<|I1.hok.fresh<|XI _
 .let⟨XW,r',pl,hz⟩:=I.tuple hq;show call_tuple_same pl {.ref p,H,I,Z,q}
def nR(K:Ad)(T:String)(x:V)(H:Hp):(Prop):=match x with
 | .str _=>T="str"
 | .int _=>T="int"
 | .ref p=>(T="list"/\∃xs,SqL K H p xs)\/(T="tuple"/\∃o,K.M p=⇑o/\o.cls=.type "tuple"/\o.dict=A8)\/
   (T="dict"/\((∃kvs,H p=⇑(.dK kvs))\/∃kvs,H p=⇑(.dT kvs)))\/(T="set"/\∃S n,H p=⇑(.set S n))
 |_=>False
def BO(I:Inv X pins σ H s)(r:RelV x v)(ty:nR X.K T x H):
  s.TypeIs v T/\∀a,v=.ref a->∃ob,s.C.G a=⇑ob/\ob.dict=A8:=by
 cases x with
 |str z=>
  let(t,rfl):=r;cases (show T="str" from ty);exists QJ s z t,λ_ e=>nomatch e
 |int i=>
  let(t,rfl):=r;cases (show T="int" from ty);exists typeIs_int s i t,λ_ e=>nomatch e
 |ref p=>
  cases r;rcases ty with ⟨rfl,xs,hq⟩|⟨rfl,o,hk,hc,hd⟩|⟨rfl,hk⟩|⟨rfl,S,n,hk⟩
  .let⟨XW,_,pl,_⟩:=I.list hq;exists pl.isList.typeIs,λa e=>?_;cases e;let(o,n,e,c,hd,_):=pl;exists o,e,hd
  .exists {o,I.kIn p o hk,hc},λa e=>?_;cases e;exists o,I.kIn _ o hk,hd
  .let z:∃o,s.C.G p=⇑o/\o.ExactDict:=by
    rcases hk with ⟨kvs,hk⟩|⟨kvs,hk⟩
    .let⟨_,_,_,_,o,_,_,e,ex,_⟩:=I.hok p _ hk;exists o,e,ex
    .let⟨_,_,_,_,o,_,_,e,ex,_⟩:=I.hok p _ hk;exists o,e,ex
   let(o,e,ex):=z;exists ⟨o,e,ex.1⟩,λa e2=>?_;cases e2;exists o,e,ex.2.1
  .let⟨o,_,_,_,e,ex,_⟩:=I.hok p _ hk;exists ⟨o,e,ex.1⟩,λa e2=>?_;cases e2;exists o,e,ex.2.1
 |_=>show False.elim ty
def BN(K:Ad)(T:String)(r:V->A6 V->Hp->VK->Prop)(to:TE):(TE):=λσ H Q=>to σ H λx H1=>nR K T x H1/\r x [] H1 Q
def tBM(K:Ad)(T:String)(r:V->A6 V->Hp->VK->Prop)(to:TE)(t:TA):(TE):=λσ H Q=>to σ H λx H1=>nR K T x H1/\t σ H1 λxs H2=>r x xs H2 Q
variable{o e:B4}{es:A6 B4}{to:TE}{t:TA}{name:B8}{apos Wi:Pos}{T id:String}{r:V->A6 V->Hp->VK->Prop}
def BM(pa:PlainAttrs T)(slot:Slot T name id)(Iz:typeOf (.builtin id)=pure (.type "method_descriptor"))(hm:tL X id r)(ho:PE X o to)
  (UJ:attributeBase o name X.env (eval o X.env)=eval o X.env:=by rfl)(UI:(apos.endLine == Wi.line)=A9:=by rfl):PE X (.Call (.Attribute o name apos) [] [] Wi) (BN X.K T r to):=by intro pins s σ H Q I h;show wpAny_Call_method0_late UJ UI (thn (ho pins s σ H _ I h) λv s1 XE=>?_);let(x,H1,I1,r1,ty,q1):=XE;let(h1,h2):=BO I1 r1 ty;exists T,id,pa,slot,Iz,h1,h2,Calls.callWith_builtin Z<|PySem.evalArgs_none<|hm pins s1 σ H1 x [] v [] Q I1 r1 .nil q1
def nQ(pa:PlainAttrs T)(slot:Slot T name id)(Iz:typeOf (.builtin id)=pure (.type "method_descriptor"))(hm:tL X id r)(ho:PE X o to)(ha:PA X (e::es) t)
  (UJ:attributeBase o name X.env (eval o X.env)=eval o X.env:=by rfl)
  (Iy:((backTo Wi<|starEach (e::es) X.env).all (λx=>!x.1)&&(backToKw Wi<|keywordEach [] X.env).all (λx=>x.1.isSome)
   && decide ((e::es).f+([]:A6 Keyword).f+(if ([]:A6 Keyword).isEmpty then 0 else 1)<30))=A9:=by rfl)
  (UI:(apos.endLine == Wi.line)=A9:=by rfl)(hs:starEach (e::es) X.env=(false,eval e X.env)::starEach es X.env:=by rfl)(OI:(backTo Wi<|starEach es X.env).any (·.1)=B0:=by rfl):
  PE X (.Call (.Attribute o name apos) (e::es) [] Wi) (tBM X.K T r to t):=by
 intro pins s σ H Q I h;show wpAny_Call_method_late UJ Iy UI Z (thn (ho pins s σ H _ I h) λv s1 XE=>?_);let(x,H1,I1,r1,ty,q1):=XE;let(h1,h2):=BO I1 r1 ty;exists T,id,pa,slot,Iz,h1,h2,?_;let hA:=ha Wi pins s1 σ H1 _ I1 q1
 rw[hs]at hA ⊢;show Calls.callWith_builtin B (Calls.evalArgs_plain ?_);show thn hA λus s2 zz=>by let(vs,H2,I2,r2,q2):=zz;show hm pins s2 σ H2 x vs v us Q I2 r1 r2 q2
end
def Nu(X:Cx)(id:String)(r:V->A6 V->Hp->VK->Prop):(Prop):=
 ∀(pins:A6 (A7×Obj))(s:B5)(σ:St)(H:Hp)(x:V)(xs:A6 V)(v:B1)(us:Ag)(Q:VK),Inv X pins σ H s->RelV x v->Vals xs us->r x xs H Q->
  wpAny (model X.prog X.w) X.A (call (.builtin id)<|v::us) (EP X pins σ Q) X.xe s
def Vals.one{x:V}{us:Ag}(r:Vals [x] us):∃u,us=[u]/\RelV x u:=by
 cases r with
 |cons a r=>cases r;exists _,Z,a
def Vals.eraseIdx{xs:A6 V}{us:Ag}(i:A5)(h:Vals xs us):Vals (xs.eraseIdx i) (us.eraseIdx i):=by
 induction h generalizing i with
 |nil=>show .nil
 |cons r t ih=>
  cases i with
  |zero=>show t
  |succ i=>show .cons r (ih i)
def Vals.rep(h:Vals xs us):∀k:A5,Vals (List.replicate k xs).flatten (List.replicate k us).flatten
 |0=>.nil
 |k+1=>by show Vals.append h (Vals.rep h k)
def ZZ5{α:Type}:∀(l:A6 α)(i:A5),(l.eraseIdx i).f<=l.f
 |[],_=>XI _
 |_::_,0=>Tz _
 |_::r,i+1=>pX (ZZ5 r i)
def Zc6(XW:Ag):∀(k:A5)(acc:Ag),
  List.foldl (λx1 x2=>x1++x2) acc.E (List.replicate k XW.E)=(acc++(List.replicate k XW).flatten).E
 |0,acc=>AP
 |k+1,acc=>by
  let e:acc.E++XW.E=(acc++XW).E:=AP;let e2:(acc++XW)++(List.replicate k XW).flatten=acc++(List.replicate (k+1) XW).flatten:=by rw[List.replicate_succ,List.flatten_cons,QP]
  rw[<-e2,<-Zc6 XW k (acc++XW),<-e,List.replicate_succ,uG]
section
variable{X:Cx}{pins:A6 (A7×Obj)}{σ:St}{H:Hp}{s:B5}{l:A7}{xs ys:A6 V}
def Inv.lset{XW its':Ag}{f:B3 B1->B3 B1}{t':A5}(I:Inv X pins σ H s)(hH:H l=⇑(.lst xs))
  (e:s.C.G l=⇑{cls:=.type "list",data:=.seq XW.E n})(hf:f XW.E=its'.E)(hv:Vals ys its')(hz:ys.f<=sizeLine):
  Inv X pins σ (upd H l<|.lst ys) {s with heap:=s.C.update l<|Obj.mapSeq f,toks:=t'}:=by let q:=PySem.IsL.update e f;rw[hf]at q;show I.write (x:=l) (e:=l) (by rw[hH];show trivial) (.inl Z) (λb' u hb hu=>(YL s.C (Obj.mapSeq f)<|YX hb).l hu) {_,q} ?_;exists hz,its',_,hv,q
def Inv.lnew{t':A5}(I:Inv X pins σ H s)(hv:Vals ys XW)(hz:ys.f<=sizeLine):
  Inv X pins σ (upd H (~~~s)<|.lst ys) {s with heap:=s.C.push {cls:=.type "list",data:=.seq XW.E},toks:=t'}:=
 I.laid (λ_ _ q=>Xs _ q) (XI _) {hz,XW,0,hv,Qd _ Z}
def Inv.fresh(I:Inv X pins σ H s):H (~~~s)=A8:=I.hok.fresh (XI _)
def Inv.lstM(I:Inv X pins σ H s)(hH:H l=⇑(.lst xs)):xs.f<=sizeLine/\∃(XW:Ag)(n:A5),Vals xs XW/\xs.f=XW.f/\s.C.G l=⇑{cls:=.type "list",data:=.seq XW.E n}:=by let(z,XW,n,r,e):=I.hok l _ hH;exists z,XW,n,r,r.f,e
def ZH7(h:n<=sizeLine):Builtin.List.listTooLong n=B0:=by
 unfold Builtin.List.listTooLong
 ext
end
section
variable{X:Cx}
inductive rAppend(x:V)(vs:A6 V)(H:Hp)(Q:VK):Prop
 |mk (l xs y:_) (_:x=.ref l) (_:vs=[y]) (_:H l=⇑(.lst xs)) (_:xs.f<sizeLine) (_:Q .non (upd H l<|.lst<|xs++[y]))
def Ul:Nu X "list.append" rAppend:=by intro pins s σ H x vs v us Q I rx rv h;let(l,xs,y,rfl,rfl,hH,hz,q):=h;cases rx;let(u,rfl,ru):=rv.one;let(z,XW,n,r,hl,e):=I.lstM hH;show Nw F.slot_list_append {_,e,Z} F.entry_list_append (F.args_list_append_2 _ _) (PySem.list_append l XW.E n u<|by ext) ⟨e,?_⟩;exists .non,_,I.lset (its':=XW++[u]) hH e AP (r.append<|.cons ru .nil) ?_,Z,q;grind
def BK:(V->A6 V->Hp->VK->Prop):=λx vs H Q=>∃l b xs zs,x=.ref l/\vs=[.ref b]/\H l=⇑(.lst xs)/\H b=⇑(.lst zs)/\xs.f+zs.f<=sizeLine/\Q .non (upd H l<|.lst<|xs++zs)
def nP:Nu X "list.extend" BK:=by
 intro pins s σ H x vs v us Q I rx rv h;let(l,b,xs,zs,rfl,rfl,hH,hB,hz,q):=h;cases rx;let(u,rfl,ru):=rv.one;cases ru;let(z,XW,n,r,hl,e):=I.lstM hH;let(z2,Vs,n2,r2,Ri,e2):=I.lstM hB;let hsz:XW.E.o+Vs.E.o<=sizeLine:=by rw[YK,YK];ext
 let OH:¬(!XW.E.isEmpty&&Builtin.List.listTooLong (XW.E.o+Vs.E.o))=A9:=by rw[ZH7 hsz,Bool.and_false];show YC
 show Nw F.slot_list_extend {_,e,Z} F.entry_list_extend (F.args_list_extend_2 _ _)
  (AutoSeq1.list_extend_list_list_0 l XW.E n b Vs.E n2 OH (by ext) J) {e,e2,?_}
 exists .non,_,I.lset (its':=XW++Vs) hH e AP (r.append r2) ?_,Z,q
 ext
def nO:(V->A6 V->Hp->VK->Prop):=λx vs H Q=>∃l xs i k y,x=.ref l/\vs=[.int i]/\H l=⇑(.lst xs)/\-(2^63)<=i/\i<2^63/\seqIndex? i xs.f=⇑k/\xs[k]?=⇑y/\Q y (upd H l<|.lst<|xs.eraseIdx k)
def BJ:Nu X "list.pop" nO:=by
 intro pins s σ H x vs v us Q I rx rv h;let(l,xs,i,k,y,rfl,rfl,hH,h1,h2,hk,hy,q):=h;cases rx;let(u,rfl,ru):=rv.one;let(t,rfl):=ru;let(z,XW,n,r,hl,e):=I.lstM hH;let(w,hw,MD):=r.get hy;show Nw F.slot_list_pop {_,e,Z} F.entry_list_pop (F.args_list_pop_2 _ _)
  (MeetsSeq.list_pop_at l XW.E n i t k w (fitsIndex_both h1 h2) (by ext) (by ext)<|by ext) ⟨e,?_⟩
 exists y,_,I.lset (its':=XW.eraseIdx k) hH e ?_ (r.eraseIdx k) ?_,MD,q
 .ext
 .have:=ZZ5 xs k
  lia
inductive rCat(x:V)(y:V)(H:Hp)(Q:VK):Prop
 |mk (l b xs zs:_) (_:x=.ref l) (_:y=.ref b) (_:H l=⇑(.lst xs)) (_:H b=⇑(.lst zs)) (_:xs.f+zs.f<=sizeLine) (_:∀p,H p=A8->Q ↑p (upd H p<|.lst<|xs++zs))
def tJ:Ww X (binaryOp .Add) rCat:=by
 intro pins s σ H x y v u Q I rx ry h;let(l,b,xs,zs,rfl,rfl,hH,hB,hz,q):=h;cases rx;cases ry;let(z,XW,n,r,hl,e):=I.lstM hH;let(z2,Vs,n2,r2,Ri,e2):=I.lstM hB;show PySem.P.add_list e e2 ?_ (by ext);let ea:XW.E++Vs.E=(XW++Vs).E:=AP
 rw[ea];exists .ref _,_,I.lnew (t':=s.toks) (r.append r2) (by rw[Ya];omega),Z,q _ I.fresh
def nN:(R2):=λx y H Q=>∃l k xs,x=.ref l/\y=.int k/\H l=⇑(.lst xs)/\-(2^63)<=k/\k<2^63/\xs.f*k.j<=sizeLine/\
 ∀p,H p=A8->Q ↑p (upd H p<|.lst (List.replicate k.j xs).flatten)
def nM{α:Type}(xs:A6 α)(k:A5):(List.replicate k xs).flatten.f=k*xs.f:=by
 ext
def KC:Ww X (binaryOp .Mult) nN:=by
 intro pins s σ H x y v u Q I rx ry h;let(l,k,xs,rfl,rfl,hH,h1,h2,hz,q):=h;cases rx;let(t,rfl):=ry;let(z,XW,n,r,hl,e):=I.lstM hH;let hlen:XW.E.o*k.j<=sizeLine:=by rwa[YK,<-hl]
 let nK:¬XW.E.o*k.j>(2^63-1)/8:=by
  have:(sizeLine:A5)<=(2^63-1)/8:=D
  grind
 let nJ:¬(!Builtin.List.listFitsIndex k)=A9:=by rw[fitsIndex_both h1 h2];show YC
 let OH:¬Builtin.List.listTooLong (XW.E.o*k.j)=A9:=by rw[ZH7 hlen];show YC
 let OG:List.foldl (λx1 x2=>x1++x2) #[] (List.replicate (if XW.E.isEmpty=A9 then 0 else k.j) XW.E)=(List.replicate k.j XW).flatten.E:=by
  let f0:∀m:A5,List.foldl (λx1 x2=>x1++x2) #[] (List.replicate m XW.E)=(List.replicate m XW).flatten.E:=λm=>by
   have:=Zc6 XW m []
   ext
  rw[f0];cases XW with
  |nil=>simp
  |cons a r'=>ext
 show wpAny_binaryOp_repeat_ref (T:="list") (U:="int") D {_,e,Z} (λs'=>typeIs_int s' k t) noFill_list_mul F.fills_int_mul F.slot_int_rmul repeat_list F.slot_int_index.M
  (Nw F.slot_int_rmul (typeIs_int s k t) F.entry_int_rmul (F.args_int_rmul_2 _ _) (int___rmul___int_list k t l XW.E n)
   {e,Z,{_,e,Z},Nw F.slot_list_mul {_,e,Z} F.entry_list_mul (F.args_list_mul_2 _ _) (AutoListH.list___mul___list_int_3 l XW.E n k t nJ nK OH) {e,?_}})
 rw[OG];exists .ref _,_,I.lnew (t':=s.toks) (r.rep k.j) (by rwa[nM,Dk]),Z,q _ I.fresh
end
section
variable{κ:Type}[DecidableEq κ]
def Wm(kvs:A6 (κ×V))(k:κ):(Option V):=(kvs.find? λkv=>decide<|kv.1=k).Q (·.2)
def putK(kvs:A6 (κ×V))(k:κ)(v:V):(A6 (κ×V)):=
 if (kvs.any λkv=>decide<|kv.1=k)=A9 then kvs.Q (λkv=>if kv.1=k then (kv.1,v) else kv) else kvs++[(k,v)]
def nI{p:κ×V}{r:A6 (κ×V)}(e:p.1=k):Wm (p::r) k=some p.2:=by simp[Wm,uF,e]
def nH{p:κ×V}(e:¬p.1=k):Wm (p::r) k=Wm r k:=by simp[Wm,uF,e]
def Za7(k:κ):∀kvs:A6 (κ×V),(kvs.any λkv=>decide (kv.1=k))=(Wm kvs k).isSome
 |[]=>rfl
 |p::r=>by
  rw[pK];cases e:p.1=k
  .simp only[nI e,YU e,Bool.true_or,Option.isSome_some]
  .rw[nH e,OQ e,Bool.false_or];show Za7 k r
def ZQ6(kvs:A6 (κ×V))(k:κ)(v:V):(putK kvs k v).f<=kvs.f+1:=by unfold putK;grind
def nG{kvs:A6 (κ×V)}{k:κ}(v:V)(h:Wm kvs k=A8):putK kvs k v=kvs++[(k,v)]:=by
 unfold putK;rw[Za7,h]
 ext
def KV.val(r:KV kvs vs)(k:κ):RelO (Wm kvs k) (valueAt vs k):=by
 induction r with
 |nil=>show True.intro
 |@cons p q ps qs h t ih=>
  let(h1,h2):=h;cases e:p.1=k
  .let e':q.1=k:=h1.symm.l e;let b:valueAt (q::qs) k=some q.2:=by simp[valueAt,uF,e']
   rwa[nI e,b]
  .let e':¬q.1=k:=λz=>e (h1.l z);let b:valueAt (q::qs) k=valueAt qs k:=by simp[valueAt,uF,e']
   rwa[nH e,b]
def KV.any(r:KV kvs vs)(k:κ):(kvs.any λkv=>decide (kv.1=k))=vs.any λkv=>decide (kv.1=k):=by
 induction r with
 |nil=>rfl
 |cons h t ih=>ext
def KV.repl(r:KV kvs vs)(k:κ)(ry:RelV y u):
  KV (kvs.Q λkv=>if kv.1=k then (kv.1,y) else kv) (vs.Q λkv=>if kv.1=k then (kv.1,u) else kv):=by
 induction r with
 |nil=>show .nil
 |@cons p q ps qs h t ih=>
  show .cons ?_ ih;lia
def KV.put(r:KV kvs vs)(k:κ)(ry:RelV y u):KV (putK kvs k y) (stored vs k u):=by
 unfold putK stored;rw[r.any k];cases e:(vs.any λkv=>decide<|kv.1=k)=A9
 .rw[Yk e,Yk e];show r.repl k ry
 .rw[Yj e,Yj e];show Paired.snoc r ⟨Z,ry⟩
def KV.length{kvs:A6 (κ×V)}{vs:A6 (κ×B1)}(r:KV kvs vs):kvs.f=vs.f:=Paired.f r
end
def nF(r:RelV (kV k) u):(QH P w).is k u=A9:=by
 cases k with
 |inl i=>let(t,e):=(show ∃t,u=Value.int i t from r);subst e;show ZO6 P w i t
 |inr x=>let(t,e):=(show ∃t,u=Value.str x t from r);subst e;show ZN6 P w x t
section
variable{P:Program}{w:World}{H:Hp}{h:Heap}{a:A7}
def nE(ok:HOk P w H h)(e:Rd H a u):ObjOk P w H h a u:=e.ok ok
def nz(ok:HOk P w H h)(e:Rd H a (.dK kvs)):kvs.f<=sizeLine/\(a == sysModules)=B0/\∃vs,KV kvs vs/\h.DictOf (QH P w) a vs:=
 show ObjOk P w H h a (.dK kvs) from nE ok e
def Iw(ok:HOk P w H h)(e:H a=⇑(.dK kvs)):kvs.f<=sizeLine/\(a == sysModules)=B0/\∃vs,KV kvs vs/\h.DictOf (QH P w) a vs:=nz ok (.inl e)
end
section
variable{X:Cx}{pins:A6 (A7×Obj)}{σ:St}{H:Hp}{s:B5}{a:A7}
def Inv.big(I:Inv X pins σ H s):sysModules<(~~~s):=by let h:mainGlobals<(~~~s):=(I.mod.glob.keeps I.bk).lt;show Nat.lt_trans D h
def BI{t':A5}(I:Inv X pins σ H s)(mu:CK (H a))(hs:Heap.SameBut a s.C h')(he:∃q,h'.G a=⇑q)(new:ObjOk X.prog X.w (upd H a ob) h' a ob):
  Inv X pins σ (upd H a ob) {s with heap:=h',toks:=t'}:=
 I.write (x:=a) (e:=a) mu (.inl Z) (λb q hb z=>(hs.2 b hb).l z) he new
def ny(z:kvs.f<=sizeLine)(hd:(a == sysModules)=B0)(rel:KV kvs vs)(dd:h'.DictOf (QH P w) a vs):
  ObjOk P w H' h' a (.dK kvs):=⟨z,hd,vs,rel,dd⟩
end
def nu(h:Heap)(hb:sysModules<h.objs.o):ObjOk P w H (h.push {cls:=.type "dict",data:=.dict #[]}) h.objs.o (.dK []):=
 {XC _,beq_eq_false_iff_ne.X<|YX<|Yl hb,[],.nil,Heap.DictOf.new h}
def nt:(TE):=λ_ H Q=>∀p,H p=A8->Q ↑p (upd H p<|.dK [])
section
variable{X:Cx}{pos:Pos}
def nr:PE X (.Dict [] [] pos) nt:=λpins s σ H Q I h=>
 wpAny_Dict_empty {.ref (~~~s),_,I.laid (a:=(~~~s)) (o:=.dK []) (t':=s.toks) (λ_ _ q=>Xs _ q) (XI _)<|nu s.C I.big,Z,h _<|I.hok.fresh<|XI _}
end
end L2
namespace Att
open PySem PySem.W PySem.Calls PyProof.Rows
def Zg3:∀(ns:Ac)(vs:Ag),WellAll P h vs (ns.Q WData.int)->IntsAre vs ns:=by
 intro ns
 induction ns with
 |nil=>
  intro vs w;cases w;show .nil
 |cons n ns ih=>
  intro vs w;cases w with
  |cons a b=>
   cases a;show .cons _ _ (ih _ b)
def Zg9{l:OpenLaw}{n:A5}(hn:l.most=⇑n) 
  (MB:l.row.toRowW.claim.pre args=A9)(EL:WellAll P h vals args):
  ∃a vs ns,vals=[Value.ref a]/\args=[WData.list (ns.Q WData.int)]/\h.G a=⇑{cls:=.type "list",data:=.seq vs.E}/\IntsAre vs ns/\ns.f<=n:=by
 let hsh:WShape.hasAll [] args [.list .int]=A9:=(pre_splitW MB).1;let hc:l.pre.holds [] {args:=args}=A9:=(pre_splitW MB).2
 let(d,r,rfl,h1,h2):=hasAllW_cons hsh;let rfl:=hasAllW_nil h2;let(xs,rfl,h3):=hasW_list h1;let(ns,rfl):=items_int h3;let hlen:ns.f<=n:=by
  unfold OpenLaw.pre at hc;let h4:(WTm.not<|.lt (.lit<|.int (n:A0))<|.len<|.arg 0).holds [] {args:=[.list (ns.Q .int)]}=A9:=by let h4:=(holds_andW hc).1;rwa[hn]at h4
  let h5:=condW_of h4 (w_not<|w_lt w_lit<|w_len_list<|w_arg Z);rw[Yb]at h5;show OU λq=>?_;let q':(n:A0)<((ns.f:A5):A0):=by ext
  first
   |ext
   | (simp at h5;omega)
 cases EL with
 |cons w1 w2=>
  cases w2;cases w1 with
  |list ho hall=>exists _,_,ns,Z,Z,ho,Zg3 ns _ hall,hlen
def Zm9(l:OpenLaw)(args:A6 WData):l.row.toRowW.claim.post args (.bool true) args=A9:=
 postW_of (r:=l.row.toRowW) (X:=(true == true))
  (show WShape.has [] (.bool true) .bool=A9 by first|rfl|decide|simp[WShape.has,WShape.arms,WShape.armsAll])
  (show(WTm.eq .res<|.lit<|.bool true).value [] {args:=args,res:=some<|.bool true,after:=args}=⇑(.bool<|true == true) from w_eq_bool (w_res Z) w_lit) rfl
def SK{l:OpenLaw}{n:A5}{XP:Af->Heap->Prop}{YP:World->Heap->Prop} 
  (hn:l.most=⇑n)(nq:d.params.defaults=[])
  (call:∀(w:World)(s₀ s₁:B5)(mg mb:Af)(fa:A7)(o:Obj)(pm cd doc:B1)(a:A7)(vs:Ag)(ns:Ac),
   Ground q loose [] XP w s₀ mg mb s₁.C->YP w s₁.C->
   s₁.C.G fa=⇑o->o.data=.func (docDef d.name d.params d.body d.scope pm cd doc)->s₁.C.CodeRec cd d.name->mg d.name=some ↑fa->
   s₁.C.G a=⇑{cls:=.type "list",data:=.seq vs.E}->IntsAre vs ns->ns.f<=n->s₁.gens=#[]->
   codeAny (model l.prog w) callerA (.call ↑fa {[.ref a],[]}) (λr s'=>r=.ok (.ret<|.bool true)/\OldK s₁.C s'.C/\s'.os=s₁.os/\AllBare s'.gens) s₁):
  WalkO q loose XP YP l.row.toRowW d [] (λf vs=>PySem.call f vs):=by intro w s₀ s₁ mg mb G Y fa o pm cd doc dV kV ho hd Sl hD BH hg args vals as MB hlay nj EL Px;let rfl:dV=.none:=Dflts.none hD nq;let rfl:kV=.none:=Dflts.noKw hD;let(a,vs,ns,rfl,rfl,Iv,hints,hlen):=Zg9 hn MB EL;show enter_call (Ny (call w s₀ s₁ mg mb fa o pm cd doc a vs ns G Y ho (fd_plain hd) Sl BH Iv hints hlen hg) λr s' hq=>?_);let(rfl,h2,h3,h4):=hq;exists .inl {.bool true,.bool true,[],Z,λ_=>rfl,.bool true,Zm9 l _,λ_=>{List.U.nil,λ_ hm=>(nomatch hm)}},h2,h3,h4
section
def ZI17(h:Heap)(L d:A7):(A6 (A7×Obj)):=(List.range h.objs.o).filterMap λa=>if a=L\/a=d then none else (h.G a).Q λo=>(a,o)
end
end Att
namespace L2
open PySem PySem.Spec PyProof.Rows
def ni{vs:Ag}{ns:Ac}(h:IntsAre vs ns):Vals (ns.Q V.int) vs:=by
 induction h with
 |nil=>show .nil
 |cons n t h ih=>show .cons ⟨t,Z⟩ ih
abbrev Uk{K:Ad}{h:Heap}(_:K.In h):Ad:=K
def BG(s:B6)(j:A5):(B6):=match s with
 | .ClassDef _ _ _ body _ _ _ _ _ _ _=>body.S j (.Pass ⟨0,0,0,0⟩)
 |_=>.Pass ⟨0,0,0,0⟩
def Tt(s:B6):(Arguments):=match s with
 | .FunctionDef _ a _ _ _ _ _ _ _ _=>a
 |_=>{posonlyargs:=[],args:=[],vararg:=A8,kwonlyargs:=[],kw_defaults:=[],kwarg:=A8,defaults:=[]}
def Rh(s:B6):(A6 B6):=match s with
 | .FunctionDef _ _ b _ _ _ _ _ _ _=>b
 |_=>[]
def Zc(s:B6):(B9):=match s with
 | .FunctionDef _ _ _ _ _ _ sc _ _ _=>sc
 |_=>{kind:=.function,names:=[],isGenerator:=B0,isCoroutine:=B0}
abbrev Xx:PB:=λ_ _ _ _ _ _=>False
abbrev E0:XK:=λ_ _ _=>False
def Zt:KL Xx X E0:=λ_ _ _ _ _ _ _ h=>h.elim
structure Fun(K:Ad)(x qual:B8)(st:B6)(f:A7)(fd:B7):Prop where
 ex:∃(oc:B1)(od:Option A7)(kV doc pm:B1)(an:Option A7)(XG ct:B1)(UA:B3 (Option B1)),
  fd=PySem.W.fnOf x qual (Tt st) (Rh st) (Zc st) .none kV doc pm an XG ct/\K.M f=⇑{oc,od,.func fd,UA}/\PySem.W.codeIn K XG qual=A9
 kp:PySem.W.keepIn K ↑f=A9
section
variable{P:Program}{w:World}{K:Ad}{mg:Af}{base:Heap}
def Fun.ok{x qual:B8}{st:B6}{f:A7}{fd:B7}{N ps:A6 B8}{k:A5}{sp:Sp}(F:Fun K x qual st f fd)(S:FnScope N ps (Zc st))(len:∀vs H Q E,sp vs H Q E->vs.f=ps.f)
  (VJ:∀(XG:B1)(A:Around)(outer:A6 Env)(s:B5)(H:Hp)(vs:A6 V)(Q:VK)(E:XK),Room k (A.deeper<|envOfC qual (Zc st) (~~~s) f XG)->sp vs H Q E->
   ∃t,PSs (Tu Xx P w K mg base N qual (Zc st) f XG A outer s H E).nox (Rh st) t/\t {nx:=λ_ H'=>Q .non H',rt:=Q} (start N vs) H):FnOk P w K mg base Xx (k+1) f fd ps sp:=by let(oc,od,kV,doc,pm,an,XG,ct,UA,rfl,lk,Sl):=F.ex;show KJ lk Sl S len λA outer s H vs Q E hr SN=>?_;let(t,h,q):=VJ XG A outer s H vs Q E hr SN;exists t,h.nox,q
def Fun.binds{x qual:B8}{st:B6}{f:A7}{fd:B7}{ps:A6 B8}(F:Fun K x qual st f fd)
  (h:∀(kV doc pm:B1)(an:Option A7)(XG ct:B1)(us:Ag),us.f=ps.f->bindArgs (PySem.W.fnOf x qual (Tt st) (Rh st) (Zc st) .none kV doc pm an XG ct) {us,[]}=pure (ps.zip us)):Binds K fd ps []:=by let(oc,od,kV,doc,pm,an,XG,ct,UA,rfl,lk,Sl):=F.ex;show .all (h kV doc pm an XG ct)
def BF{x qual:B8}{st:B6}{f:A7}{oc:B1}{od an:Option A7}{UA:B3 (Option B1)}{kV doc pm XG ct:B1}(l:K.M f=⇑{oc,od,.func (PySem.W.fnOf x qual (Tt st) (Rh st) (Zc st) .none kV doc pm an XG ct),UA})
  (c:PySem.W.codeIn K XG qual=A9)(k:PySem.W.keepIn K ↑f=A9):Fun K x qual st f (PySem.W.fnOf x qual (Tt st) (Rh st) (Zc st) .none kV doc pm an XG ct):={⟨oc,od,kV,doc,pm,an,XG,ct,UA,Z,l,c⟩,k}
end
section
variable{X:Cx}
def pv(i:A5){x:B8}{pos:Pos}(hN:X.N[i]?=⇑x:=by rfl)(hv:ug X.env.scope x:=by first|show Or.inl rfl|show Or.inr (Or.inl rfl)|show Or.inr<|Or.inr rfl)(hd:(x == ("__debug__":B8))=B0:=by decide)
  (Sl:(x == ("__classdict__":B8))=B0:=by decide):PE X (.Name x pos) (tVar i):=Zah hN hv hd Sl
end
def MA{A o8:Prop}(h:o8):if false=A9 then A else o8:=by
 ext
def SJ{A o8:Prop}(h:A):if true=A9 then A else o8:=by
 ext
def BE{c A o8:Prop}[Decidable c](h1:c->A)(h2:¬c->o8):if c then A else o8:=by
 ext
def Same(H H':Hp):(Prop):=∀b o,H b=⇑o->H' b=⇑o
def Same.refl(H:Hp):Same H H:=λ_ _ h=>h
def Same.trans{H H1 H2:Hp}(a:Same H H1)(b:Same H1 H2):Same H H2:=λc o h=>b c o (a c o h)
def Same.free(e:Same H H'){l:A7}(h:H' l=Option.none):H l=Option.none:=by
 cases q:H l with
 |none=>rfl
 |some o=>
  rw[e l o q]at h;cases h
def Same.seq{K:Ad}{H H':Hp}{a:A7}{xs:A6 V}(e:Same H H')(h:SqL K H a xs):SqL K H' a xs:=by
 rcases h with (h|⟨o,h⟩)|h
 .show .inl (.inl<|e _ _ h)
 .show .inl (.inr {o,e _ _ h})
 .show .inr h
def Iu(X:Cx)(ifs:A6 B4)(t:TT):(Prop):=
 ∀pins s σ H Q,Inv X pins σ H s->t σ H Q->
  wpAny (model X.prog X.w) X.A (forIn ifs true λc r=>if r=A9 then do let ok <-isTrue c X.env (eval c X.env);pure (ForInStep.yield ok) else pure (ForInStep.yield r)) (TP X pins σ Q) X.xe s
def tYes:(TT):=λ_ H Q=>Q true H
def ZI:Iu X [] tYes:=λ_ _ _ H _ I h=>wpAny_tests_nil ⟨H,I,h⟩
def KA(hc:PT X c t):Iu X [c] t:=λpins s σ H Q I h=>wpAny_tests_one (hc pins s σ H Q I h)
def Za3{R:Result->B5->Prop}{elt target iter:B4}{scope:B9}{pos:Pos}{it acc:B1}(o7:A5->B5->Prop)
  (turn:∀n s,o7 n s->wpAny (model prog w) A (pyNext it) (λr s1=>match r with
   |none=>R (.ok .next) s1
   |some v=>wpAny (model prog w) A (letOwnedTupleGo target it v) (λ_ s2=>wpAny (model prog w) A (assign target env v) (λ_ s3=>
     wpAny (model prog w) A (forIn ifs true λc r=>if r=A9 then do let ok <-isTrue c env (eval c env);pure (ForInStep.yield ok) else pure (ForInStep.yield r)) (λok s4=>
      if ok=A9 then wpAny (model prog w) A (eval elt env) (λx s5=>
       wpAny (model prog w) A (call (.builtin "list.append") [acc,x]) (λ_ s6=>∃m,m<n/\o7 m s6) (λ_ _=>False) s5) (λ_ _=>False) s4
      else ∃m,m<n/\o7 m s4) (λ_ _=>False) s3) (λ_ _=>False) s2) (λ_ _=>False) s1) (λ_ _=>False) s)
  (n:A5)(h:o7 n s):codeAny (model prog w) A (.compLoop (.ListComp elt [⟨target,iter,ifs,0⟩] scope pos) 0 it acc env) R s:=by
 show codeAny_loop Z o7 (λn s hI=>?_) n h;show wpAny_noted ?_;show XU (uv<|XU<|TX (turn n s hI) (λr s1 h1=>?_) λ_ _ z=>z.elim);cases r with
 |none=>show Yg h1
 |some v=>
  show XU (TX h1 (λ_ s2 h2=>?_) λ_ _ z=>z.elim);show XU (TX h2 (λ_ s3 h3=>XU<|TX h3 (λok s4 h4=>?_) λ_ _ z=>z.elim) λ_ _ z=>z.elim);cases ok with
  |false=>show Yg ⟨Z,h4⟩
  |true=>
   show XU (XU<|TX h4 (λx s5 h5=>XU<|TX h5 (λ_ s6 h6=>Yg<|Yg ⟨Z,h6⟩) λ_ _ z=>z.elim) λ_ _ z=>z.elim)
def Wl(cells:A6 (B8×A7)):(A6 (B8×NameKind)->A6 (B8×A7)->A6 (B8×A7))
 |[],acc=>acc
 | (n,k)::r,acc=>if k == .free then Wl cells r ((n,(cells.M n).S 0)::acc) else Wl cells r acc
def ZI4:∀names acc,(∀y∈names,y.2=.free->∃c,env.cells.M y.1=⇑c)->
  (forIn names acc λ(x:B8×NameKind) (cs:A6 (B8×A7))=>(if (x.2 == .free)=A9 then do let a <-cellOf env x.1;pure (ForInStep.yield<|(x.1,a)::cs) else pure (ForInStep.yield cs):Sem (ForInStep<|A6<|B8×A7)))=pure (Wl env.cells names acc)
 |[],acc,_=>rfl
 | (n,k)::r,acc,h=>by
  let ih:=λacc=>ZI4 r acc λy hy=>h y (Yn _ hy);rw[List.forIn_cons];unfold Wl;cases hk:(k == NameKind.free)=A9
  .let⟨c,hc⟩:=h (n,k) Yi (by ext);let e:cellOf env n=pure c:=by unfold cellOf;rw[show env.cells.M n=⇑c from hc]
   ext
  .simp only[hk,Dw,if_false,pure_bind];show ih acc
def ZH4(h:∀y∈scope.names,y.2=.free->∃c,env.cells.M y.1=⇑c):closureFor scope env=pure (Wl env.cells scope.names []):=by let e:=ZI4 scope.names [] h;unfold closureFor;simp only[bind_pure]at e ⊢;show e
def tH{env:Env}:∀names acc,(∀y∈names,y.2=.free->∃c,env.cells.M y.1=⇑c)->(∀x c,acc.M x=⇑c->env.cells.M x=⇑c)->
  ∀x c,(Wl env.cells names acc).M x=⇑c->env.cells.M x=⇑c
 |[],acc,_,ha,x,c,e=>ha x c e
 | (n,k)::r,acc,h,ha,x,c,e=>by
  unfold Wl at e;cases hk:(k == NameKind.free)=A9
  .rw[Yk hk]at e;let(d,hd):=h (n,k) Yi J;show tH r _ (λy hy=>h y<|Yn _ hy) (λy b q=>?_) x c e;grind
  .rw[Yj hk]at e;show tH r acc (λy hy=>h y<|Yn _ hy) ha x c e
def nh:∀names acc x,(acc.M x).isSome=A9->((Wl cells names acc).M x).isSome=A9
 |[],_,_,h=>h
 | (n,k)::r,acc,x,h=>by
  unfold Wl;cases hk:(k == NameKind.free)=A9
  .rw[Yk hk];show nh r _ x ?_;grind
  .rw[Yj hk];show nh r acc x h
def EK:∀names acc x,(x,NameKind.free)∈names->((Wl cells names acc).M x).isSome=A9
 |[],_,_,h=>nomatch h
 | (n,k)::r,acc,x,h=>by
  unfold Wl;rcases Yu.Y h with e|h
  .cases e;show nh r _ _ ?_
   ext
  .cases hk:(k == NameKind.free)=A9
   .rw[Yk hk];show EK r _ x h
   .rw[Yj hk];show EK r _ x h
def ZS{env:Env}:∀{names:A6 (B8×NameKind)}{x:B8}{k:NameKind},(names.Q λ(n,k)=>if (k == NameKind.free&&env.scope.kind == .function&&env.kindOf n == some .cell) then (n,NameKind.cell) else (n,k)).M x=⇑k->
  (k=.cell\/k=.free)->(x,NameKind.free)∈names\/(x,NameKind.cell)∈names
 |[],_,_,h,_=>by simp at h
 | (n,q)::r,x,k,h,hk=>by
  let h':List.M x ((if (q == NameKind.free&&env.scope.kind == .function&&env.kindOf n == some .cell)=A9 then (n,NameKind.cell) else (n,q))::r.Q λ(n,k)=>if (k == NameKind.free&&env.scope.kind == .function&&env.kindOf n == some .cell) then (n,NameKind.cell) else (n,k))=⇑k:=h;cases hc:(q == NameKind.free&&env.scope.kind == .function&&env.kindOf n == some .cell)=A9
  .rw[Yk hc,OT]at h';cases hx:(x == n)=A9
   .grind
   .let Uj:(x == n)=B0:=by simpa using hx
    rw[Uj]at h';rcases ZS (env:=env) h' hk with z|z
    .grind
    grind
  .rw[Yj hc,OT]at h';cases hx:(x == n)=A9
   .grind
   .let Uj:(x == n)=B0:=by simpa using hx
    rw[Uj]at h';rcases ZS (env:=env) h' hk with z|z
    .grind
    grind
def tG{env:Env}:∀{names:A6 (B8×NameKind)}{x:B8},names.M x=some .free->
  (names.Q λ(n,k)=>if (k == NameKind.free&&env.scope.kind == .function&&env.kindOf n == some .cell) then (n,NameKind.cell) else (n,k)).M x=some .cell\/
  (names.Q λ(n,k)=>if (k == NameKind.free&&env.scope.kind == .function&&env.kindOf n == some .cell) then (n,NameKind.cell) else (n,k)).M x=some .free
 |[],_,h=>by simp at h
 | (n,q)::r,x,h=>by
  change List.M x ((if (q == NameKind.free&&env.scope.kind == .function&&env.kindOf n == some .cell)=A9 then (n,NameKind.cell) else (n,q))::_)=_\/List.M x ((if (q == NameKind.free&&env.scope.kind == .function&&env.kindOf n == some .cell)=A9 then (n,NameKind.cell) else (n,q))::_)=_;rw[OT]at h;cases hc:(q == NameKind.free&&env.scope.kind == .function&&env.kindOf n == some .cell)=A9
  .rw[Yk hc,OT];cases hx:(x == n)=A9
   .rw[hx];show .inl rfl
   .let Uj:(x == n)=B0:=by simpa using hx
    rw[Uj]at h ⊢;show tG h
  .rw[Yj hc,OT];cases hx:(x == n)=A9
   .rw[hx]at h ⊢;show .inr h
   .let Uj:(x == n)=B0:=by simpa using hx
    rw[Uj]at h ⊢;show tG h
def TR(X:Cx)(N':A6 B8)(scope:B9)(C:A7)(s:B5)(H:Hp)(fp:A6 A7):(Cx) where
 prog:=X.prog
 w:=X.w
 K:=X.K
 mg:=X.mg
 base:=X.base
 A:=X.A
 N:=N'
 s₀:=s
 H₀:=H
 env:=compEnvC scope (Wl X.env.cells scope.names []) C X.env
 outer:=X.stack
 stack:=X.stack
 ex:=fp
 fn:=λ_=>false
 calm:=X.calm
 pn:=[]
 xe:=λ_ _=>False
def σC(o:A5)(fr:A6 A5)(σ:St):(St):=List.replicate o none++fr.Q λj=>(σ[j]?).join
structure CompScope(sc0:B9)(N N':A6 B8)(o:A5)(fr:A6 A5)(scope:B9):Prop where
 kind:scope.kind=.function
 nocell:(scope.names.all λy=>y.2 != .cell)=A9
 loc:(scope.names.all λy=>y.2 != .local||scope.names.M y.1 == some .local)=A9
 free:(scope.names.all λy=>y.2 != .free||sc0.names.M y.1 == some .cell||sc0.names.M y.1 == some .free)=A9
 len:N'.f=o+fr.f
 sees:((List.range fr.f).all λj=>match fr[j]? with
  |none=>false
  |some y=>match N[y]? with
   |none=>false
   |some x=>N'[o+j]? == some x&&scope.names.M x == some .free)=A9
def Nt(o7:It)(g:TG)(tt:TT)(te:TE)(o:A5)(fr:A6 A5)(σ:St)(H1:Hp)(Q:VK):(Prop):=∃W:A5->A5->A6 V->Hp->Prop,(∃m,W 0 m [] H1)/\∀i m ys H,W i m ys H->
 (o7.stop i H/\ys.f<=sizeLine/\∀p,H p=A8->Q ↑p (upd H p<|.lst ys))\/
 (o7.go i H/\ys.f<sizeLine/\∀x H',o7.yld i H x H'->g x (σC o fr σ) H' λσ2 H2=>tt σ2 H2 λb H3=>if b=A9 then te σ2 H3 λy H4=>∃m',m'<m/\W (i+1) m' (ys++[y]) H4 else ∃m',m'<m/\W (i+1) m' ys H3)
def BD(wi:TI)(g:TG)(tt:TT)(te:TE)(o:A5)(fr:A6 A5):(TE):=λσ H Q=>wi σ H λo7 H1=>Nt o7 g tt te o fr σ H1 Q
def RN(o:A5)(g:TG):(Prop):=∀x ow fr H Q,ow.f=o->g x (ow++fr) H Q->g x (ow++fr) H λσ2 H2=>(∃BC,BC.f=o/\σ2=BC++fr)/\Q σ2 H2
def Zu(h:i<o):RN o (OO i):=λx ow fr H Q hl q=>{{ow.set i<|some x,by ext,by ext},q}
def Mz(o:A5)(g:IW):(Prop):=∀xs ow fr H Q,ow.f=o->g xs (ow++fr) H Q->g xs (ow++fr) H λσ2 H2=>(∃BC,BC.f=o/\σ2=BC++fr)/\Q σ2 H2
def RM:Mz o gNil:=λ_ ow _ _ _ hl zz=>by let(e,q):=zz;exists e,⟨ow,hl,Z⟩,q
def VG(h:i<o)(h2:Mz o u):Mz o (gCons (OO i) u):=by
 intro xs ow fr H Q hl Ω;let⟨v,r,rfl,q⟩:=Ω;exists v,r,Z,?_;let q':u r ((ow++fr).set i ⇑v) H Q:=q
 change u r ((ow++fr).set i ⇑v) H _;rw[List.set_append_left _ _ (by ext)]at q' ⊢;show h2 r (ow.set i<|some v) fr H Q (by ext) q'
def Ir{K:Ad}{o n:A5}{u:IW}(h:Mz o u):RN o (gTup K n u):=by intro x ow fr H Q hl Ω;let⟨a,xs,rfl,hs,hn,q⟩:=Ω;exists a,xs,Z,hs,hn,h xs ow fr H Q hl q
section
variable{X:Cx}{pins:A6 (A7×Obj)}{σ:St}{H:Hp}{s:B5}{N':A6 B8}{o:A5}{fr:A6 A5}{scope:B9}{fp:A6 A7}
abbrev ZU(us:Ag):Obj:={cls:=.type "list",data:=.seq us.E us.f}
def CompScope.nocell'(S:CompScope sc0 N N' o fr scope):∀y∈scope.names,y.2≠.cell:=λy hy e=>by
 let q:=Wd.Y S.nocell y hy
 ext
def CompScope.loc'(S:CompScope sc0 N N' o fr scope):∀y∈scope.names,y.2=.local->scope.names.M y.1=some .local:=λy hy e=>by
 let q:=Wd.Y S.loc y hy
 ext
def CompScope.free'(S:CompScope sc0 N N' o fr scope)(hs:X.env.scope=sc0):∀y∈scope.names,y.2=.free->X.env.kindOf y.1=some .cell\/X.env.kindOf y.1=some .free:=λy hy e=>by
 let q:=Wd.Y S.free y hy;rw[e]at q;change X.env.scope.names.M y.1=_\/X.env.scope.names.M y.1=_
 rw[hs];simpa using q
def CompScope.sees'(S:CompScope sc0 N N' o fr scope):∀j y,fr[j]?=⇑y->∃x,N[y]?=⇑x/\N'[o+j]?=⇑x/\scope.names.M x=some .free:=λj y e=>by
 let hj:j<fr.f:=(Xr.Y e).1;let q:=Wd.Y S.sees j (YR.X hj)
 grind
def CompScope.cells(S:CompScope sc0 N0 N' o fr scope)(hs:X.env.scope=sc0)(I:Inv X pins σ H s):∀y∈scope.names,y.2=.free->∃c,X.env.cells.M y.1=⇑c:=λy hy e=>I.ok.has y.1 (S.free' hs y hy e)
def CompScope.sub(S:CompScope sc0 N0 N' o fr scope)(hs:X.env.scope=sc0)(I:Inv X pins σ H s):∀x c,(Wl X.env.cells scope.names []).M x=⇑c->X.env.cells.M x=⇑c:=
 tH (env:=X.env) scope.names [] (S.cells hs I) (λ_ _ z=>nomatch z)
def Inv.block(S:CompScope sc0 N0 N' o fr scope)(hs:X.env.scope=sc0)(hN:X.N=N0)(I:Inv X pins σ H s)(hf:∀b∈fp,FpOk X pins H b)(Ui:∀b∈fp,b<(~~~s)){h1:Heap}{C tB:A7}{m:Af}{t:A5}
  (hC:(~~~s)<=C)(hD:(~~~s)<=tB)(Ta:tB≠C)
  (old:∀b ob,s.C.G b=⇑ob->h1.G b=⇑ob)(hn:h1.Ns C m)(ha:h1.G tB=⇑(ZU us)):Inv (TR X N' scope C s H fp) [(tB,ZU us)] (σC o fr σ) H {s with heap:=h1,toks:=t}:=by
 let sub:=S.sub hs I;let ng:∀b∈UD X.stack,b<(~~~s):=λb hb=>by let(_,ob,ho,_):=I.stack.mem hb;show Yh ho
 show⟨{I.ok.mod,S.kind,I.ok.glob,I.ok.blt,hC,λx y c h1 h2=>I.ok.inj x y c (sub x c h1)<|sub y c h2,λx hx=>?_,λx c nc _=>(nomatch nc),I.ok.hd,I.ok.frames,.inl Z,λb hb=>?_,I.bs,Ym I.ok.bsz I.sz,λb ob e hb=>?_,λb hb Uz=>?_,I.stack,I.stkFree},
  rfl,I.bare,Un.kept old,{m,hn,λi x v e1 e2 e3=>?_},λx c e=>?_,I.hok.fresh hC,λx c e=>I.freeC x c<|sub x c e,λp hp=>?_,I.hok.kept old,?_⟩
 .let Uj:(relabel scope X.env).names.M x=some .cell\/(relabel scope X.env).names.M x=some .free:=hx;let key:(x,NameKind.free)∈scope.names:=by
   rcases Uj with z|z
   .rcases ZS (env:=X.env) z (.inl rfl) with q|q
    .show q
    .show absurd Z (S.nocell' _ q)
   .rcases ZS (env:=X.env) z (.inr rfl) with q|q
    .show q
    .show absurd Z (S.nocell' _ q)
  show OW.Y (EK (cells:=X.env.cells) scope.names [] x key)
 .let⟨f0,f1,f2,f3,f4,f5⟩:=hf b hb;exists Yl<|Ye (Ui b hb) hC,λx c e=>f4 x c<|sub x c e
 .let⟨f0,f1,f2,f3,f4,f5⟩:=hf b hb;rcases f3 with z|z
  .show I.ok.noex b ob e z
  .show absurd (Ye (Yh e)<|Ym I.ok.bsz z) (SQ _)
 .let⟨f0,f1,f2,f3,f4,f5⟩:=hf b hb;rcases Yu.Y (I.stkSub b Uz) with z|z
  .show f1 z
  lia
 .unfold σC at e2;cases hi:i<o
  .rw[YB (by rwa[YN]),Y3J,Yk hi]at e2;cases e2
  .rw[YE (by ext),YN,Yo]at e2;cases hy:fr[i-o]? with
   |none=>ext
   |some y=>
    rw[hy]at e2;let Iq:(σ[y]?).join=⇑v:=Yf e2
    let m9:σ[y]?=⇑(⇑v):=by
     cases q:σ[y]? with
     |none=>ext
     |some z=>rw[q]at Iq;show YF some Iq
    let(x',s2,s1,s3):=S.sees' (i-o) y hy;rw[<-hN]at s2;rw[show o+(i-o)=i by ext]at s1;let ex:x=x':=by let m8:N'[i]?=⇑x:=e1;rw[m8]at s1;show Yf s1
    subst ex;let Xh:=Nc s3
    let(m0,_,hl):=I.loc;let hk:=S.free' hs (x,.free) Xh rfl
    let(u,ru,lk):=hl y x v s2 m9 (by rcases hk with z|z;show .inr (.inl z);show .inr<|.inr z);exists u,ru,.inr {tG (env:=X.env) s3,?_};let(c',VV):=OW.Y (EK (cells:=X.env.cells) scope.names [] x Xh);exists c',VV,?_;rcases lk with ⟨z,_⟩|⟨_,c,e,ob,ho,hd⟩
    .ext
    .let ec:c=c':=by
      have:=sub x c' VV
      rw[e]at this;show Yf this
     subst ec;exists ob,old _ _ ho,hd
 .let⟨v,ob,ho,hd⟩:=I.cell x c (sub x c e);exists v,ob,old _ _ ho,hd
 .let e:p=(tB,ZU us):=by simpa using (show p∈([]:A6 (A7×Obj))++[(tB,ZU us)] from hp)
  subst e;exists ha,I.hok.fresh hD,Ta,λz=>absurd (Ye (ng tB z) hD)<|SQ _,λv z=>nomatch z
 .change(σC o fr σ).f=N'.f;unfold σC;rw[Ya,YN,Yb,S.len]
def Inv.unblock(I:Inv X pins σ H s)(hf:∀b∈fp,FpOk X pins H b){σ':St}{s':B5}(hC:(~~~s)<=C)(hD:(~~~s)<=tB)(Ta:tB≠C)
  (I':Inv (TR X N' scope C s H fp) [(tB,ZU us)] σ' H' s')(r:Vals ys us)(hz:ys.f<=sizeLine):∃oC m,s'.C.G C=⇑oC/\s'.C.Ns C m/\Inv X (pins++[(C,oC)]) σ (upd H' tB<|.lst ys) s':=by
 let(aD,nD,_,_,_):=I'.pin (tB,ZU us) AP;let un:Un (UD X.stack) fp H H' s.C s'.C:=I'.base
 let lt:∀b u,H b=⇑u->b≠tB:=λb u e=>Yl (Ye (I.hok.lt e) hD);let Ip:Un (UD X.stack) fp H (upd H' tB<|.lst ys) s.C s'.C:=by
  exists un.keep,un.slot,λb ob e n hx=>?_,un.there,λb xs e=>?_,λb ob u e=>?_,λb ps e=>?_
  .rw[Za (Yl<|Ye (Yh e) hD)];show un.free b ob e n hx
  .rw[Za (lt b _ e)];show un.tups b xs e
  .rw[Za (lt b _ e)];show un.frzs b ob u e
  .let⟨more,q⟩:=un.tbls b ps e;exists more,by rwa[Za (lt b _ e)]
 let hok:HOk X.prog X.w (upd H' tB<|.lst ys) s'.C:=λb u e=>by
  cases hb:b=tB
  .subst hb;rw[XS]at e;cases e;exists hz,us,us.f,r,aD
  .rw[Za hb]at e;show(I'.hok b u e).stay (λc v _ q=>q) (λc q=>by rwa[Za (Ze q nD)]) λc xs q=>by rwa[Za (Ze q nD)]
 let os:s'.os=s.os:=I'.os;let o7:Inv X pins σ (upd H' tB<|.lst ys) s':=I.call' (ch:=fp) os Ip hok I'.bare λb hb=>by let(f0,f1,f2,f3,f4,f5):=hf b hb;exists f3,f1,f4,f5
 let(m,hn,_):=I'.loc;let(oC,es,ep,Io,hdC,_):=id hn;exists oC,m,Io,hn,o7.pins_of λp hp=>?_;rcases Xi.Y hp with z|z
 .show o7.pin p (Yc _ z)
 .let e:p=(C,oC):=by simpa using z
  subst e;let nC:H' C=A8:=I'.free
  exists Io,by rw[Za (YX Ta)];show nC,Sa<|Ye I.lt hC,I.nofs hC,λv z=>?_
  ext
end
section
variable{X:Cx}{N':A6 B8}{o:A5}{fr:A6 A5}{scope:B9}{elt tg iter:B4}{ifs:A6 B4}{pos:Pos}{wi:TI}{g:TG}{tt:TT}{te:TE}
def BB(hc:X.calm=A9)(S:CompScope sc0 N0 N' o fr scope)(hi:PI X tg iter wi)(ho:RN o g)
  (hg:∀C s H fp,PG (TR X N' scope C s H fp) tg g)
  (ht:∀C s H fp,Iu (TR X N' scope C s H fp) ifs tt)
  (he:∀C s H fp,PE (TR X N' scope C s H fp) elt te)
  (hs:∀x,foldedSetIterable iter X.env x=pure x)(Ts:X.env.scope=sc0)(Mw:X.N=N0)(I:Inv X pins σ H s)(h:BD wi g tt te o fr σ H Qv)
  {use:Option (B1->Sem Unit)}{Q:Ae}{E:Ae}
  (hE:∀e s',X.xe e s'->E e s')
  (fin:∀C oC tB m H' ys s',Inv X (pins++[(C,oC)]) σ (upd H' tB<|.lst ys) s'->Qv ↑tB (upd H' tB<|.lst ys)->s'.C.Ns C m->H' C=A8->C≠tB->
   C≠X.env.locals->(~~~X.s₀)<=C->(∀x c,X.env.cells.M x=⇑c->c≠C)->(∀p∈X.pn++pins,p.1≠C)->compPost (model X.prog X.w) X.A E use Q ↑tB C (.ok .next) s'):
  wpAny (model X.prog X.w) X.A (comprehension (.ListComp elt [⟨tg,iter,ifs,0⟩] scope pos) scope X.env (firstIterPos [⟨tg,iter,ifs,0⟩] pos) (newList []) false (eval iter X.env) use) Q E s:=by
 show wpAny_comprehension_free (use:=use) Z hs (ZH4<|S.cells Ts I) S.kind S.loc' (TX (hi pins s σ H _ I h) (λxv s1 h1=>TX h1 (λtW s2 h2=>?_) hE) hE);let(it,fp,tn,o7,H2,rfl,I2,T,WN,f2,W,(m0,w0),turn):=h2;let Ui:∀b∈fp,b<(~~~s2):=λb hb=>by let(ob,e,_):=T.obj 0 _ WN b hb;show Yh e
 show PR (wpAny_newFunctionEnv S.nocell' (by ext) (λh1 OF Im=>?_) S.kind);generalize Il:s2.C.push {cls:=.type "list",dict:=A8,data:=.seq ([]:Ag).E}=G at OF Im ⊢;let BA:G.objs.o=(~~~s2)+1:=by rw[<-Il,PQ]
 let hC:(~~~s2)<=G.objs.o:=by rw[BA];show Tz _
 let Ta:(~~~s2)≠G.objs.o:=by rw[BA];show Yl (RV _)
 let old:∀b ob,s2.C.G b=⇑ob->h1.G b=⇑ob:=λb ob e=>
  Im.extBut b ob (Yl<|Ye (Yh e) hC) (Xs _<|Il▸Xs _ e)
 let Vc:h1.G (~~~s2)=⇑(ZU []):=Im.extBut _ _ Ta (Xs _<|Il▸Qd _ Z);let UX:tn 0 h1:=T.keep _ _ _ WN λb _ ob e=>old b ob e
 let Ik:∀{us:Ag}{H':Hp},(∀b∈fp,H' b=A8)->∀b∈fp,FpOk (TR X N' scope G.objs.o s2 H2 fp) [((~~~s2),ZU us)] H' b:=λ{us H'} hn b hb=>by
  let(f0,f1,f3,f4,f5,f6):=f2 b hb;exists hn b hb,Yl<|Ye (Ui b hb) hC,λz=>?_,.inl hb,λx c e=>f5 x c<|S.sub Ts I2 x c e,λp hp=>?_
  .rcases Yu.Y (I2.stkSub b z) with q|q
   .show f1 q
   lia
  .let e:p=((~~~s2),ZU us):=by simpa using (show p∈([]:A6 (A7×Obj))++[((~~~s2),ZU us)] from hp)
   subst e;show Sa (Ui b hb)
 let loop:∀s3:B5,s3={s2 with heap:=h1,toks:=s2.toks+([]:A6 (B8×B1)).f}->
   codeAny (model X.prog X.w) X.A (.compLoop (.ListComp elt [⟨tg,iter,ifs,0⟩] scope pos) 0 ↑it (.ref (~~~s2))<|compEnvC scope (Wl X.env.cells scope.names []) G.objs.o X.env)
    (compPost (model X.prog X.w) X.A E use Q (.ref (~~~s2)) G.objs.o) s3:=by
  rintro s3 rfl;show Za3 (λn s'=>∃i σ' H' ys us,Inv (TR X N' scope G.objs.o s2 H2 fp) [((~~~s2),ZU us)] σ' H' s'/\σ'=σC o fr σ/\Vals ys us/\tn i s'.C/\(∀b∈fp,H' b=A8)/\W i n ys H') ?_ m0
   {0,_,H2,[],[],I2.block S Ts Mw f2 Ui hC (XI _) Ta old OF Vc,Z,.nil,UX,λb hb=>(f2 b hb).1,w0}
  intro n s' Ω;let⟨i,σ',H',ys,us,I',rfl,rv,XT,Bz,w'⟩:=Ω;rcases turn i n ys H' w' with ⟨stop,hz,q⟩|⟨go,hz,step⟩
  .show thn (T.done (TR X N' scope G.objs.o s2 H2 fp) Z Z Z hc i _ s' _ H' _ I' (Ik Bz) XT stop) λr s4 zz=>?_;let(hr,I4):=zz;subst hr;let(oC,m,Io,hn,J4):=I2.unblock f2 hC (XI _) Ta I4 rv hz;show fin _ oC _ m H' ys s4 J4 (q _ (I4.pin ((~~~s2),ZU us) AP).2.1) hn I4.free (YX Ta) (Sa<|Ye I2.lt hC) (Ym I2.sz hC)
    (λx c e=>by let(v,z):=I2.cell x c e;show Yl<|Ye z.lt hC) λp hp=>Yl (Ye (Yh (I2.pin p hp).1) hC)
  .show thn (T.item (TR X N' scope G.objs.o s2 H2 fp) Z Z Z hc i _ s' _ H' _ I' (Ik Bz) XT go) λr s4 XE=>?_;let(u,hr,h4):=XE;subst hr;show thn h4 λ_ s5 XE=>?_;let(x,H5,I5,r5,y5,Vk,Cp):=XE;let Wo:=step x H5 y5
   let Ij:=ho x (List.replicate o none) (fr.Q λj=>(σ[j]?).join) H5 _ (YN ..) Wo;let Co:=I5.pinned (Ik (us:=us) Cp) (T.obj _ _ Vk)
   show thn (hg _ _ _ _ _ s5 _ H5 x u _ Co r5 Ij) λ_ s6 XE=>?_;let(σ6,H6,I6,(ow,OE,e6),q6):=XE;subst e6;show thn (ht _ _ _ _ _ s6 _ H6 _ I6 q6) λb s7 XE=>?_;let(H7,I7,q7):=XE;let back:∀{us':Ag}{σ8:St}{H8:Hp}{s8:B5},Inv (TR X N' scope G.objs.o s2 H2 fp) ([((~~~s2),ZU us')]++VM fp s5.C) (ow++fr.Q λj=>(σ[j]?).join) H8 s8->
     Inv (TR X N' scope G.objs.o s2 H2 fp) [((~~~s2),ZU us')] (σC o fr σ) H8 s8/\tn (i+1) s8.C/\∀b∈fp,H8 b=A8:=λ{us' σ8 H8 s8} I8=>by
    exists I8.unpinned.weak ?_ λj v e=>?_,T.keep _ _ _ Vk λb hb ob e=>(I8.pin (b,ob)<|Yc _<|Yc _<|EU hb e).1,λb hb=>?_
    .unfold σC
     ext
    .unfold σC at e;grind
    .let⟨ob,e,_⟩:=T.obj _ _ Vk b hb;show(I8.pin (b,ob)<|Yc _<|Yc _<|EU hb e).2.1
   cases b with
   |false=>
    let(m',hm,w7):=q7;let(I8,m7,m6):=back (us':=us) (σ8:=[]) I7;exists m',hm,i+1,_,H7,ys,us,I8,Z,rv,m7,m6,w7
   |true=>
    show thn (he _ _ _ _ _ s7 _ H7 _ I7 q7) λy s8 XE=>?_;let(yv,H8,I8,r8,m',hm,w8):=XE;let(aD,nD,_,_,_):=I8.pin ((~~~s2),ZU us) AP;let tF:us.f<=sizeLine:=by rw[<-rv.f];show NA hz
    show append_at (hsz:=by omega) aD λh9 m5 EJ=>?_;let I9:Inv (TR X N' scope G.objs.o s2 H2 fp) (VM fp s5.C) (ow++fr.Q λj=>(σ[j]?).join) H8 {s8 with heap:=h9}:=
     (I8.pins_of (pins':=VM fp s5.C) λp hp=>I8.pin p<|Yc _<|Yc _ hp).turned (t':=s8.toks) (it:=(~~~s2)) (λb ob hb e=>m5.extBut b ob hb e) nD Ta (.inr<|XI _)
      (λx c e=>by let(v,z):=I2.cell x c (S.sub Ts I2 x c e);show Yl z.lt)
      λp hp=>by let(hb,_):=oM (show p∈VM fp s5.C from by simpa[TR] using hp);show Yl (Ui p.1 hb)
    let mZ:Inv (TR X N' scope G.objs.o s2 H2 fp) ([((~~~s2),ZU<|us++[y])]++VM fp s5.C) (ow++fr.Q λj=>(σ[j]?).join) H8 {s8 with heap:=h9}:=
     I9.pins_of λp hp=>by
      rcases Xi.Y hp with z|z
      .ext
      .show I9.pin p (Yc _ z)
    let(mY,Ii,Ih):=back (us':=us++[y]) (σ8:=[]) mZ;exists m',hm,i+1,_,H8,ys++[yv],us++[y],mY,Z,Vals.append rv<|.cons r8 .nil,Ii,Ih,w8
 show codeAny_compStart_list (loop _ Z) (T.self _ 0 _ _ _ UX<|loop _ Z)
def UW(hc:X.calm=A9)(S:CompScope sc0 N0 N' o fr scope)(hi:PI X tg iter wi)(ho:RN o g)
  (hg:∀C s H fp,PG (TR X N' scope C s H fp) tg g)
  (ht:∀C s H fp,Iu (TR X N' scope C s H fp) ifs tt)
  (he:∀C s H fp,PE (TR X N' scope C s H fp) elt te)
  (hs:∀x,foldedSetIterable iter X.env x=pure x:=by intro _;rfl)(Ts:X.env.scope=sc0:=by rfl)(Mw:X.N=N0:=by rfl):PE X (.ListComp elt [⟨tg,iter,ifs,0⟩] scope pos) (BD wi g tt te o fr):=by intro pins s σ H Q I h;show BB hc S hi ho hg ht he hs Ts Mw I h (use:=A8) (λ_ _ z=>z) λC oC tB m H' ys s' o7 q hn nC By Bx Bw Bv Bu=>?_;exists m,hn,λh' VF=>{.ref tB,upd H' tB<|.lst ys,?_,Z,q};show o7.unpinned.turned (t':=s'.toks) (it:=C) (λb ob hb e=>VF.extBut b ob hb e) (by rwa[Za By]) Bx (.inr Bw) Bv Bu
def Uh{x:B8}{px:Pos}{OD:Pos}(hc:X.calm=A9)(hN:X.N.Nodup)(hx:X.N[i]?=⇑x)(hl:X.env.kindOf x=some .local)(S:CompScope sc0 N0 N' o fr scope)(hi:PI X tg iter wi)(ho:RN o g)
  (hg:∀C s H fp,PG (TR X N' scope C s H fp) tg g)
  (ht:∀C s H fp,Iu (TR X N' scope C s H fp) ifs tt)
  (he:∀C s H fp,PE (TR X N' scope C s H fp) elt te)
  (hs:∀x,foldedSetIterable iter X.env x=pure x:=by intro _;rfl)(Ts:X.env.scope=sc0:=by rfl)(Mw:X.N=N0:=by rfl)
  (mX:swapsWith (.ListComp elt [⟨tg,iter,ifs,0⟩] scope pos) (some<|.Name x px) OD.line X.env=pure true:=by rfl):
  PS X (.Assign [.Name x px] (.ListComp elt [⟨tg,iter,ifs,0⟩] scope pos) OD) (tAsg (BD wi g tt te o fr)<|OO i):=by
 intro pins s σ H tB I h;rw[exec_Assign_Name_used _ _ _ _ mX];show XU (uv<|XU ?_);show XU (TX (BB (Q:=λ_ s'=>SP X pins tB .next s') hc S hi ho hg ht he hs Ts Mw I h (use:=some<|assign (.Name x px) X.env) (λ_ _ z=>z) λC oC Dd m H' ys s' o7 q hn nC By Bx Bw Bv Bu=>?_) (λ_ s' hq=>Yg<|Yg hq) λ_ _ e=>e);show pP (CF o7 hN hx (.inl hl) (v:=.ref Dd) Z (λs2 I2=>?_)<|.inr hl);let g1:=(I2.pin (C,oC) AP).1
 let n2:s2.C.Ns C m:=by
  let(oc,es,ep,e,r):=hn;let e0:=(o7.pin (C,oC) AP).1
  let e0:s'.C.G C=⇑oC:=e0;rw[e]at e0;cases e0;exists _,es,ep,g1,r
 exists m,n2,λh' VF=>{_,upd H' Dd<|.lst ys,?_,q};show I2.unpinned.turned (t':=s2.toks) (it:=C) (λb ob hb e=>VF.extBut b ob hb e) (by rwa[Za By]) Bx (.inr Bw) Bv Bu
end
section
variable{X:Cx}
def mW{x y:V}{us:Ag}(r:Vals [x,y] us):∃u v,us=[u,v]/\RelV x u/\RelV y v:=by
 cases r with
 |cons a r=>
  cases r with
  |cons b r=>cases r;exists _,_,Z,a,b
def ZF:∀{ns:Ac}{us:Ag},Vals (ns.Q V.int) us->IntsAre us ns
 |[],_,.nil=>.nil
 |n::ns,_,.cons r t=>by let(tk,rfl):=r;show .cons n tk (ZF t)
def mV:VL X (.type "range") (λxs H Q=>∃j:A0,xs=[.int j]/\∀p,H p=A8->Q ↑p (upd H p (.rng 0 j))):=by intro pins s σ H xs us Q I r h;let(j,rfl,q):=h;let(u,rfl,t,rfl):=Ve r;show call_range_1 ?_;exists .ref (~~~s),_,I.laid (o:=.rng 0 j) (λb u e=>Xs _ e) (XI _) {_,_,_,Qd _ Z},Z,q _<|I.hok.fresh<|XI _
def Wb(lo hi:A0):(Ac):=(List.range (hi-lo).j).Q λ(i:A5)=>lo+(i:A0)
def Zl3(lo hi:A0):(Wb lo hi).f=(hi-lo).j:=by unfold Wb;ext
def Bt{lo:A0}:∀{us:Ag},us.f=n->(∀(j:A5)(v:B1),us[j]?=⇑v->∃t,v=Value.int (lo+(j:A0)) t)->Vals (((List.range n).Q λ(i:A5)=>lo+(i:A0)).Q V.int) us:=by
 induction n generalizing lo with
 |zero=>
  intro us h _;rw[Ur.Y h];show .nil
 |succ n ih=>
  intro us h hv;cases us with
  |nil=>cases h
  |cons u us=>
   rw[List.range_succ_eq_map,QQ,QQ];show .cons ?_ ?_
   .let⟨t,e⟩:=hv 0 u rfl;exists t,e
   .let q:=ih (lo:=lo+1) (us:=us) (MV h) λj v e=>by let(t,e'):=hv (j+1) v (by simpa using e);grind
    let e:(List.range n).Q (λ(i:A5)=>lo+1+(i:A0))=((List.range n).Q Nat.succ).Q (λ(i:A5)=>lo+(i:A0)):=by
     rw[MT];show YZ λi _=>?_;change lo+1+(i:A0)=lo+((i+1:A5):A0)
     lia
    rwa[e]at q
inductive yR1(xs:A6 V)(H:Hp)(Q:VK):Prop
 |mk (p lo hi:_) (_:xs=[.ref p]) (_:H p=⇑(.rng lo hi)) (_:(-(2^62)<=lo/\lo<2^62/\-(2^62)<=hi/\hi<2^62)) (_:(hi-lo).j<=16777216) (_:∀l,H l=A8->Q ↑l (upd H l<|.lst<|(Wb lo hi).Q V.int))
def Zv2(hc:X.calm=A9):VL X (.type "list") (yR1):=by
 intro pins s σ H xs us Q I r h;let(p,lo,hi,rfl,hp,(b1,b2,b3,b4),hz,q):=h;let(u,rfl,ru):=Ve r;let rfl:u=Value.ref p:=ru;let(t,u,v,e):=(show ObjOk X.prog X.w H s.C p (.rng lo hi) from I.hok p _ hp);let hn:Builtin.Range.rangeSize lo hi 1=(((hi-lo).j:A5):A0):=by rw[rangeSize_one];split<;>grind
 show call_list_range (I.ok.hd hc) (t:=t) (u:=u) (v:=v) e (small_one b1 b2 b3 b4) hn hz λh' tk acc c' hk hS ha=>?_;let hl:acc.m.f=(hi-lo).j:=by rw[YV];show ha.1
 let rv:Vals ((Wb lo hi).Q V.int) acc.m:=Bt (lo:=lo) hl λj w ew=>by
  let(t,e):=ha.2 j w (by simpa using ew)
  ext
 exists .ref (~~~s),_,I.laid (o:=.lst<|(Wb lo hi).Q V.int) hk (XI _) {?_,acc.m,c',rv,?_},Z,q _<|I.hok.fresh<|XI _
 .rw[Yb,Zl3]
  have:sizeLine=16777216:=PN
  ext
 omega
def ZK4(hc:X.calm=A9):VL X (.builtin "sum") (λxs H Q=>∃(p:A7)(ns:Ac),xs=[.ref p]/\SqL X.K H p (ns.Q V.int)/\Q (.int ns.sum) H):=by
 intro pins s σ H xs us Q I r h;let(p,ns,rfl,hq,q):=h;let(u,rfl,ru):=Ve r;let rfl:u=Value.ref p:=ru;let(XW,rv,pl,hz):=I.list hq;let hi:=ZF rv
 let hall:=hi.allInts;let(xs,ex):=hall.items;let hl:=pl.isList
 rw[ex]at hl;show sum_intListG (I.ok.hd hc) hl λh' tk t' hk=>?_;let e1:preSum (numAt xs) xs.o=ns.sum:=by let e2:=hi.numsOf;rw[show XW=XW.E.m from Z,ex,nums_intItems]at e2;rw[preSum_eq,YG AP,<-e2]
 exists .int ns.sum,H,I.kept hk,{t',by rw[e1]},q
def seen(ns:Ac):(Ac):=firstMet (λi=>ns.S i 0) ns.f
def ZM4(hc:X.calm=A9):VL X (.type "set") (λxs H Q=>∃p ns,xs=[.ref p]/\SqL X.K H p (ns.Q V.int)/\ns.f+1<scanBound/\
  ∀l,H l=A8->Q ↑l (upd H l (.set (λk=>(seen ns).any (· == k)) (seen ns).f))):=by
 intro pins s σ H xs us Q I r h;let(p,ns,rfl,hq,hb,q):=h;let(u,rfl,ru):=Ve r;let rfl:u=Value.ref p:=ru;let(XW,rv,pl,hz):=I.list hq;let hi:=ZF rv
 let hl:XW.E.o=ns.f:=by rw[YK,<-rv.f,Yb]
 show call_set_list (I.ok.hd hc) pl.isList (ns:=ns) pB (by ext) λh' tk hs hk=>?_;exists .ref (~~~s),_,I.laid (o:=.set (λk=>(seen ns).any (· == k)) (seen ns).f) (λb ob e=>hk b ob (Yh e) e) (XI _) ?_,Z,q _<|I.hok.fresh<|XI _;unfold seen;rwa[<-hl]
def ZN4:VL X (.builtin "len") (λxs H Q=>∃p S n,xs=[.ref p]/\H p=⇑(.set S n)/\(n:A0)<2^63/\Q (.int n) H):=by intro pins s σ H xs us Q I r h;let(p,S,n,rfl,hp,hn,q):=h;let(u,rfl,ru):=Ve r;let rfl:u=Value.ref p:=ru;let(o,es,ep,t,e,hx,hd,_,_,_,hf,hz):=(show ObjOk X.prog X.w H s.C p (.set S n) from I.hok p _ hp);subst hz;show call_len_set e hx hd hf hn {.int es.o,H,I.tok _,{_,Z},q}
def Mv(K:Ad)(a:A7):(It):=
 {λi H=>∃xs x,SqL K H a xs/\xs[i]?=⇑x,λi H v H'=>∃T x,H T=A8/\v=.ref T/\H'=upd H T (.tup [.int i,x])/\∀xs,SqL K H a xs->xs[i]?=⇑x,λi H=>∃xs,SqL K H a xs/\xs.f<=i}
inductive xEnu(K:Ad)(vs:A6 V)(H1:Hp)(R:It->Hp->Prop):Prop
 |mk (a:_) (_:vs=[.ref a]) (_:∃xs,SqL K H1 a xs) (_:R (Mv K a) H1)
def Kz(K:Ad)(ta:TA):(TI):=λσ H R=>ta σ H λvs H1=>xEnu K vs H1 R
def ZX9{P:Program}{w:World}{K:Ad}{elts:A6 B4}{x1:A5}{pos:Pos}(a e it:A7)(XH:e≠it):∀(X:Cx),X.prog=P->X.w=w->X.K=K->∀(i:A5)(pins:A6 (A7×Obj))(s:B5)(σ:St)(H:Hp)(E:Ae),Inv X pins σ H s->(∀b∈[e,it],FpOk X pins H b)->((∃old,IsEnum s.C e it i old)/\s.C.IsListIter it a i)->(Mv K a).go i H->
  wpAny (model P w) X.A (pyNext<|.ref e) (λr s1=>∃u,r=⇑u/\
   wpAny (model P w) X.A (letOwnedTupleGo (.Tuple elts x1 pos) ↑e u) (λ_ s2=>∃x H',Inv X pins σ H' s2/\RelV x u/\(Mv K a).yld i H x H'/\((∃old,IsEnum s2.C e it (i+1:A5) old)/\s2.C.IsListIter it a (i+1))/\∀b∈[e,it],H' b=A8) E s1) E s:=by
 intro X hP hw hK i pins s σ H E I hf st hg;subst hP hw hK;let(xs,x,hq,hx):=hg;let((old,he),hit):=st;let(XW,rv,p,hz):=I.list hq;let(u,hu,ru):=rv.get hx;let(f0,f1,f2,f3,f4,f5):=hf e AP;let(g0,g1,g2,g3,g4,g5):=hf it AP;let Bs:H (~~~s)=A8:=I.hok.fresh (XI _)
 show wpAny_pyNext_enum_item he hit p.isList (x:=u) (by simpa using hu) XH λh' ho mU hT hsz hk=>?_;let Rg:∀b ob,s.C.G b=⇑ob->b≠(~~~s):=λb ob z=>Yl (Yh z)
 let SI:∀b ob,H b=⇑ob->b≠(~~~s):=λb ob z=>Yl (I.hok.lt z);let I1:Inv X pins σ (upd H (~~~s)<|.tup [.int i,x]) {s with heap:=h',toks:=s.toks+1}:=by
  show I.step (g':=s.gens) (d':=s.drawn) (ch:=[e,it]) (λb hb=>?_) (λb o _ _ Wz z _=>hk b o (λq=>Wz<|by simp[q]) (λq=>Wz<|by simp[q]) z) (λb o _ _ Wz z _=>{o.slots,hk b o (λq=>Wz<|by simp[q]) (λq=>Wz<|by simp[q]) z})
   (λb o _ z n=>by rwa[Za (Rg b o z)]) (λb o Wz z=>{o,hk b o (λq=>Wz<|by simp[q]) (λq=>Wz<|by simp[q]) z}) (λb ys z=>by rwa[Za (SI b _ z)]) (λb o v z=>by rwa[Za (SI b _ z)])
   (λb ps z=>{#[],by rw[Za (SI b _ z),z];simp}) (λm hm=>?_) (λb v z=>?_) I.bare
  .rcases Yu.Y hb with q|hb
   .rw[q];exists f3,f1,f4,f5
   .let q:b=it:=by simpa using hb
    rw[q];exists g3,g1,g4,g5
  .let⟨o,es,ep,Tb,r⟩:=hm;exists o,es,ep,hk _ o (YX f1) (YX g1) Tb,r
  .cases hb:b=(~~~s)
   .subst hb;rw[XS]at z;cases z;exists by change 2<=sizeLine;decide,[.int i s.toks,u],.cons {_,Z}<|.cons ru .nil,{_,hT,Z,_,Z}
   .rw[Za hb]at z;show(I.hok b v z).stay (λc w' VV q=>?_) (λc q=>by rwa[Za (SI c _ q)]) λc ys q=>by rwa[Za (SI c _ q)]
    grind
 exists _,Z,wpAny_letOwnedTupleGo_enum ho λh2 Br UC=>?_;let fT:e≠(~~~s):=Rg e _ he
 let I2:Inv X pins σ (upd H (~~~s)<|.tup [.int i,x]) {s with heap:=h2,toks:=s.toks+1}:=Inv.turned (s:={s with heap:=h',toks:=s.toks+1}) (h':=h2) (t':=s.toks+1) (it:=e) I1 (λb o hb z=>UC.extBut b o hb z) (by rwa[Za fT]) f1 f3 f4 f5;exists .ref (~~~s),_,I2,Z,{_,x,Bs,Z,Z,λys hy=>by rwa[I.list_inj hy hq]},{{u,by simpa using Br},mU.at λo z=>UC.extBut it o (YX XH) z},λb hb=>?_;rcases Yu.Y hb with q|hb
 .rw[q,Za fT];show f0
 .let q:b=it:=by simpa using hb
  let(o,eo,_):=hit;rwa[q,Za (Rg it o eo)]
def ZF5{P:Program}{w:World}{K:Ad}{elts:A6 B4}{x1:A5}{pos:Pos}(a e it:A7)(XH:e≠it):Turn P w K (.Tuple elts x1 pos) (Mv K a) [e,it] e (λi h=>(∃old,IsEnum h e it i old)/\h.IsListIter it a i) where
 mem:=AP
 obj:=λi h st b hb=>by let((old,he),o,eo,c,d):=st;grind
 keep:=λi h h' st k=>by let((old,he),hit):=st;exists {old,k e AP _ he},hit.at λo x=>k it AP o x
 item:=λX h1 h2 h3 _=>ZX9 a e it XH X h1 h2 h3
 done:=by
  intro X hP hw hK hc i pins s σ H E I hf st hg;subst hP hw hK;let(xs,hq,hx):=hg;let((old,he),hit):=st;let(XW,rv,p,hz):=I.list hq;let(g0,g1,g2,g3,g4,g5):=hf it AP;let hl:=rv.f
  show wpAny_pyNext_enum_end (I.ok.hd hc) he hit p.isList (by simp;ext) λh' eb=>{Z,I.turned (t':=s.toks) (it:=it) (λb o hb z=>eb b o hb z) g0 g1 g3 g4 g5}
 self:=λ_ _ _ _ _ st h=>by let((_,he),_):=st;show OR he h
def mT{elts:A6 B4}{x1:A5}{Tw:Pos}{a:B4}{ta:TA}{p pos:Pos}(hg:Gl X "enumerate")(hm:X.mg "enumerate"=A8)(ha:PA X [a] ta)(hs:starEach [a] X.env=[(false,eval a X.env)]:=by rfl):
  PI X (.Tuple elts x1 Tw) (.Call (.Name "enumerate" p) [a] [] pos) (Kz X.K ta):=by
 intro pins s σ H R I h;show Call_ (PL I hg hm Boot.«enumerate»<|Lf (thn (ha pos pins s σ H _ I h) λus s1 XE=>?_) hs Z);let(vs,H1,I1,r1,q1):=XE;let(b,e,(xs,hq),q):=q1;subst e;let(u,rfl,ru):=Ve r1;let rfl:u=Value.ref b:=ru;let(XW,rv,pl,hz):=I1.list hq;show call_enumerate_list pl.isList λh' he hit hsz hk=>?_;let I2:Inv X pins σ H1 {s1 with heap:=h'}:=I1.kept (t':=s1.toks) hk
 show OR he ?_;let nn:∀k,(~~~s1)<=k->H1 k=A8:=λk hk=>I1.hok.fresh hk
 exists (~~~s1)+1,[(~~~s1)+1,(~~~s1)],_,_,H1,Z,I2,ZF5 b _ _<|pZ _,⟨⟨_,he⟩,hit⟩,λc hc=>?_,q;let hle:(~~~s1)<=c:=by
  rcases Yu.Y hc with q|hc
  .ext
  .ext
 show I1.fpOk hle (nn c hle)
def mS{us:Ag}(r:Vals [kV k,y] us):∃u v,us=[u,v]/\RelV (kV k) u/\RelV y v:=mW r
def mR:(V->A6 V->Hp->VK->Prop):=λx vs H Q=>∃d kvs k y,x=.ref d/\vs=[kV k,y]/\H d=⇑(.dK kvs)/\kvs.f<sizeLine/\(∀v,Wm kvs k=⇑v->Q v H)/\(Wm kvs k=A8->Q y (upd H d<|.dK<|kvs++[(k,y)]))
def Zp4:Nu X "dict.setdefault" mR:=by
 intro pins s σ H x vs v us Q I rx rv h;let(d,kvs,k,y,rfl,rfl,hH,hz,h1,h2):=h;cases rx;let(uk,uy,rfl,rk,ry):=mS rv;let(z,hd,ws,rel,dd):=Iw I.hok hH;show call_meetsIn De dd.typeIs PySem.F.entry_dict_setdefault (PySem.F.args_dict_setdefault_3 _ _ _) (kt_meets_setdefault (QH X.prog X.w) d (nF rk) hd uy)
  {ws,dd,by rw[<-rel.f];show z,λv' KN=>?_,λhn h' dd' hs=>?_}
 .cases e:Wm kvs k with
  |none=>
   let q:=rel.val k;rw[e,KN]at q;show False.elim q
  |some w'=>
   let q:=rel.val k;rw[e,KN]at q;exists w',H,I.tok _,q,h1 w' e
 .let e:Wm kvs k=A8:=by
   cases e:Wm kvs k with
   |none=>rfl
   |some w'=>
    let q:=rel.val k;rw[e,hn]at q;show False.elim q
  let he:∃q,h'.G d=⇑q:=by let(q,_,_,hq,_):=dd';exists q,hq
  exists y,_,BI (ob:=.dK<|putK kvs k y) I (by rw[hH];show True.intro) hs he<|ny ?_ hd (rel.put k ry) dd',ry,?_
  .have:=ZQ6 kvs k y;lia
  .rw[nG y e];show h2 e
def QD(p d:A7):(HO):=.ext λh=>h.IsValuesView p d
def mQ:(V->A6 V->Hp->VK->Prop):=λx vs H Q=>∃d kvs,x=.ref d/\vs=[]/\H d=⇑(.dK kvs)/\∀p,H p=A8->Q ↑p (upd H p<|QD p d)
def Zt9:Nu X "dict.values" mQ:=by
 intro pins s σ H x vs v us Q I rx rv h;let(d,kvs,rfl,rfl,hH,q):=h;cases rx;cases rv;let(z,hd,ws,rel,dd):=Iw I.hok hH;show call_meetsIn Y3z dd.typeIs PySem.F.entry_dict_values (PySem.F.args_dict_values_1 _) (meets_dict_values (QH X.prog X.w) d hd) {⟨ws,dd⟩,?_};exists .ref (~~~s),_,I.laid (o:=QD (~~~s) d) (λb u e=>Xs _ e) (XI _) ?_,Z,q _<|I.hok.fresh<|XI _;let e:=Qd s.C (o:={cls:=.type "dict_values",data:=.fields #[.ref d]}) rfl
 exists {_,e,Z,Z},{_,e},λh1 h2 zz k=>by let(o,ho,r):=zz;exists o,k o ho,r
def ZZ9{h:Heap}(dd:h.DictOf (QH P w) d ws):∃ep,h.DictAt (QH P w) d ws ep:=by let(o,es,ep,r):=dd;exists ep,o,es,r
def mP{κ:Type}{kvs:A6 (κ×V)}{ws:A6 (κ×B1)}(h:KV kvs ws):Vals (kvs.Q (·.2)) (ws.Q (·.2)):=by
 induction h with
 |nil=>show .nil
 |cons r t ih=>show .cons r.2 ih
def mN(hc:X.calm=A9):VL X (.type "list") (λxs H Q=>∃p d kvs,xs=[.ref p]/\H p=⇑(QD p d)/\H d=⇑(.dK kvs)/\∀l,H l=A8->Q ↑l (upd H l (.lst (kvs.Q (·.2))))):=by
 intro pins s σ H xs us Q I r h;let(p,d,kvs,rfl,hp,hd,q):=h;let(u,rfl,ru):=Ve r;let rfl:u=Value.ref p:=ru;let(hv,_,_):=(show ObjOk X.prog X.w H s.C p (QD p d) from I.hok p _ hp);let(z,Mu,ws,rel,dd):=Iw I.hok hd;let(ep,da):=ZZ9 dd;let hl:ws.f=kvs.f:=rel.f.symm
 show PySem.W.kdl_call (PySem.W.kdl_values (knd:=QH X.prog X.w) (kvs:=ws) (ep:=ep) (r:=p) (d:=d)) (I.ok.hd hc) ⟨hv,da⟩ (by ext) λh' tk acc c' hk hS ha=>?_;let ea:acc.m=ws.Q (·.2):=by
  show ND λi=>?_;cases e:acc.m[i]? with
  |none=>
   have:ws.f<=i:=by
    have:=Y3t.Y e
    rwa[YV,ha.1]at this
   ext
  |some v=>
   let(k,ek):=ha.2 i v (by simpa using e)
   ext
 exists .ref (~~~s),_,I.laid (o:=.lst (kvs.Q (·.2))) hk (XI _) {by ext,acc.m,c',?_,by rw[hS]},Z,q _<|I.hok.fresh<|XI _;rw[ea];show mP rel
end
inductive EqD(K:Ad)(H:Hp):A5->V->V->B2->Prop
 |flat {n:A5} {x y:V} (fx:SM x=A9) (fy:SM y=A9):EqD K H n x y (Nv x y)
 |lsts {n:A5} {a b:A7} {xs ys:A6 V} {e:A5->B2} (ha:SqL K H a xs) (hb:SqL K H b ys) (hl:xs.f=ys.f) (h:∀i x y,xs[i]?=⇑x->ys[i]?=⇑y->EqD K H n x y (e i)):EqD K H (n+1) ↑a ↑b ((List.range xs.f).all e)
 |lens {n:A5} {a b:A7} {xs ys:A6 V} (ha:SqL K H a xs) (hb:SqL K H b ys) (hl:xs.f≠ys.f):EqD K H (n+1) ↑a ↑b false
 |tups {n:A5} {a b:A7} {xs ys:A6 V} {e:A5->B2} (ha:SqT K H a xs) (hb:SqT K H b ys) (h:∀i x y,xs[i]?=⇑x->ys[i]?=⇑y->EqD K H n x y (e i)):
   EqD K H (n+1) ↑a ↑b ((List.range<|min xs.f ys.f).all e&&xs.f == ys.f)
def mM(h:SM x=A9):Nv x x=A9:=by cases x<;>first|rfl|show Dr _|show absurd (show false=A9 from h) YC
section
variable{X:Cx}{pins:A6 (A7×Obj)}{σ:St}{H:Hp}{s:B5}
def Vals.at{j:A5}(r:Vals xs us)(h:j<us.f):∃x,xs[j]?=⇑x/\RelV x us[j]:=by
 let hl:=r.f;let hx:xs[j]?=⇑(xs[j]'(by ext)):=Xv (by ext)
 let(u,e,ru):=r.get hx
 ext
def EqD.self(q:EqD X.K H n x y b)(I:Inv X pins σ H s):x=y->b=A9:=by
 induction q with
 |flat fx fy=>intro e;subst e;show mM fx
 |@lsts n a b xs ys e ha hb hl h ih=>
  intro z;cases z;let e1:xs=ys:=I.list_inj ha hb
  ext
 |@lens n a b xs ys ha hb hl=>
  intro z;cases z;show absurd (YF List.f<|I.list_inj ha hb) hl
 |@tups n a b xs ys e ha hb h ih=>
  intro z;cases z;let e1:xs=ys:=I.tuple_inj ha hb
  ext
def EqD.at(q:EqD X.K H n x y b)(I:Inv X pins σ H s):∀{A:Around}{u v:B1},A.units+n<cLine->RelV x u->RelV y v->SeqAt.EqAt A s u v b:=by
 induction q with
 |flat fx fy=>intro A u v _ ru rv;show BQ ru rv fx fy
 |@lsts n a b xs ys e ha hb hl h ih=>
  intro A u v hu ru rv;let rfl:u=Value.ref a:=ru;let rfl:v=Value.ref b:=rv;cases UU:a=b
  .let z:=EqD.self (EqD.lsts ha hb hl h) I (YF V.ref UU);rw[z,UU];show uA _
  let(us,rx,px,_):=I.list ha;let(vs,ry,py,_):=I.list hb;let l1:=rx.f
  let l2:=ry.f;let z:=SeqAt.RcAt.lists (A:=A) (s:=s) (e:=e) px.isList py.isList (by ext) J λj h1 h2=>by let(x,ex,Mt):=rx.at (j:=j) (by simpa using h1);let(y,ey,Ms):=ry.at (j:=j) (by simpa using h2);grind
  rw[YK,<-l1]at z;show uL UU z
 |@lens n a b xs ys ha hb hl=>
  intro A u v hu ru rv;let rfl:u=Value.ref a:=ru;let rfl:v=Value.ref b:=rv;let(us,rx,px,_):=I.list ha;let(vs,ry,py,_):=I.list hb;let l1:=rx.f
  let l2:=ry.f;let UU:a≠b:=λz=>by subst z;show hl (YF List.f<|I.list_inj ha hb)
  show uL UU (SeqAt.RcAt.lists_lengths px.isList py.isList (by ext) B)
 |@tups n a b xs ys e ha hb h ih=>
  intro A u v hu ru rv;let rfl:u=Value.ref a:=ru;let rfl:v=Value.ref b:=rv;cases UU:a=b
  .let z:=EqD.self (EqD.tups ha hb h) I (YF V.ref UU);rw[z,UU];show uA _
  let(us,rx,px,_):=I.tuple ha;let(vs,ry,py,_):=I.tuple hb;let l1:=rx.f
  let l2:=ry.f;let z:=SeqAt.RcAt.tuples (A:=A) (s:=s) (e:=e) (show s.C.IsTuple a us.E from px) (show s.C.IsTuple b vs.E from py) J λj h1 h2=>by let(x,ex,Mt):=rx.at (j:=j) (by simpa using h1);let(y,ey,Ms):=ry.at (j:=j) (by simpa using h2);grind
  rw[YK,YK,<-l1,<-l2]at z;show uL UU z
end
section
variable{X:Cx}
inductive rEqD(K:Ad)(neg:B2)(x:V)(y:V)(H:Hp)(Q:VK):Prop
 |mk (n b p q:_) (_:x=.ref p) (_:y=.ref q) (_:n<=6) (_:EqD K H n x y b) (_:Q (.bl<|if neg then !b else b) H)
def mL(hu:X.A.units+8<cLine):Ww X (compareOp .Eq) (rEqD X.K false):=by
 intro pins s σ H x y u v Q I ru rv h;let(n,b,p,q,rfl,rfl,hn,d,hq):=h;let rfl:u=Value.ref p:=ru;let rfl:v=Value.ref q:=rv;let fin:EP X pins σ Q (.bool b) s:={.bl b,H,I,Z,hq}
 cases d with
 |flat fx fy=>show absurd (show false=A9 from fx) YC
 |@lsts n _ _ xs ys e ha hb hl h=>
  let(us,rx,px,_):=I.list ha;let(vs,ry,py,_):=I.list hb;let l1:=rx.f
  let l2:=ry.f;show SeqAt.eq_listAt (e:=e) px.isList py.isList (by ext) J (λj h1 h2=>?_) (by ext);let(x,ex,Mt):=rx.at (j:=j) (by simpa using h1);let(y,ey,Ms):=ry.at (j:=j) (by simpa using h2);show(h j x y ex ey).at I (A:=X.A.in1) J (by simpa using Mt) (by simpa using Ms)
 |@lens n _ _ xs ys ha hb hl=>
  let(us,rx,px,_):=I.list ha;let(vs,ry,py,_):=I.list hb;let l1:=rx.f
  let l2:=ry.f;show SeqAt.eq_list_lengthsAt px.isList py.isList (by ext) B fin
 |@tups n _ _ xs ys e ha hb h=>
  let(us,rx,px,_):=I.tuple ha;let(vs,ry,py,_):=I.tuple hb;let l1:=rx.f
  let l2:=ry.f;show SeqAt.eq_tupleAt (e:=e) (show s.C.IsTuple p us.E from px) (show s.C.IsTuple q vs.E from py) J (λj h1 h2=>?_) (by ext);let(x,ex,Mt):=rx.at (j:=j) (by simpa using h1);let(y,ey,Ms):=ry.at (j:=j) (by simpa using h2);show(h j x y ex ey).at I (A:=X.A.in1) J (by simpa using Mt) (by simpa using Ms)
def mK(hu:X.A.units+8<cLine):Ww X (compareOp .NotEq) (rEqD X.K true):=by
 intro pins s σ H x y u v Q I ru rv h;let(n,b,p,q,rfl,rfl,hn,d,hq):=h;let rfl:u=Value.ref p:=ru;let rfl:v=Value.ref q:=rv;let fin:EP X pins σ Q (.bool<|!b) s:={.bl<|!b,H,I,Z,hq}
 cases d with
 |flat fx fy=>show absurd (show false=A9 from fx) YC
 |@lsts n _ _ xs ys e ha hb hl h=>
  let(us,rx,px,_):=I.list ha;let(vs,ry,py,_):=I.list hb;let l1:=rx.f
  let l2:=ry.f;show SeqAt.RcNeAt.lists (e:=e) px.isList py.isList (by ext) B (λj h1 h2=>?_) _ _ _ _ (by ext);let(x,ex,Mt):=rx.at (j:=j) (by simpa using h1);let(y,ey,Ms):=ry.at (j:=j) (by simpa using h2);show(h j x y ex ey).at I (A:=X.A.in1) J (by simpa using Mt) (by simpa using Ms)
 |@lens n _ _ xs ys ha hb hl=>
  let(us,rx,px,_):=I.list ha;let(vs,ry,py,_):=I.list hb;let l1:=rx.f
  let l2:=ry.f;show SeqAt.RcNeAt.lists_lengths px.isList py.isList (by ext) pB _ _ _ _ fin
 |@tups n _ _ xs ys e ha hb h=>
  let(us,rx,px,_):=I.tuple ha;let(vs,ry,py,_):=I.tuple hb;let l1:=rx.f
  let l2:=ry.f;show SeqAt.RcNeAt.tuples (e:=e) (show s.C.IsTuple p us.E from px) (show s.C.IsTuple q vs.E from py) B (λj h1 h2=>?_) _ _ _ _ (by ext);let(x,ex,Mt):=rx.at (j:=j) (by simpa using h1);let(y,ey,Ms):=ry.at (j:=j) (by simpa using h2);show(h j x y ex ey).at I (A:=X.A.in1) J (by simpa using Mt) (by simpa using Ms)
end
end L2
namespace My
open PySem L2
abbrev IL(ns:Ac):A6 V:=ns.Q V.int
def Xd(ns:Ac):(IL ns).f=ns.f:=Yb ..
def mJ(a b:Ac):IL (a++b)=IL a++IL b:=Yz ..
def RL(a:Ac)(r:A0):IL (a++[r])=IL a++[.int r]:=Yz ..
def mH(a:Ac)(n:A5):IL (a.R n)=(IL a).R n:=List.map_take ..
def Bq(a:Ac)(n:A5):IL (a.drop n)=(IL a).drop n:=List.map_drop ..
def Ig(a:Ac)(n:A5)(z:A0):IL (a.set n z)=(IL a).set n (.int z):=List.map_set ..
def SH{i:A5}{z:A0}(h:ns[i]?=⇑z):(IL ns)[i]?=⇑(.int z):=by ext
def Vj{i:A5}{x:V}(h:(IL ns)[i]?=⇑x):∃z,x=.int z/\ns[i]?=⇑z:=by grind
def Zr{a:A7}(hn:H a=A8)(s:Same H H2):Same H (upd H2 a o):=λb u e=>by rw[Za (Ze e hn)];show s b u e
def ZD{p:A7}(s:Same H H2)(hp:H2 p=A8):Same H (upd H2 p o):=Zr (s.free hp) s
def XM{p:A7}(hp:H p=A8):Same H (upd H p o):=ZD (Same.refl H) hp
def VE(e:Same H H')(h:SqT K H a xs):SqT K H' a xs:=by
 rcases h with (h|⟨o,h⟩)|h
 .show .inl (.inl<|e _ _ h)
 .show .inl (.inr {o,e _ _ h})
 .show .inr h
def Mr{n:A5}(h:n<=1000000):n<=sizeLine:=Ym h D
def Zl{n:A5}(h:n<=1000000):n<sizeLine:=Fu h D
def Ie(hr:Room k A):A.units+8<cLine:=Fu (Nat.add_le_add_left (by decide:8<=64) _) hr.units
def Zv{α:Type}{xs:A6 α}{i:A0}{n:A5}{x:α}(hi:i=(n:A0))(h:xs[n]?=⇑x):VQ xs i=⇑x:=by
 subst hi;let hn:n<xs.f:=(Xr.Y h).1
 unfold VQ QE
 ext
def Ky{c A o8:Prop}[Decidable c](hc:c)(h:A):if decide c=A9 then A else o8:=by ext
def Tq{c A o8:Prop}[Decidable c](hc:¬c)(h:o8):if decide c=A9 then A else o8:=by ext
def Kx{c A o8:Prop}[Decidable c](hc:c)(h:o8):if (!decide c)=A9 then A else o8:=by ext
def Xk{c A o8:Prop}[Decidable c](h1:c->A)(h2:¬c->o8):if decide c=A9 then A else o8:=by
 ext
def Wa{c A o8:Prop}[Decidable c](h1:c->o8)(h2:¬c->A):if (!decide c)=A9 then A else o8:=by
 ext
def mG{b:B2}{A o8:Prop}(h1:b=A9->A)(h2:b=B0->o8):if b=A9 then A else o8:=by
 ext
def Ic{b:B2}{A o8:Prop}(h1:b=A9->o8)(h2:b=B0->A):if (!b)=A9 then A else o8:=by
 ext
def SqK(k:B2)(K:Ad)(H:Hp)(a:A7)(xs:A6 V):(Prop):=match k with
 |false=>SqL K H a xs
 |true=>SqT K H a xs
def SqK.same(e:Same H H')(h:SqK k K H a xs):SqK k K H' a xs:=by
 cases k with
 |false=>show e.seq h
 |true=>show VE e h
def SqK.or(h:SqK k K H a xs):SqL K H a xs\/SqT K H a xs:=by
 cases k with
 |false=>show .inl h
 |true=>show .inr h
def Bp(K:Ad)(tl:TE):(TI):=λσ H R=>tl σ H λx H1=>∃a,x=.ref a/\(((∃xs,SqL K H1 a xs)/\R (ON K a) H1)\/((∃xs,SqT K H1 a xs)/\R (OM K a) H1))
def Ib(hl:PE X l tl):PI X tg l (Bp X.K tl):=by
 intro pins s σ H R I h;show thn (hl pins s σ H _ I h) λv s1 XE=>?_;let(x,H1,I1,r1,q1):=XE;let(a,e,q):=q1;subst e;cases r1;rcases q with ⟨⟨xs,hq⟩,q⟩|⟨⟨xs,hq⟩,q⟩
 .let⟨XW,rv,p,hz⟩:=I1.list hq;show Fl p.isList ?_;exists (~~~s1),[(~~~s1)],_,_,H1,Z,I1.kept (t':=s1.toks) λb o e=>Xs _ e,ZE5 a _,{_,Qd _ Z,Z,Z},λb hb=>?_,q;let e:b=(~~~s1):=by simpa using hb
  subst e;show I1.fpOk (XI _) (I1.hok.fresh<|XI _)
 .let⟨XW,rv,p,hz⟩:=I1.tuple hq;show uM (show s1.C.IsTuple a XW.E from p) ?_;exists (~~~s1),[(~~~s1)],_,_,H1,Z,I1.kept (t':=s1.toks) λb o e=>Xs _ e,Za4 a _,{_,Qd _ Z,Z,Z},λb hb=>?_,q;let e:b=(~~~s1):=by simpa using hb
  subst e;show I1.fpOk (XI _) (I1.hok.fresh<|XI _)
def Bo{g:TG}{tb:TS}{tB:Ends}(Pv:A5->St->Hp->Prop)(h0:Pv 0 σ H)(hl:∀i σ H,i<=xs.f->Pv i σ H->SqK k K H a xs)
  (hs:∀i x σ H,xs[i]?=⇑x->Pv i σ H->g x σ H λσ2 H2=>tb {tB with nx:=Pv<|i+1,ct:=Pv<|i+1,bk:=tB.nx} σ2 H2)(hd:∀σ H,Pv xs.f σ H->tB.nx σ H):((∃xs,SqL K H a xs)/\∃W:A5->A5->St->Hp->Prop,(∃m,W 0 m σ H)/\∀i m σ H,W i m σ H->
   ((ON K a).stop i H/\tB.nx σ H)\/((ON K a).go i H/\∃N:St->Hp->Prop,(∀σ' H',N σ' H'->∃m',m'<m/\W (i+1) m' σ' H')/\∀x H',(ON K a).yld i H x H'->g x σ H' λσ2 H2=>tb {tB with nx:=N,ct:=N,bk:=tB.nx} σ2 H2))\/
  ((∃xs,SqT K H a xs)/\∃W:A5->A5->St->Hp->Prop,(∃m,W 0 m σ H)/\∀i m σ H,W i m σ H->
   ((OM K a).stop i H/\tB.nx σ H)\/((OM K a).go i H/\∃N:St->Hp->Prop,(∀σ' H',N σ' H'->∃m',m'<m/\W (i+1) m' σ' H')/\∀x H',(OM K a).yld i H x H'->g x σ H' λσ2 H2=>tb {tB with nx:=N,ct:=N,bk:=tB.nx} σ2 H2)):=by
 cases k with
 |false=>show .inl {{xs,hl 0 σ H (XC _) h0},ET (K:=K) (a:=a) (xs:=xs) Pv h0 hl hs hd}
 |true=>show .inr {{xs,hl 0 σ H (XC _) h0},tV (K:=K) (a:=a) (xs:=xs) Pv h0 hl hs hd}
def PairV(H:Hp)(v:V)(p:A0×A0):(Prop):=∃t,v=.ref t/\H t=⇑(.tup [.int p.1,.int p.2])
def PairsV(H:Hp)(xs:A6 V)(ps:Aa):(Prop):=xs.f=ps.f/\∀(i:A5)(p:A0×A0),ps[i]?=⇑p->∃v,xs[i]?=⇑v/\PairV H v p
def PairV.same(s:Same H H')(h:PairV H v p):PairV H' v p:=by let(t,e,q):=h;exists t,e,s _ _ q
def PairsV.same(s:Same H H')(h:PairsV H xs ps):PairsV H' xs ps:={h.1,λi p e=>by let(v,e1,q):=h.2 i p e;exists v,e1,q.same s}
def PairsV.at(h:PairsV H xs ps){i:A5}{v:V}(e:xs[i]?=⇑v):∃p,ps[i]?=⇑p/\PairV H v p:=by
 let hi:i<xs.f:=(Xr.Y e).1;let hp:i<ps.f:=by rwa[<-h.1]
 let(v',e1,q):=h.2 i ps[i] (Xv hp)
 ext
def PairsV.nil:PairsV H [] []:={Z,λi p e=>by simp at e}
def PairsV.snoc(h:PairsV H xs ps)(q:PairV H v p):PairsV H (xs++[v]) (ps++[p]):=by
 show{by rw[Ya,Ya,h.1];rfl,λi p' e=>?_};cases hi:i<ps.f
 .rw[YB hi]at e;rw[YB (by rwa[h.1])];show h.2 i p' e
 .let hl:i=ps.f:=by
   have:=(Xr.Y e).1
   rw[Ya,YW]at this;lia
  subst hl;rw[YE (by rw[h.1];ext),h.1,MU]
  ext
def PairsV.drop(h:PairsV H xs ps)(n:A5):PairsV H (xs.drop n) (ps.drop n):=by show{by rw[Jq,Jq,h.1],λi p e=>?_};rw[Ft]at e ⊢;show h.2 _ p e
def PairsV.take(h:PairsV H xs ps)(n:A5):PairsV H (xs.R n) (ps.R n):=by
 show{by rw[Yx,Yx,h.1],λi p e=>?_};cases hi:i<n
 .rw[qp hi]at e ⊢;show h.2 _ p e
 .rw[List.getElem?_take_eq_none (by ext)]at e;cases e
def PairsV.app(h:PairsV H xs ps)(h2:PairsV H ys qs):PairsV H (xs++ys) (ps++qs):=by
 show{by rw[Ya,Ya,h.1,h2.1],λi p e=>?_};cases hi:i<ps.f
 .rw[YB hi]at e;rw[YB (by rwa[h.1])];show h.2 i p e
 .rw[YE (by ext)]at e;rw[YE (by rw[h.1];ext),h.1];show h2.2 _ p e
def mF:¬(("places":B8)="ties"):=by decide +kernel
def wf(n:A0)(tl:A7):(A6 (B8×V)):=WC "ties" ↑tl (WC "places" (.int n) [])
def Kw(n:A0)(tl:A7):(wf n tl).M ("places":B8)=⇑(.int n):=by unfold wf;rw[ER,Yj mF,ER,Yk Z]
def OC(n:A0)(tl:A7):(wf n tl).M ("ties":B8)=some ↑tl:=by unfold wf;rw[ER,Yk Z]
def WebAt(C:A7)(H:Hp)(w:A7)(n:A0)(ps:Aa):(Prop):=∃dx tl xs,H w=⇑(.ins C dx<|wf n tl)/\H tl=⇑(.lst xs)/\PairsV H xs ps
def WebAt.same(s:Same H H')(h:WebAt C H w n ps):WebAt C H' w n ps:=by let(dx,tl,xs,a,b,c):=h;exists dx,tl,xs,s _ _ a,s _ _ b,c.same s
def Zz(n:A0)(ps:Aa):(Prop):=1<=n/\n<=14/\ps.f<=30/\∀p∈ps,0<=p.1/\p.1<n/\0<=p.2/\p.2<n
def mE(K:Ad)(mg:Af)(x qual:B8)(st:B6)(fs:A6 B8):(Prop):=∃C f fd,mg x=some ↑C/\Fun K "__init__" qual st f fd/\Cls K C/\Mk K C f/\∀a∈fs,NoAttr K C a
def Kv{mg:Af}{oc:B1}{od an:Option A7}{UA:B3 (Option B1)}{kV doc pm XG ct:B1}(X:K.In h)(G:h.Ns mainGlobals mg)
  (aC:PySem.W.nsIn K mainGlobals x=⇑(some<|.ref C))(a:PySem.W.findIn K ↑C "__init__"=⇑(some<|.ref f))(i:PySem.W.isFn K ↑f=A9)
  (l:K.M f=⇑{oc,od,.func<|PySem.W.fnOf "__init__" qual (Tt st) (Rh st) (Zc st) .none kV doc pm an XG ct,UA})(c:PySem.W.codeIn K XG qual=A9)(k:PySem.W.keepIn K ↑f=A9)
  (pg:PySem.W.plainGet K C Str.empty=A9)(hd:PySem.W.hasDictIn K C=A9)(po:PySem.W.plainOver K C=A9)(sa:PySem.W.findIn K ↑C "__setattr__"=⇑(some<|.builtin "object.__setattr__"))(mk:PySem.W.makesIn K C=A9)(kc:PySem.W.keepIn K ↑C=A9)
  (na:∀a∈fs,PySem.W.findIn K ↑C a=⇑none):mE K mg x qual st fs:=
 {C,f,_,Jl X G aC,BF l c k,⟨pg,hd,po,sa⟩,⟨mk,a,i,kc⟩,na}
def UH{mg:Af}{z:A0}{v:B1}(X:K.In h)(G:h.Ns mainGlobals mg)(a:PySem.W.nsIn K mainGlobals x=⇑(⇑v))(e:∃tk,v=.int z tk):∃tk,mg x=⇑(.int z tk):=by let(tk,rfl):=e;exists tk,Jl X G a
def QC{x:V}{A o8:St->Hp->Prop}(h:A (σ.set i ⇑x) H):OO i x σ H λσ2 H2=>tYes σ2 H2 λb H3=>if b=A9 then A σ2 H3 else o8 σ2 H3:=
 (show if true=A9 then A (σ.set i<|some x) H else o8 (σ.set i<|some x) H from SJ h)
def nm{x:V}{Q:St->Hp->Prop}(h:Q (σ.set i ⇑x) H):OO i x σ H Q:=h
section
variable{K:Ad}{a:A7}{xs:A6 V}{g:TG}{tt:TT}{te:TE}{o:A5}{fr:A6 A5}{σ:St}{H:Hp}{Q:VK}
abbrev Ku(Pv:A5->A6 V->Hp->Prop)(g:TG)(tt:TT)(te:TE)(o:A5)(fr:A6 A5)(σ:St)(i:A5)(x:V)(ys:A6 V)(H:Hp):Prop:=
 ∀S:A5->A6 V->Hp->Prop,(∀ys H,Pv (i+1) ys H->S (i+1) ys H)->g x (σC o fr σ) H λσ2 H2=>tt σ2 H2 λb H3=>if b=A9 then te σ2 H3 λy H4=>S (i+1) (ys++[y]) H4 else S (i+1) ys H3
def SG(Pv:A5->A6 V->Hp->Prop)(h0:Pv 0 [] H)(hz:xs.f<sizeLine)(hl:∀i ys H,i<=xs.f->Pv i ys H->SqL K H a xs/\ys.f<=i)
  (hs:∀i x ys H,xs[i]?=⇑x->Pv i ys H->Ku Pv g tt te o fr σ i x ys H)(hd:∀ys H,Pv xs.f ys H->∀p,H p=A8->Q ↑p (upd H p<|.lst ys)):Nt (ON K a) g tt te o fr σ H Q:=by
 exists λi m ys H=>m=xs.f-i/\i<=xs.f/\Pv i ys H,{xs.f,AP,XC _,h0},?_;intro i m ys H Ω;let⟨rfl,hi,p⟩:=Ω;let(q,hy):=hl i ys H hi p;cases Xu:i<xs.f
 .show .inr {{xs,xs[i],q,by simp[Xu]},J,λx H' zz=>?_};let(e,y):=zz;subst e;let hx:=y xs q
  show hs i x ys _ hx p (λj ys H=>∃m',m'<xs.f-i/\m'=xs.f-j/\j<=xs.f/\Pv j ys H) λys H p'=>{xs.f-(i+1),B,Z,Xu,p'}
 .let e:i=xs.f:=J;subst e;show .inl {{xs,q,XI _},J,hd ys H p}
def OB(Pv:A5->A6 V->Hp->Prop)(h0:Pv 0 [] H)(hz:xs.f<sizeLine)(hl:∀i ys H,i<=xs.f->Pv i ys H->SqT K H a xs/\ys.f<=i)
  (hs:∀i x ys H,xs[i]?=⇑x->Pv i ys H->Ku Pv g tt te o fr σ i x ys H)(hd:∀ys H,Pv xs.f ys H->∀p,H p=A8->Q ↑p (upd H p<|.lst ys)):Nt (OM K a) g tt te o fr σ H Q:=by
 exists λi m ys H=>m=xs.f-i/\i<=xs.f/\Pv i ys H,{xs.f,AP,XC _,h0},?_;intro i m ys H Ω;let⟨rfl,hi,p⟩:=Ω;let(q,hy):=hl i ys H hi p;cases Xu:i<xs.f
 .show .inr {{xs,xs[i],q,by simp[Xu]},B,λx H' zz=>?_};let(e,y):=zz;subst e;let hx:=y xs q
  show hs i x ys _ hx p (λj ys H=>∃m',m'<xs.f-i/\m'=xs.f-j/\j<=xs.f/\Pv j ys H) λys H p'=>{xs.f-(i+1),B,Z,Xu,p'}
 .let e:i=xs.f:=B;subst e;show .inl {{xs,q,XI _},B,hd ys H p}
def tE(Pv:A5->A6 V->Hp->Prop)(h0:Pv 0 [] H)(hz:xs.f<sizeLine)(hl:∀i ys H,i<=xs.f->Pv i ys H->SqK k K H a xs/\ys.f<=i)
  (hs:∀i x ys H,xs[i]?=⇑x->Pv i ys H->Ku Pv g tt te o fr σ i x ys H)(hd:∀ys H,Pv xs.f ys H->∀p,H p=A8->Q ↑p (upd H p<|.lst ys)):
  ((∃xs,SqL K H a xs)/\Nt (ON K a) g tt te o fr σ H Q)\/((∃xs,SqT K H a xs)/\Nt (OM K a) g tt te o fr σ H Q):=by
 cases k with
 |false=>show .inl {{xs,(hl 0 [] H (XC _) h0).1},SG Pv h0 hz hl hs hd}
 |true=>show .inr {{xs,(hl 0 [] H (XC _) h0).1},OB Pv h0 hz hl hs hd}
def EI(Pv:A5->A6 V->Hp->Prop)(h0:Pv 0 [] H)(hz:n<sizeLine)(hl:∀i ys H,i<=n->Pv i ys H->ys.f<=i)
  (hs:∀i ys H,i<n->Pv i ys H->Ku Pv g tt te o fr σ i (.int<|lo+i) ys H)(hd:∀ys H,Pv n ys H->∀p,H p=A8->Q ↑p (upd H p<|.lst ys)):Nt (KU lo n) g tt te o fr σ H Q:=by
 exists λi m ys H=>m=n-i/\i<=n/\Pv i ys H,{n,AP,XC _,h0},?_;intro i m ys H Ω;let⟨rfl,hi,p⟩:=Ω;let hy:=hl i ys H hi p
 cases Xu:i<n
 .show .inr {Xu,J,λx H' zz=>?_};let(e,y):=zz;subst e;subst y;show hs i ys _ Xu p (λj ys H=>∃m',m'<n-i/\m'=n-j/\j<=n/\Pv j ys H) λys H p'=>{n-(i+1),B,Z,Xu,p'}
 .let e:i=n:=J;subst e;show .inl {XI _,J,hd ys H p}
end
def Xf{α:Type}{l:A6 α}(h:l.Nodup){i j:A5}{x:α}(a:l[i]?=⇑x)(b:l[j]?=⇑x):i=j:=by let(h1,e1):=Xr.Y a;let(h2,e2):=Xr.Y b;show(List.getElem_inj h).Y (e1.l e2.symm)
def XF{α:Type}{l:A6 α}{x d:α}(h:l[i]?=⇑x):l.S i d=x:=by ext
def mD{α:Type}{l:A6 α}{x:α}(h:l.Nodup)(hx:x∉l):(l++[x]).Nodup:=by grind
def Zs8{g:TG}{tb:TS}{tB:Ends}(Pv:A5->St->Hp->Prop)(h0:Pv 0 σ H)(hl:∀i σ H,i<=xs.f->Pv i σ H->SqL K H a xs)
  (hs:∀(i:A5) x σ H (p:A7),H p=A8->xs[i]?=⇑x->Pv i σ H->g ↑p σ (upd H p<|.tup [.int i,x]) λσ2 H2=>tb {tB with nx:=Pv<|i+1,ct:=Pv<|i+1,bk:=tB.nx} σ2 H2)(hd:∀σ H,Pv xs.f σ H->tB.nx σ H):
  ∃W:A5->A5->St->Hp->Prop,(∃m,W 0 m σ H)/\∀i m σ H,W i m σ H->
   ((Mv K a).stop i H/\tB.nx σ H)\/((Mv K a).go i H/\∃N:St->Hp->Prop,(∀σ' H',N σ' H'->∃m',m'<m/\W (i+1) m' σ' H')/\∀x H',(Mv K a).yld i H x H'->g x σ H' λσ2 H2=>tb {tB with nx:=N,ct:=N,bk:=tB.nx} σ2 H2):=by
 exists λi m σ H=>m=xs.f-i/\i<=xs.f/\Pv i σ H,{xs.f,AP,XC _,h0},?_;intro i m σ H Ω;let⟨rfl,hi,p⟩:=Ω;let q:=hl i σ H hi p
 cases Xu:i<xs.f
 .show .inr {{xs,xs[i],q,by simp[Xu]},Pv<|i+1,λσ' H' p'=>{xs.f-(i+1),B,Z,Xu,p'},λx H' zz=>?_};let(T,y,hT,ex,eH,hy):=zz;subst ex eH;show hs i y σ H T hT (hy xs q) p
 .let e:i=xs.f:=J;subst e;show .inl {{xs,q,XI _},hd σ H p}
def mC{i:A0}(h0:0<=i)(h1:i.j<=xs.f):Xl xs ⇑i none=xs.drop i.j:=by
 let e:HT.Uy xs.f 0 ⇑i=i.j:=by change(if i<0 then (i+xs⁻¹).j else min i.j xs.f)=i.j;rw[Yj (by ext)];lia
 unfold Xl;rw[e,HT.VI];show YG (by ext)
def mz{i:A0}(h0:0<=i)(h1:i.j<=xs.f):Xl xs none ⇑i=xs.R i.j:=by
 let e:HT.Uy xs.f xs.f ⇑i=i.j:=by change(if i<0 then (i+xs⁻¹).j else min i.j xs.f)=i.j;rw[Yj (by ext)];grind
 unfold Xl;rw[e,HT.VI,Dm,uz]
end My
namespace L2
open PySem PySem.Spec PyProof.Rows
section
variable{X:Cx}{a o e:B4}{es:A6 B4}{ta to:TE}{t:TA}{pos:Pos}
def Zg(K:Ad)(h:X.K=K:=by rfl):IA X (rIxL K):=h▸nY
def ZA(K:Ad)(h:X.K=K:=by rfl):IA X (rIxT K):=h▸nX
def Vr(K:Ad)(h:X.K=K:=by rfl):tN X (rSlL K):=h▸nU
def tD(K:Ad)(h:X.K=K:=by rfl):Ww X (compareOp .In) (λx y H Q=>∃p xs,y=.ref p/\(SqL K H p xs\/SqT K H p xs)/\SM x=A9/\xs.all SM=A9/\Q (.bl<|KD x xs) H):=h▸Zq9
def tw(K:Ad)(h:X.K=K:=by rfl):Ww X (compareOp .NotIn) (λx y H Q=>∃p xs,y=.ref p/\(SqL K H p xs\/SqT K H p xs)/\SM x=A9/\xs.all SM=A9/\Q (.bl<|!KD x xs) H):=h▸nS
def my(K:Ad)(hu:X.A.units+8<cLine)(h:X.K=K:=by rfl):Ww X (compareOp .Eq) (rEqD K false):=h▸mL hu
def Bn(K:Ad)(hu:X.A.units+8<cLine)(h:X.K=K:=by rfl):Ww X (compareOp .NotEq) (rEqD K true):=h▸mK hu
def mx(K:Ad)(h:X.K=K:=by rfl):Ww X (binaryOp .Add) (BU K):=h▸BS
def ZQ(K:Ad)(he:PE X e ta)(hb:attributeBase e f X.env (eval e X.env)=eval e X.env)(h:X.K=K:=by rfl):PE X (.Attribute e f pos) (Cf K ta f):=h▸Ce he hb
def Zh(K:Ad)(h:X.K=K:=by rfl):VL X (.builtin "len") (yR0 K):=h▸Zy5
def Ia(K:Ad)(h:X.K=K:=by rfl):VL X (.type "list") (λxs H Q=>∃p ys,xs=[.ref p]/\(SqL K H p ys\/SqT K H p ys)/\∀l,H l=A8->Q ↑l (upd H l<|.lst ys)):=h▸Zw5
def Bm(K:Ad)(h:X.K=K:=by rfl):VL X (.type "tuple") (λxs H Q=>∃p ys,xs=[.ref p]/\((SqL K H p ys/\∀l,H l=A8->Q ↑l (upd H l<|.tup ys))\/(SqT K H p ys/\Q ↑p H))):=h▸ZJ4
def OA(K:Ad)(hc:X.calm=A9)(h:X.K=K:=by rfl):VL X (.builtin "sum") (λxs H Q=>∃(p:A7)(ns:Ac),xs=[.ref p]/\SqL K H p (ns.Q V.int)/\Q (.int ns.sum) H):=h▸ZK4 hc
def Bl(K:Ad)(hc:X.calm=A9)(h:X.K=K:=by rfl):VL X (.type "set") (λxs H Q=>∃p ns,xs=[.ref p]/\SqL K H p (ns.Q V.int)/\ns.f+1<scanBound/\
  ∀l,H l=A8->Q ↑l (upd H l (.set (λk=>(seen ns).any (· == k)) (seen ns).f))):=h▸ZM4 hc
def ZE(K:Ad)(hl:PE X l tl)(h:X.K=K:=by rfl):PI X tg l (Cs K tl):=h▸oS hl
def HZ(K:Ad)(hl:PE X l tl)(h:X.K=K:=by rfl):PI X tg l (Cr K tl):=h▸Cq hl
def Tp(K:Ad)(hl:PE X l tl)(h:X.K=K:=by rfl):PI X tg l (My.Bp K tl):=h▸My.Ib hl
def tu(K:Ad){elts:A6 B4}{x1:A5}{Tw:Pos}{a:B4}{ta:TA}{p pos:Pos}(hg:Gl X "enumerate")(hm:X.mg "enumerate"=A8)(ha:PA X [a] ta)(hs:starEach [a] X.env=[(false,eval a X.env)]:=by rfl)(h:X.K=K:=by rfl):
  PI X (.Tuple elts x1 Tw) (.Call (.Name "enumerate" p) [a] [] pos) (Kz K ta):=h▸mT hg hm ha hs
def Pw(K:Ad){es:A6 B4}{k:A5}{t:IW}{n:A5}(hc:X.calm=A9)(ht:Cy X es t)
  (hn:(assignEach es X.env).f=n:=by rfl)(Wo:(assignEach es X.env).findIdx? (·.1)=A8:=by rfl)(h:X.K=K:=by rfl):PG X (.Tuple es k pos) (gTup K n t):=h▸Cw hc ht hn Wo
def WT(K:Ad){name:B8}{apos Wi:Pos}{T id:String}{r:V->A6 V->Hp->VK->Prop}(pa:PlainAttrs T)(slot:Slot T name id)(Iz:typeOf (.builtin id)=pure (.type "method_descriptor"))(hm:tL X id r)(ho:PE X o to)(ha:PA X (e::es) t)
  (UJ:attributeBase o name X.env (eval o X.env)=eval o X.env:=by rfl)
  (Iy:((backTo Wi<|starEach (e::es) X.env).all (λx=>!x.1)&&(backToKw Wi<|keywordEach [] X.env).all (λx=>x.1.isSome)
   && decide ((e::es).f+([]:A6 Keyword).f+(if ([]:A6 Keyword).isEmpty then 0 else 1)<30))=A9:=by rfl)
  (UI:(apos.endLine == Wi.line)=A9:=by rfl)(hs:starEach (e::es) X.env=(false,eval e X.env)::starEach es X.env:=by rfl)(OI:(backTo Wi<|starEach es X.env).any (·.1)=B0:=by rfl)(h:X.K=K:=by rfl):
  PE X (.Call (.Attribute o name apos) (e::es) [] Wi) (tBM K T r to t):=h▸nQ pa slot Iz hm ho ha UJ Iy UI hs OI
def Bk(K:Ad){name:B8}{apos Wi:Pos}{T id:String}{r:V->A6 V->Hp->VK->Prop}(pa:PlainAttrs T)(slot:Slot T name id)(Iz:typeOf (.builtin id)=pure (.type "method_descriptor"))(hm:tL X id r)(ho:PE X o to)
  (UJ:attributeBase o name X.env (eval o X.env)=eval o X.env:=by rfl)(UI:(apos.endLine == Wi.line)=A9:=by rfl)(h:X.K=K:=by rfl):PE X (.Call (.Attribute o name apos) [] [] Wi) (BN K T r to):=h▸BM pa slot Iz hm ho UJ UI
end
end L2
namespace My
abbrev mk(m:Ac)(i:A5):A0:=m.S i 0
def pm(m:Ac)(a b:A5):(Ac):=
 if min (mk m a) (mk m b)<max (mk m a) (mk m b) then m.Q (λk=>if k=max (mk m a) (mk m b) then min (mk m a) (mk m b) else k) else m
def lm(m:Ac)(a b:A5):(Ac):=
 if mk m a≠mk m b then m.Q (λk=>if k=mk m b then mk m a else k) else m
def SameP(m l:Ac):(Prop):=m.f=l.f/\∀i j,i<m.f->j<m.f->(mk m i=mk m j↔mk l i=mk l j)
def HY(m:Ac)(f:A0->A0)(h:i<m.f):mk (m.Q f) i=f (mk m i):=by
 ext
def Bj(m:Ac)(a b:A5):(pm m a b).f=m.f:=by unfold pm;split<;>simp
def tj(m:Ac)(a b:A5):(lm m a b).f=m.f:=by unfold lm;grind
def EH(m:Ac)(a b i j:A5):(Prop):=mk m i=mk m j\/((mk m i=mk m a\/mk m i=mk m b)/\(mk m j=mk m a\/mk m j=mk m b))
def HX{x y p q:A0}:((if x=q then p else x)=(if y=q then p else y))↔(x=y\/((x=p\/x=q)/\(y=p\/y=q))):=by grind
def mw{x y p:A0}:x=y↔(x=y\/((x=p\/x=p)/\(y=p\/y=p))):={.inl,λh=>h.elim id λh=>(h.1.elim id id).l (h.2.elim id id).symm}
def Bi(hi:i<m.f)(hj:j<m.f):mk (pm m a b) i=mk (pm m a b) j↔EH m a b i j:=by
 unfold pm EH;split
 .rw[HY _ _ hi,HY _ _ hj];cases sZ:mk m a<mk m b
  .rw[pR (Int.le_of_lt sZ),Int.max_eq_right (Int.le_of_lt sZ)];show HX
  .rw[Int.min_eq_right (uj.Y sZ),Int.max_eq_left<|uj.Y sZ,Or.comm (a:=mk m i=mk m a),Or.comm (a:=mk m j=mk m a)];show HX
 .rename_i h;let hh:=uj.Y h
  rw[show mk m a=mk m b from Int.le_antisymm (uw (Int.le_max_left _ _)<|uw hh<|Int.min_le_right _ _) (uw (Int.le_max_right _ _)<|uw hh<|Int.min_le_left _ _)];show mw
def Bh(hi:i<m.f)(hj:j<m.f):mk (lm m a b) i=mk (lm m a b) j↔EH m a b i j:=by
 unfold lm EH;split
 .rw[HY _ _ hi,HY _ _ hj];show HX
 .ext
def SameP.step{m l:Ac}(s:SameP m l){a b:A5}(ha:a<m.f)(hb:b<m.f):SameP (pm m a b) (lm l a b):=by let(hl,h):=s;show{by rw[Bj,tj,hl],λi j hi hj=>?_};rw[Bj]at hi hj;rw[Bi hi hj,Bh (by ext) (by ext)];unfold EH;rw[h i j hi hj,h i a hi ha,h i b hi hb,h j a hj ha,h j b hj hb]
def Xj(n:A5)(es:A6 (A5×A5)):(Ac):=es.foldl (λm e=>pm m e.1 e.2) ((List.range n).Q λ(i:A5)=>(i:A0))
def Xa(n:A5)(es:A6 (A5×A5)):(Ac):=es.foldl (λm e=>lm m e.1 e.2) ((List.range n).Q λ(i:A5)=>(i:A0))
def Zs(n:A5)(es:A6 (A5×A5)):(Xj n es).f=n:=by
 have:∀(es:A6 (A5×A5))(m:Ac),(es.foldl (λm e=>pm m e.1 e.2) m).f=m.f:=by
  intro es
  induction es with
  |nil=>intro m;rfl
  |cons e es ih=>intro m;rw[uG,ih,Bj]
 unfold Xj;ext
def ZC(n:A5)(es:A6 (A5×A5)):(Xa n es).f=n:=by
 have:∀(es:A6 (A5×A5))(m:Ac),(es.foldl (λm e=>lm m e.1 e.2) m).f=m.f:=by
  intro es
  induction es with
  |nil=>intro m;rfl
  |cons e es ih=>intro m;rw[uG,ih,tj]
 unfold Xa;ext
def Yz7(n:A5)(es:A6 (A5×A5))(e:A5×A5):Xj n (es++[e])=pm (Xj n es) e.1 e.2:=by unfold Xj;ext
def Nr(n:A5)(es:A6 (A5×A5))(e:A5×A5):Xa n (es++[e])=lm (Xa n es) e.1 e.2:=by unfold Xa;ext
def HW:∀{es:A6 (A5×A5)},(∀e∈es,e.1<n/\e.2<n)->SameP (Xj n es) (Xa n es):=by
 intro es;let key:∀(es:A6 (A5×A5))(m l:Ac),SameP m l->m.f=n->(∀e∈es,e.1<n/\e.2<n)->SameP (es.foldl (λm e=>pm m e.1 e.2) m) (es.foldl (λm e=>lm m e.1 e.2) l):=by
  intro es
  induction es with
  |nil=>intro m l s _ _;show s
  |cons e es ih=>
   intro m l s hm he;let h1:=he e Yi
   show ih _ _ (s.step (by ext)<|by ext) (by rwa[Bj]) λx hx=>he x (Yn _ hx)
 show key es _ _ {Z,λi j _ _=>Iff.rfl} AP
def VD(g:A6 (A0×Ac))(place k:A0):(A6 (A0×Ac)):=
 if k∈g.Q (·.1) then g.Q (λkv=>if kv.1=k then (kv.1,kv.2++[place]) else kv) else g++[(k,[place])]
def Xq(M:Ac):(A5->A6 (A0×Ac))
 |0=>[]
 |i+1=>VD (Xq M i) (i:A0) (mk M i)
def HV(M:Ac):(A6 (A0×Ac)):=Xq M M.f
def Mq(g:A6 (A0×Ac))(p k:A0):(VD g p k).Q (·.1)=if k∈g.Q (·.1) then g.Q (·.1) else g.Q (·.1)++[k]:=by
 unfold VD;split
 .rw[MT];show YZ λkv _=>?_;lia
 .simp
def ZR6(h:(g.Q (·.1)).Nodup):((VD g p k).Q (·.1)).Nodup:=by rw[Mq];grind
def HU(M:Ac):∀i,((Xq M i).Q (·.1)).Nodup
 |0=>by simp[Xq]
 |i+1=>ZR6 (HU M i)
def Bg(M:Ac):∀i j,j<i->mk M j∈(Xq M i).Q (·.1)
 |0,j,h=>absurd h (QR j)
 |i+1,j,h=>by
  change mk M j∈(VD (Xq M i) (i:A0)<|mk M i).Q (·.1);rw[Mq];cases hj:j<i
  .have:=Bg M i j hj
   grind
  grind
def sY(h:j<i):mk M j∈(Xq M i).Q (·.1):=Bg M i j h
def sX(M:Ac):∀i k,k∈(Xq M i).Q (·.1)->∃j,j<i/\mk M j=k
 |0,k,h=>by simp[Xq]at h
 |i+1,k,h=>by
  let h:k∈(VD (Xq M i) (i:A0)<|mk M i).Q (·.1):=h;rw[Mq]at h;let old:k∈(Xq M i).Q (·.1)->∃j,j<i+1/\mk M j=k:=λq=>by let(j,hj,e):=sX M i k q;exists j,J,e
  grind
def Bf(hM:1<=M.f):(HV M).f=1↔∀i j,i<M.f->j<M.f->mk M i=mk M j:=by
 unfold HV;constructor
 .intro h i j hi hj;let(kv,e):=Y3V.Y h;let h1:=sY (M:=M) hi
  let h2:=sY (M:=M) hj;grind
 .intro h;let nd:=HU M M.f
  let h0:=sY (M:=M) (i:=M.f) (j:=0) J;generalize hg:(Xq M M.f)=g at *
  match g,hg with
  |[],_=>simp at h0
  |[kv],_=>rfl
  |a::b::r,hg=>
   exfalso;let(i,hi,e1):=sX M M.f a.1 B
   let(j,hj,e2):=sX M M.f b.1 B;grind
def SameP.one(s:SameP m l):(∀i j,i<m.f->j<m.f->mk m i=mk m j)↔(∀i j,i<l.f->j<l.f->mk l i=mk l j):=by
 let(hl,h):=s;rw[<-hl];constructor
 .intro q i j hi hj;show(h i j hi hj).Y (q i j hi hj)
 .intro q i j hi hj;show(h i j hi hj).X (q i j hi hj)
def mv:∀{i:A5}{kv:A0×Ac},kv∈Xq M i->kv.2.f<=i
 |0,kv,h=>by simp[Xq]at h
 |i+1,kv,h=>by
  unfold Xq VD at h;split at h
  .let⟨kv0,h0,e⟩:=Yp.Y h;let ih:=mv h0
   grind
  .rcases Xi.Y h with h0|h0
   .let ih:=mv h0;lia
   ext
end My
namespace My
open PySem L2 PyProof.Rows
def mq(val:A5->A0):∀i,(firstMet val i).Nodup
 |0=>List.nodup_nil
 |i+1=>by
  rw[CZ];unfold step_dedup;split
  .show mq val i
  .rename_i h;show mD (mq val i) λz=>h ?_
   ext
def Be(val:A5->A0):∀i (k:A0),k∈firstMet val i↔∃j,j<i/\val j=k
 |0,k=>by
  rw[firstMet_zero]
  ext
 |i+1,k=>by
  rw[CZ];let ih:=Be val i k
  unfold step_dedup;grind
def ml(h:1<=ns.f):(L2.seen ns).f=1↔∀i j,i<ns.f->j<ns.f->mk ns i=mk ns j:=by
 let nd:=mq (λi=>ns.S i 0) ns.f;let mm:=Be (λi=>ns.S i 0) ns.f
 unfold L2.seen;generalize firstMet (λi=>ns.S i 0) ns.f=l at *;constructor
 .intro h1 i j hi hj;let(x,e):=Y3V.Y h1;let a:=(mm<|ns.S i 0).X ⟨i,hi,Z⟩
  let b:=(mm<|ns.S j 0).X ⟨j,hj,Z⟩;grind
 .intro q;let h0:=(mm<|ns.S 0 0).X ⟨0,J,Z⟩
  match l,nd,mm,h0 with
  |[],_,_,h0=>cases h0
  |[x],_,_,_=>rfl
  |x::y::r,nd,mm,_=>
   exfalso;let(i,hi,e1):=(mm x).Y AP
   let(j,hj,e2):=(mm y).Y AP;grind
def Oz(z:A0)(l:Ac):KD (.int z) (IL l)=decide (z∈l):=by
 unfold KD;rw[List.any_map];rw[OX,Fo,YY];constructor
 .rintro⟨y,hy,e⟩;let e':y=z:=eq_of_beq e
  ext
 .intro h;exists z,h,Dr z
def Oy(l:Ac):(IL l).all SM=A9:=by rw[List.all_map,Wd];intro x _;rfl
def Wn:decide (V.int a=V.int b)=decide (a=b):=by
 ext
end My
namespace My
open PySem L2
def IsSet(m:A5)(ns:Ac):(Prop):=∀i z,ns[i]?=⇑z->0<=z/\z<(m:A0)/\∀y,i≠0->ns[i-1]?=⇑y->y<z
def XO(ps:Aa)(ns:Ac):(A6 (A5×A5)):=ns.Q λz=>((ps.S z.j (0,0)).1.j,(ps.S z.j (0,0)).2.j)
def Zs3{ns:Ac}{z:A0}(h:ns[i]?=⇑z):XO ps (ns.R (i+1))=XO ps (ns.R i)++[((ps.S z.j (0,0)).1.j,(ps.S z.j (0,0)).2.j)]:=by unfold XO;rw[Yw,h];simp
def To(h:i<m.f):m[i]?=⇑(mk m i):=by
 ext
def ZN5(n:A0):Wb 0 n=(List.range n.j).Q λ(i:A5)=>(i:A0):=by
 unfold Wb
 ext
def Ug(g:A6 (A0×Ac))(as:A6 A7):(A6 (Key×V)):=List.zipWith (λkv a=>((Sum.inl kv.1:Key),V.ref a)) g as
def Zl8(h:as.f=g.f):(Ug g as).f=g.f:=by unfold Ug;ext
def Bc:∀{g:A6 (A0×Ac)}{as:A6 A7},as.f=g.f->(Ug g as).Q (·.2)=as.Q V.ref
 |[],[],_=>rfl
 |[],_::_,h=>by simp at h
 |_::_,[],h=>by simp at h
 |kv::g,a::as,h=>by change V.ref a::(Ug g as).Q (·.2)=V.ref a::as.Q V.ref;rw[Bc (MV h)]
def Zm8:∀{g g':A6 (A0×Ac)}{as:A6 A7},g.Q (·.1)=g'.Q (·.1)->Ug g as=Ug g' as
 |[],[],_,_=>rfl
 |[],_::_,_,h=>by simp at h
 |_::_,[],_,h=>by simp at h
 |kv::g,sW::g',[],_=>rfl
 |kv::g,sW::g',a::as,h=>by
  rw[QQ,QQ,List.cons.injEq]at h;change((Sum.inl kv.1:Key),V.ref a)::Ug g as=((Sum.inl sW.1:Key),V.ref a)::Ug g' as
  rw[h.1,Zm8 h.2]
def Zk8:∀{g:A6 (A0×Ac)}{as:A6 A7}{kv:A0×Ac}{a:A7},as.f=g.f->Ug (g++[kv]) (as++[a])=Ug g as++[((Sum.inl kv.1:Key),V.ref a)]
 |[],[],_,_,_=>rfl
 |[],_::_,_,_,h=>by simp at h
 |_::_,[],_,_,h=>by simp at h
 |x::g,y::as,kv,a,h=>by change _::Ug (g++[kv]) (as++[a])=_::(Ug g as++_);rw[Zk8 (MV h)]
def mj:∀{g:A6 (A0×Ac)}{as:A6 A7}{k:A0},as.f=g.f->
  (Wm (Ug g as) (Sum.inl k:Key)=A8/\k∉g.Q (·.1))\/∃(j:A5)(kv:A0×Ac)(a:A7),g[j]?=⇑kv/\as[j]?=⇑a/\kv.1=k/\Wm (Ug g as) (Sum.inl k:Key)=some ↑a
 |[],[],k,_=>.inl ⟨Z,AP⟩
 |[],_::_,_,h=>by simp at h
 |_::_,[],_,h=>by simp at h
 |kv::g,a::as,k,h=>by
  cases e:kv.1=k
  .show .inr {0,kv,a,Z,Z,e,?_};change Wm (((Sum.inl kv.1:Key),V.ref a)::Ug g as) _=_
   rw[nI (by rw[e])]
  .let e':¬((Sum.inl kv.1:Key)=Sum.inl k):=λz=>e (Sum.inl.inj z);let ev:Wm (Ug (kv::g)<|a::as) (Sum.inl k:Key)=Wm (Ug g as) (Sum.inl k:Key):=nH (p:=((Sum.inl kv.1:Key),V.ref a)) e'
   rcases mj (g:=g) (as:=as) (k:=k) (MV h) with ⟨h1,h2⟩|⟨j,sW,a',h1,h2,h3,h4⟩
   .grind
   .show .inr {j+1,sW,a',by simpa using h1,by simpa using h2,h3,by rwa[ev]}
structure GrpAt(H0 H:Hp)(g:A6 (A0×Ac))(as:A6 A7):Prop where
 len:as.f=g.f
 nd:as.Nodup
 at_:∀(i:A5)(kv:A0×Ac)(a:A7),g[i]?=⇑kv->as[i]?=⇑a->H a=⇑(.lst<|IL kv.2)
 new:∀a∈as,H0 a=A8
def GrpAt.same(s:Same H H')(h:GrpAt H0 H g as):GrpAt H0 H' g as:={h.len,h.nd,λi kv a e1 e2=>s _ _<|h.at_ i kv a e1 e2,h.new}
def GrpAt.mem(h:GrpAt H0 H g as){a:A7}(ha:a∈as):∃l,H a=⇑(.lst l):=by
 let(i,hi,e):=Js ha;let hg:i<g.f:=by rwa[<-h.len]
 exists _,h.at_ i g[i] a (Xv hg)<|by ext
def IsSet.all(h:IsSet m ns):∀z∈ns,0<=z/\z<(m:A0):=λz hz=>by let(i,hi,e):=Js hz;let(a,b,_):=h i z (by ext);exists a,b
def IsSet.nil(m:A5):IsSet m []:=λi z e=>by simp at e
def IsSet.up(h:IsSet m ns):IsSet (m+1) ns:=λi z e=>by let(a,b,c):=h i z e;exists a,pB,c
def IsSet.snoc(h:IsSet m ns):IsSet (m+1) (ns++[(m:A0)]):=λi z e=>by
 cases hi:i<ns.f
 .rw[YB hi]at e;let(a,b,c):=h i z e;grind
 .let hl:i=ns.f:=by
   have:=(Xr.Y e).1
   rw[Ya,YW]at this;lia
  subst hl;rw[YE (XI _),MU]at e;let e:(m:A0)=z:=Yf e
  subst e;show{by ext,J,λy h0 ey=>?_};rw[YB J]at ey;show(h _ y ey).2.1
def IsSet.len:∀{ns:Ac},IsSet m ns->ns.f<=m:=λ{ns} h=>by
 let key:∀(i:A5)(z:A0),ns[i]?=⇑z->(i:A0)<=z:=by
  intro i
  induction i with
  |zero=>intro z e;show(h 0 z e).1
  |succ i ih=>
   intro z e;let hi:i<ns.f:=by have:=(Xr.Y e).1;lia
   let e2:ns[i]?=⇑ns[i]:=Xv hi
   have:=ih _ e2
   have:=(h (i+1) z e).2.2 ns[i] J (by ext)
   lia
 cases h0:ns.f=0
 .ext
 .let e:ns[ns.f-1]?=⇑(ns[ns.f-1]'(by lia)):=Xv _;let a:=key _ _ e
  let b:=(h _ _ e).2.1;lia
end My
namespace L2
open PySem PySem.Spec PyProof.Rows
section
variable{X:Cx}
def mi(K:Ad):(V->A6 V->Hp->VK->Prop):=λx vs H Q=>∃(p:A7)(ns:Ac)(z:A0)(j:A5),x=.ref p/\vs=[.int z]/\SqL K H p (ns.Q V.int)/\ns[j]?=⇑z/\(∀i,i<j->ns[i]?≠⇑z)/\Q (.int j) H
def Zv9(K:Ad)(h:X.K=K:=by rfl):Nu X "list.index" (mi K):=by
 subst h;intro pins s σ H x vs v us Q I rx rv h;let(p,ns,z,j,rfl,rfl,hq,hj,Ue,q):=h;cases rx;let(u,rfl,t,rfl):=rv.one;let(XW,r,(o,n,e,hc,hd,mh),hz):=I.list hq;let hl:XW.f=ns.f:=by rw[<-r.f,Yb]
 let Pu:j<ns.f:=(Xr.Y hj).1;let hsz:sizeLine=16777216:=PN
 rw[Yb]at hz;let(oc,od,odat,UA):=o;subst hc mh;let at_:∀(i:A5)(hi:i<XW.f),∃tk,XW[i]=.int (ns[i]'(by ext)) tk:=λi hi=>by
  let(x,ex,rx):=r.at hi;rw[Yo,Xv J]at ex;let ex:V.int (ns[i]'(by lia))=x:=Yf ex
  subst ex;show rx
 show Nw F.slot_list_index {_,e,Z} F.entry_list_index (F.args_list_index_2 _ _) (SeqAt.list_indexAt p XW.E n od UA (.int z t) (λy=>Si (.int z) y) j (by ext) J ?_ ?_) {e,λy hy=>?_,?_}
 .let⟨tk,e1⟩:=at_ j (by ext);let e2:ns[j]'(by ext)=z:=by rw[Xv Pu]at hj;show Yf hj
  let e3:XW.E[j]'(by ext)=.int z tk:=by rw[<-e2];simpa using e1
  rw[e3];show Dr z
 .intro m hm hmj;let Kt:m<XW.f:=by rwa[YK]at hm
  let(tk,e1):=at_ m Kt;let e3:XW.E[m]'hm=.int (ns[m]'(by ext)) tk:=by simpa using e1
  rw[e3];let XH:=Ue m hmj
  rw[Xv pB]at XH;let HS:ns[m]'(by omega)≠z:=λw=>XH (YF some w)
  show beq_false_of_ne HS
 .show OJ (x:=.int z) ⟨t,Z⟩ Z r ?_ y (by simpa using hy);rw[List.all_map,Wd];intro _ _;rfl
 .exists .int j,H,I.tok _,{_,Z},q
def Zi3{XW:B3 B1}{bs:A6 B2}(h:∀(i:A5)(v:B1),XW[i]?=⇑v->∃b,bs[i]?=⇑b/\v=.bool b):TruthOf prog w A (λi v=>XW[i]?=⇑v) (λi=>bs.S i false):=by
 intro i v s Q E hP hQ;let(b,eb,rfl):=h i v hP;let hQ:Q (bs.S i false) s:=hQ
 rw[Wj,eb]at hQ;show MY hQ
def mf(bs:A6 B2):(List.range bs.f).all (λi=>bs.S i false)=bs.all id:=by
 rw[OX,Wd,Wd];constructor
 .intro h b hb;let(i,hi,e):=Js hb
  ext
 .intro h i hi;let hi:=YR.Y hi
  rw[Wj,Xv hi];show h _ (Jp hi)
def me(bs:A6 B2):(List.range bs.f).any (λi=>bs.S i false)=bs.any id:=by
 rw[OX,Fo,Fo];constructor
 .rintro⟨i,hi,e⟩;let hi:=YR.Y hi
  rw[Wj,Xv hi]at e;exists _,Jp hi,e
 .rintro⟨b,hb,e⟩;let(i,hi,ei):=Js hb;exists i,YR.X hi,?_
  ext
def ZU8{bs:A6 B2}(r:Vals (bs.Q V.bl) XW):∀(i:A5)(v:B1),XW.E[i]?=⇑v->∃b,bs[i]?=⇑b/\v=.bool b:=λi v e=>by
 let e:XW[i]?=⇑v:=by simpa using e
 let hi:i<XW.f:=(Xr.Y e).1;let(x,ex,rx):=r.at hi;rw[Yo]at ex;cases eb:bs[i]? with
 |none=>ext
 |some b=>
  rw[eb]at ex;let ex:V.bl b=x:=Yf ex
  subst ex;rw[Xv hi]at e;let e:XW[i]=v:=Yf e
  rw[e]at rx;exists b,Z,rx
def Bb(K:Ad)(hc:X.calm=A9)(h:X.K=K:=by rfl):VL X (.builtin "all") (λxs H Q=>∃(p:A7)(bs:A6 B2),xs=[.ref p]/\SqL K H p (bs.Q V.bl)/\Q (.bl<|bs.all id) H):=by
 subst h;intro pins s σ H xs us Q I r h;let(p,bs,rfl,hq,q):=h;let(u,rfl,ru):=Ve r;let rfl:u=Value.ref p:=ru;let(XW,rv,pl,hz):=I.list hq;let hl:XW.E.o=bs.f:=by rw[YK,<-rv.f,Yb]
 let XH:p≠(~~~s):=Yl (by let(_,_,e,_):=pl;show Yh e);show call_all_walk (Fl pl.isList {(~~~s),_,_,_,_,_,_,Z,Walks.list (A:=X.A.in1) (I.ok.hd hc) (~~~s) p XH XW.E,{{_,Qd _ Z,Z,Z},pl.isList.push _},Zi3<|ZU8 rv,λh' tk hk=>?_});rw[hl,mf];exists .bl<|bs.all id,H,I.kept λb o e=>hk b o ?_<|Xs _ e,Z,q;intro z;rw[Xn.Y z]at e;show absurd (Yh e) (SQ _)
def Ba(K:Ad)(hc:X.calm=A9)(h:X.K=K:=by rfl):VL X (.builtin "any") (λxs H Q=>∃(p:A7)(bs:A6 B2),xs=[.ref p]/\SqL K H p (bs.Q V.bl)/\Q (.bl<|bs.any id) H):=by
 subst h;intro pins s σ H xs us Q I r h;let(p,bs,rfl,hq,q):=h;let(u,rfl,ru):=Ve r;let rfl:u=Value.ref p:=ru;let(XW,rv,pl,hz):=I.list hq;let hl:XW.E.o=bs.f:=by rw[YK,<-rv.f,Yb]
 let XH:p≠(~~~s):=Yl (by let(_,_,e,_):=pl;show Yh e);show call_any_walk (Fl pl.isList {(~~~s),_,_,_,_,_,_,Z,Walks.list (A:=X.A.in1) (I.ok.hd hc) (~~~s) p XH XW.E,{{_,Qd _ Z,Z,Z},pl.isList.push _},Zi3<|ZU8 rv,λh' tk hk=>?_});rw[hl,me];exists .bl<|bs.any id,H,I.kept λb o e=>hk b o ?_<|Xs _ e,Z,q;intro z;rw[Xn.Y z]at e;show absurd (Yh e) (SQ _)
end
end L2
namespace My
open PySem L2
section
variable{K:Ad}{H:Hp}{α:Type}[DecidableEq α]
def Bears(R:V->α->Prop)(xs:A6 V)(l:A6 α):(Prop):=xs.f=l.f/\∀(i:A5)(a:α),l[i]?=⇑a->∃x,xs[i]?=⇑x/\R x a
def Bears.at{R:V->α->Prop}(h:Bears R xs l){i:A5}{x:V}(e:xs[i]?=⇑x):∃a,l[i]?=⇑a/\R x a:=by
 let hi:i<xs.f:=(Xr.Y e).1;let hl:i<l.f:=by rwa[<-h.1]
 let(x',e1,q):=h.2 i l[i] (Xv hl)
 ext
def Ks{l m:A6 α}(h:l.f=m.f):(List.range l.f).all (λi=>decide (l[i]?=m[i]?))=decide (l=m):=by
 rw[OX,Wd,YY];constructor
 .intro q;show ND λi=>?_;grind
 lia
def l9{R:V->α->Prop}(hp:SqL K H p xs)(hq:SqL K H q ys)(h1:Bears R xs l)(h2:Bears R ys m)(hR:∀x y a b,R x a->R y b->EqD K H n x y (decide (a=b))):EqD K H (n+1) ↑p ↑q (decide (l=m)):=by
 cases hl:xs.f=ys.f
 .let e:=Ks (l:=l) (m:=m) (by rw[<-h1.1,<-h2.1,hl]);rw[<-e,<-h1.1];show EqD.lsts hp hq hl λi x y ex ey=>?_;let(a,ea,ra):=h1.at ex;let(b,eb,rb):=h2.at ey
  ext
 .let e:decide (l=m)=B0:=OQ λz=>hl (by rw[h1.1,h2.1,z]);rw[e];show EqD.lens hp hq hl
def l8{R:V->α->Prop}(hp:SqT K H p xs)(hq:SqT K H q ys)(h1:Bears R xs l)(h2:Bears R ys m)(hR:∀x y a b,R x a->R y b->EqD K H n x y (decide (a=b))):EqD K H (n+1) ↑p ↑q (decide (l=m)):=by
 let key:=EqD.tups (e:=λi=>decide<|l[i]?=m[i]?) hp hq λi x y ex ey=>by let(a,ea,ra):=h1.at ex;let(b,eb,rb):=h2.at ey;rw[ea,eb,show decide (⇑a=⇑b)=decide (a=b) by simp];show hR x y a b ra rb
 cases hl:xs.f=ys.f
 .let e:=Ks (l:=l) (m:=m) (by rw[<-h1.1,<-h2.1,hl]);rwa[<-hl,Nat.min_self,h1.1,e,show(l.f == l.f)=A9 by simp,Bool.and_true]at key
 .let e:decide (l=m)=B0:=OQ λz=>hl (by rw[h1.1,h2.1,z]);lia
def Mp(ns:Ac):Bears (λx (z:A0)=>x=.int z) (IL ns) ns:={Xd ns,λi z e=>{_,SH e,Z}}
def l7{a b:A0}(hx:x=.int a)(hy:y=.int b):EqD K H n x y (decide (a=b)):=by subst hx hy;show EqD.flat Z rfl
def l6(hp:SqL K H p (IL ns))(hq:SqL K H q (IL ms)):EqD K H 1 ↑p ↑q (decide (ns=ms)):=
 l9 hp hq (Mp ns) (Mp ms) λ_ _ _ _=>l7
def Ox(hp:SqT K H p (IL ns))(hq:SqT K H q (IL ms)):EqD K H 1 ↑p ↑q (decide (ns=ms)):=
 l8 hp hq (Mp ns) (Mp ms) λ_ _ _ _=>l7
def Vq(H:Hp)(v:V)(l:Ac):(Prop):=∃a,v=.ref a/\H a=⇑(.lst<|IL l)
end
end My
namespace My
def VZ(M:Ac)(p:A5):(B2):=(List.range p).all λi=>decide (mk M i≠mk M p)
def RJ(M:Ac)(k:A0)(i:A5):(Ac):=((List.range i).filter λj=>decide<|mk M j=k).Q λ(j:A5)=>(j:A0)
def Ud(M:Ac)(i:A5):(A6 A5):=(List.range i).filter (VZ M)
def XB:VZ M p=A9↔∀i,i<p->mk M i≠mk M p:=by
 unfold VZ
 ext
def lZ(M:Ac)(k:A0)(i:A5):RJ M k (i+1)=RJ M k i++(if mk M i=k then [(i:A0)] else []):=by unfold RJ;rw[NC,Pc,Yz];grind
def Za6(M:Ac)(i:A5):Ud M (i+1)=Ud M i++(if VZ M i=A9 then [i] else []):=by unfold Ud;rw[NC,Pc];grind
def AZ(M:Ac):∀i,Xq M i=(Ud M i).Q λp=>(mk M p,RJ M (mk M p) i)
 |0=>rfl
 |i+1=>by
  let ih:=AZ M i;change VD (Xq M i) (i:A0) (mk M i)=_
  let hk:(mk M i∈(Xq M i).Q (·.1))↔VZ M i≠A9:=by
   constructor
   .intro h q;let(j,hj,e):=sX M i _ h;show XB.Y q j hj e
   .intro h;cases q:∃j,j<i/\mk M j=mk M i
    .let⟨j,hj,e⟩:=q;rw[<-e];show sY hj
    .show absurd (XB.X λj hj e=>q ⟨j,hj,e⟩) h
  unfold VD;cases h:mk M i∈(Xq M i).Q (·.1)
  .let hf:=hk.Y h;rw[Yk h,Za6,Yj hf,Wc,ih,MT];show YZ λp _=>?_;rw[lZ];grind
  .let hf:VZ M i=A9:=by
    cases q:VZ M i with
    |true=>rfl
    |false=>lia
   rw[Yj h,Za6,Yk hf,Yz,ih];congr 1
   .show YZ λp hp=>?_;let AY:p<i:=YR.Y (Yq.Y hp).1
    rw[lZ,Yj λz=>XB.Y hf p AY z.symm,Wc]
   .change [(mk M i,[(i:A0)])]=[(mk M i,RJ M (mk M i)<|i+1)];rw[lZ,Yk Z];let e0:RJ M (mk M i) i=[]:=by unfold RJ;rw[Y3X.X λj hj=>by simpa using XB.mp hf j (YR.mp hj)];rfl
    rw[e0];rfl
end My
namespace My
open PySem L2
def Bears.snoc{α:Type}[DecidableEq α]{R:V->α->Prop}{xs:A6 V}{l:A6 α}{x:V}{a:α}(h:Bears R xs l)(hx:R x a):Bears R (xs++[x]) (l++[a]):=by
 show{by rw[Ya,Ya,h.1];rfl,λi b e=>?_};cases hi:i<l.f
 .rw[YB hi]at e;rw[YB (by rwa[h.1])];show h.2 i b e
 .let hl:i=l.f:=by
   have:=(Xr.Y e).1
   rw[Ya,YW]at this;lia
  subst hl;rw[YE (by rw[h.1];ext),h.1,MU]
  ext
def Bears.imp{α:Type}[DecidableEq α]{R R':V->α->Prop}{xs:A6 V}{l:A6 α}(h:Bears R xs l)(f:∀x a,R x a->R' x a):Bears R' xs l:={h.1,λi a e=>by let(x,e1,r):=h.2 i a e;exists x,e1,f x a r}
end My
namespace L2
open PySem PySem.Spec PyProof.Rows
section
variable{X:Cx}
abbrev Wy(X:Cx)(h:Heap)(ns:A6 A7):Heap:=PySem.W.hideAll h (UD X.stack++ns)
end
def Yz9{a:A0}(h1:-(10^70)<a)(h2:a<10^70):a.natAbs.log2<1920:=by
 let h:a.natAbs<10^70:=J;cases h0:a.natAbs=0
 .ext
 .show(Nat.log2_lt h0).X (Nat.lt_trans h D)
end L2
namespace My
open PySem L2
def Zc7(n k:A5)(hn:n<=63)(hk:k<=63):-(2^62)<=(if (if (k:A0)<(n:A0) then (k:A0) else (n:A0))>1 then (if (k:A0)<(n:A0) then (k:A0) else (n:A0)) else 1)/\
  (if (if (k:A0)<(n:A0) then (k:A0) else (n:A0))>1 then (if (k:A0)<(n:A0) then (k:A0) else (n:A0)) else 1)<2^62:=by grind
def lY{k:A5}(hn:ns.f<=63)(hk:k<=63):-(2^62)<=(if (if (k:A0)<((IL ns).f:A0) then (k:A0) else ((IL ns).f:A0))>1 then (if (k:A0)<((IL ns).f:A0) then (k:A0) else ((IL ns).f:A0)) else 1):=by rw[Xd];show(Zc7 _ _ hn hk).1
def lX{k:A5}(hn:ns.f<=63)(hk:k<=63):(if (if (k:A0)<((IL ns).f:A0) then (k:A0) else ((IL ns).f:A0))>1 then (if (k:A0)<((IL ns).f:A0) then (k:A0) else ((IL ns).f:A0)) else 1)<2^62:=by rw[Xd];show(Zc7 _ _ hn hk).2
end My
namespace L2
open PySem PySem.Spec PyProof.Rows
def AX:∀{us:Ag}{ns:Ac},IntsAre us ns->Vals (ns.Q V.int) us
 |[],[],_=>.nil
 |_::_,[],h=>by cases h
 |[],_::_,h=>by cases h
 |u::us,n::ns,h=>by
  cases h with
  |cons _ _ t=>show .cons {_,Z} (AX t)
section
variable{X:Cx}
inductive yR2(K:Ad)(xs:A6 V)(H:Hp)(Q:VK):Prop
 |mk (p ns:_) (_:xs=[.ref p]) (_:SqL K H p (ns.Q V.int)) (_:ns.f<64) (_:∀ms:Ac,ms.Perm ns->ms.U (·<=·)->∀l,H l=A8->Q ↑l (upd H l<|.lst<|ms.Q V.int))
def Zv5(K:Ad)(hk:X.K=K:=by rfl):VL X (.builtin "sorted") (yR2 K):=by
 subst hk;intro pins s σ H xs us Q I r h;let(p,ns,rfl,hq,hn,q):=h;let(u,rfl,ru):=Ve r;let rfl:u=Value.ref p:=ru;let(XW,rv,pl,hz):=I.list hq;let hi:=ZF rv
 let hl:XW.f=ns.f:=by rw[<-rv.f,Yb]
 show sorted_ints pl.isList hi (by ext) λout ms h1 h2 h3=>?_;let(e,he):=sortedAll_at s.C XW out;let sV:ms.f=ns.f:=h2.length_eq
 exists .ref<|(~~~s)+1,_,I.laid (t':=s.toks) (o:=.lst<|ms.Q V.int) (λb o g=>sortedAll_old g) (Tz _) {?_,out.m,e,AX h1,?_},Z,q ms h2 h3 _<|I.hok.fresh<|Tz _
 .ext
 .show he
end
end L2
namespace My
open PySem L2
def XY:IsSet m ns↔(∀z∈ns,0<=z/\z<(m:A0))/\ns.U (·<·):=by
 constructor
 .intro h;exists h.all,?_;rw[YQ];intro i j hi hj WH
  induction j with
  |zero=>ext
  |succ j ih=>
   let Tn:j<ns.f:=B;let key:=(h (j+1) ns[j+1]<|Xv hj).2.2 ns[j] B (by ext)
   grind
 .rintro⟨ha,hp⟩ i z hz;let(hi,ei):=Xr.Y hz;let hm:=ha z (Xo hz)
  exists hm.1,hm.2,λy h0 hy=>?_;let(Wu,ei'):=Xr.Y hy
  have:=YQ.Y hp (i-1) i Wu hi J
  ext
def Mo{ns:Ac}(h:ns.U (·<·)):ns.Nodup:=h.imp λUU e=>by ext
def IsSet.nodup(h:IsSet m ns):ns.Nodup:=Mo (XY.Y h).2
end My
namespace My
def Nq{α:Type}{P:A6 α->Prop}(h0:P [])(h1:∀l x,P l->P (l++[x])):∀l,P l:=by
 intro l;rw[<-List.reverse_reverse l]
 induction l.reverse with
 |nil=>show h0
 |cons x r ih=>
  ext
inductive Conn(es:A6 (A5×A5)):A5->A5->Prop
 |refl (i:A5):Conn es i i
 |edge {a b:A5} (h:(a,b)∈es):Conn es a b
 |symm {i j:A5}:Conn es i j->Conn es j i
 |trans {i j k:A5}:Conn es i j->Conn es j k->Conn es i k
def Conn.mono(h:∀e∈es,e∈fs)(c:Conn es i j):Conn fs i j:=by
 induction c with
 |refl i=>show .refl i
 |edge q=>show .edge (h _ q)
 |symm _ ih=>show .symm ih
 |trans _ _ i1 i2=>show .trans i1 i2
def EG{n i:A5}(h:i<n):mk ((List.range n).Q λ(i:A5)=>(i:A0)) i=(i:A0):=by rw[mk_map' h]
where
 mk_map' {n i:A5} (h:i<n):mk ((List.range n).Q λ(i:A5)=>(i:A0)) i=(i:A0):=by
  ext
def InN(n:A5)(es:A6 (A5×A5)):(Prop):=∀e∈es,e.1<n/\e.2<n
def InN.snoc{e:A5×A5}(h:InN n (es++[e])):InN n es/\e.1<n/\e.2<n:={λx hx=>h x<|Yy _ hx,h e AP}
def lW:∀es:A6 (A5×A5),InN n es->∀e∈es,mk (Xa n es) e.1=mk (Xa n es) e.2:=by
 show Nq (λ_ e h=>by cases h) λes x ih hn e he=>?_;let(h1,h2,h3):=hn.snoc;let hl:=ZC n es
 let hx:=hn e he;rw[Nr];show(Bh (by ext)<|by ext).X ?_;rcases Xi.Y he with q|q
 .show .inl (ih h1 e q)
 .rw[Xn.Y q];show .inr {.inl Z,.inr Z}
def lV:∀es:A6 (A5×A5),InN n es->∀i j,i<n->j<n->mk (Xa n es) i=mk (Xa n es) j->Conn es i j:=by
 show Nq (λ_ i j hi hj h=>?_) λes x ih hn i j hi hj h=>?_
 .let h:mk ((List.range n).Q λ(i:A5)=>(i:A0)) i=mk ((List.range n).Q λ(i:A5)=>(i:A0)) j:=h;rw[EG hi,EG hj]at h
  have:i=j:=J
  subst this;show .refl i
 .let⟨h1,h2,h3⟩:=hn.snoc;let hl:=ZC n es
  let up:∀{i j:A5},Conn es i j->Conn (es++[x]) i j:=λc=>c.mono λe he=>Yy _ he;let ex:Conn (es++[x]) x.1 x.2:=.edge AP
  rw[Nr]at h;rcases(Bh (by ext)<|by ext).Y h with q|⟨q1,q2⟩
  .show up (ih h1 i j hi hj q)
  .let ci:Conn (es++[x]) i x.1:=by
    rcases q1 with q|q
    .show up (ih h1 i _ hi h2 q)
    .show(up<|ih h1 i _ hi h3 q).l ex.symm
   let cj:Conn (es++[x]) j x.1:=by
    rcases q2 with q|q
    .show up (ih h1 j _ hj h2 q)
    .show(up<|ih h1 j _ hj h3 q).l ex.symm
   show ci.l cj.symm
def AW(hn:InN n es)(c:Conn es i j):i=j\/(i<n/\j<n/\mk (Xa n es) i=mk (Xa n es) j):=by
 induction c with
 |refl i=>show .inl rfl
 |edge q=>show .inr {(hn _ q).1,(hn _ q).2,lW es hn _ q}
 |symm _ ih=>
  rcases ih with e|⟨a,b,c⟩
  .show .inl e.symm
  .show .inr ⟨b,a,c.symm⟩
 |trans _ _ i1 i2=>
  rcases i1 with e|⟨a,b,c⟩
  .rw[e];show i2
  .rcases i2 with e|⟨a',b',c'⟩
   .rw[<-e];show .inr ⟨a,b,c⟩
   .show .inr {a,b',c.l c'}
def Wh(hn:InN n es)(hi:i<n)(hj:j<n):mk (Xa n es) i=mk (Xa n es) j↔Conn es i j:=by
 constructor
 .show lV es hn i j hi hj
 .intro c;rcases AW hn c with e|⟨_,_,e⟩
  .rw[e]
  .show e
def EF(hn:InN n es)(hi:i<n)(hj:j<n):mk (Xj n es) i=mk (Xj n es) j↔Conn es i j:=by
 rw[<-Wh hn hi hj];let s:=HW (n:=n) (es:=es) hn
 show s.2 i j (by rwa[Zs]) (by rwa[Zs])
def cnt(M:Ac):(A5):=(Ud M M.f).f
def sU(M:Ac):∃p,p<=i/\mk M p=mk M i/\VZ M p=A9:=by
 induction i using Nat.strongRecOn with
 |ind i ih=>
  cases h:VZ M i=A9
  .grind
  .have:∃j,j<i/\mk M j=mk M i:=by
    cases q:∃j,j<i/\mk M j=mk M i
    .show q
    .show absurd (XB.X λj hj e=>q ⟨j,hj,e⟩) h
   grind
def ZI8{p q:A5->B2}{x n:A5}(hx:x<n)(hpx:p x=A9)(h:∀y,y<n->q y=(p y && !decide (y=x))):((List.range n).filter q).f+1=((List.range n).filter p).f:=by
 induction n with
 |zero=>ext
 |succ n ih=>
  rw[NC,Pc,Pc,Ya,Ya];cases e:x=n
  .subst e;let e1:(List.range x).filter q=(List.range x).filter p:=Jf λy hy=>by let hy:=YR.Y hy;rw[h y J,show decide (y=x)=B0 from OQ J];simp
   ext
  grind
def sT(hp:VZ M p=A9)(hq:VZ M q=A9)(e:mk M p=mk M q):p=q:=by
 rcases Nat.lt_trichotomy p q with h|h|h
 .show absurd e (XB.Y hq p h)
 .show h
 .show absurd e.symm (XB.Y hp q h)
def sS(ha:a<m.f)(hb:b<m.f)(XH:mk m a≠mk m b):cnt (lm m a b)+1=cnt m:=by
 let(A,Ow,Mn,Kr):=sU m (i:=a);let(o8,hB1,AV,hB3):=sU m (i:=b);let hAB:A≠o8:=λe=>XH J
 unfold cnt Ud;rw[tj];show ZI8 (x:=max A o8) J ?_ λy hy=>?_
 .lia
 .rw[OX,Fn,XB,XB];let key:∀i,i<y->(mk (lm m a b) i=mk (lm m a b) y↔EH m a b i y):=λi hi=>Bh J hy
  let lU:(!decide (y=max A o8))=A9↔y≠max A o8:=AP;rw[lU];constructor
  .intro q;exists λi hi e=>q i hi<|(key i hi).X (.inl e),λe=>?_;rcases Nat.lt_or_gt_of_ne hAB with h|h
   .let ey:y=o8:=J;subst ey;show q A h ((key A h).X (.inr {.inl Mn,.inr AV}))
   .let ey:y=A:=B;subst ey;show q o8 h ((key o8 h).X (.inr {.inr AV,.inl Mn}))
  .rintro⟨q1,q2⟩ i hi e;rcases(key i hi).Y e with e|⟨e1,e2⟩
   .show q1 i hi e
   .let fy:VZ m y=A9:=XB.X q1;rcases e2 with e2|e2
    .let ey:y=A:=sT fy Kr (e2.l Mn.symm);rcases e1 with e1|e1
     .grind
     .let⟨p,p1,p2,p3⟩:=sU m (i:=i)
      have:p=o8:=sT p3 hB3 J
      grind
    .let ey:y=o8:=sT fy hB3 (e2.l AV.symm);rcases e1 with e1|e1
     .let⟨p,p1,p2,p3⟩:=sU m (i:=i)
      have:p=A:=sT p3 Kr J
      grind
     grind
def lT(n:A5):cnt ((List.range n).Q λ(i:A5)=>(i:A0))=n:=by
 unfold cnt Ud;let e:(List.range n).filter (VZ<|(List.range n).Q λ(i:A5)=>(i:A0))=List.range n:=by
  show MP.X λp hp=>XB.X λi hi e=>?_;let hp:=YR.Y hp
  rw[EG J,EG hp]at e;lia
 grind
def lS(hM:1<=M.f):cnt M=1↔∀i j,i<M.f->j<M.f->mk M i=mk M j:=by
 let e:cnt M=(HV M).f:=by unfold cnt HV;rw[AZ,Yb]
 rw[e];show Bf hM
end My
namespace My
open PySem L2
def lR{i:A0}{n:A5}(h0:0<=i)(h1:i<(n:A0)):seqIndex? i n=⇑i.j:=by
 let e:(if i<0 then i+(n:A0) else i)=i:=Yj (by ext);unfold seqIndex?
 ext
def Zj(n:A0)(ps:Aa)(ns:Ac):(Prop):=IsSet ps.f ns/\ns⁻¹=n-1/\∀i j,i<n.j->j<n.j->Conn (XO ps ns) i j
def ZY(g:Zz n ps)(h:∀z∈ns,0<=z/\z<ps⁻¹):InN n.j (XO ps ns):=λe he=>by
 let(z,hz,rfl):=Yp.Y he;let hp:ps[z.j]?=⇑(ps[z.j]'(by ext)):=Xv _
 rw[XF hp];let(b1,b2,b3,b4):=g.2.2.2 _ (Xo hp);lia
def ZG(h:∀z∈ns,z∈ms):∀e∈XO ps ns,e∈XO ps ms:=λe he=>by let(z,hz,rfl):=Yp.Y he;show Yp.X {z,h z hz,Z}
def lQ(h:InN n es):(∀i j,i<(Xa n es).f->j<(Xa n es).f->mk (Xa n es) i=mk (Xa n es) j)↔∀i j,i<n->j<n->Conn es i j:=by
 rw[ZC];constructor
 .intro q i j hi hj;show(Wh h hi hj).Y (q i j hi hj)
 .intro q i j hi hj;show(Wh h hi hj).X (q i j hi hj)
def Zd8(hn:1<=n)(h:InN n es):(HV (Xj n es)).f=1↔∀i j,i<n->j<n->Conn es i j:=by rw[Bf (by rwa[Zs]),(HW h).one];show lQ h
def ZM5(hn:1<=n)(h:InN n es):(L2.seen (Xa n es)).f=1↔∀i j,i<n->j<n->Conn es i j:=by rw[ml (by rwa[ZC])];show lQ h
def Mm(h:∀z,z∈ns↔z∈ms):Conn (XO ps ns) i j↔Conn (XO ps ms) i j:=
 {λc=>c.mono<|ZG λz hz=>(h z).Y hz,λc=>c.mono<|ZG λz hz=>(h z).X hz}
section
variable{K:Ad}{a:A7}{xs:A6 V}{g:TG}{tt:TT}{te:TE}{o:A5}{fr:A6 A5}{σ:St}{H:Hp}{Q:VK}
def HR(Pv:A5->A6 V->Hp->Prop)(h0:Pv 0 [] H)(hz:xs.f<sizeLine)(hl:∀i ys H,i<=xs.f->Pv i ys H->SqL K H a xs/\ys.f<=i)
  (hs:∀(i:A5) x ys H (p:A7),H p=A8->xs[i]?=⇑x->Pv i ys H->Ku Pv g tt te o fr σ i ↑p ys (upd H p<|.tup [.int i,x]))(hd:∀ys H,Pv xs.f ys H->∀p,H p=A8->Q ↑p (upd H p<|.lst ys)):Nt (Mv K a) g tt te o fr σ H Q:=by
 exists λi m ys H=>m=xs.f-i/\i<=xs.f/\Pv i ys H,{xs.f,AP,XC _,h0},?_;intro i m ys H Ω;let⟨rfl,hi,p⟩:=Ω;let(q,hy):=hl i ys H hi p;cases Xu:i<xs.f
 .show .inr {{xs,xs[i],q,by simp[Xu]},J,λx H' zz=>?_};let(T,y,hT,ex,eH,lP):=zz;subst ex eH;show hs i y ys H T hT (lP xs q) p (λj ys H=>∃m',m'<xs.f-i/\m'=xs.f-j/\j<=xs.f/\Pv j ys H) λys H p'=>{xs.f-(i+1),B,Z,Xu,p'}
 .let e:i=xs.f:=J;subst e;show .inl {{xs,q,XI _},J,hd ys H p}
end
def unlike(M:Ac)(ps:Aa)(i:A5):(Ac):=((List.range i).filter λk=>decide<|mk M (ps.S k (0,0)).1.j≠mk M (ps.S k (0,0)).2.j).Q λ(k:A5)=>(k:A0)
def wo(ns:Ac)(z:A0):(Ac):=ns.filter λy=>decide (y≠z)
def WZ{z y:A0}:y∈wo ns z↔y∈ns/\y≠z:=by unfold wo;simp
def HQ(n:A0)(ps:Aa)(ns:Ac)(z:A0)(l:Ac):(Ac):=l.filter λy=>decide (z∈unlike (Xa n.j<|XO ps<|wo ns y) ps ps.f)
def Zb7{z:A0}(h0:0<=z)(h1:z<ps⁻¹):z∈unlike M ps ps.f↔mk M (ps.S z.j (0,0)).1.j≠mk M (ps.S z.j (0,0)).2.j:=by
 unfold unlike;rw[Yp];constructor
 .rintro⟨k,hk,rfl⟩
  have:=YJ (Yq.Y hk).2
  show this
 .intro h;exists z.j,Yq.X {YR.X (by ext),YU h},J
def ZH6{a b:Ac}(h:a.Perm b)(h1:a.U (·<=·))(h2:b.U (·<=·)):a=b:=by
 induction a generalizing b with
 |nil=>ext
 |cons x a ih=>
  cases b with
  |nil=>ext
  |cons y b=>
   let(hx,ha):=PX.Y h1;let(hy,hb):=PX.Y h2;let e:x=y:=by
    let m1:y∈x::a:=h.mem_iff.X Yi;let m2:x∈y::b:=h.mem_iff.Y Yi
    rcases Yu.Y m1 with e1|e1
    .lia
    .grind
   subst e;rw[ih (List.Perm.cons_inv h) ha hb]
end My
namespace L2
open PySem PySem.Spec PyProof.Rows
section
variable{prog:Program}{w:World}{A:Around}{E:Ae}{s:B5}
def ZV6{tp:A7}{vs:Ag}{Q:A6 B1->B5->Prop}{ot:Obj}(ht:s.C.G tp=⇑ot)(hc:ot.cls=.type "tuple")(hd:ot.data=.seq vs.E m)(hz:vs.f<=sizeLine)
  (k:Q vs {s with heap:=(s.C.push<|seqObj "list" #[] 0).update (~~~s) (Obj.mapSeq (·++vs.E))}):wpAny (model prog w) A (collect<|.ref tp) Q E s:=by
 let sR:(s.C.push<|seqObj "list" #[] 0).G tp=⇑ot:=Xs _ ht;let Np:(s.C.push<|seqObj "list" #[] 0).G (~~~s)=⇑(seqObj "list" #[] 0):=Qd _ rfl
 show XU (Dl<|Sn pM ?_);show XU (KZ<|Yg ⟨Ds _ CC,Sn entry_list_iadd' ?_⟩);change wpAny _ _ (Builtin.List.listExtendWith (.ref (~~~s)) ↑tp<|.ref (~~~s)) _ _ {s with heap:=s.C.push (seqObj "list" #[] 0)}
 show XU (uo (T:="tuple") ⟨ot,sR,hc⟩ ?_);rw[Yk (by ext)];show XU (CV sR hd ?_);show XU (CV (xs:=#[]) (n:=0) Np Z ?_);show XU (Nz (xs:=#[]) (n:=0) Np Z ?_ (XC _) B);show Yg ?_;show XU (CU (Dh Np _) ?_);change wpAny _ _ (pure ((#[]:B3 B1)++vs.E).m) Q E _
 rw[show((#[]:B3 B1)++vs.E).m=vs by simp];show Yg k
end
section
variable{X:Cx}
def Ov(K:Ad):(R2):=λx y H Q=>∃a b xs ys,x=.ref a/\y=.ref b/\SqT K H a xs/\SqT K H b ys/\xs.f+ys.f<=sizeLine/\
 (xs=[]->Q ↑b H)/\(xs≠[]->ys=[]->Q ↑a H)/\(xs≠[]->ys≠[]->∀p,H p=A8->Q ↑p (upd H p<|.tup<|xs++ys))
def Kq(K:Ad)(hk:X.K=K:=by rfl):Ww X (binaryOp .Add) (Ov K):=by
 intro pins s σ H x y v u Q I rx ry h;let(a,b,xs,ys,e1,e2,ha,hb,hz,q0,q1,q2):=id h;cases hx:xs=[]
 .subst hk e1 e2;cases rx;cases ry;let(XW,r1,p1,_):=I.tuple ha;let(Vs,r2,p2,_):=I.tuple hb;let hi:XW=[]:=r1.nil_iff.X hx
  let((cls,dd,data,sl),ho,hc,n,hd):=id p1;let((IB,Pz,data2,Py),Vd,Vt,n2,hd2):=id p2;subst hc hd Vt hd2;show concat_meets {_,ho,Z} {_,Vd,Z} pL seq_tuple_add qk qo (qr _ _)
   (tuple_addW0 a b XW.E Vs.E n n2 dd Pz sl Py<|by simp[hi]) {ho,Vd,{.ref b,H,I,Z,q0 hx}}
 .show mx K hk pins s σ H x y v u Q I rx ry {a,b,xs,ys,e1,e2,ha,hb,hx,hz,q1 hx,q2 hx}
end
end L2
namespace My
open PySem L2
def AU(h:mk m a=mk m b):lm m a b=m:=by unfold lm;lia
def ZO8(ha:a<m.f)(hb:b<m.f):cnt m<=cnt (lm m a b)+1:=by
 cases e:mk m a=mk m b
 .rw[AU e];ext
 .have:=sS ha hb e;ext
def sQ:∀es:A6 (A5×A5),InN n es->n<=cnt (Xa n es)+es.f:=by
 show Nq (λ_=>?_) λes x ih hn=>?_
 .have:cnt (Xa n [])=n:=lT n
  ext
 .let⟨h1,h2,h3⟩:=hn.snoc;let hl:=ZC n es
  have:=ZO8 (m:=Xa n es) (a:=x.1) (b:=x.2) (by ext) (by ext)
  rw[Nr,Ya,YM,uH];lia
def sP(h:1<=M.f):1<=cnt M:=by show Y3U (a:=0) (Yq.X {YR.X J,XB.X λi hi=>absurd hi<|QR i})
def Pr(hn:1<=n)(h:InN n es):cnt (Xa n es)=1↔∀i j,i<n->j<n->Conn es i j:=by rw[lS (by rwa[ZC])];show lQ h
def ZC5(hn:ts.Nodup)(ho:o∈ts):(wo ts o).f+1=ts.f:=by
 induction ts with
 |nil=>cases ho
 |cons x r ih=>
  let(h1,h2):=Rp.Y hn;unfold wo;rw[OS];cases e:x=o
  .subst e;rw[Yj AP]
   have:r.filter (λy=>decide<|y≠x)=r:=MP.X λy hy=>YU λe=>h1 (e▸hy)
   rw[this];rfl
  .have:=ih h2 ((Yu.Y ho).resolve_left λz=>e z.symm)
   unfold wo at this
   ext
def ZK(ps:Aa)(z:A0):(A5×A5):=((ps.S z.j (0,0)).1.j,(ps.S z.j (0,0)).2.j)
def Kp(ps:Aa)(ns:Ac)(z:A0):XO ps (ns++[z])=XO ps ns++[ZK ps z]:=by unfold XO ZK;grind
def SY(g:Zz n ps)(z0:0<=z)(z1:z<ps⁻¹):(ZK ps z).1<n.j/\(ZK ps z).2<n.j:=by
 have:=ZY (ns:=[z]) g (λy hy=>by ext)
 show this (ZK ps z) (by unfold XO ZK;simp)
def AS(hT:Zj n ps ts):∀y∈wo ts o,0<=y/\y<ps⁻¹:=λy hy=>hT.1.all y (WZ.Y hy).1
def HP(g:Zz n ps)(hT:Zj n ps ts)(ho:o∈ts)(z0:0<=z)(z1:z<ps⁻¹):
  (∀i j,i<n.j->j<n.j->Conn (XO ps<|wo ts o++[z]) i j)↔¬Conn (XO ps<|wo ts o) (ZK ps z).1 (ZK ps z).2:=by
 let hn:1<=n.j:=by have:=g.1;lia
 let hw:=ZC5 hT.1.nodup ho;let hl:ts⁻¹=n-1:=hT.2.1
 let i0:InN n.j (XO ps<|wo ts o):=ZY g (AS hT);let hz:=SY g z0 z1
 let ob:=hT.1.all o ho;let EE:=SY g ob.1 ob.2
 let i1:InN n.j (XO ps (wo ts o)++[ZK ps z]):=λe he=>(Xi.Y he).elim (i0 e) λq=>by rwa[Xn.Y q]
 let i2:InN n.j (XO ps (wo ts o)++[ZK ps o]):=λe he=>(Xi.Y he).elim (i0 e) λq=>by rwa[Xn.Y q]
 let hL:=ZC n.j (XO ps<|wo ts o);let le:(XO ps<|wo ts o).f=(wo ts o).f:=by unfold XO;rw[Yb]
 rw[Kp];constructor
 .intro hc c;let h1:cnt (Xa n.j<|XO ps (wo ts o)++[ZK ps z])=1:=(Pr hn i1).X hc
  rw[Nr,AU ((Wh i0 hz.1 hz.2).X c)]at h1
  have:=sQ _ i0
  lia
 .intro hc;let h2:cnt (Xa n.j<|XO ps (wo ts o)++[ZK ps o])=1:=by
   show(Pr hn i2).X λi j hi hj=>?_;rw[<-Kp];show(Mm λy=>?_).Y (hT.2.2 i j hi hj);rw[Xi,WZ,Xn];constructor
   .lia
   .lia
  rw[Nr]at h2;let h3:=ZO8 (m:=Xa n.j<|XO ps<|wo ts o) (a:=(ZK ps o).1) (b:=(ZK ps o).2) (by ext) (by ext)
  let h4:=sS (m:=Xa n.j<|XO ps<|wo ts o) (a:=(ZK ps z).1) (b:=(ZK ps z).2) (by ext) (by ext) λe=>hc ((Wh i0 hz.1 hz.2).Y e);let h5:=sP (M:=lm (Xa n.j<|XO ps<|wo ts o) (ZK ps z).1 (ZK ps z).2) (by rw[tj];ext)
  show(Pr hn i1).Y ?_;rw[Nr];lia
def RH(n:A0)(ps:Aa)(ts:Ac)(o:A0):(Ac):=unlike (Xa n.j<|XO ps<|wo ts o) ps ps.f
def AR{z:A0}(h:z∈unlike M ps i):0<=z/\z<(i:A0):=by unfold unlike at h;grind
def Ou(g:Zz n ps)(hT:Zj n ps ts)(z0:0<=z)(z1:z<ps⁻¹):z∈RH n ps ts o↔¬Conn (XO ps (wo ts o)) (ZK ps z).1 (ZK ps z).2:=by let hz:=SY g z0 z1;unfold RH;rw[Zb7 z0 z1];show not_congr (Wh (ZY g<|AS hT) hz.1 hz.2)
def exg(n:A0)(ps:Aa)(ts:Ac)(o z:A0):(Prop):=o∈ts/\z≠o/\z∈RH n ps ts o
instance (n:A0) (ps:Aa) (ts:Ac) (o z:A0):Decidable (exg n ps ts o z):=by unfold exg;infer_instance
def sO(g:Zz n ps)(hT:Zj n ps ts):
  exg n ps ts o z↔o∈ts/\z∉ts/\0<=z/\z<ps⁻¹/\∀i j,i<n.j->j<n.j->Conn (XO ps<|wo ts o++[z]) i j:=by
 constructor
 .rintro⟨h1,h2,h3⟩;let(z0,z1):=AR h3;let hc:=(Ou g hT z0 z1).Y h3
  exists h1,λhz=>hc ?_,z0,z1,(HP g hT h1 z0 z1).X hc;show .edge ?_;show Yp.X {z,WZ.X ⟨hz,h2⟩,Z}
 .rintro⟨h1,h2,z0,z1,hc⟩;exists h1,λe=>h2<|e▸h1,(Ou g hT z0 z1).X ((HP g hT h1 z0 z1).Y hc)
def PairsV.mut{l:A7}{ys zs xs:A6 V}(hP:PairsV H xs ps)(hl:H l=⇑(.lst ys)):PairsV (upd H l (.lst zs)) xs ps:=by exists hP.1,λj p e=>?_;let(v,e1,tt,e2,e3):=hP.2 j p e;exists v,e1,tt,e2,by rwa[Za (RS e3 hl (λz=>nomatch z))]
end My
namespace L2
open PySem PySem.Spec PyProof.Rows
section
variable{X:Cx}
def AQ{e:A7->B2}(I:Inv X pins σ H s)(hu:A.units+n<cLine)(rx:RelV x w){xs:A6 V}{us:Ag}(h0:Vals xs us)(h:∀v∈xs,∃a,v=.ref a/\EqD X.K H n v x (e a)):∀u∈us,SeqAt.EqAt A s u w (match u with | .ref a=>e a|_=>false):=by
 induction h0 with
 |nil=>intro u hu;cases hu
 |@cons y u xs us r t ih=>
  intro u' lO;rcases Yu.Y lO with rfl|lO
  .let⟨a,rfl,q⟩:=h y Yi;let rfl:u'=Value.ref a:=r;show q.at I hu Z rx
  .show ih (λv hv=>h v<|Yn _ hv) u' lO
end
end L2
namespace My
open PySem L2
def sN{o y:A0}(g:Zz n ps)(hT:Zj n ps ts)(ho:o∈ts)(hy:y∈ts):y∈RH n ps ts o↔y=o:=by
 let yb:=hT.1.all y hy;rw[Ou g hT yb.1 yb.2];constructor
 .intro h;cases e:y=o
  .show e
  .show absurd (.edge<|Yp.X {y,WZ.X ⟨hy,e⟩,Z}) h
 .rintro rfl;show(HP g hT hy yb.1 yb.2).Y λi j hi hj=>(Mm λz=>?_).Y (hT.2.2 i j hi hj);rw[Xi,WZ,Xn];lia
def Vp:y∈HQ n ps ts z l↔y∈l/\z∈RH n ps ts y:=by unfold HQ;rw[Yq,YY];show Iff.rfl
def lN(g:Zz n ps)(hT:Zj n ps ts)(hx:exg n ps ts o z)(Pq:ms.Perm (wo ts o++[z]))(AO:ms.U (·<=·)):Zj n ps ms:=by
 let(ho,hz,z0,z1,hc):=(sO g hT).Y hx;let nd:(wo ts o++[z]).Nodup:=mD (hT.1.nodup.sublist MQ) λh=>hz (WZ.Y h).1
 let ndm:ms.Nodup:=Pq.nodup_iff.X nd;let hl:=ZC5 hT.1.nodup ho
 let Ri:=Pq.length_eq;rw[Ya,YW]at Ri;show{XY.X {λy hy=>?_,(List.pairwise_and_iff.X ⟨AO,ndm⟩).imp λ{x y} h=>J},by rw[Ri,hl];show hT.2.1,λi j hi hj=>(Mm λy=>Pq.mem_iff).X (hc i j hi hj)};rcases Xi.Y (Pq.mem_iff.Y hy) with h|h
 .show hT.1.all y (WZ.Y h).1
 ext
section
variable{n:A0}{ps:Aa}{ts ms:Ac}{o z:A0}(g:Zz n ps)(hT:Zj n ps ts)(hx:exg n ps ts o z)(Pq:ms.Perm (wo ts o++[z]))(AO:ms.U (·<=·))
include g hT hx Pq AO
def lK{y:A0}:y∈ms↔(y∈ts/\y≠o)\/y=z:=by rw[Pq.mem_iff,Xi,WZ,Xn]
end
def Wy(n:A5)(ps:Aa):(A5->Ac)
 |0=>[]
 |k+1=>if mk (Xa n<|XO ps<|Wy n ps k) (ZK ps (k:A0)).1=mk (Xa n<|XO ps<|Wy n ps k) (ZK ps (k:A0)).2 then Wy n ps k else Wy n ps k++[(k:A0)]
def ED(n:A5)(ps:Aa)(k:A5):Wy n ps (k+1)=if mk (Xa n (XO ps (Wy n ps k))) (ZK ps (k:A0)).1=mk (Xa n (XO ps (Wy n ps k))) (ZK ps (k:A0)).2 then Wy n ps k else Wy n ps k++[(k:A0)]:=rfl
def EC:∀k,∀z∈Wy n ps k,0<=z/\z<(k:A0)
 |0,z,h=>by cases h
 |k+1,z,h=>by
  rw[ED]at h;split at h
  .have:=EC k z h;lia
  .rcases Xi.Y h with h|h
   .have:=EC k z h;lia
   .rw[Xn.Y h];lia
def AN:∀k,(Wy n ps k).U (·<·)
 |0=>List.U.nil
 |k+1=>by
  rw[ED];split
  .show AN k
  .rw[YI];exists AN k,UQ ..,λa ha b hb=>by rw[Xn.Y hb];show(EC k a ha).2
def lJ(hk:k<=ps.f):IsSet ps.f (Wy n ps k):=XY.X {λz hz=>by have:=EC k z hz;lia,AN k}
def sL(g:Zz n ps)(hk:k<=ps.f):InN n.j (XO ps (Wy n.j ps k)):=ZY g (lJ hk).all
def Ml:∀k,j<=k->∀z,z∈Wy n ps j↔z∈Wy n ps k/\z<(j:A0)
 |0,h,z=>by
  have:j=0:=J
  subst this;exists λh=>(by cases h),λh=>h.1
 |k+1,h,z=>by
  cases e:j=k+1
  .subst e;exists λh=>{h,(EC _ z h).2},λh=>h.1
  .let ih:=Ml (n:=n) (ps:=ps) (j:=j) k J z;rw[ED,ih];grind
def AM(g:Zz n ps)(hk:k<=ps.f)(hj:j<k)(hn:(j:A0)∉Wy n.j ps k):Conn (XO ps (Wy n.j ps j)) (ZK ps (j:A0)).1 (ZK ps (j:A0)).2:=by
 let he:=SY (z:=(j:A0)) g (by ext) J;let h1:(j:A0)∉Wy n.j ps (j+1):=λh=>hn ((Ml k hj _).Y h).1
 rw[ED]at h1;split at h1
 .rename_i h;show(Wh (sL g J) he.1 he.2).Y h
 ext
def Mj(g:Zz n ps):∀k,k<=ps.f->cnt (Xa n.j (XO ps (Wy n.j ps k)))+(Wy n.j ps k).f=n.j
 |0,_=>lT n.j
 |k+1,hk=>by
  let ih:=Mj g k J;let he:=SY (z:=(k:A0)) g (by ext) J
  let hl:=ZC n.j (XO ps<|Wy n.j ps k);rw[ED];split
  .show ih
  .rename_i h;rw[Kp,Nr,Ya,YW]
   have:=sS (m:=Xa n.j<|XO ps<|Wy n.j ps k) (by ext) (by ext) h
   grind
def Zi8(g:Zz n ps)(ht:∀z∈ts,0<=z/\z<ps⁻¹)(c:Conn (XO ps ts) i j):Conn (XO ps (Wy n.j ps ps.f)) i j:=by
 induction c with
 |refl i=>show .refl i
 |symm _ ih=>show .symm ih
 |trans _ _ i1 i2=>show .trans i1 i2
 |@edge a b h=>
  let(z,hz,e):=Yp.Y h;let(z0,z1):=ht z hz;let ez:z=((z.j:A5):A0):=J
  cases hm:z∈Wy n.j ps ps.f
  .show .edge (Yp.X ⟨z,hm,e⟩)
  .rw[ez]at hm;let c:=AM g (XI _) J hm
   let c2:=c.mono (ZG λy hy=>((Ml ps.f J y).Y hy).1);rw[<-ez]at c2;let ea:a=(ZK ps z).1:=(YF Prod.fst e).symm
   let eb:b=(ZK ps z).2:=(YF Prod.snd e).symm;lia
def Ze8(g:Zz n ps)(hT:Zj n ps ts):Zj n ps (Wy n.j ps ps.f):=by
 let hc:∀i j,i<n.j->j<n.j->Conn (XO ps<|Wy n.j ps ps.f) i j:=λi j hi hj=>Zi8 g hT.1.all (hT.2.2 i j hi hj);let h1:=(Pr (by have:=g.1;lia)<|sL g<|XI _).X hc
 let h2:=Mj g ps.f (XI _);exists lJ<|XI _,J,hc
def Zh8(g:Zz n ps)(h:¬((Wy n.j ps ps.f).f:A0)<n-1):Zj n ps (Wy n.j ps ps.f):=by
 let h2:=Mj g ps.f (XI _);let h3:=sP (M:=Xa n.j<|XO ps<|Wy n.j ps ps.f) (by rw[ZC];have:=g.1;grind)
 exists lJ<|XI _,J,(Pr (by have:=g.1;grind)<|sL g<|XI _).Y J
def ZY5:∀{a b:Ac},a.f=b.f->HT.lexLt a b=A9->∃p x y r s,a=p++x::r/\b=p++y::s/\x<y
 |[],[],_,h=>by cases h
 |[],_::_,e,_=>by simp at e
 |_::_,[],e,_=>by simp at e
 |x::xs,y::ys,e,h=>by
  rw[HT.Xz]at h;cases q:x=y
  .subst q;rw[Yk Z]at h;let(p,u,v,r,s,e1,e2,e3):=ZY5 (by simpa using e) h;exists x::p,u,v,r,s,by rw[e1];rfl,by rw[e2];rfl,e3
  .rw[Yj q]at h;exists [],x,y,xs,ys,Z,Z,YJ h
def Tj:∀{a b:Ac},HT.lexLt a b=B0->HT.lexLt b a=B0->a=b
 |[],[],_,_=>rfl
 |[],_::_,h,_=>by cases h
 |_::_,[],_,h=>by cases h
 |x::xs,y::ys,h1,h2=>by
  rw[HT.Xz]at h1 h2;cases q:x=y
  .subst q;rw[Yk Z]at h1 h2;rw[Tj h1 h2]
  lia
def ZN9(g:Zz n ps)(hT:Zj n ps ts):HT.lexLt ts (Wy n.j ps ps.f)=B0:=by
 let hG:=Ze8 g hT;cases h:HT.lexLt ts (Wy n.j ps ps.f) with
 |false=>rfl
 |true=>
  exfalso;let(p,x,y,r,s,e1,e2,Ko):=ZY5 (by have:=hT.2.1;have:=hG.2.1;lia) h
  let hx:x∈ts:=by rw[e1];simp
  let(x0,x1):=hT.1.all x hx;let EB:=(XY.Y hT.1).2
  let ag:=AN (n:=n.j) (ps:=ps) ps.f;rw[e1,YI]at EB;rw[e2,YI]at ag;let px:∀z∈p,z<x:=λz hz=>EB.2.2 z hz x Yi
  let ys:∀z∈y::s,x<z:=λz hz=>by
   rcases Yu.Y hz with e|hz
   .rw[e];show Ko
   .have:=(PX.Y ag.2.1).1 z hz;lia
  let ex:x=((x.j:A5):A0):=J;let hn:((x.j:A5):A0)∉Wy n.j ps ps.f:=by
   rw[<-ex,e2,Xi];rintro(h|h)
   .have:=px x h;lia
   .grind
  let c:=AM g (XI _) B hn;let c2:Conn (XO ps<|wo ts x) (ZK ps x).1 (ZK ps x).2:=by
   rw[<-ex]at c;show c.mono (ZG λz hz=>?_);let(h1,h2):=(Ml ps.f J z).Y hz;rw[<-ex]at h2;rw[e2,Xi]at h1;rcases h1 with h1|h1
   .show WZ.X ⟨B,J⟩
   .have:=ys z h1;lia
  show(Ou g hT x0 x1).Y ((sN g hT hx hx).X Z) c2
def WL:∀{a b c:Ac},HT.lexLt a b=A9->HT.lexLt b c=A9->HT.lexLt a c=A9
 |[],[],_,h,_=>by cases h
 |[],_::_,[],_,h=>by cases h
 |[],_::_,_::_,_,_=>rfl
 |_::_,[],_,h,_=>by cases h
 |_::_,_::_,[],_,h=>by cases h
 |x::xs,y::ys,z::zs,h1,h2=>by
  rw[HT.Xz]at h1 h2 ⊢;cases e1:x=y
  .subst e1;rw[Yk Z]at h1;cases e2:x=z
   .subst e2;rw[Yk Z]at h2 ⊢;show WL h1 h2
   ext
  grind
def Xm:∀a:Ac,HT.lexLt a a=B0
 |[]=>rfl
 |x::xs=>by rw[HT.Xz,Yk Z];show Xm xs
def Rf(bt:A5->A5->B2):∀j,argBest bt j<=j
 |0=>XI _
 |j+1=>by
  unfold argBest;split
  .show XI _
  .have:=Rf bt j;lia
def RG(H:Hp)(v:V)(l:Ac):(Prop):=∃a,v=.ref a/\H a=⇑(.tup<|IL l)
def TupsV(H:Hp)(xs:A6 V)(L:Ab):(Prop):=xs.f=L.f/\∀(i:A5)(l:Ac),L[i]?=⇑l->∃v,xs[i]?=⇑v/\RG H v l
def TupsV.same(s:Same H H')(h:TupsV H xs L):TupsV H' xs L:={h.1,λi l e=>by let(v,e1,a,e2,e3):=h.2 i l e;exists v,e1,a,e2,s _ _ e3}
def TupsV.at(h:TupsV H xs L){i:A5}{v:V}(e:xs[i]?=⇑v):∃l,L[i]?=⇑l/\RG H v l:=by
 let hi:i<xs.f:=(Xr.Y e).1;let hp:i<L.f:=by rwa[<-h.1]
 let(v',e1,q):=h.2 i L[i] (Xv hp)
 ext
def TupsV.nil:TupsV H [] []:={Z,λi p e=>by simp at e}
def TupsV.app(h:TupsV H xs L)(h2:TupsV H ys M):TupsV H (xs++ys) (L++M):=by
 show{by rw[Ya,Ya,h.1,h2.1],λi l e=>?_};cases hi:i<L.f
 .rw[YB hi]at e;let(v,e1,q):=h.2 i l e;exists v,B,q
 .rw[YE (by ext)]at e;let(v,e1,q):=h2.2 _ l e;exists v,by rw[YE (by rw[h.1];ext),h.1];show e1,q
def TupsV.one(q:RG H v l):TupsV H [v] [l]:=⟨Z,λi m e=>by
 grind⟩
def TupsV.snoc(h:TupsV H xs L)(q:RG H v l):TupsV H (xs++[v]) (L++[l]):=h.app (.one q)
def TupsV.mut{d:A7}{ys zs xs:A6 V}(hP:TupsV H xs L)(hl:H d=⇑(.lst ys)):TupsV (upd H d (.lst zs)) xs L:=by exists hP.1,λj p e=>?_;let(v,e1,tt,e2,e3):=hP.2 j p e;exists v,e1,tt,e2,by rwa[Za (RS e3 hl (λz=>nomatch z))]
def lI(hx:RG H x a)(hy:RG H y b):EqD K H 1 x y (decide (a=b)):=by let(t,rfl,ht):=hx;let(u,rfl,hu):=hy;show Ox (SqT.of ht) (SqT.of hu)
def ZW9(hp:SqL K H p xs)(hq:SqL K H q ys)(h1:TupsV H xs L)(h2:TupsV H ys M):EqD K H 2 ↑p ↑q (decide (L=M)):=
 l9 (R:=RG H) hp hq h1 h2 λ_ _ _ _=>lI
def Ux(s:Ac):(A0):=match s.getLast? with|none=>0|some x=>x+1
def VC(m:A0)(s:Ac):(Ab):=(List.range (m-Ux s).j).Q λ(i:A5)=>s++[Ux s+(i:A0)]
def Uc(m:A0):(A5->Ab)
 |0=>[[]]
 |k+1=>(Uc m k).flatMap (VC m)
def AL(s:Ac)(x:A0):Ux (s++[x])=x+1:=by unfold Ux;ext
def Wg{s l:Ac}:l∈VC m s↔∃t,Ux s<=t/\t<m/\l=s++[t]:=by
 unfold VC;rw[Yp];constructor
 .grind
 .rintro⟨t,h1,h2,rfl⟩;exists (t-Ux s).j,YR.X J,B
def SF{t:A0}:IsSet m (s++[t])↔IsSet m s/\Ux s<=t/\0<=t/\t<(m:A0):=by
 rw[XY,XY,YI];let last:(∀a∈s,∀b∈[t],a<b)/\s.U (·<·)->Ux s<=t\/t<0:=by
  rintro⟨h,_⟩;unfold Ux;cases e:s.getLast? with
  |none=>lia
  |some x=>have:=h x (Dz e) t AP;lia
 constructor
 .rintro⟨h1,h2,_,h3⟩;let ht:=h1 t AP
  exists {λz hz=>h1 z<|Yy _ hz,h2},?_,ht;rcases last ⟨h3,h2⟩ with h|h
  .show h
  .omega
 .rintro⟨⟨h1,h2⟩,h3,h4,h5⟩;exists λz hz=>?_,h2,UQ ..,λa ha b hb=>?_
  .rcases Xi.Y hz with h|h
   .show h1 z h
   .rw[Xn.Y h];exists h4,h5
  .rw[Xn.Y hb];let key:∀{s:Ac}{a:A0},s.U (·<·)->a∈s->a<Ux s:=by
    show λ{s}=>Nq (P:=λs=>∀{a:A0},s.U (·<·)->a∈s->a<Ux s) (λ{a} _ h=>by cases h) (λl x ih {a} hp h=>?_) s;rw[AL];rw[YI]at hp;rcases Xi.Y h with h|h
    .have:=hp.2.2 a h x AP;lia
    .rw[Xn.Y h];lia
   have:=key h2 ha
   lia
def WY{m:A5}:∀{k:A5}{l:Ac},l∈Uc (m:A0) k↔l.f=k/\IsSet m l
 |0,l=>by
  change l∈[[]]↔_;rw[Xn];constructor
  .rintro rfl;exists Z,λi z e=>by simp at e
  ext
 |k+1,l=>by
  change l∈(Uc (m:A0) k).flatMap (VC m)↔_;rw[List.mem_flatMap];constructor
  .rintro⟨s,hs,hl⟩;let(t,h1,h2,rfl):=Wg.Y hl;let(e,hI):=WY.Y hs;let n0:0<=Ux s:=by
    unfold Ux;cases q:s.getLast? with
    |none=>ext
    |some x=>have:=(hI.all x<|Dz q).1;lia
   exists by ext,SF.X ⟨hI,h1,J,h2⟩
  .rintro⟨e,hI⟩;let XH:l≠[]:=λz=>by ext
   obtain⟨s,t,rfl⟩:∃s t,l=s++[t]:={l.dropLast,l.getLast XH,(Y3g XH).symm};let(h1,h2,h3,h4):=SF.Y hI;exists s,WY.X {by simpa using e,h1},Wg.mpr ⟨t,h2,h4,Z⟩
def lH(h:IsSet m s):(VC (m:A0) s).f<=m:=by
 unfold VC;rw[Yb,MZ];let n0:0<=Ux s:=by
  unfold Ux;cases q:s.getLast? with
  |none=>lia
  |some x=>have:=(h.all x<|Dz q).1;lia
 grind
def sJ:∀L:Ab,(∀s∈L,IsSet m s)->(L.flatMap (VC (m:A0))).f<=m*L.f
 |[],_=>XC _
 |s::L,h=>by
  have:=sJ L λx hx=>h x (Yn _ hx)
  have:=lH (h s Yi)
  rw[List.flatMap_cons,Ya,YM,Nat.mul_succ];lia
def Km{m:A5}(hm:m<=9):∀k,(Uc (m:A0) k).f<=9^k
 |0=>XI 1
 |k+1=>by
  let h1:=sJ (m:=m) (Uc (m:A0) k) λs hs=>(WY.Y hs).2;let h2:=Km hm k
  let h3:m*(Uc (m:A0) k).f<=9*9^k:=Lb hm h2;rw[Nat.pow_succ,Dk];show Ym h1 h3
def Zd6{α β:Type}{l:A6 α}{f:α->A6 β}{y:α}(h:l[i]?=⇑y):(l.R (i+1)).flatMap f=(l.R i).flatMap f++f y:=by
 rw[Yw,h,List.flatMap_append]
 ext
def ZG4{α:Type}{l:A6 α}{f:α->B2}{y:α}(h:l[i]?=⇑y):(l.R (i+1)).filter f=(l.R i).filter f++(if f y=A9 then [y] else []):=by rw[Yw,h,Pc];grind
def AK:∀{w t:Ac},t.U (·<·)->w.U (·<·)->(∀z∈t,z∈w)->t.Sublist w
 |[],[],_,_,_=>List.Sublist.slnil
 |[],x::t,_,_,h=>absurd (h x Yi) AP
 |y::w,[],_,_,_=>List.nil_sublist _
 |y::w,x::t,ht,hw,h=>by
  let(h1,h2):=PX.Y ht;let(h3,h4):=PX.Y hw;cases e:x=y
  .subst e;show List.Sublist.cons₂ _ (AK h2 h4 λz hz=>?_);grind
  .let hx:x∈w:=(Yu.Y<|h x Yi).resolve_left e;show List.Sublist.cons _ (AK ht h4 λz hz=>?_);grind
def Pp(M:Ac)(es:A6 (A5×A5)):(Ac):=es.foldl (λm e=>pm m e.1 e.2) M
def lG(M:Ac)(es:A6 (A5×A5))(e:A5×A5):Pp M (es++[e])=pm (Pp M es) e.1 e.2:=by unfold Pp;ext
def ZA7(M:Ac):∀es:A6 (A5×A5),(Pp M es).f=M.f:=by
 intro es;unfold Pp
 induction es generalizing M with
 |nil=>rfl
 |cons e l ih=>rw[uG,ih,Bj]
def lF{i:A0}(h0:0<=i):Xl xs none ⇑i=xs.R i.j:=by
 let e:HT.Uy xs.f xs.f ⇑i=min i.j xs.f:=by change(if i<0 then (i+xs⁻¹).j else min i.j xs.f)=_;rw[Yj (by ext)]
 unfold Xl;rw[e,HT.VI,Dm,uz]
 ext
def Wx(m:A5):(Ac):=(List.range m).Q λ(i:A5)=>(i:A0)
def Xy{z:A0}:z∈Wx m↔0<=z/\z<(m:A0):=by
 unfold Wx;rw[Yp];constructor
 .grind
 .intro h;exists z.j,YR.X (by ext),J
def ZW(m:A5):(Wx m).f=m:=by unfold Wx;simp
def lE(m:A5):(Wx m).U (·<·):=by unfold Wx;rw[Na];show DB.imp λh=>by ext
def Kl(m:A5):IsSet m (Wx m):=XY.X {λz hz=>Xy.Y hz,lE m}
def lD(m:A5):Wb 0 (m:A0)=Wx m:=by
 unfold Wb Wx
 ext
def Kk(n:A0)(ps:Aa):(Prop):=∀i j,i<n.j->j<n.j->Conn (XO ps<|Wx ps.f) i j
end My
namespace L2
open PySem PySem.Spec PyProof.Rows
section
variable{prog:Program}{w:World}{A:Around}{E:Ae}{s:B5}
def ZX6{r:A7}{a b c:A0}{t u v:Tok}{n:A5}{Q:A6 B1->B5->Prop}(hh:A.handled=A8)(hr:IsRange s.C r a b c t u v)(hm:Builtin.Range.small a b c=A9)(hn:Builtin.Range.rangeSize a b c=n)(hl:n<=2^24)
  (k:∀h' tk acc,(∀b o,s.C.G b=⇑o->h'.G b=⇑o)->ItemsOf (λi v=>∃t,v=.int (a+i*c) t) acc n->Q acc.m {s with heap:=h',toks:=tk}):wpAny (model prog w) A (collect<|.ref r) Q E s:=by
 let Np:(s.C.push<|seqObj "list" #[] 0).G (~~~s)=⇑(seqObj "list" #[] 0):=Qd _ rfl;show XU (Dl<|Sn pM ?_);show XU (KZ<|Yg ⟨Ds _ CC,Sn entry_list_iadd' ?_⟩);show TX (wpAny_extend_range (A:=A) (R:=λx s'=>∃h' tk acc c',x=.ok (.ret<|.ref (~~~s))/\s'={s with heap:=h',toks:=tk}/\(∀b o,s.C.G b=⇑o->h'.G b=⇑o)/\
   h'.G (~~~s)=⇑{cls:=.type "list",dict:=A8,data:=.seq acc c',slots:=#[]}/\ItemsOf (λi v=>∃t,v=.int (a+i*c) t) acc n)
  (s:={s with heap:=s.C.push (seqObj "list" #[] 0)}) hh (Xs _ hr) hm hn hl _ _ 0 Np λh' tk acc c' k1 k2 k3=>{h',tk,acc,c',Z,Z,λb o e=>k1 b o (Yl<|Yh e)<|Xs _ e,k2,k3}) (λfin s' z=>?_) (λe s' z=>?_)
 .cases fin with
  |done f=>
   let(h',tk,acc,c',e,rfl,k1,k2,k3):=z;cases e;show XU (CU k2 ?_);show Yg (k h' tk acc k1 k3)
  |again c'=>
   exists z.1,Ny z.2 λx s2 z=>?_;let(h',tk,acc,c',rfl,rfl,k1,k2,k3):=z;show XU (CU k2 ?_);show Yg (k h' tk acc k1 k3)
 ext
def Zn4{r:A7}{a b c:A0}{t u v:Tok}{n:A5}(hm:Builtin.Range.small a b c=A9)(hn:Builtin.Range.rangeSize a b c=n)(hl:n<=2^24):
  Meets (Builtin.«tuple.__new__» {[.type "tuple",.ref r],[]}) (λA R s=>A.handled=A8/\IsRange s.C r a b c t u v/\∀(h':Heap)(tk:A5)(acc:B3 B1),(∀b o,s.C.G b=⇑o->h'.G b=⇑o)->ItemsOf (λi v=>∃t,v=.int (a+i*c) t) acc n->
   R (.ok<|.ret<|.ref h'.objs.o) {s with heap:=h'.push<|seqObj "tuple" acc 0,toks:=tk}):=
 .of_wp λprog w A R s h=>by
  let(hh,hr,h):=h;let e1:=sub_tuple_self
  let e2:=init_tuple_lookup;let e3:=madeHere_tuple
  let AJ:A.in1.handled=A8:=hh
  wp_walk using uo hT,ZX6 AJ hr hm hn hl
  intro h' tk acc hk Vc;change wpAny _ _ (Builtin.Tuple.tupleExact acc.m.E >>= ret) _ _ _
  show XU (PR ?_<|by change acc.o<=sizeLine;rwa[Vc.1,PN]);show Yg {_,Z,h h' tk acc hk Vc}
def Zc3{r:A7}{a b c:A0}{t u v:Tok}{n:A5}{Q:Ae}(hh:A.handled=A8)(hr:IsRange s.C r a b c t u v)(hm:Builtin.Range.small a b c=A9)(hn:Builtin.Range.rangeSize a b c=n)(hl:n<=2^24)
  (k:∀(h':Heap)(tk:A5)(acc:B3 B1),(∀b o,s.C.G b=⇑o->h'.G b=⇑o)->ItemsOf (λi v=>∃t,v=.int (a+i*c) t) acc n->Q (.ref h'.objs.o) {s with heap:=h'.push<|seqObj "tuple" acc 0,toks:=tk}):wpAny (model prog w) A (call (.type "tuple") [.ref r]) Q E s:=
 callType_new F.called_tuple D (F.typeCall_tuple_1 _) (F.newCall_tuple_1 _) (λo=>F.args_object_init_2 o _) F.entry_tuple_new (Zn4 (t:=t) (u:=u) (v:=v) hm hn hl)
  {hh,hr,λh' tk acc hk Vc=>{{_,Qd _ Z,Z},k h' tk acc hk Vc}}
end
section
variable{X:Cx}
def ZY3(hc:X.calm=A9):VL X (.type "tuple") (λxs H Q=>∃p lo hi,xs=[.ref p]/\H p=⇑(.rng lo hi)/\(-(2^62)<=lo/\lo<2^62/\-(2^62)<=hi/\hi<2^62)/\(hi-lo).j<=16777216/\
  ∀l,H l=A8->Q ↑l (upd H l<|.tup<|(Wb lo hi).Q V.int)):=by
 intro pins s σ H xs us Q I r h;let(p,lo,hi,rfl,hp,(b1,b2,b3,b4),hz,q):=h;let(u,rfl,ru):=Ve r;let rfl:u=Value.ref p:=ru;let(t,u,v,e):=(show ObjOk X.prog X.w H s.C p (.rng lo hi) from I.hok p _ hp);let hn:Builtin.Range.rangeSize lo hi 1=(((hi-lo).j:A5):A0):=by rw[rangeSize_one];split<;>grind
 show Zc3 (I.ok.hd hc) (t:=t) (u:=u) (v:=v) e (small_one b1 b2 b3 b4) hn hz λh' tk acc hk ha=>?_;let hl:acc.m.f=(hi-lo).j:=by rw[YV];show ha.1
 let rv:Vals ((Wb lo hi).Q V.int) acc.m:=Bt (lo:=lo) hl λj w ew=>by
  let(t,e):=ha.2 j w (by simpa using ew)
  ext
 let I1:Inv X pins σ H {s with heap:=h',toks:=tk}:=I.kept (t':=tk) hk;let Po:((Wb lo hi).Q V.int).f<=sizeLine:=by
  rw[Yb,Zl3]
  have:sizeLine=16777216:=PN
  ext
 let I2:Inv X pins σ (upd H h'.objs.o<|.tup<|(Wb lo hi).Q V.int) {s with heap:=h'.push<|seqObj "tuple" acc.m.E 0,toks:=tk}:=
  I1.laid (t':=tk) (λb o e=>Xs _ e) (XI _) (show ObjOk X.prog X.w _ _ _ (.tup<|(Wb lo hi).Q V.int) from{Po,acc.m,rv,IsTup.new _ _})
 exists .ref h'.objs.o,_,I2,Z,q _<|I1.hok.fresh<|XI _
end
end L2
namespace My
open PySem L2
def QB(n:A5)(ps:Aa)(G:Ac)(z:A0):(Ac):=if mk (Xa n<|XO ps G) (ZK ps z).1=mk (Xa n<|XO ps G) (ZK ps z).2 then G else G++[z]
def Xb(n:A5)(ps:Aa)(zs:Ac):(Ac):=zs.foldl (QB n ps) []
def Mi(n:A5)(ps:Aa)(zs:Ac)(z:A0):Xb n ps (zs++[z])=QB n ps (Xb n ps zs) z:=by unfold Xb;ext
def Mh(n:A5)(ps:Aa)(zs:Ac):∀ys,∃us,Xb n ps (zs++ys)=Xb n ps zs++us/\us.Sublist ys:=by
 show Nq {[],AP} λys y ih=>?_;let(us,e,s):=ih;rw[<-QP,Mi,e];unfold QB;split
 .ext
 ext
def AI(n:A5)(ps:Aa)(zs:Ac):(Xb n ps zs).Sublist zs:=by let(us,e,s):=Mh n ps [] zs;rw[Fj]at e;rwa[e]
def AH(n:A5)(ps:Aa):∀k,Xb n ps ((List.range k).Q λ(i:A5)=>(i:A0))=Wy n ps k
 |0=>rfl
 |k+1=>by rw[NC,Yz,uP,Mi,AH n ps k,ED];rfl
def AG(h:∀z∈zs,0<=z/\z<ps⁻¹):∀z∈Xb n ps zs,0<=z/\z<ps⁻¹:=λz hz=>h z ((AI n ps zs).subset hz)
def HN(g:Zz n ps)(h:∀z∈zs,0<=z/\z<ps⁻¹):InN n.j (XO ps (Xb n.j ps zs)):=ZY g (AG h)
def AF(g:Zz n ps):∀zs:Ac,(∀z∈zs,0<=z/\z<ps⁻¹)->cnt (Xa n.j (XO ps (Xb n.j ps zs)))+(Xb n.j ps zs).f=n.j:=by
 show Nq (λ_=>lT n.j) λzs z ih h=>?_;let h1:∀z∈zs,0<=z/\z<ps⁻¹:=λy hy=>h y (Yy _ hy)
 let ih:=ih h1;let(z0,z1):=h z (Yc _<|Xn.X Z);let he:=SY (z:=z) g z0 z1
 let hl:=ZC n.j (XO ps<|Xb n.j ps zs);rw[Mi];unfold QB;split
 .show ih
 .rename_i h;rw[Kp,Nr,Ya,YW]
  have:=sS (m:=Xa n.j<|XO ps<|Xb n.j ps zs) (by ext) (by ext) h
  grind
def AE(g:Zz n ps)(h:∀z∈zs,0<=z/\z<ps⁻¹):(Xb n.j ps zs).f<=14:=by
 have:=AF g zs h
 have:=g.2.1
 lia
def Zc8(g:Zz n ps):∀zs:Ac,(∀z∈zs,0<=z/\z<ps⁻¹)->∀{i j:A5},Conn (XO ps zs) i j->Conn (XO ps (Xb n.j ps zs)) i j:=by
 show Nq (λ_ _ _ c=>c) λzs z IH h i j c=>?_;let h1:∀z∈zs,0<=z/\z<ps⁻¹:=λy hy=>h y (Yy _ hy)
 let(z0,z1):=h z (Yc _<|Xn.X Z);let he:=SY (z:=z) g z0 z1
 let up:∀{a b:A5},Conn (XO ps<|Xb n.j ps zs) a b->Conn (XO ps<|Xb n.j ps<|zs++[z]) a b:=λc=>by
  rw[Mi];unfold QB;split
  .show c
  .show c.mono (ZG λy hy=>Yy _ hy)
 let own:Conn (XO ps<|Xb n.j ps<|zs++[z]) (ZK ps z).1 (ZK ps z).2:=by
  rw[Mi];unfold QB;split
  .rename_i e;show(Wh (HN g h1) he.1 he.2).Y e
  .rw[Kp];show .edge (Yc _<|Xn.X Z)
 induction c with
 |refl i=>show .refl i
 |symm _ ih=>show .symm ih
 |trans _ _ i1 i2=>show .trans i1 i2
 |@edge a b e=>
  rw[Kp]at e;rcases Xi.Y e with e|e
  .show up (IH h1<|.edge e)
  grind
def Zg8(g:Zz n ps):Kk n ps↔¬((Wy n.j ps ps.f).f:A0)<n-1:=by
 constructor
 .intro h;let hc:∀i j,i<n.j->j<n.j->Conn (XO ps<|Wy n.j ps ps.f) i j:=λi j hi hj=>Zi8 g (λz hz=>Xy.Y hz) (h i j hi hj)
  let h1:=(Pr (by have:=g.1;lia)<|sL g<|XI _).X hc;let h2:=Mj g ps.f (XI _)
  lia
 .intro h i j hi hj;show((Zh8 g h).2.2 i j hi hj).mono (ZG λz hz=>Xy.X (by have:=EC ps.f z hz;omega))
end My
namespace PyProof.Rows
open PySem
def AD:(B2->Keyed->B3 Keyed->A5->A5->A5->StateT SortSt Sem (Option A5)):=sortPriv% PySem.Builtin.gallop
def ZN7:(B3 Keyed->B3 Keyed->StateT SortSt Sem (B3 Keyed)):=sortPriv% PySem.Builtin.mergeLo
def ZO7:(B3 Keyed->B3 Keyed->StateT SortSt Sem (B3 Keyed)):=sortPriv% PySem.Builtin.mergeHi
def UG(M:Model)(A:Around)(E:Ae)(s:B5)(O:KeyOrd)(key:Keyed->O.α)(kd:SortKind)(S:Keyed->Prop):(Prop):=
 ∀x y st Q,S x->S y->kindOf st=kd->Q (some<|O.blt (key x)<|key y) st->wpS M A E s (lt' x y) Q st
abbrev dK:Keyed:=(Value.none,Value.none)
section
variable{M:Model}{A:Around}{E:Ae}{s:B5}{O:KeyOrd}{key:Keyed->O.α}{kd:SortKind}{S:Keyed->Prop}
def ke(key:Keyed->O.α)(arr:B3 Keyed)(i:A5):(O.α):=key (arr.S i dK)
def VY{p:Keyed}(h:arr[i]?=⇑p):ke key arr i=key p:=by unfold ke;ext
def Zy{p:Keyed}{Q:Keyed->SortSt->Prop}{st:SortSt}(h:arr[i]?=⇑p)(q:Q p st):wpS M A E s (elem' arr i) Q st:=by rw[elem'_eq,h];show YT q
def beyB(O:KeyOrd)(key:Keyed->O.α)(left:B2)(kx:Keyed)(arr:B3 Keyed)(j:A5):(B2):=if left then O.blt (ke key arr j) (key kx) else !O.blt (key kx) (ke key arr j)
def AB(h:O.kle (ke key arr i) (ke key arr j))(hb:beyB O key left kx arr j=A9):beyB O key left kx arr i=A9:=by
 unfold beyB at *;cases left with
 |true=>
  show KeyOrd.klt_of_kle_of_klt h hb
 |false=>
  simp only[Dw,if_false,Bool.not_eq_true']at *;show NB h hb
def EA(L:UG M A E s O key kd S){st:SortSt}{Q:Option A5->SortSt->Prop}(hk:kindOf st=kd)(hS:S kx)(hA:∀i,i<n->∃p,arr[base+i]?=⇑p/\S p)(hh:hint<n)
  (hm:∀i j,i<=j->j<n->O.kle (ke key arr<|base+i) (ke key arr<|base+j))
  (h:∀k,k<=n->(∀i,i<k->beyB O key left kx arr (base+i)=A9)->(∀i,k<=i->i<n->beyB O key left kx arr (base+i)=B0)->Q ⇑k st):wpS M A E s (AD left kx arr base n hint) Q st:=by
 let AA:∀i,i<n->∀Q,Q (some<|beyB O key left kx arr<|base+i) st->
   wpS M A E s (do let x <-elem' arr (base+i);if left=A9 then lt' x kx else do let r <-lt' kx x;pure (Option.Q (λx=>!x) r)) Q st:=λi hi Q q=>by
  let(p,e,hp):=hA i hi;show Yv (Zy e ?_);unfold beyB at q;rw[VY e]at q;cases left with
  |true=>
   show L _ _ _ _ hp hS hk q
  |false=>
   show Yv (L _ _ _ _ hS hp hk<|YT q)
 let dn:∀{i j:A5},i<=j->j<n->beyB O key left kx arr (base+j)=A9->beyB O key left kx arr (base+i)=A9:=λWH hj hb=>AB (hm _ _ WH hj) hb;let up:∀{i j:A5},i<=j->j<n->beyB O key left kx arr (base+i)=B0->beyB O key left kx arr (base+j)=B0:=λ{i j} WH hj hb=>by grind
 generalize hB:(λj=>beyB O key left kx arr<|base+j)=o8 at *;let eB:∀j,beyB O key left kx arr (base+j)=o8 j:=λj=>congrFun hB j
 simp only[eB]at AA dn up h;let last:∀lo hi,lo<=hi->hi<=n->(∀i,i<lo->o8 i=A9)->(∀i,hi<=i->i<n->o8 i=B0)->∀f,(∀lo hi,f (none,lo,hi)=pure ⇑hi)->
   wpS M A E s (forIn [0:n] ((none,lo,hi):Option (Option A5)×A5×A5) (λ_ r=>if r.2.1 >= r.2.2 then pure (ForInStep.done (none,r.2.1,r.2.2)) else do
    let x <-(do let x <-elem' arr (base+(r.2.1+(r.2.2-r.2.1)/2));if left=A9 then lt' x kx else do let r <-lt' kx x;pure (Option.Q (λx=>!x) r))
    match x with
    |some more=>if more=A9 then pure (ForInStep.yield (none,r.2.1+(r.2.2-r.2.1)/2+1,r.2.2)) else pure (ForInStep.yield (none,r.2.1,r.2.1+(r.2.2-r.2.1)/2))
    |_=>pure<|ForInStep.done (⇑none,r.2.1,r.2.2)) >>= f) Q st:=by
  intro lo hi h1 h2 h3 h4 f hf;show Yv (RT (Vu (I:=λx c XT=>XT=st/\∃l r,c=(none,l,r)/\l<=r/\r<=n/\r-l<=n-x/\(∀i,i<l->o8 i=A9)/\(∀i,r<=i->i<n->o8 i=B0))
   (Q:=λc XT=>XT=st/\∃r,c=(none,r,r)/\r<=n/\(∀i,i<r->o8 i=A9)/\(∀i,r<=i->i<n->o8 i=B0)) ?_ ?_ ⟨Z,lo,hi,Z,h1,h2,B,h3,h4⟩) ?_)
  .rintro x c XT _ hx ⟨rfl,l,r,rfl,a1,a2,a3,a4,a5⟩;dsimp only;cases hc:l >= r
   .rw[Yk hc]
    have:l=r:=J
    subst this;show YT ⟨Z,l,Z,a2,a4,a5⟩
   .rw[Yj hc];show Yv (AA _ B _ ?_);cases e:o8 (l+(r-l)/2) with
    |true=>
     show YT {Z,_,_,Z,B,a2,B,λi hi=>dn (j:=l+(r-l)/2) J B e,a5}
    |false=>
     show YT {Z,_,_,Z,J,B,B,a4,λi hi VP=>up (i:=l+(r-l)/2) hi VP e}
  .rintro c XT ⟨rfl,l,r,rfl,a1,a2,a3,a4,a5⟩
   have:l=r:=B
   subst this;exists Z,l,Z,a2,a4,a5
  .rintro c XT ⟨rfl,r,rfl,a2,a4,a5⟩;rw[hf];show YT (h r a2 a4 a5)
 show Yv (AA hint hh _ ?_);cases e0:o8 hint with
 |true=>
  show Yv (RT (Vu (I:=λx c XT=>XT=st/\∃l o,c=(none,l,o)/\l<o/\hint+l<n/\x+1<=o/\o8 (hint+l)=A9)
   (Q:=λc XT=>XT=st/\∃l o,c=(none,l,o)/\l<o/\hint+l<n/\o8 (hint+l)=A9/\(n-hint<=o\/o8 (hint+o)=B0)) ?_ ?_ ⟨Z,0,1,Z,J,J,J,e0⟩) ?_)
  .rintro x c XT _ hx ⟨rfl,l,o,rfl,a1,a2,a3,a4⟩;cases hc:o >= n-hint
   .rw[Yk hc];show YT {Z,l,o,Z,a1,a2,a4,.inl hc}
   .rw[Yj hc];show Yv (AA _ J _ ?_);cases e:o8 (hint+o) with
    |false=>
     show YT {Z,l,o,Z,a1,a2,a4,.inr e}
    |true=>
     show YT {Z,o,2*o+1,Z,J,B,J,e}
  .rintro c XT ⟨rfl,l,o,rfl,a1,a2,a3,a4⟩;exists Z,l,o,Z,a1,a2,a4,.inl J
  .rintro c XT ⟨rfl,l,o,rfl,a1,a2,a4,a5⟩;dsimp only;show last _ _ J J (λi hi=>dn (j:=hint+l) J a2 a4) (λi hi VP=>?_) _ λ_ _=>rfl;rcases a5 with a5|a5
   .lia
   .cases h9:n-hint<=o
    .lia
    .show up (i:=hint+o) B VP a5
 |false=>
  show Yv (RT (Vu (I:=λx c XT=>XT=st/\∃l o,c=(none,l,o)/\l<o/\l<=hint/\x+1<=o/\o8 (hint-l)=B0)
   (Q:=λc XT=>XT=st/\∃l o,c=(none,l,o)/\l<o/\l<=hint/\o8 (hint-l)=B0/\(hint+1<=o\/(o<=hint/\o8 (hint-o)=A9))) ?_ ?_ ⟨Z,0,1,Z,pB,J,J,e0⟩) ?_)
  .rintro x c XT _ hx ⟨rfl,l,o,rfl,a1,a2,a3,a4⟩;cases hc:o >= hint+1
   .rw[Yk hc];show YT {Z,l,o,Z,a1,a2,a4,.inl hc}
   .rw[Yj hc];show Yv (AA _ B _ ?_);cases e:o8 (hint-o) with
    |true=>
     show YT {Z,l,o,Z,a1,a2,a4,.inr ⟨J,e⟩}
    |false=>
     show YT {Z,o,2*o+1,Z,J,J,J,e}
  .rintro c XT ⟨rfl,l,o,rfl,a1,a2,a3,a4⟩;exists Z,l,o,Z,a1,a2,a4,.inl J
  .rintro c XT ⟨rfl,l,o,rfl,a1,a2,a4,a5⟩;dsimp only;show last _ _ pB B (λi hi=>?_) (λi hi VP=>up (i:=hint-l) J VP a4) _ λ_ _=>rfl;rcases a5 with a5|⟨a5,a6⟩
   .lia
   grind
def RK(O:KeyOrd)(key:Keyed->O.α)(x y:Keyed):(Prop):=O.kle (key x) (key y)
def SX(a:B3 Keyed)(i:A5):(a.extract i a.o).m=a.m.drop i:=by rw[QL,FA];show YG AP
def Az(a:B3 Keyed)(i k:A5):(a.extract i (i+k)).m=(a.m.drop i).R k:=by
 ext
def Ot{a:B3 Keyed}{p:Keyed}(h:a[i]?=⇑p):(a.m.drop i).R 1=[p]:=by
 let h':a.m[i]?=⇑p:=by simpa using h
 let(hi,e):=Xr.Y h';rw[DC hi,e];rfl
def Ay{a:B3 Keyed}{i k:A5}{x:Keyed}(h:x∈(a.m.drop i).R k):∃j,j<k/\a[i+j]?=⇑x:=by let(j,hj):=YA h;grind
def lC{a:B3 Keyed}{x:Keyed}(h:x∈a.m.drop i):∃j,i<=j/\j<a.o/\a[j]?=⇑x:=by
 let(j,hj):=YA h;rw[Ft]at hj;let Pu:=(Xr.Y hj).1
 exists i+j,by ext,by simpa using Pu,by simpa using hj
def Oq:(A5->StateT SortSt Sem Unit):=sortPriv% PySem.Builtin.setMinGallop
def sI{E:Ae}{st:SortSt}{Q:Unit->SortSt->Prop}(h:Q () (SortSt.mk' (kindOf st) (arrOf st) (pendingOf st) g (failedOf st))):wpS M A E s (Oq g) Q st:=KW h
abbrev Kj:=Option (B3 Keyed)×B3 Keyed×A5×A5×A5×A5×A5
def HM(a b out:B3 Keyed)(ia ib g ac bc:A5):(StateT SortSt Sem (ForInStep Kj)):=elem' a ia >>= λx=>
 if (ia+1+1 == a.o)=A9 then pure (.done (some<|out.push x++b.extract ib b.o++a.extract (ia+1) a.o,out.push x,ia+1,ib,g,ac,bc))
 else if (decide (ac<7)&&decide (bc<7))=A9 then pure (.done (none,out.push x,ia+1,ib,g,ac,bc)) else pure (.yield (none,out.push x,ia+1,ib,g,ac,bc))
def HL(a b out:B3 Keyed)(ia ib g ac bc:A5):(StateT SortSt Sem (ForInStep Kj)):=elem' b ib >>= λx=>
 if (ib+1 == b.o)=A9 then pure (.done (some<|out.push x++a.extract ia a.o++b.extract (ib+1) b.o,out.push x,ia,ib+1,g,ac,bc))
 else elem' a ia >>= λy=>AD true y b (ib+1) (b.o-(ib+1)) 0 >>= λr=>match r with
  |some k=>if k>0 then
    if (ib+1+k == b.o)=A9 then pure (.done (some<|out.push x++b.extract (ib+1) (ib+1+k)++a.extract ia a.o++b.extract (ib+1+k) b.o,out.push x++b.extract (ib+1) (ib+1+k),ia,ib+1+k,g,ac,k))
    else HM a b (out.push x++b.extract (ib+1) (ib+1+k)) ia (ib+1+k) g ac k
   else HM a b (out.push x) ia (ib+1) g ac k
  |_=>pure (.done (some<|out.push x++a.extract ia a.o++b.extract (ib+1) b.o,out.push x,ia,ib+1,g,ac,bc))
def HK(a b out:B3 Keyed)(ia ib g ac bc:A5):(StateT SortSt Sem (ForInStep Kj)):=Oq g >>= λ_=>elem' b ib >>= λx=>AD false x a ia (a.o-ia) 0 >>= λr=>match r with
 |some k=>if k>0 then
   if (ia+k+1 == a.o)=A9 then pure (.done (some<|out++a.extract ia (ia+k)++b.extract ib b.o++a.extract (ia+k) a.o,out++a.extract ia (ia+k),ia+k,ib,g,k,bc))
   else if (ia+k == a.o)=A9 then pure (.done (some<|out++a.extract ia (ia+k)++a.extract (ia+k) a.o++b.extract ib b.o,out++a.extract ia (ia+k),ia+k,ib,g,k,bc))
   else HL a b (out++a.extract ia (ia+k)) (ia+k) ib g k bc
  else HL a b out ia ib g k bc
 |_=>pure (.done (some<|out++a.extract ia a.o++b.extract ib b.o,out,ia,ib,g,ac,bc))
def ZN{α σ:Type}{c:Prop}[Decidable c]{x y:StateT σ Sem α}{Q:α->σ->Prop}{st:σ}(hc:c)(h:wpS M A E s x Q st):wpS M A E s (if c then x else y) Q st:=by ext
def UT{α σ:Type}{c:Prop}[Decidable c]{x y:StateT σ Sem α}{Q:α->σ->Prop}{st:σ}(hc:¬c)(h:wpS M A E s y Q st):wpS M A E s (if c then x else y) Q st:=by ext
abbrev Ez:=Option (B3 Keyed)×B3 Keyed×A5×A5×A5×A5
def loB1(a b:B3 Keyed)(g:A5)(c:Ez):(StateT SortSt Sem (ForInStep Ez)):=elem' b c.2.2.2.1 >>= λy=>elem' a c.2.2.1 >>= λx=>lt' y x >>= λr=>match r with
 |some t=>if t=A9 then elem' b c.2.2.2.1 >>= λy=>
    if (c.2.2.2.1+1 == b.o)=A9 then pure (.done (some<|c.2.1.push y++a.extract c.2.2.1 a.o++b.extract (c.2.2.2.1+1) b.o,c.2.1.push y,c.2.2.1,c.2.2.2.1+1,0,c.2.2.2.2.2+1))
    else if c.2.2.2.2.2+1 >= g then pure (.done (none,c.2.1.push y,c.2.2.1,c.2.2.2.1+1,0,c.2.2.2.2.2+1)) else pure (.yield (none,c.2.1.push y,c.2.2.1,c.2.2.2.1+1,0,c.2.2.2.2.2+1))
   else elem' a c.2.2.1 >>= λx=>
    if (c.2.2.1+1+1 == a.o)=A9 then pure (.done (some<|c.2.1.push x++b.extract c.2.2.2.1 b.o++a.extract (c.2.2.1+1) a.o,c.2.1.push x,c.2.2.1+1,c.2.2.2.1,c.2.2.2.2.1+1,0))
    else if c.2.2.2.2.1+1 >= g then pure (.done (none,c.2.1.push x,c.2.2.1+1,c.2.2.2.1,c.2.2.2.2.1+1,0)) else pure (.yield (none,c.2.1.push x,c.2.2.1+1,c.2.2.2.1,c.2.2.2.2.1+1,0))
 |_=>pure (.done (some<|c.2.1++a.extract c.2.2.1 a.o++b.extract c.2.2.2.1 b.o,c.2.1,c.2.2.1,c.2.2.2.1,c.2.2.2.2.1,c.2.2.2.2.2))
abbrev Ey:=Option (B3 Keyed)×B3 Keyed×A5×A5×A5
def Ax(a b:B3 Keyed)(c:Kj):(StateT SortSt Sem (ForInStep Kj)):=if c.2.2.2.2.1>1 then HK a b c.2.1 c.2.2.1 c.2.2.2.1 (c.2.2.2.2.1-1) c.2.2.2.2.2.1 c.2.2.2.2.2.2 else HK a b c.2.1 c.2.2.1 c.2.2.2.1 c.2.2.2.2.1 c.2.2.2.2.2.1 c.2.2.2.2.2.2
def lB(c:Kj):(StateT SortSt Sem (ForInStep Ey)):=match c.1 with
 |some r=>pure (.done (⇑r,c.2.1,c.2.2.1,c.2.2.2.1,c.2.2.2.2.1))
 |none=>Oq (c.2.2.2.2.1+1) >>= λ_=>pure (.yield (none,c.2.1,c.2.2.1,c.2.2.2.1,c.2.2.2.2.1+1))
def lu(a b:B3 Keyed)(g:A5)(c:Ez):(StateT SortSt Sem (ForInStep Ey)):=match c.1 with
 |some r=>pure (.done (⇑r,c.2.1,c.2.2.1,c.2.2.2.1,g))
 |none=>liftM (rule "list.sort.gallop") >>= λ_=>forIn [0:a.o+b.o] ((none,c.2.1,c.2.2.1,c.2.2.2.1,g+1,c.2.2.2.2.1,c.2.2.2.2.2):Kj) (λ_ s=>Ax a b s) >>= lB
def lr(a b:B3 Keyed)(c:Ey):(StateT SortSt Sem (ForInStep Ey)):=forIn [0:a.o+b.o] ((none,c.2.1,c.2.2.1,c.2.2.2.1,0,0):Ez) (λ_ s=>loB1 a b c.2.2.2.2 s) >>= lu a b c.2.2.2.2
def lq(c:Ey):(StateT SortSt Sem (B3 Keyed)):=match c.1 with
 |some r=>pure r
 |none=>liftM (unsupported "internal:list.sort.merge-bound":Sem (B3 Keyed))
def lp(a b:B3 Keyed):(StateT SortSt Sem (B3 Keyed)):=liftM (rule "list.sort.merge-lo") >>= λ_=>elem' b 0 >>= λx=>
 if (1 == b.o)=A9 then pure (#[x]++a.extract 0 a.o++b.extract 1 b.o) else if (0+1 == a.o)=A9 then pure (#[x]++b.extract 1 b.o++a.extract 0 a.o)
 else get >>= λst=>forIn [0:a.o+b.o] ((none,#[x],0,1,gallopOf st):Ey) (λ_ c=>lr a b c) >>= lq
def QA{α β γ:Type _}(f:α->β->γ){a a':α}{b b':β}(h:a=a')(k:b=b'):f a b=f a' b':=by subst h k;rfl
def Ex{α:Type _}{c:Prop}[Decidable c]{a a' b b':α}(h:a=a')(k:b=b'):(if c then a else b)=if c then a' else b':=by subst h k;rfl
def lj(a b:B3 Keyed):ZN7 a b=lp a b:=by
 show YF (Bind.bind _) (funext λ_=>YF (Bind.bind _)<|funext λx=>?_);show Ex Z (Ex Z<|YF (Bind.bind _)<|funext λst=>?_);show QA Bind.bind (YF (forIn _ _)<|funext λ_=>funext λc=>?_) ?_
 .show QA Bind.bind (YF (forIn _ _)<|funext λ_=>funext λc=>?_) ?_
  .show YF (Bind.bind _) (funext λ_=>YF (Bind.bind _)<|funext λ_=>YF (Bind.bind _)<|funext λr=>?_);cases r with
   |none=>rfl
   |some r=>rfl
  .funext c
   let(c1,c2):=c;cases c1 with
   |some r=>rfl
   |none=>
    show YF (Bind.bind _) (funext λ_=>QA Bind.bind (YF (forIn _ _)<|funext λ_=>funext λc=>?_) ?_)
    .show Ex ?_ ?_
     .show YF (Bind.bind _) (funext λ_=>YF (Bind.bind _)<|funext λ_=>YF (Bind.bind _)<|funext λr=>?_);cases r with
      |none=>rfl
      |some r=>rfl
     .rfl
    .funext c
     let(c1,c2):=c;cases c1<;>rfl
 .funext c
  let(c1,c2):=c;cases c1<;>rfl
section
variable{st:SortSt}
def UE(st XT:SortSt):(Prop):=kindOf XT=kindOf st/\arrOf XT=arrOf st/\pendingOf XT=pendingOf st/\failedOf XT=failedOf st
end
end
section
variable{M:Model}{A:Around}{E:Ae}{s:B5}{O:KeyOrd}{key:Keyed->O.α}{kd:SortKind}{S:Keyed->Prop}
def Aw{la:A6 Keyed}(hi:i<=n):la.R n=la.R i++(la.R n).drop i:=by let e:=(Fw i<|la.R n).symm;grind
def Mg(a:B3 Keyed)(n:A5):(a.extract 0 n).m=a.m.R n:=by
 ext
def Av(a:B3 Keyed)(i n:A5):((a.extract i n).reverse).m=((a.m.R n).drop i).reverse:=by rw[qg,QL,FA,List.drop_take]
def Qz{a:B3 Keyed}{i n:A5}{p:Keyed}(hn:n=i+1)(h:a[i]?=⇑p):((a.m.R n).drop i).reverse=[p]:=by
 subst hn;let h':a.m[i]?=⇑p:=by simpa using h
 rw[List.drop_take,Y3I];let(hi,e):=Xr.Y h';rw[DC hi,e];rfl
def lh{a:B3 Keyed}{x:Keyed}(h:x∈a.m.R n):∃j,j<n/\j<a.o/\a[j]?=⇑x:=by let(j,hj):=YA h;grind
def Au{a:B3 Keyed}{i n:A5}{x:Keyed}(h:x∈(a.m.R n).drop i):∃j,i<=j/\j<n/\j<a.o/\a[j]?=⇑x:=by let(j,hj):=YA h;grind
abbrev Ki:=Option (B3 Keyed)×A5×A5×B3 Keyed×A5×A5×A5
def HJ(a b out:B3 Keyed)(na nb g ac bc:A5):(StateT SortSt Sem (ForInStep Ki)):=elem' a (na-1) >>= λx=>
 if (na-1 == 0)=A9 then pure (.done (some<|a.extract 0 (na-1)++b.extract 0 nb++(out.push x).reverse,na-1,nb,out.push x,g,ac,bc))
 else if (decide (ac<7)&&decide (bc<7))=A9 then pure (.done (none,na-1,nb,out.push x,g,ac,bc)) else pure (.yield (none,na-1,nb,out.push x,g,ac,bc))
def HI(a b out:B3 Keyed)(na nb g ac bc:A5):(StateT SortSt Sem (ForInStep Ki)):=elem' b (nb-1) >>= λx=>
 if (nb-1 == 1)=A9 then pure (.done (some<|b.extract 0 (nb-1)++a.extract 0 na++(out.push x).reverse,na,nb-1,out.push x,g,ac,bc))
 else elem' a (na-1) >>= λy=>AD true y b 0 (nb-1) (nb-1-1) >>= λr=>match r with
  |some k=>if nb-1-k>0 then
    if (k == 1)=A9 then pure (.done (some<|b.extract 0 k++a.extract 0 na++(out.push x++(b.extract k<|nb-1).reverse).reverse,na,k,out.push x++(b.extract k<|nb-1).reverse,g,ac,nb-1-k))
    else if (k == 0)=A9 then pure (.done (some<|a.extract 0 na++b.extract 0 k++(out.push x++(b.extract k<|nb-1).reverse).reverse,na,k,out.push x++(b.extract k<|nb-1).reverse,g,ac,nb-1-k))
    else HJ a b (out.push x++(b.extract k<|nb-1).reverse) na k g ac (nb-1-k)
   else HJ a b (out.push x) na (nb-1) g ac (nb-1-k)
  |_=>pure (.done (some<|a.extract 0 na++b.extract 0 (nb-1)++(out.push x).reverse,na,nb-1,out.push x,g,ac,bc))
def HH(a b out:B3 Keyed)(na nb g ac bc:A5):(StateT SortSt Sem (ForInStep Ki)):=Oq g >>= λ_=>elem' b (nb-1) >>= λx=>AD false x a 0 na (na-1) >>= λr=>match r with
 |some k=>if na-k>0 then
   if (k == 0)=A9 then pure (.done (some<|a.extract 0 k++b.extract 0 nb++(out++(a.extract k na).reverse).reverse,k,nb,out++(a.extract k na).reverse,g,na-k,bc))
   else HI a b (out++(a.extract k na).reverse) k nb g (na-k) bc
  else HI a b out na nb g (na-k) bc
 |_=>pure (.done (some<|a.extract 0 na++b.extract 0 nb++out.reverse,na,nb,out,g,ac,bc))
abbrev Ew:=Option (B3 Keyed)×A5×A5×B3 Keyed×A5×A5
def hiB1(a b:B3 Keyed)(g:A5)(c:Ew):(StateT SortSt Sem (ForInStep Ew)):=elem' b (c.2.2.1-1) >>= λy=>elem' a (c.2.1-1) >>= λx=>lt' y x >>= λr=>match r with
 |some t=>if t=A9 then elem' a (c.2.1-1) >>= λx=>
    if (c.2.1-1 == 0)=A9 then pure (.done (some<|a.extract 0 (c.2.1-1)++b.extract 0 c.2.2.1++(c.2.2.2.1.push x).reverse,c.2.1-1,c.2.2.1,c.2.2.2.1.push x,c.2.2.2.2.1+1,0))
    else if c.2.2.2.2.1+1 >= g then pure (.done (none,c.2.1-1,c.2.2.1,c.2.2.2.1.push x,c.2.2.2.2.1+1,0)) else pure (.yield (none,c.2.1-1,c.2.2.1,c.2.2.2.1.push x,c.2.2.2.2.1+1,0))
   else elem' b (c.2.2.1-1) >>= λy=>
    if (c.2.2.1-1 == 1)=A9 then pure (.done (some<|b.extract 0 (c.2.2.1-1)++a.extract 0 c.2.1++(c.2.2.2.1.push y).reverse,c.2.1,c.2.2.1-1,c.2.2.2.1.push y,0,c.2.2.2.2.2+1))
    else if c.2.2.2.2.2+1 >= g then pure (.done (none,c.2.1,c.2.2.1-1,c.2.2.2.1.push y,0,c.2.2.2.2.2+1)) else pure (.yield (none,c.2.1,c.2.2.1-1,c.2.2.2.1.push y,0,c.2.2.2.2.2+1))
 |_=>pure (.done (some<|a.extract 0 c.2.1++b.extract 0 c.2.2.1++c.2.2.2.1.reverse,c.2.1,c.2.2.1,c.2.2.2.1,c.2.2.2.2.1,c.2.2.2.2.2))
abbrev Eu:=Option (B3 Keyed)×A5×A5×B3 Keyed×A5
def As(a b:B3 Keyed)(c:Ki):(StateT SortSt Sem (ForInStep Ki)):=if c.2.2.2.2.1>1 then HH a b c.2.2.2.1 c.2.1 c.2.2.1 (c.2.2.2.2.1-1) c.2.2.2.2.2.1 c.2.2.2.2.2.2 else HH a b c.2.2.2.1 c.2.1 c.2.2.1 c.2.2.2.2.1 c.2.2.2.2.2.1 c.2.2.2.2.2.2
def lb(c:Ki):(StateT SortSt Sem (ForInStep Eu)):=match c.1 with
 |some r=>pure (.done (⇑r,c.2.1,c.2.2.1,c.2.2.2.1,c.2.2.2.2.1))
 |none=>Oq (c.2.2.2.2.1+1) >>= λ_=>pure (.yield (none,c.2.1,c.2.2.1,c.2.2.2.1,c.2.2.2.2.1+1))
def k9(a b:B3 Keyed)(g:A5)(c:Ew):(StateT SortSt Sem (ForInStep Eu)):=match c.1 with
 |some r=>pure (.done (⇑r,c.2.1,c.2.2.1,c.2.2.2.1,g))
 |none=>liftM (rule "list.sort.gallop") >>= λ_=>forIn [0:a.o+b.o] ((none,c.2.1,c.2.2.1,c.2.2.2.1,g+1,c.2.2.2.2.1,c.2.2.2.2.2):Ki) (λ_ s=>As a b s) >>= lb
def k8(a b:B3 Keyed)(c:Eu):(StateT SortSt Sem (ForInStep Eu)):=forIn [0:a.o+b.o] ((none,c.2.1,c.2.2.1,c.2.2.2.1,0,0):Ew) (λ_ s=>hiB1 a b c.2.2.2.2 s) >>= k9 a b c.2.2.2.2
def k7(c:Eu):(StateT SortSt Sem (B3 Keyed)):=match c.1 with
 |some r=>pure r
 |none=>liftM (unsupported "internal:list.sort.merge-bound":Sem (B3 Keyed))
def k5(a b:B3 Keyed):(StateT SortSt Sem (B3 Keyed)):=liftM (rule "list.sort.merge-hi") >>= λ_=>elem' a (a.o-1) >>= λx=>
 if (a.o-1 == 0)=A9 then pure (a.extract 0 (a.o-1)++b.extract 0 b.o++(#[x]:B3 Keyed).reverse) else if (b.o == 1)=A9 then pure (b.extract 0 b.o++a.extract 0 (a.o-1)++(#[x]:B3 Keyed).reverse)
 else get >>= λst=>forIn [0:a.o+b.o] ((none,a.o-1,b.o,#[x],gallopOf st):Eu) (λ_ c=>k8 a b c) >>= k7
def kZ(a b:B3 Keyed):ZO7 a b=k5 a b:=by
 show YF (Bind.bind _) (funext λ_=>YF (Bind.bind _)<|funext λx=>?_);show Ex Z (Ex Z<|YF (Bind.bind _)<|funext λst=>?_);show QA Bind.bind (YF (forIn _ _)<|funext λ_=>funext λc=>?_) ?_
 .show QA Bind.bind (YF (forIn _ _)<|funext λ_=>funext λc=>?_) ?_
  .show YF (Bind.bind _) (funext λ_=>YF (Bind.bind _)<|funext λ_=>YF (Bind.bind _)<|funext λr=>?_);cases r with
   |none=>rfl
   |some r=>rfl
  .funext c
   let(c1,c2):=c;cases c1 with
   |some r=>rfl
   |none=>
    show YF (Bind.bind _) (funext λ_=>QA Bind.bind (YF (forIn _ _)<|funext λ_=>funext λc=>?_) ?_)
    .show Ex ?_ ?_
     .show YF (Bind.bind _) (funext λ_=>YF (Bind.bind _)<|funext λ_=>YF (Bind.bind _)<|funext λr=>?_);cases r with
      |none=>rfl
      |some r=>rfl
     .rfl
    .funext c
     let(c1,c2):=c;cases c1<;>rfl
 .funext c
  let(c1,c2):=c;cases c1<;>rfl
def kY{σ:Type}{st x:σ}{Q:PUnit->σ->Prop}(h:Q ⟨⟩ x):wpS M A E s (set x:StateT σ Sem PUnit) Q st:=by show Yg ⟨Z,h⟩
def Zt8:∀(r:A6 Keyed)(o k:A5)(arr:B3 Keyed),o+k+r.f<=arr.o->
  ((r.zipIdx k).foldl (λa x=>match x with|(p,j)=>a.setIfInBounds (o+j) p) arr).m=arr.m.R (o+k)++r++arr.m.drop (o+k+r.f)
 |[],o,k,arr,h=>AP
 |p::r,o,k,arr,h=>by
  rw[YM]at h;let ih:=Zt8 r o (k+1) (arr.setIfInBounds (o+k) p) B
  show ih.l ?_;rw[Array.toList_setIfInBounds,YM];let hl:o+k<arr.m.f:=by simp;lia
  rw[List.drop_set_of_lt J,show o+(k+1)=o+k+1 by lia,List.take_set,List.take_succ_eq_append_getElem hl,CN _ _ B];simp[show o+k+1+r.length=o+k+(r.length+1) by lia,Nat.min_eq_left (by simpa using NA hl:o+k<=arr.size)]
def Stp(lo:A5)(st XT:SortSt):(Prop):=kindOf XT=kindOf st/\failedOf XT=failedOf st/\pendingOf XT=pendingOf st/\(arrOf XT).Perm (arrOf st)/\∀i,i<lo->(arrOf XT)[i]?=(arrOf st)[i]?
def Stp.refl(lo:A5)(st:SortSt):Stp lo st st:={Z,Z,Z,Dp _,λ_ _=>rfl}
def Stp.trans{lo:A5}{a b c:SortSt}(h:Stp lo a b)(k:Stp lo b c):Stp lo a c:={k.1.l h.1,k.2.1.l h.2.1,k.2.2.1.l h.2.2.1,k.2.2.2.1.l h.2.2.2.1,λi hi=>(k.2.2.2.2 i hi).l (h.2.2.2.2 i hi)}
def Stp.size{lo:A5}{a b:SortSt}(h:Stp lo a b):(arrOf b).o=(arrOf a).o:=h.2.2.2.1.size_eq
def Stp.all{lo:A5}{a b:SortSt}(h:Stp lo a b)(hS:∀x∈(arrOf a).m,S x):∀x∈(arrOf b).m,S x:=λx hx=>hS x ((Le.Y h.2.2.2.1).mem_iff.Y hx)
def Stp.mirror{lo i j:A5}{st:SortSt}(hi:lo<=i)(hj:j<=(arrOf st).o):Stp lo st (setArr st (PyProof.Rows.mirror (arrOf st) i j ((j-i)/2))):=
 {Z,Z,Z,mirror_perm _ _ _ _,λk hk=>by rw[Jc hj,Yj J]}
def Stp.bubble{lo src d:A5}{st:SortSt}(hs:src<(arrOf st).o)(hd:d<=src)(Px:lo<=src-d):Stp lo st (setArr st (PyProof.Rows.bubble (arrOf st) src d)):=
 {Z,Z,Z,bubble_perm _ _ _,λk hk=>by rw[getElem?_bubble hs d hd,Yj J,Yj J]}
def Kh(h:xs[i]?=ys[j]?):ke key xs i=ke key ys j:=by unfold ke;ext
def Mf(hj:j<=xs.o)(k:A5):ke key (mirror xs i j ((j-i)/2)) k=if i<=k/\k<j then ke key xs (i+j-1-k) else ke key xs k:=by
 let e:=Jc (i:=i) hj k;split
 .rename_i h;rw[Yk h]at e;show Kh e
 .rename_i h;rw[Yj h]at e;show Kh e
def Ar(hs:src<xs.o)(hd:d<=src)(k:A5):ke key (bubble xs src d) k=if k=src-d then ke key xs src else if src-d<k/\k<=src then ke key xs (k-1) else ke key xs k:=by
 let e:=getElem?_bubble hs d hd k;split
 .rename_i h;rw[Yk h]at e;show Kh e
 .rename_i h;rw[Yj h]at e;split
  .rename_i h;rw[Yk h]at e;show Kh e
  .rename_i h;rw[Yj h]at e;show Kh e
def Oo(L:UG M A E s O key kd S){st:SortSt}{Q:Option B2->SortSt->Prop}(hk:kindOf st=kd)(hS:∀x∈(arrOf st).m,S x)(hi:i<(arrOf st).o)(hj:j<(arrOf st).o)
  (h:Q (some<|O.blt (ke key (arrOf st) i)<|ke key (arrOf st) j) st):wpS M A E s (ltAt' i j) Q st:=by
 let e1:=QO (arrOf st) i hi;let e2:=QO (arrOf st) j hj
 rw[VY e1,VY e2]at h;show Yv (UO ?_);show Yv (Zy e1<|Yv<|Zy e2 ?_);show L _ _ _ _ (hS _ AP) (hS _ AP) hk h
def Kg{st:SortSt}{Q:Unit->SortSt->Prop}(h:Q () (setArr st (mirror (arrOf st) i j ((j-i)/2)))):wpS M A E s (reverseSlice' i j) Q st:=by show KW h
def VB(O:KeyOrd)(key:Keyed->O.α)(arr:B3 Keyed)(lo k:A5):(Prop):=∀i j,i<=j->j<k->O.kle (ke key arr<|lo+i) (ke key arr<|lo+j)
def Vb(O:KeyOrd)(key:Keyed->O.α)(arr:B3 Keyed)(lo k:A5):(Prop):=∀i j,i<=j->j<k->O.kle (ke key arr<|lo+j) (ke key arr<|lo+i)
def kX(lo a WK:A5):(StateT SortSt Sem (Option (Option A5)×A5)):=forIn [a:WK] ((none,a):Option (Option A5)×A5) λ_ r=>do
 let x <-ltAt' (lo+r.2) (lo+r.2-1)
 match x with
 |some b=>if b=A9 then pure (.done (none,r.2)) else pure (.yield (none,r.2+1))
 |_=>pure (.done (⇑none,r.2))
def Aq(L:UG M A E s O key kd S){st:SortSt}{lo a WK:A5}{Q:Option (Option A5)×A5->SortSt->Prop}(hk:kindOf st=kd)(hS:∀x∈(arrOf st).m,S x)(hn:lo+WK<=(arrOf st).o)(ha:1<=a)(han:a<=WK)(hs:VB O key (arrOf st) lo a)
  (h:∀n,a<=n->n<=WK->VB O key (arrOf st) lo n->(n=WK\/O.klt (ke key (arrOf st)<|lo+n) (ke key (arrOf st)<|lo+n-1))->Q (none,n) st):wpS M A E s (kX lo a WK) Q st:=by
 show Vu (I:=λx c XT=>XT=st/\c=(none,x)/\VB O key (arrOf st) lo x) ?_ ?_ ⟨Z,Z,hs⟩
 .rintro x c XT kW hxn ⟨rfl,rfl,VF⟩;show Yv (Oo L hk hS J J ?_);cases e:O.blt (ke key (arrOf XT)<|lo+x) (ke key (arrOf XT)<|lo+x-1) with
  |true=>
   show YT (h x kW J VF<|.inr e)
  |false=>
   show YT {Z,Z,λi j WH hj=>?_};cases Ap:j<x
   .show VF i j WH Ap
   .let Tn:j=x:=J;subst Tn;cases Wu:i=j
    .subst Wu;show Tx _
    .have:=VF i (j-1) J J
     rw[show lo+(j-1)=lo+j-1 by lia]at this;show NB this e
 ext
def Kf(lo n WK:A5):(StateT SortSt Sem (Option (Option A5)×A5×A5)):=forIn [n:WK] ((none,n,0):Option (Option A5)×A5×A5) λ_ r=>do
 let x <-ltAt' (lo+r.2.1) (lo+r.2.1-1)
 match x with
 |some b=>
  if b=A9 then
   if r.2.2>0 then do
    reverseSlice' (lo+r.2.1-(r.2.2+1)) (lo+r.2.1)
    pure (.yield (none,r.2.1+1,0))
   else pure (.yield (none,r.2.1+1,0))
  else do
   let y <-ltAt' (lo+r.2.1-1) (lo+r.2.1)
   match y with
   |some c=>if c=A9 then pure (.done (none,r.2.1,r.2.2)) else pure (.yield (none,r.2.1+1,r.2.2+1))
   |_=>pure (.done (⇑none,r.2.1,r.2.2))
 |_=>pure (.done (⇑none,r.2.1,r.2.2))
def ZL(hj:j<=xs.o)(he:∀k,i<=k->k<j->ke key xs k=ke key xs (j-1))(k:A5):ke key (mirror xs i j ((j-i)/2)) k=ke key xs k:=by rw[Mf hj];grind
def ZB5(L:UG M A E s O key kd S){st:SortSt}{lo n WK:A5}{Q:Option (Option A5)×A5×A5->SortSt->Prop}(hk:kindOf st=kd)(hS:∀x∈(arrOf st).m,S x)(hn:lo+WK<=(arrOf st).o)(h1:1<=n)(hnn:n<=WK)(hs:Vb O key (arrOf st) lo n)
  (h:∀m VA XT,Stp lo st XT->n<=m->m<=WK->Vb O key (arrOf XT) lo m->VA+1<=m->(∀i,lo+m-(VA+1)<=i->i<lo+m->ke key (arrOf XT) i=ke key (arrOf XT) (lo+m-1))->Q (none,m,VA) XT):wpS M A E s (Kf lo n WK) Q st:=by
 unfold Kf;show Vu (I:=λx c XT=>∃VA,c=(none,x,VA)/\Stp lo st XT/\Vb O key (arrOf XT) lo x/\VA+1<=x/\(∀i,lo+x-(VA+1)<=i->i<lo+x->ke key (arrOf XT) i=ke key (arrOf XT) (lo+x-1))) ?_ ?_ {0,Z,Stp.refl _ _,hs,J,λi h1 h2=>B}
 .rintro x c XT kW hxn ⟨VA,rfl,Wo,VF,hq,he⟩;let VX:=Wo.1.l hk
  let SE:=Wo.all hS;let hz:=Wo.o
  show Yv (Oo L VX SE J J ?_);dsimp only;cases e:O.blt (ke key (arrOf XT)<|lo+x) (ke key (arrOf XT)<|lo+x-1) with
  |true=>
   let non:∀ar,(∀k,k<=lo+x->ke key ar k=ke key (arrOf XT) k)->Vb O key ar lo (x+1):=λar hke i j WH hj=>by
    rw[hke _ J,hke _ J];cases Ap:j<x
    .show VF i j WH Ap
    .let Tn:j=x:=J;subst Tn;cases Wu:i=j
     .subst Wu;show Tx _
     .have:=VF i (j-1) J J
      rw[show lo+(j-1)=lo+j-1 by lia]at this;show NB (Fh e) this
   cases c:VA>0
   .rw[Yk c];show Yv (Kg<|YT ⟨0,Z,Wo.l<|Stp.mirror J J,?_,J,λi h1 h2=>B⟩);show non _ λk hk=>ZL J he k
   .rw[Yj c];show YT {0,Z,Wo,non _ λ_ _=>rfl,J,λi h1 h2=>B}
  |false=>
   show Yv (Oo L VX SE J J ?_);dsimp only;cases e2:O.blt (ke key (arrOf XT)<|lo+x-1) (ke key (arrOf XT)<|lo+x) with
   |true=>
    show YT (h x VA XT Wo kW J VF hq he)
   |false=>
    let eq:ke key (arrOf XT) (lo+x-1)=ke key (arrOf XT) (lo+x):=O.total _ _ e2 e;show YT {VA+1,Z,Wo,λi j WH hj=>?_,J,λi h1 h2=>?_}
    .cases Ap:j<x
     .show VF i j WH Ap
     .let Tn:j=x:=pB;subst Tn;cases Wu:i=j
      .subst Wu;show Tx _
      .have:=VF i (j-1) J J
       grind
    grind
 .rintro c XT ⟨VA,rfl,Wo,VF,hq,he⟩;rw[show max n WK=WK by lia]at *;show h WK VA XT Wo hnn (XI _) VF hq he
def kU(L:UG M A E s O key kd S){st:SortSt}{lo WK:A5}{Q:Option A5->SortSt->Prop}(hk:kindOf st=kd)(hS:∀x∈(arrOf st).m,S x)(hn:lo+WK<=(arrOf st).o)(h1:1<=WK)
  (h:∀m XT,Stp lo st XT->1<=m->m<=WK->VB O key (arrOf XT) lo m->Q ⇑m XT):wpS M A E s (countRun' lo WK) Q st:=by
 let one:VB O key (arrOf st) lo 1:=λi j WH hj=>by
  have:i=j:=J
  subst this;show Tx _
 show Yv (Aq L hk hS hn (XI _) h1 one λn Ke PD hs hx=>?_);dsimp only;cases c1:n=WK
 .rw[Yk (by ext)];show YT (h n st (Stp.refl _ _) Ke PD hs)
 rw[Yj (by simpa using c1)];let Xu:O.klt (ke key (arrOf st)<|lo+n) (ke key (arrOf st)<|lo+n-1):=hx.resolve_left c1
 cases c2:n>1
 .rw[Yk c2];show Yv (Oo L hk hS J J ?_);cases e:O.blt (ke key (arrOf st) lo) (ke key (arrOf st)<|lo+n-1) with
  |true=>
   show YT (h n st (Stp.refl _ _) Ke PD hs)
  |false=>
   show Yv (Kg ?_);let t1:Stp lo st (setArr st<|mirror (arrOf st) lo (lo+n)<|(lo+n-lo)/2):=Stp.mirror (XI _) J
   let eqs:∀k,lo<=k->k<lo+n->ke key (arrOf st) k=ke key (arrOf st) (lo+n-1):=λk k1 k2=>by
    let a1:=hs (k-lo) (n-1) B J;let a2:=hs 0 (k-lo) (by ext) B
    rw[show lo+(k-lo)=k by ext,show lo+(n-1)=lo+n-1 by lia]at a1;rw[show lo+(k-lo)=k by lia,Nat.add_zero]at a2;show KeyOrd.kle_antisymm a1 (NB e a2)
   let RF:Vb O key (mirror (arrOf st) lo (lo+n)<|(lo+n-lo)/2) lo (n+1):=λi j WH hj=>by
    rw[ZL J eqs,ZL J eqs];cases hjn:j<n
    .rw[eqs (lo+i) J J,eqs (lo+j) J (by ext)];show Tx _
    .let Tn:j=n:=J;subst Tn;cases Wu:i=j
     .subst Wu;show Tx _
     .rw[eqs (lo+i) J J];show Fh Xu
   obtain⟨UX,e1⟩:∃UX,UX=setArr st (mirror (arrOf st) lo (lo+n)<|(lo+n-lo)/2):={_,Z};let RF:Vb O key (arrOf UX) lo (n+1):=by rwa[e1]
   rw[<-e1]at t1 ⊢;show Yv (wpS_lift<|PM ⟨Z,?_⟩);show Yv (ZB5 L (t1.1.l hk) (t1.all hS) (by have:=t1.o;ext) (by ext) J RF λm VA WN kT Pn WG Om kR heq=>?_);dsimp only;let t2:=t1.l kT
   cases c3:VA>0
   .rw[Yk c3];show Yv (Kg ?_);let t3:Stp lo st (setArr WN<|mirror (arrOf WN) (lo+m-(VA+1)) (lo+m)<|(lo+m-(lo+m-(VA+1)))/2):=t2.l (Stp.mirror J (by have:=t2.o;lia))
    let Vo:Vb O key (mirror (arrOf WN) (lo+m-(VA+1)) (lo+m)<|(lo+m-(lo+m-(VA+1)))/2) lo m:=λi j WH hj=>by rw[ZL (by have:=t2.o;lia) heq,ZL (by have:=t2.o;lia) heq];show Om i j WH hj
    obtain⟨VU,e3⟩:∃VU,VU=setArr WN (mirror (arrOf WN) (lo+m-(VA+1)) (lo+m)<|(lo+m-(lo+m-(VA+1)))/2):={_,Z};let Vo:Vb O key (arrOf VU) lo m:=by rwa[e3]
    rw[<-e3]at t3 ⊢;show Yv (Kg ?_);let t4:Stp lo st (setArr VU<|mirror (arrOf VU) lo (lo+m)<|(lo+m-lo)/2):=t3.l (Stp.mirror (XI _) (by have:=t3.o;lia))
    show Yv (Aq L (t4.1.l hk) (t4.all hS) (by have:=t4.o;lia) J WG ?_ λq kQ Sh Ol _=>?_)
    .intro i j WH hj;rw[Mf (by have:=t3.o;lia),Mf (by have:=t3.o;lia),Yk J,Yk (by ext),show lo+(lo+m)-1-(lo+i)=lo+(m-1-i) by lia,show lo+(lo+m)-1-(lo+j)=lo+(m-1-j) by lia];show Vo _ _ B B
    .show YT (h q _ t4 J Sh Ol)
   .rw[Yj c3];let t3:=t2
    let Vo:=Om;obtain⟨VU,e3⟩:∃VU,VU=WN:={_,Z};rw[<-e3]at t3 Vo ⊢;show Yv (Kg ?_);let t4:Stp lo st (setArr VU<|mirror (arrOf VU) lo (lo+m)<|(lo+m-lo)/2):=t3.l (Stp.mirror (XI _) (by have:=t3.o;lia))
    show Yv (Aq L (t4.1.l hk) (t4.all hS) (by have:=t4.o;lia) J WG ?_ λq kQ Sh Ol _=>?_)
    .intro i j WH hj;rw[Mf (by have:=t3.o;lia),Mf (by have:=t3.o;lia),Yk J,Yk J,show lo+(lo+m)-1-(lo+i)=lo+(m-1-i) by lia,show lo+(lo+m)-1-(lo+j)=lo+(m-1-j) by lia];show Vo _ _ J B
    .show YT (h q _ t4 J Sh Ol)
 .rw[Yj c2];let t1:=Stp.refl lo st
  let RF:Vb O key (arrOf st) lo (n+1):=λi j WH hj=>by
   cases Wu:i=j
   .subst Wu;show Tx _
   .let h3:i=0:=J;let h4:j=n:=J
    subst h3 h4;rw[show lo+0=lo+j-1 by lia];show Fh Xu
  obtain⟨UX,e1⟩:∃UX,UX=st:={_,Z};let RF:Vb O key (arrOf UX) lo (n+1):=by rwa[e1]
  let t1:Stp lo st UX:=by rwa[e1]
  rw[<-e1];show Yv (wpS_lift<|PM ⟨Z,?_⟩);show Yv (ZB5 L (t1.1.l hk) (t1.all hS) (by ext) J J RF λm VA WN kT Pn WG Om kR heq=>?_);dsimp only;let t2:=t1.l kT
  cases c3:VA>0
  .rw[Yk c3];show Yv (Kg ?_);let t3:Stp lo st (setArr WN<|mirror (arrOf WN) (lo+m-(VA+1)) (lo+m)<|(lo+m-(lo+m-(VA+1)))/2):=t2.l (Stp.mirror J (by have:=t2.o;lia))
   let Vo:Vb O key (mirror (arrOf WN) (lo+m-(VA+1)) (lo+m)<|(lo+m-(lo+m-(VA+1)))/2) lo m:=λi j WH hj=>by rw[ZL (by have:=t2.o;lia) heq,ZL (by have:=t2.o;lia) heq];show Om i j WH hj
   obtain⟨VU,e3⟩:∃VU,VU=setArr WN (mirror (arrOf WN) (lo+m-(VA+1)) (lo+m)<|(lo+m-(lo+m-(VA+1)))/2):={_,Z};let Vo:Vb O key (arrOf VU) lo m:=by rwa[e3]
   rw[<-e3]at t3 ⊢;show Yv (Kg ?_);let t4:Stp lo st (setArr VU<|mirror (arrOf VU) lo (lo+m)<|(lo+m-lo)/2):=t3.l (Stp.mirror (XI _) (by have:=t3.o;lia))
   show Yv (Aq L (t4.1.l hk) (t4.all hS) (by have:=t4.o;lia) J WG ?_ λq kQ Sh Ol _=>?_)
   .intro i j WH hj;rw[Mf (by have:=t3.o;lia),Mf (by have:=t3.o;lia),Yk J,Yk J,show lo+(lo+m)-1-(lo+i)=lo+(m-1-i) by grind,show lo+(lo+m)-1-(lo+j)=lo+(m-1-j) by grind];show Vo _ _ J B
   .show YT (h q _ t4 J Sh Ol)
  .rw[Yj c3];let t3:=t2
   let Vo:=Om;obtain⟨VU,e3⟩:∃VU,VU=WN:={_,Z};rw[<-e3]at t3 Vo ⊢;show Yv (Kg ?_);let t4:Stp lo st (setArr VU<|mirror (arrOf VU) lo (lo+m)<|(lo+m-lo)/2):=t3.l (Stp.mirror (XI _) (by have:=t3.o;lia))
   show Yv (Aq L (t4.1.l hk) (t4.all hS) (by have:=t4.o;lia) J WG ?_ λq kQ Sh Ol _=>?_)
   .intro i j WH hj;rw[Mf (by have:=t3.o;lia),Mf (by have:=t3.o;lia),Yk J,Yk J,show lo+(lo+m)-1-(lo+i)=lo+(m-1-i) by grind,show lo+(lo+m)-1-(lo+j)=lo+(m-1-j) by grind];show Vo _ _ J B
   .show YT (h q _ t4 J Sh Ol)
def ZD6(L:UG M A E s O key kd S){st:SortSt}{lo n ok:A5}{Q:B2->SortSt->Prop}(hk:kindOf st=kd)(hS:∀x∈(arrOf st).m,S x)(hn:lo+n<=(arrOf st).o)(hok:ok<=n)(hs:VB O key (arrOf st) lo ok)
  (h:∀XT,Stp lo st XT->VB O key (arrOf XT) lo n->Q true XT):wpS M A E s (binarySort' lo n ok) Q st:=by
 rw[binarySort'_eq];show Yv (RT (Vu (I:=λk c XT=>c=(none,())/\Stp lo st XT/\VB O key (arrOf XT) lo (min k n))
  (Q:=λc XT=>c=(none,())/\Stp lo st XT/\VB O key (arrOf XT) lo n) ?_ ?_ ?_) ?_)
 .rintro k c XT Nn kP ⟨rfl,Wo,VF⟩;rw[show min k n=k by lia]at VF;let hz:=Wo.o
  let VX:=Wo.1.l hk;let SE:=Wo.all hS
  show Yv (RT (Vu (I:=λx c Ti=>Ti=XT/\∃l r,c=(none,l,r)/\l<=r/\r<=k/\r-l<=k-x/\
    (∀i,i<l->O.kle (ke key (arrOf XT)<|lo+i) (ke key (arrOf XT)<|lo+k))/\(∀i,r<=i->i<k->O.klt (ke key (arrOf XT)<|lo+k) (ke key (arrOf XT)<|lo+i)))
   (Q:=λc Ti=>Ti=XT/\∃l r,c=(none,l,r)/\l<=k/\
    (∀i,i<l->O.kle (ke key (arrOf XT)<|lo+i) (ke key (arrOf XT)<|lo+k))/\(∀i,l<=i->i<k->O.klt (ke key (arrOf XT)<|lo+k) (ke key (arrOf XT)<|lo+i))) ?_ ?_ {Z,0,k,Z,J,by ext,by ext,λi hi=>by ext,λi h1 h2=>J}) ?_)
  .rintro x c Ti _ hxk ⟨rfl,l,r,rfl,hlr,kO,hm,Px,Kd⟩;cases Sg:l >= r
   .rw[Yk Sg]
    have:l=r:=J
    subst this;show YT ⟨Z,l,l,Z,kO,Px,Kd⟩
   .rw[Yj Sg];show Yv (Oo L VX SE J J ?_);dsimp only;cases Kc:O.blt (ke key (arrOf Ti)<|lo+k) (ke key (arrOf Ti)<|lo+(l+r)/2) with
    |true=>
     show YT {Z,l,(l+r)/2,Z,J,J,B,Px,λi h1 h2=>?_};show KeyOrd.klt_of_klt_of_kle Kc (VF _ _ h1 h2)
    |false=>
     show YT {Z,(l+r)/2+1,r,Z,J,by ext,B,λi h1=>?_,Kd};show NB (VF i ((l+r)/2) J J) (show O.kle _ _ from Kc)
  .rintro c Ti ⟨rfl,l,r,rfl,hlr,kO,hm,Px,Kd⟩
   have:l=r:=B
   subst this;exists Z,l,l,Z,kO,Px,Kd
  .rintro c Ti ⟨rfl,l,r,rfl,hlk,Px,Kd⟩;dsimp only;rw[moveDown'_eq];show Yv (KW<|YT ⟨Z,Wo.l (Stp.bubble J (by ext) J),?_⟩);rw[show min (k+1) n=k+1 by lia];let hks:lo+k<(arrOf Ti).o:=pB
   intro i j WH hj;rw[Ar hks B,Ar hks B,show lo+k-(lo+k-(lo+l))=lo+l by grind];let Ao:∀i,l<i->lo+i-1=lo+(i-1):=λi hi=>J
   repeat' split
   all_goals first
    | (exfalso;lia)
    |show Tx _
    |show Px _ J
    |show VF _ _ pB J
    | (rw[Ao j (by ext)];show Fh<|Kd _ J J)
    | (rw[Ao j (by ext)];show VF _ _ J J)
    | (rw[Ao i B,Ao j (by ext)];show VF _ _ J J)
    | (rw[Ao i pB];show VF _ _ pB pB)
 .grind
 .exists Z,Stp.refl _ _,λi j WH hj=>?_;cases h1:ok=0
  .have:i=j:=J
   subst this;show Tx _
  .show hs i j WH J
 .rintro c XT ⟨rfl,Wo,VF⟩;show YT (h XT Wo VF)
def An:(A6 (A6 Keyed)->A5->A6 (A5×A5))
 |[],_=>[]
 |g::gs,o=>(o,g.f)::An gs (o+g.f)
structure PI(O:KeyOrd)(key:Keyed->O.α)(kd:SortKind)(a₀:B3 Keyed)(st:SortSt)(HG:A6 (A6 Keyed))(rest:A6 Keyed):Prop where
 kind:kindOf st=kd
 fail:failedOf st=A8
 perm:(arrOf st).Perm a₀
 arr:(arrOf st).m=HG.flatten++rest
 Am:∀g∈HG,1<=g.f/\g.U (RK O key)
 pend:(pendingOf st).m.Q (λp=>(p.1,p.2.1))=An HG 0
def HF{arr:B3 Keyed}{lo n:A5}(h:VB O key arr lo n):((arr.m.drop lo).R n).U (RK O key):=by
 rw[YQ];intro i j hi hj WH;rw[Yx,Jq]at hi hj;let a1:arr[lo+i]?=⇑((arr.m.drop lo).R n)[i]:=by rw[<-YO];simp
 let a2:arr[lo+j]?=⇑((arr.m.drop lo).R n)[j]:=by rw[<-YO];simp
 have:=h i j J B
 rwa[VY a1,VY a2]at this
end
end PyProof.Rows
namespace L2
open PySem PySem.Spec PyProof.Rows
section
def kN{α:Type}{R:α->α->Prop}:∀{l:A6 α},l.f<2->l.U R
 |[],_=>List.U.nil
 |[_],_=>UQ ..
 |_::_::_,h=>absurd h AP
def sameBut(a:A7)(h h':Heap):(Prop):=∀b o,b≠a->h.G b=⇑o->h'.G b=⇑o
def Me:(KeyOrd) where
 α:=Ac
 blt:=HT.lexLt
 irrefl:=My.Xm
 trans a b c:=My.WL
 negTrans a b c h:=by
  cases e:HT.lexLt a b with
  |true=>show .inl rfl
  |false=>
   show .inr ?_;cases e2:HT.lexLt b a with
   |true=>show My.WL e2 h
   |false=>
    have:=My.Tj e e2
    lia
 total a b h1 h2:=My.Tj h1 h2
end
end L2
namespace L2
open PySem PySem.Spec PyProof.Rows My
def TQ:∀{vs:Ag}{ns ms:Ac},IntsAre vs ns->IntsAre vs ms->ns=ms
 |_,_,_,.nil,.nil=>rfl
 |_,_,_,.cons n t h,.cons _ _ k=>by rw[TQ h k]
end L2
namespace My
open PySem L2
abbrev Ub(a b:Ac):Prop:=HT.lexLt a b=A9
def Al:∀p a b,HT.lexLt (p++a) (p++b)=HT.lexLt a b
 |[],a,b=>rfl
 |x::p,a,b=>by rw[Jo,Jo,HT.Xz,Yk Z,Al p]
def Ak:∀{s t:Ac}(a b:Ac),s.f=t.f->HT.lexLt s t=A9->HT.lexLt (s++a) (t++b)=A9
 |[],[],a,b,_,h=>by cases h
 |[],_::_,a,b,e,_=>by simp at e
 |_::_,[],a,b,e,_=>by simp at e
 |x::s,y::t,a,b,e,h=>by
  rw[HT.Xz]at h;rw[Jo,Jo,HT.Xz];split
  .rename_i q;rw[Yk q]at h;show Ak a b (by simpa using e) h
  ext
def Aj(h:Ub a b):a≠b:=λe=>by have:=Xm a;lia
def ZB9(h:Ub a b)(k:Ub b a):False:=Aj (WL h k) rfl
def Zq4{a:Ab}(h:a.U Ub):a.Nodup:=h.imp λh=>Aj h
def kM(m:A0):∀k,∀l∈Uc m k,l.f=k
 |0,l,h=>by rw[Xn.Y h];rfl
 |k+1,l,h=>by let(s,hs,hl):=List.mem_flatMap.Y h;let(t,_,_,rfl):=Wg.Y hl;rw[Ya,kM m k s hs];rfl
def kL(m:A0):∀k,(Uc m k).U Ub
 |0=>UQ ..
 |k+1=>by
  change((Uc m k).flatMap (VC m)).U Ub;rw[List.pairwise_flatMap];exists λs _=>?_,Y3C (λ{s t} hs ht Wo=>?_)<|kL m k
  .unfold VC;rw[Na];show DB.imp λ{i j} WH=>?_;change HT.lexLt _ _=A9
   rw[Al,HT.Xz,Yj J]
   ext
  .intro x hx y hy;let(u,_,_,rfl):=Wg.Y hx;let(v,_,_,rfl):=Wg.Y hy;show Ak _ _ (by rw[kM m k s hs,kM m k t ht]) Wo
def Hz{α:Type}[DecidableEq α]:∀{l m:A6 α},l.Nodup->(∀x∈l,x∈m)->l.f<=m.f
 |[],m,_,_=>XC _
 |x::l,m,h,hs=>by
  let(h1,h2):=Rp.Y h
  have:=Hz (l:=l) (m:=m.erase x) h2 λy hy=>(List.mem_erase_of_ne λ(e:y=x)=>h1<|e▸hy).X (hs y<|Yn _ hy)
  grind
def ZP5(g:Zz n ps)(hT:Zj n ps T)(z0:0<=z)(z1:z<ps⁻¹):Conn (XO ps (HQ n ps T z T)) (ZK ps z).1 (ZK ps z).2:=by
 let he:=SY (z:=z) g z0 z1;let key:∀tB:Ac,(∀o∈tB,o∈T/\z∉RH n ps T o)->Conn (XO ps<|T.filter λy=>decide<|y∉tB) (ZK ps z).1 (ZK ps z).2:=by
  intro tB
  induction tB with
  |nil=>
   intro _;let e:(T.filter λy=>decide<|y∉([]:Ac))=T:=MP.X λy _=>AP
   rw[e];show hT.2.2 _ _ he.1 he.2
  |cons o tB ih=>
   intro hD;let c:=ih λy hy=>hD y (Yn _ hy)
   let(kK,pd):=hD o Yi;cases hoD:o∈tB
   .grind
   .show Yr λUe=>?_;let Qy:∀y,y∈(T.filter λy=>decide<|y∉o::tB)->y∈wo T o:=λy hy=>by
     let(h1,h2):=Yq.Y hy;let h2:=YJ h2
     show WZ.X {h1,λe=>h2 B}
    let c2:Conn (XO ps<|(T.filter λy=>decide<|y∉o::tB)++[o]) (ZK ps z).1 (ZK ps z).2:=(Mm λy=>by
     grind).Y c
    let hall:∀y∈(T.filter λy=>decide<|y∉o::tB),0<=y/\y<ps⁻¹:=λy hy=>hT.1.all y (Yq.Y hy).1;let(o0,o1):=hT.1.all o kK;let VP:InN n.j (XO ps<|T.filter λy=>decide<|y∉o::tB):=ZY g hall
    let kJ:InN n.j (XO ps<|(T.filter λy=>decide<|y∉o::tB)++[o]):=ZY g λy hy=>by
     rcases Xi.Y hy with h|h
     .show hall y h
     .rw[Xn.Y h];exists o0,o1
    let EE:=SY (z:=o) g o0 o1;let hl:=ZC n.j (XO ps<|T.filter λy=>decide<|y∉o::tB)
    let own:¬Conn (XO ps<|wo T o) (ZK ps o).1 (ZK ps o).2:=(Ou g hT o0 o1).Y ((sN g hT kK kK).X Z);let cw:Conn (XO ps<|wo T o) (ZK ps z).1 (ZK ps z).2:=Yr λh=>pd ((Ou g hT z0 z1).X h)
    let up:∀{i j:A5},i<n.j->j<n.j->mk (Xa n.j<|XO ps<|T.filter λy=>decide<|y∉o::tB) i=mk (Xa n.j<|XO ps<|T.filter λy=>decide<|y∉o::tB) j->Conn (XO ps<|wo T o) i j:=λhi hj e=>((Wh VP hi hj).Y e).mono (ZG Qy);let m:=(Wh kJ he.1 he.2).X c2
    rw[Kp,Nr,Bh (by ext) (by ext)]at m;rcases m with m|⟨m1,m2⟩
    .show Ue ((Wh VP he.1 he.2).Y m)
    .rcases m1 with m1|m1<;>rcases m2 with m2|m2
     .show Ue ((Wh VP he.1 he.2).Y (m1.l m2.symm))
     .show own (((up he.1 EE.1 m1).symm.l cw).l (up he.2 EE.2 m2))
     .show own (((up he.2 EE.1 m2).symm.l cw.symm).l (up he.1 EE.2 m1))
     .show Ue ((Wh VP he.1 he.2).Y (m1.l m2.symm))
 let c:=key (T.filter λy=>decide<|z∉RH n ps T y) λo ho=>by
  ext
 show c.mono (ZG λy hy=>?_);let(h1,h2):=Yq.Y hy;let h2:=YJ h2
 show Vp.X {h1,Yr λh=>h2<|Yq.X {h1,YU h}}
def sH{a b:Ac}(ha:a.U (·<·))(hb:b.U (·<·))(h:∀z,z∈a↔z∈b):a=b:=
 (AK ha hb λz hz=>(h z).Y hz).eq_of_length (pV (AK ha hb λz hz=>(h z).Y hz).length_le (AK hb ha λz hz=>(h z).X hz).length_le)
def Oj{i:A0}(h0:0<=i):Xl xs ⇑i none=xs.drop i.j:=by
 let e:HT.Uy xs.f 0 ⇑i=min i.j xs.f:=by change(if i<0 then (i+xs⁻¹).j else min i.j xs.f)=_;rw[Yj (by ext)]
 unfold Xl;rw[e,HT.VI,YG (by ext)]
 ext
def cutz{α:Type}(l:A6 α)(z:A0):(A6 α):=l.R z.j++l.drop (z.j+1)
def kI{z:A0}(h0:0<=z):Xl xs none ⇑z++Xl xs ⇑(z+1) none=cutz xs z:=by rw[lF h0,Oj J,show(z+1).j=z.j+1 by lia];rfl
def kH{α:Type}(l:A6 α)(z:A0):(cutz l z).f<=l.f:=by unfold cutz;rw[Ya,Yx,Jq];grind
def dn(lo hi i:A0):(A0):=if i=hi then lo else if i<hi then i else i-1
def kG{n i:A5}(h:i<n):(Wx n)[i]?=⇑(i:A0):=by
 unfold Wx
 ext
def kF(i:A5):Wx (i+1)=Wx i++[(i:A0)]:=by unfold Wx;rw[NC,Yz];rfl
end My
namespace L2
open PySem PySem.Spec PyProof.Rows
section
variable{X:Cx}
def kE(K:Ad):(R2):=λx y H Q=>∃k p xs i v,x=.ref p/\y=.int i/\My.SqK k K H p xs/\VQ xs i=⇑v/\Q v H
def Ai(K:Ad)(h:X.K=K:=by rfl):IA X (kE K):=by
 intro value slice pins s σ H x y v u Q I rx ry h1 hs;let(k,p,xs,i,z,e1,e2,hq,he,q):=h1;cases k with
 |false=>show Zg K h value slice pins s σ H x y v u Q I rx ry ⟨p,xs,i,z,e1,e2,hq,he,q⟩ hs
 |true=>show ZA K h value slice pins s σ H x y v u Q I rx ry ⟨p,xs,i,z,e1,e2,hq,he,q⟩ hs
end
def Rc{N a b:St->Hp->Prop}{r:VK}{σ:St}{H:Hp}(h:N σ H):Ends.nx {nx:=N,rt:=r,bk:=a,ct:=b} σ H:=h
end L2
namespace My
def Ah{α:Type}{l:A6 α}(h:l.f=1):∃a,l=[a]:=by
 cases l with
 |nil=>cases h
 |cons a l=>cases l with
  |nil=>exists a,Z
  |cons b l=>simp at h
def z9{α:Type}{l:A6 α}(h:l.f=2):∃a b,l=[a,b]:=by
 cases l with
 |nil=>cases h
 |cons a l=>
  let(b,rfl):=Ah (MV h);exists a,b,Z
def z8{α:Type}{l:A6 α}(h:l.f=3):∃a b c,l=[a,b,c]:=by
 cases l with
 |nil=>cases h
 |cons a l=>
  let(b,c,rfl):=z9 (MV h);exists a,b,c,Z
def z7{α:Type}{l:A6 α}(h:l.f=4):∃a b c d,l=[a,b,c,d]:=by
 cases l with
 |nil=>cases h
 |cons a l=>
  let(b,c,d,rfl):=z8 (MV h);exists a,b,c,d,Z
end My
namespace My
open PySem L2
def Conn.lift(h:∀e∈es,Conn fs e.1 e.2)(c:Conn es i j):Conn fs i j:=by
 induction c with
 |refl i=>show .refl i
 |edge e=>show h _ e
 |symm _ ih=>show ih.symm
 |trans _ _ Kb Pm=>show Kb.l Pm
def Zl4(g:Zz n ps)(hT:Zj n ps T)(hW:Zj n ps W)(hz:z∈T)(sG:z∉W):∃y,exg n ps T z y/\exg n ps W y z:=by
 let(z0,z1):=hT.1.all z hz;show Yr λUe=>?_;show(Ou g hT z0 z1).Y ((sN g hT hz hz).X Z) ((ZP5 g hW z0 z1).lift λe he=>?_);let(y,hy,rfl):=Yp.Y he;let(Hy,hyc):=Vp.Y hy;let(y0,y1):=hW.1.all y Hy;let hyz:y≠z:=λe=>sG (e▸Hy)
 have:=(Ou (o:=z) g hT y0 y1)
 show Yr λh=>Ue {y,{hz,hyz,this.X h},{Hy,YX hyz,hyc}}
def z6(g:Zz n ps)(hD:IsSet ps.f tB)(hc:∀i j,i<n.j->j<n.j->Conn (XO ps tB) i j):∃T,Zj n ps T/\∀y∈T,y∈tB:=by
 let hs:=AI n.j ps tB;let hall:=hD.all
 let hG:=HN g hall;let CG:∀i j,i<n.j->j<n.j->Conn (XO ps<|Xb n.j ps tB) i j:=λi j hi hj=>Zc8 g tB hall (hc i j hi hj)
 let h1:=(Pr (by have:=g.1;lia) hG).X CG;let h2:=AF g tB hall
 exists Xb n.j ps tB,{XY.X {λz hz=>hall z<|hs.subset hz,(XY.Y hD).2.sublist hs},J,CG},λy hy=>hs.subset hy
def kD(l:Ac):∃m:Ac,m.Perm l/\m.U (·<=·):=by
 induction l with
 |nil=>ext
 |cons x l ih=>
  let(m,h1,h2):=ih;let key:∀m:Ac,m.U (·<=·)->∃k:Ac,k.Perm (x::m)/\k.U (·<=·):=by
   intro m
   induction m with
   |nil=>ext
   |cons y m Pm=>
    intro hp;let(hy,hm):=PX.Y hp;cases Ko:x<=y
    .exists x::y::m,.refl _,PX.X {λz hz=>?_,hp};grind
    .let⟨k,k1,k2⟩:=Pm hm;exists y::k,(k1.cons y).l (List.Perm.swap x y m),PX.X {λz hz=>?_,k2};grind
  let(k,k1,k2):=key m h2;exists k,k1.l<|h1.cons x,k2
def z5(s:SameP M N):cnt M=cnt N:=by
 unfold cnt Ud;rw[<-s.1];show YF List.f (Jf λp hp=>?_);let hp:=YR.Y hp
 rw[OX,XB,XB];constructor
 .intro h i hi e;show h i hi ((s.2 i p J hp).X e)
 .intro h i hi e;show h i hi ((s.2 i p J hp).Y e)
def Zy4(g:Zz n ps)(hU:Zj n ps U):∀V:Ac,V.Nodup->(∀z∈V,z∈U)->Xb n.j ps V=V:=by
 show Nq (λ_ _=>rfl) λV z ih hn hs=>?_;let Fc:=Pb.Y hn
 let hV:∀y∈V,y∈U:=λy hy=>hs y (Yy _ hy);let hz:z∈U:=hs z (Yc _<|Xn.X Z)
 let hzV:z∉V:=λh=>Fc.2.2 z h z (Xn.X Z) rfl;let(z0,z1):=hU.1.all z hz;let he:=SY (z:=z) g z0 z1
 rw[Mi,ih Fc.1 hV];unfold QB;rw[Yj];intro e;let c:=(Wh (ZY g λy hy=>hU.1.all y<|hV y hy) he.1 he.2).Y e
 show(Ou g hU z0 z1).Y ((sN g hU hz hz).X Z) (c.mono<|ZG λy hy=>WZ.X {hV y hy,λe'=>hzV<|by ext})
def kC{as bs:Ac}(g:Zz n ps)(h:∀y∈as,0<=y/\y<ps⁻¹)(z0:0<=z)(z1:z<ps⁻¹)(hz:z∉Xb n.j ps (as++z::bs)):Conn (XO ps (Xb n.j ps as)) (ZK ps z).1 (ZK ps z).2:=by
 let(us,e,_):=Mh n.j ps (as++[z]) bs;rw[QP]at e;let e:Xb n.j ps (as++z::bs)=Xb n.j ps (as++[z])++us:=e
 rw[e,Mi]at hz;let he:=SY (z:=z) g z0 z1
 show(Wh (HN g h) he.1 he.2).Y (Yr λXH=>hz ?_);unfold QB;grind
def kB{as bs:Ac}{y:A0}(h:y∈Xb n ps as):y∈Xb n ps (as++bs):=by
 let(us,e,_):=Mh n ps as bs
 ext
def Fr(n:A5)(ps:Aa)(l:Ac):(B2):=decide (Xb n ps l=l)
def UD(n:A5)(ps:Aa)(k:A5):(Ab):=(Uc ps⁻¹ k).filter (Fr n ps)
def ku(g:Zz n ps):l∈UD n.j ps (n-1).j↔Zj n ps l:=by
 unfold UD;rw[Yq,WY];let g1:=g.1
 constructor
 .rintro⟨⟨h1,h2⟩,h3⟩;let e:Xb n.j ps l=l:=YJ h3
  let c:=AF g l h2.all;exists h2,J,(Pr B<|ZY g h2.all).Y B
 .intro h;exists {by have:=h.2.1;lia,h.1},YU<|Zy4 g h l h.1.nodup λz hz=>hz
def Zi7(hT:Zj n ps T):T.U (·<·):=(XY.Y hT.1).2
def VT{a:Ac}(h:a.U (·<=·))(hn:a.Nodup):a.U (·<·):=(h.and hn).imp λh=>J
def kr(g:Zz n ps):∀zs:Ac,(∀z∈zs,0<=z/\z<ps⁻¹)->(Xb n.j ps zs).Nodup:=by
 show Nq (λ_=>List.U.nil) λzs z ih hb=>?_;let Uz:∀y∈zs,0<=y/\y<ps⁻¹:=λy hy=>hb y (Yy _ hy)
 let(z0,z1):=hb z (Yc _<|Xn.X Z);let he:=SY (z:=z) g z0 z1
 rw[Mi];unfold QB;split
 .show ih Uz
 .next XH=>
  show Pb.X {ih Uz,AP,λa ha b kq e=>?_};rw[Xn.Y kq]at e;subst e;show XH ((Wh (HN g Uz) he.1 he.2).X (.edge ?_));show Yp.X ⟨a,ha,Z⟩
def ZS6(g:Zz n ps)(hb:∀z∈zs,0<=z/\z<ps⁻¹)(hl:¬((Xb n.j ps zs).f:A0)<n-1)(Pq:ms.Perm (Xb n.j ps zs))(AO:ms.U (·<=·)):Zj n ps ms:=by
 let g1:=g.1;let h2:=AF g zs hb
 let h3:=sP (M:=Xa n.j<|XO ps<|Xb n.j ps zs) (by rw[ZC];grind);let Oi:=(Pr B<|HN g hb).Y B
 show{XY.X {λz hz=>hb z<|(AI _ _ _).subset (Pq.mem_iff.Y hz),VT AO<|Pq.nodup_iff.X<|kr g zs hb},by rw[Pq.length_eq];grind,λi j hi hj=>?_};show(Mm λy=>Pq.mem_iff).X (Oi i j hi hj)
def ko{I os U:Ac}(g:Zz n ps)(hU:Zj n ps U)(hI:I.Nodup)(hIU:∀z∈I,z∈U)(hUo:∀z∈U,z∈I++os)(hb:∀z∈I++os,0<=z/\z<ps⁻¹):(Xb n.j ps (I++os)).R I.f=I/\¬((Xb n.j ps (I++os)).f:A0)<n-1:=by
 let g1:=g.1;let(us,e,_):=Mh n.j ps I os;rw[Zy4 g hU I hI hIU]at e;show{by ext,?_};let Oi:∀i j,i<n.j->j<n.j->Conn (XO ps<|Xb n.j ps<|I++os) i j:=λi j hi hj=>Zc8 g _ hb ((hU.2.2 i j hi hj).mono (ZG hUo))
 let h1:=(Pr J<|HN g hb).X Oi;let h2:=AF g (I++os) hb
 grind
def Rb(l:Ac)(t:A0):(Ac):=l.filter λz=>decide (z<t)
def US{t z:A0}:z∈Rb l t↔z∈l/\z<t:=by unfold Rb;ext
def ZX7(h:Ub a b):HT.lexLt b a=B0:=by
 cases e:HT.lexLt b a with
 |false=>rfl
 |true=>show(ZB9 h e).elim
def TC(n:A0)(ps:Aa)(c:A5):(Prop):=∃L:Ab,L.Nodup/\(∀l,l∈L↔Zj n ps l)/\L.f=c
def TC.uniq(h1:TC n ps c)(h2:TC n ps d):c=d:=by let(L,a1,a2,rfl):=h1;let(M,b1,b2,rfl):=h2;show((Jv a1 b1).X λl=>by rw[a2,b2]).length_eq
def Oh:IsSet (m+1) (T++[(m:A0)])↔IsSet m T:=by
 constructor
 .intro h;let a:=XY.Y h
  let b:=YI.Y a.2;show XY.X {λz hz=>?_,b.1}
  ext
 .show λh=>h.snoc
def Hx(h:IsSet (m+1) T):IsSet m T\/∃T',T=T'++[(m:A0)]/\IsSet m T':=by
 let a:=XY.Y h;cases hm:(m:A0)∈T
 .let⟨p,r,e⟩:=List.append_of_mem hm;cases r with
  |nil=>show .inr {p,e,Oh.Y<|e▸h}
  |cons y r=>
   let h1:=a.1 y (by rw[e];simp);let h2:=(PX.Y (YI.Y<|e▸a.2).2.1).1 y Yi
   omega
 .show .inl (XY.X {λz hz=>?_,a.2});grind
def Zn6{es:A6 (A5×A5)}{a b i j:A5}(c:Conn (es++[(a,b)]) i j):Conn (es++[(b,a)]) i j:=c.lift λe he=>by
 rcases Xi.Y he with q|q
 .show .edge (Yy _ q)
 .rw[Xn.Y q];show .symm (.edge AP)
def Bears.app{α:Type}[DecidableEq α]{R:V->α->Prop}{xs ys:A6 V}{l m:A6 α}(h:Bears R xs l)(h2:Bears R ys m):Bears R (xs++ys) (l++m):=by
 show{by rw[Ya,Ya,h.1,h2.1],λi a e=>?_};let hl:=h.1
 cases c:i<l.f
 .rw[YB c]at e;let(x,e1,r):=h.2 i a e;grind
 .rw[YE (by ext)]at e;let(x,e1,r):=h2.2 _ a e;exists x,B,r
def PairsV.set(h:PairsV H xs ps)(i:A5)(q:PairV H v p):PairsV H (xs.set i v) (ps.set i p):=by
 show{by rw[uI,uI];show h.1,λj x e=>?_};let hl:=h.1
 cases c:i=j
 .grind
 .rw[Fq,Yj c]at e;let(w,e1,r):=h.2 j x e
  ext
end My
namespace L2
open PySem PySem.Spec PyProof.Rows
def Et(K:Ad)(a b:A7):(It):=
 ⟨λi H=>∃xs ys x y,SqL K H a xs/\SqL K H b ys/\xs[i]?=⇑x/\ys[i]?=⇑y,λi H v H'=>∃T x y,H T=A8/\v=.ref T/\H'=upd H T (.tup [x,y])/\(∀xs,SqL K H a xs->xs[i]?=⇑x)/\∀ys,SqL K H b ys->ys[i]?=⇑y,
  λi H=>∃xs ys,SqL K H a xs/\SqL K H b ys/\(xs.f<=i\/ys.f<=i)⟩
def km{P:Program}{w:World}{K:Ad}{elts:A6 B4}{x1:A5}{pos:Pos}(a b z TI TO i1 i2:A7)(tB:ZipApart z TI TO i1 i2 a b):
  Turn P w K (.Tuple elts x1 pos) (Et K a b) [z,TI,TO,i1,i2] z (λi h=>IsZip h z TI TO .none/\IsPair h TI ↑i1 ↑i2/\(∃c d,IsPair h TO c d)/\h.IsListIter i1 a i/\h.IsListIter i2 b i) where
 mem:=AP
 obj:=λi h st c hc=>by let(hz,Nm,(u,v,Md),(o1,e1,_,d1),(o2,e2,_,d2)):=st;grind
 keep:=λi h h' st k=>by let(hz,Nm,(u,v,Md),h1,h2):=st;exists k z AP _ hz,k TI AP _ Nm,{u,v,k TO AP _ Md},h1.at λo e=>k i1 AP o e,h2.at λo e=>k i2 AP o e
 item:=by
  intro X hP hw hK hc i pins s σ H E I hf st hg;subst hP hw hK;let(xs,ys,x,y,hq,Sh,hx,hy):=hg;let(hz,Nm,(u0,v0,Md),h1,h2):=st;let(XW,rv,p,_):=I.list hq;let(u,hu,ru):=rv.get hx;let(Vs,sF,p2,_):=I.list Sh;let(v,hv,kl):=sF.get hy;let fz:=hf z AP
  let Qx:=hf TO AP;let Qw:=hf i1 AP
  let Qu:=hf i2 AP;let Bs:H (~~~s)=A8:=I.hok.fresh (XI _)
  show wpAny_pyNext_zip_item tB hz Nm Md h1 h2 p.isList p2.isList (x:=u) (y:=v) (by simpa using hu) (by simpa using hv) λh' a1 a2 a3 a4 a5 hsz hk=>?_;let Rg:∀b ob,s.C.G b=⇑ob->b≠(~~~s):=λb ob z=>Yl (Yh z)
  let SI:∀b ob,H b=⇑ob->b≠(~~~s):=λb ob z=>Yl (I.hok.lt z);let nof:∀c ob,H c=⇑ob->c≠z/\c≠TO/\c≠i1/\c≠i2:=λc ob q=>{λe=>(by rw[e,fz.1]at q;cases q),λe=>(by rw[e,Qx.1]at q;cases q),λe=>(by rw[e,Qw.1]at q;cases q),λe=>(by rw[e,Qu.1]at q;cases q)}
  let Ka:∀c o,c∉[z,TO,i1,i2]->s.C.G c=⇑o->h'.G c=⇑o:=λc o Wz q=>hk c o (λe=>Wz<|by simp[e]) (λe=>Wz<|by simp[e]) (λe=>Wz<|by simp[e]) (λe=>Wz<|by simp[e]) q;let I1:Inv X pins σ (upd H (~~~s)<|.tup [x,y]) {s with heap:=h'}:=by
   show I.step (g':=s.gens) (d':=s.drawn) (t':=s.toks) (ch:=[z,TO,i1,i2]) (λc hb=>?_) (λc o _ _ Wz q _=>Ka c o Wz q) (λc o _ _ Wz q _=>{o.slots,Ka c o Wz q})
    (λc o _ q n=>by rwa[Za (Rg c o q)]) (λc o Wz q=>{o,Ka c o Wz q}) (λc ys q=>by rwa[Za (SI c _ q)]) (λc o v q=>by rwa[Za (SI c _ q)])
    (λc ps q=>{#[],by rw[Za (SI c _ q),q];simp}) (λm hm=>?_) (λc v' q=>?_) I.bare
   .let VV:c=z\/c=TO\/c=i1\/c=i2:=by simpa using hb
    rcases VV with rfl|rfl|rfl|rfl
    .exists fz.2.2.2.1,fz.2.1,fz.2.2.2.2.1,fz.2.2.2.2.2
    .exists Qx.2.2.2.1,Qx.2.1,Qx.2.2.2.2.1,Qx.2.2.2.2.2
    .exists Qw.2.2.2.1,Qw.2.1,Qw.2.2.2.2.1,Qw.2.2.2.2.2
    .exists Qu.2.2.2.1,Qu.2.1,Qu.2.2.2.2.1,Qu.2.2.2.2.2
   .let⟨o,es,ep,Tb,r⟩:=hm;exists o,es,ep,hk _ o (YX fz.2.1) (YX Qx.2.1) (YX Qw.2.1) (YX Qu.2.1) Tb,r
   .cases hb:c=(~~~s)
    .subst hb;rw[XS]at q;cases q;exists by change 2<=sizeLine;decide,[u,v],.cons ru<|.cons kl .nil,{_,a5,Z,_,Z}
    .rw[Za hb]at q;show(I.hok c v' q).stay (λe w' VV q'=>?_) (λe q=>by rwa[Za (SI e _ q)]) λe ys q=>by rwa[Za (SI e _ q)]
     grind
  exists _,Z,wpAny_letOwnedTupleGo_zip a1 λh2 Po UC=>?_;let fT:z≠(~~~s):=Rg z _ hz
  let I2:Inv X pins σ (upd H (~~~s)<|.tup [x,y]) {s with heap:=h2}:=Inv.turned (s:={s with heap:=h'}) (h':=h2) (t':=s.toks) (it:=z) I1 (λb o hb q=>UC.extBut b o hb q) (by rw[Za fT];show fz.1) fz.2.1 fz.2.2.2.1 fz.2.2.2.2.1 fz.2.2.2.2.2;show⟨.ref (~~~s),_,I2,Z,{_,x,y,Bs,Z,Z,λys kj=>by rw[I.list_inj kj hq];show hx,λys kj=>by rwa[I.list_inj kj Sh]},
   {Po,UC.extBut _ _ tB.TIz (Ka _ _ (by have:=tB.TIz;have:=tB.TITO;have:=tB.TIi1;have:=tB.TIi2;grind) Nm),⟨u,v,UC.extBut _ _ tB.TOz a2⟩,a3.at λo q=>UC.extBut i1 o tB.i1z q,a4.at λo q=>UC.extBut i2 o tB.i2z q},λc hc=>?_⟩
  let VV:c=z\/c=TI\/c=TO\/c=i1\/c=i2:=by simpa using hc
  let hn:=(hf c hc).1;rcases VV with rfl|rfl|rfl|rfl|rfl
  .rw[Za fT];show hn
  .rw[Za (Rg _ _ Nm)];show hn
  .rw[Za (Rg _ _ Md)];show hn
  .let⟨o,eo,_⟩:=h1;rwa[Za (Rg _ o eo)]
  .let⟨o,eo,_⟩:=h2;rwa[Za (Rg _ o eo)]
 done:=by
  intro X hP hw hK hc i pins s σ H E I hf st hg;subst hP hw hK;let(xs,ys,hq,Sh,hend):=hg;let(hz,Nm,(u0,v0,Md),h1,h2):=st;let(XW,rv,p,_):=I.list hq;let(Vs,sF,p2,_):=I.list Sh;let l1:=rv.f
  let l2:=sF.f;let fz:=hf z AP
  let Qx:=hf TO AP;let Qw:=hf i1 AP
  let Qu:=hf i2 AP;show wpAny_pyNext_zip_end (I.ok.hd hc) tB hz Nm Md h1 h2 p.isList p2.isList (by
   ext) λh' hk=>{Z,?_}
  let Ka:∀c o,c∉[z,TO,i1,i2]->s.C.G c=⇑o->h'.G c=⇑o:=λc o Wz q=>hk c o (λe=>Wz<|by simp[e]) (λe=>Wz<|by simp[e]) (λe=>Wz<|by simp[e]) (λe=>Wz<|by simp[e]) q;let nof:∀c ob,H c=⇑ob->c≠z/\c≠TO/\c≠i1/\c≠i2:=λc ob q=>{λe=>(by rw[e,fz.1]at q;cases q),λe=>(by rw[e,Qx.1]at q;cases q),λe=>(by rw[e,Qw.1]at q;cases q),λe=>(by rw[e,Qu.1]at q;cases q)}
  show I.step (g':=s.gens) (d':=s.drawn) (t':=s.toks) (ch:=[z,TO,i1,i2]) (λc hb=>?_) (λc o _ _ Wz q _=>Ka c o Wz q) (λc o _ _ Wz q _=>{o.slots,Ka c o Wz q})
   (λc o _ q n=>n) (λc o Wz q=>{o,Ka c o Wz q}) (λc ys q=>q) (λc o v q=>q)
   (λc ps q=>{#[],by rw[q];simp}) (λm hm=>?_) (λc v' q=>?_) I.bare
  .let VV:c=z\/c=TO\/c=i1\/c=i2:=by simpa using hb
   rcases VV with rfl|rfl|rfl|rfl
   .exists fz.2.2.2.1,fz.2.1,fz.2.2.2.2.1,fz.2.2.2.2.2
   .exists Qx.2.2.2.1,Qx.2.1,Qx.2.2.2.2.1,Qx.2.2.2.2.2
   .exists Qw.2.2.2.1,Qw.2.1,Qw.2.2.2.2.1,Qw.2.2.2.2.2
   .exists Qu.2.2.2.1,Qu.2.1,Qu.2.2.2.2.1,Qu.2.2.2.2.2
  .let⟨o,es,ep,Tb,r⟩:=hm;exists o,es,ep,hk _ o (YX fz.2.1) (YX Qx.2.1) (YX Qw.2.1) (YX Qu.2.1) Tb,r
  .show(I.hok c v' q).stay (λe w' VV q'=>?_) (λe q=>q) λe ys q=>q;grind
 self:=λ_ _ _ _ _ st h=>wpAny_pyIter_zip st.1 h
def kh(K:Ad)(ta:TA):(TI):=λσ H R=>ta σ H λvs H1=>∃a b,vs=[.ref a,.ref b]/\(∃xs ys,SqL K H1 a xs/\SqL K H1 b ys)/\R (Et K a b) H1
section
variable{X:Cx}
def Hw(K:Ad){elts:A6 B4}{x1:A5}{Tw:Pos}{e f:B4}{ta:TA}{p pos:Pos}(hg:Gl X "zip")(hm:X.mg "zip"=A8)(ha:PA X [e,f] ta)(hs:starEach [e,f] X.env=(false,eval e X.env)::starEach [f] X.env:=by rfl)(UB:(backTo pos<|starEach [f] X.env).any (·.1)=B0:=by rfl)(hk:X.K=K:=by rfl):
  PI X (.Tuple elts x1 Tw) (.Call (.Name "zip" p) [e,f] [] pos) (kh K ta):=by
 subst hk;intro pins s σ H R I h;show Call_ (PL I hg hm Boot.«zip»<|Lf (thn (ha pos pins s σ H _ I h) λus s1 XE=>?_) hs UB);let(vs,H1,I1,r1,q1):=XE;let(a,b,ev,(xs,ys,hq,Sh),q):=q1;subst ev;let(u,u',rfl,ru,ru'):=IJ r1;let rfl:u=Value.ref a:=ru;let rfl:u'=Value.ref b:=ru';let(XW,rv,pl,_):=I1.list hq;let(Vs,sF,pl2,_):=I1.list Sh;let lt1:a<(~~~s1):=by let(_,_,e,_):=pl;show Yh e
 let lt2:b<(~~~s1):=by let(_,_,e,_):=pl2;show Yh e
 let tB:ZipApart ((~~~s1)+4) ((~~~s1)+2) ((~~~s1)+3) (~~~s1) ((~~~s1)+1) a b:=by
  let key:∀n x y:A5,x<n->y<n->ZipApart (n+4) (n+2) (n+3) n (n+1) x y:=λn x y h1 h2=>by constructor<;>(lia)
  show key _ _ _ lt1 lt2
 show call_zip_2 pl.isList pl2.isList λh' hz Nm Md hi1 Wq hsz hk=>?_;show wpAny_pyIter_zip (s:={s1 with heap:=h'}) hz ?_;exists (~~~s1)+4,[(~~~s1)+4,(~~~s1)+2,(~~~s1)+3,(~~~s1),(~~~s1)+1],_,_,H1,Z,I1.kept (t':=s1.toks) hk,km a b _ _ _ _ _ tB,{hz,Nm,{_,_,Md},hi1,Wq},λc hc=>?_,q;let hle:(~~~s1)<=c:=by
  let VV:c=(~~~s1)+4\/c=(~~~s1)+2\/c=(~~~s1)+3\/c=(~~~s1)\/c=(~~~s1)+1:=by simpa using hc
  rcases VV with e|e|e|e|e<;>rw[e]<;>first|ext|lia
 show I1.fpOk hle (I1.hok.fresh hle)
end
end L2
namespace My
open PySem L2
section
variable{K:Ad}{a b:A7}{xs ys:A6 V}{g:TG}{tt:TT}{te:TE}{o:A5}{fr:A6 A5}{σ:St}{H:Hp}{Q:VK}
def z4(Pv:A5->A6 V->Hp->Prop)(h0:Pv 0 [] H)(Ko:xs.f=ys.f)(hz:xs.f<sizeLine)(hl:∀i zs H,i<=xs.f->Pv i zs H->SqL K H a xs/\SqL K H b ys/\zs.f<=i)
  (hs:∀(i:A5) x y zs H (p:A7),H p=A8->xs[i]?=⇑x->ys[i]?=⇑y->Pv i zs H->Ku Pv g tt te o fr σ i ↑p zs (upd H p<|.tup [x,y]))(hd:∀zs H,Pv xs.f zs H->∀p,H p=A8->Q ↑p (upd H p<|.lst zs)):Nt (Et K a b) g tt te o fr σ H Q:=by
 exists λi m zs H=>m=xs.f-i/\i<=xs.f/\Pv i zs H,{xs.f,AP,XC _,h0},?_;intro i m zs H Ω;let⟨rfl,hi,p⟩:=Ω;let(q,q2,hy):=hl i zs H hi p;cases Xu:i<xs.f
 .show .inr {{xs,ys,xs[i],ys[i]'(by ext),q,q2,by ext,Xv<|by ext},J,λx H' ⟨T,u,v,hT,ex,eH,hu,hv⟩=>?_};subst ex eH;show hs i u v zs H T hT (hu xs q) (hv ys q2) p (λj zs H=>∃m',m'<xs.f-i/\m'=xs.f-j/\j<=xs.f/\Pv j zs H) λzs H p'=>{xs.f-(i+1),B,Z,Xu,p'}
 .let e:i=xs.f:=J;subst e;show .inl {{xs,ys,q,q2,.inl<|XI _},J,hd zs H p}
end
end My
namespace My
abbrev Mx:=A5->A5->A0
def sm:(A5->(A5->A0)->A0)
 |0,_=>0
 |n+1,f=>sm n f+f n
def ZM{f g:A5->A0}:∀{n:A5},(∀i,i<n->f i=g i)->sm n f=sm n g
 |0,_=>rfl
 |n+1,h=>by change sm n f+f n=sm n g+g n;rw[ZM λi hi=>h i J,h n J]
def Hv{f g:A5->A0}:∀{n:A5},sm n (λi=>f i+g i)=sm n f+sm n g
 |0=>rfl
 |n+1=>by change sm n (λi=>f i+g i)+(f n+g n)=sm n f+f n+(sm n g+g n);rw[Hv];lia
def Er{c:A0}{f:A5->A0}:∀{n:A5},sm n (λi=>c*f i)=c*sm n f
 |0=>(Rm c).symm
 |n+1=>by change sm n (λi=>c*f i)+c*f n=c*(sm n f+f n);rw[Er,Ji]
def Th:∀{n:A5},sm n (λ_=>0)=0
 |0=>rfl
 |n+1=>by change sm n (λ_=>0)+0=0;rw[Th];rfl
def Hu{f:A5->A0}(h:∀i,i<n->f i=0):sm n f=0:=by rw[ZM h];show Th
def z3{f:A5->A0}:∀{n:A5},sm (n+1) f=f 0+sm n (λi=>f (i+1))
 |0=>by change 0+f 0=f 0+0;lia
 |n+1=>by change sm (n+1) f+f (n+1)=f 0+(sm n (λi=>f<|i+1)+f (n+1));rw[z3];lia
def kg{f:A5->A5->A0}:∀{n:A5},sm n (λi=>sm m (f i))=sm m (λj=>sm n λi=>f i j)
 |0=>Th.symm
 |n+1=>by change sm n (λi=>sm m<|f i)+sm m (f n)=sm m λj=>sm n (λi=>f i j)+f n j;rw[kg,Hv]
def sk(j k:A5):(A5):=if k<j then k else k+1
def mn(A:Mx)(j:A5):(Mx):=λi k=>A (i+1) (sk j k)
def sg(j:A5):(A0):=if j%2=0 then 1 else -1
def sy(j:A5):sg (j+1)=- sg j:=by
 unfold sg;cases h:j%2=0
 .rw[Yk h,Yj pB]
 .rw[Yj h,Yk J];rfl
def det:(A5->Mx->A0)
 |0,_=>1
 |n+1,A=>sm (n+1) λj=>sg j*A 0 j*det n (mn A j)
def Og{j k n:A5}(h:k<n):sk j k<n+1:=by unfold sk;split<;>lia
def Zo:∀{n:A5}{A o8:Mx},(∀i j,i<n->j<n->A i j=o8 i j)->det n A=det n o8
 |0,_,_,_=>rfl
 |n+1,A,o8,h=>ZM λj hj=>by rw[h 0 j J hj,Zo (A:=mn A j) (o8:=mn o8 j) λi k hi hk=>h (i+1) (sk j k) J (Og hk)]
def RE:∀{n:A5}{A o8 C:Mx}{c:A0}{i:A5},i<n->(∀r j,r<n->j<n->r≠i->A r j=o8 r j/\A r j=C r j)->(∀j,j<n->A i j=c*o8 i j+C i j)->det n A=c*det n o8+det n C
 |0,_,_,_,_,_,hi,_,_=>absurd hi (QR _)
 |n+1,A,o8,C,c,i,hi,h1,h2=>by
  change sm (n+1) (λj=>sg j*A 0 j*det n (mn A j))=c*sm (n+1) (λj=>sg j*o8 0 j*det n (mn o8 j))+sm (n+1) λj=>sg j*C 0 j*det n (mn C j);rw[<-Er,<-Hv];show ZM λj hj=>?_;cases i with
  |zero=>
   let e1:det n (mn o8 j)=det n (mn A j):=Zo λr k hr hk=>(h1 (r+1) (sk j k) pB (Og hk) J).1.symm;let e2:det n (mn C j)=det n (mn A j):=Zo λr k hr hk=>(h1 (r+1) (sk j k) J (Og hk) J).2.symm
   rw[e1,e2,h2 j hj];generalize det n (mn A j)=d;generalize sg j=s;rw[Ji,ur,<-WA s c,Rj s c,WA c s,WA c]
  |succ i=>
   let e:=RE (n:=n) (A:=mn A j) (o8:=mn o8 j) (C:=mn C j) (c:=c) (i:=i) J (λr k hr hk XH=>h1 (r+1) (sk j k) J (Og hk) J) λk hk=>h2 (sk j k) (Og hk);let e0:=h1 0 j J hj J
   rw[e,<-e0.1,<-e0.2];generalize det n (mn o8 j)=d;generalize det n (mn C j)=d';generalize sg j*A 0 j=s;rw[Ji,<-WA,<-WA,Rj s c]
def kf(h:j<=k):mn (mn A j) k i l=mn (mn A (k+1)) j i l:=by
 change A (i+1+1) (sk j<|sk k l)=A (i+1+1) (sk (k+1)<|sk j l);show YF _ ?_;unfold sk;cases h1:l<j
 .rw[Yk (show l<k by lia),Yk h1,Yk (show l<k+1 by lia)]
 .rw[Yj h1];cases h2:l<k
  .rw[Yk h2,Yj h1,Yk (show l+1<k+1 by lia)]
  .rw[Yj h2,Yj (show ¬l+1<j by lia),Yj (show ¬l+1<k+1 by lia)]
def j9:∀{n:A5}{A:Mx}{i:A5},i+1<n->(∀j,j<n->A i j=A (i+1) j)->det n A=0
 |0,_,_,hi,_=>absurd hi (QR _)
 |n+1,A,i+1,hi,h=>Hu λj hj=>by rw[j9 (A:=mn A j) (i:=i) J λk hk=>h (sk j k)<|Og hk,Rm]
 |1,_,0,hi,_=>absurd hi pB
 |n+2,A,0,_,h=>by
  obtain⟨t,ht⟩:∃t:A5->A5->A0,t=λj k=>sg j*A 0 j*(sg k*A 1 (sk j k)*det n (mn (mn A j) k)):={_,Z};let e1:det (n+2) A=sm (n+2) λj=>sm (n+1) (t j):=ZM λj hj=>by rw[ht,Er];rfl
  let e2:∀j k,j<=k->k<n+1->t (k+1) j=- t j k:=λj k hjk hk=>by
   rw[ht];change sg (k+1)*A 0 (k+1)*(sg j*A 1 (sk (k+1) j)*det n (mn (mn A<|k+1) j))=- (sg j*A 0 j*(sg k*A 1 (sk j k)*det n (mn (mn A j) k)))
   let f1:sk (k+1) j=j:=by unfold sk;rw[Yk J]
   let f2:sk j k=k+1:=by unfold sk;rw[Yj J]
   let f3:det n (mn (mn A<|k+1) j)=det n (mn (mn A j) k):=Zo λi l _ _=>(kf hjk).symm;rw[f1,f2,f3,sy,<-h j J,<-h (k+1) J];generalize det n (mn (mn A j) k)=d;generalize A 0 j=x;generalize A 0 (k+1)=y;generalize sg j=s;generalize sg k=u;simp only[uu,Int.neg_inj];simp only[Rj,uO,WA]
  let e3:sm (n+2) (λj=>sm (n+1)<|t j)=sm (n+2) (λj=>sm (n+1) λk=>if k<j then t j k else 0)+sm (n+2) (λj=>sm (n+1) λk=>if k<j then 0 else t j k):=by rw[<-Hv];show ZM λj _=>?_;rw[<-Hv];show ZM λk _=>?_;split<;>lia
  let e4:sm (n+2) (λj=>sm (n+1) λk=>if k<j then t j k else 0)=sm (n+1) (λk=>sm (n+1) λj=>if k<=j then t (j+1) k else 0):=by
   rw[kg];show ZM λk _=>?_;rw[z3,Yj J,KY];show ZM λj _=>?_;cases c:k<=j
   .rw[Yk c,Yk pB]
   .rw[Yj c,Yj J]
  let e5:sm (n+2) (λj=>sm (n+1) λk=>if k<j then 0 else t j k)=sm (n+1) (λj=>sm (n+1) λk=>if j<=k then t j k else 0):=by
   change sm (n+1) (λj=>sm (n+1) λk=>if k<j then 0 else t j k)+sm (n+1) (λk=>if k<n+1 then 0 else t (n+1) k)=_;rw[Hu (f:=λk=>if k<n+1 then 0 else t (n+1) k) λk hk=>Yk hk,QM];show ZM λj _=>ZM λk _=>?_;cases c:j<=k
   .rw[Yk c,Yj J]
   .rw[Yj c,Yk J]
  rw[e1,e3,e4,e5,<-Hv];show Hu λj hj=>?_;rw[<-Hv];show Hu λk hk=>?_;cases c:j<=k
  .rw[Yk c,Yk c,e2 j k c hk];lia
  .rw[Yj c,Yj c];rfl
def put2(A:Mx)(i:A5)(x y:A5->A0):(Mx):=λr=>if r=i then x else if r=i+1 then y else A r
def j8{x x' y:A5->A0}(hi:i+1<n):det n (put2 A i (λj=>x j+x' j) y)=det n (put2 A i x y)+det n (put2 A i x' y):=by
 have:=RE (n:=n) (A:=put2 A i (λj=>x j+x' j) y) (o8:=put2 A i x y) (C:=put2 A i x' y) (c:=1) (i:=i) J (λr j _ _ XH=>by unfold put2;rw[Yj XH,Yj XH,Yj XH];exists Z,Z) (λj _=>by unfold put2;rw[Yk Z,Yk Z,Yk Z,RZ])
 rw[this,RZ]
def Zg6{x y y':A5->A0}(hi:i+1<n):det n (put2 A i x λj=>y j+y' j)=det n (put2 A i x y)+det n (put2 A i x y'):=by
 let ne:¬i+1=i:=J
 have:=RE (n:=n) (A:=put2 A i x λj=>y j+y' j) (o8:=put2 A i x y) (C:=put2 A i x y') (c:=1) (i:=i+1) J (λr j _ _ XH=>by unfold put2;rw[Yj XH,Yj XH,Yj XH];exists Z,Z) (λj _=>by unfold put2;rw[Yj ne,Yj ne,Yj ne,Yk Z,Yk Z,Yk Z,RZ])
 rw[this,RZ]
def j7{x:A5->A0}(hi:i+1<n):det n (put2 A i x x)=0:=j9 hi λj _=>by unfold put2;rw[Yk Z,Yj J,Yk Z]
def j6{x y:A5->A0}(hi:i+1<n):det n (put2 A i y x)=- det n (put2 A i x y):=by let h:=j7 (A:=A) (x:=λj=>x j+y j) hi;rw[j8 hi,Zg6 hi,Zg6 hi,j7 hi,j7 hi]at h;lia
def j5:put2 A i (A i) (A (i+1))=A:=by
 funext r
 unfold put2;cases h:r=i
 .rw[Yk h,h]
 .rw[Yj h];cases h2:r=i+1
  .rw[Yk h2,h2]
  .rw[Yj h2]
def Zx8(hi:i+1<n):det n (put2 A i (A (i+1)) (A i))=- det n A:=by
 have:=j6 (A:=A) (x:=A i) (y:=A<|i+1) hi
 rwa[j5]at this
def sr:∀{d:A5}{A:Mx},a+d+1<n->(∀j,j<n->A a j=A (a+d+1) j)->det n A=0
 |0,A,hn,h=>j9 hn h
 |d+1,A,hn,h=>by
  let e:=Zx8 (n:=n) (A:=A) (i:=a+d+1) J;let z:det n (put2 A (a+d+1) (A<|a+d+1+1)<|A<|a+d+1)=0:=by show sr (a:=a) (d:=d) J λj hj=>?_;unfold put2;rw[Yj J,Yj J,Yk Z];show h j hj
  lia
def rotN(k t i:A5):(A5):=if i<k then i else if i=k then k+t else if i<=k+t then i-1 else i
def Zh9(k i:A5):rotN k 0 i=i:=by
 unfold rotN;cases h:i<k
 .rw[Yk h]
 .rw[Yj h];cases h2:i=k
  .rw[Yk h2,h2];rfl
  .rw[Yj h2,Yj J]
def j4:∀{t:A5}{A:Mx},k+t<n->det n (λi=>A (rotN k t i))=sg t*det n A
 |0,A,_=>by rw[show sg 0=1 from Z,RZ];show Zo λi j _ _=>by rw[Zh9]
 |t+1,A,h=>by
  let e:=j4 (n:=n) (k:=k) (t:=t) (A:=put2 A (k+t) (A<|k+t+1)<|A<|k+t) J;rw[Zx8 J]at e;let f:det n (λi=>A<|rotN k (t+1) i)=det n (λi=>put2 A (k+t) (A<|k+t+1) (A<|k+t)<|rotN k t i):=Zo λi j _ _=>by
   show congrFun ?_ j;let r1:rotN k (t+1) i=if i<k then i else if i=k then k+(t+1) else if i<=k+(t+1) then i-1 else i:=rfl
   let r2:rotN k t i=if i<k then i else if i=k then k+t else if i<=k+t then i-1 else i:=rfl
   unfold put2;cases h1:i<k
   .rw[Yk h1]at r1 r2;rw[r1,r2,Yj J,Yj J]
   .rw[Yj h1]at r1 r2;cases h2:i=k
    .rw[Yk h2]at r1 r2;rw[r1,r2,Yk Z];rfl
    .rw[Yj h2]at r1 r2;cases h3:i<=k+t
     .rw[Yk J]at r1;rw[Yk h3]at r2;rw[r1,r2,Yj J,Yj J]
     .rw[Yj h3]at r2;cases h4:i=k+t+1
      .rw[Yk J]at r1;rw[r1,r2,Yj J,Yk h4];show YF A J
      .rw[Yj J]at r1;rw[r1,r2,Yj J,Yj h4]
  rw[f,e,sy,Int.mul_neg,uu]
def j3:∀{n:A5}{A:Mx},(∀i,i<n+1->A i 0=0)->det (n+1) A=0
 |0,A,h=>by change 0+sg 0*A 0 0*1=0;rw[h 0 pB,Rm];rfl
 |n+1,A,h=>Hu λj hj=>by
  cases j with
  |zero=>rw[h 0 J,Rm,Dj]
  |succ j=>
   rw[j3 (A:=mn A<|j+1) λi hi=>?_,Rm];change A (i+1) (sk (j+1) 0)=0
   rw[show sk (j+1) 0=0 from Z];show h (i+1) J
def zw(h:∀i,i<n->A (i+1) 0=0):det (n+1) A=A 0 0*det n (λi j=>A (i+1) (j+1)):=by
 change sm (n+1) (λj=>sg j*A 0 j*det n (mn A j))=_;rw[z3,Hu λj hj=>?_]
 .rw[QM,show sg 0=1 from Z,RZ];show YF (A 0 0 * ·) (Zo λi j _ _=>?_);rfl
 .cases n with
  |zero=>show absurd hj (QR _)
  |succ n=>
   rw[j3 (A:=mn A<|j+1) λi hi=>?_,Rm];show h i hi
def Zy8{i:A5}(hi:i<n)(h:∀j,j<n->A i j=0):det n A=0:=by
 have:=RE (A:=A) (o8:=A) (C:=A) (c:=1) hi (λr j _ _ _=>⟨Z,Z⟩) (λj hj=>by rw[h j hj];rfl)
 lia
def Zf6{c:A0}:∀{n:A5}{A:Mx},det n (λi j=>c*A i j)=c^n*det n A
 |0,_=>by change(1:A0)=c^0*1;rw[RU];rfl
 |n+1,A=>by
  change sm (n+1) (λj=>sg j*(c*A 0 j)*det n (mn (λi j=>c*A i j) j))=c^(n+1)*sm (n+1) λj=>sg j*A 0 j*det n (mn A j);rw[<-Er];show ZM λj _=>?_;let e:det n (mn (λi j=>c*A i j) j)=c^n*det n (mn A j):=Zf6 (A:=mn A j)
  rw[e,Di];generalize det n (mn A j)=d;generalize c^n=p;generalize sg j=s;generalize A 0 j=x;simp only[Rj,uO,WA]
def offN(R:Mx):(Mx):=λi j=>R 0 0*R (i+1) (j+1)-R (i+1) 0*R 0 (j+1)
def WD(R:Mx)(k:A5):(Mx):=λr j=>if r=0 then R 0 j else if r<=k then R 0 0*R r j-R r 0*R 0 j else R r j
def ZC8{m:A5}:∀{k:A5},k<m+1->det (m+1) (WD R k)=R 0 0^k*det (m+1) R
 |0,_=>by
  rw[RU,RZ];show Zo λi j _ _=>?_;unfold WD;cases h:i=0
  .rw[Yk h,h]
  .rw[Yj h,Yj J]
 |k+1,hk=>by
  let ih:=ZC8 (m:=m) (R:=R) (k:=k) J;obtain⟨C,hC⟩:∃C:Mx,C=λr j=>if r=k+1 then-R (k+1) 0*R 0 j else WD R k r j:={_,Z}
  obtain⟨o8,hB⟩:∃o8:Mx,o8=λr j=>if r=k+1 then R 0 j else WD R k r j:={_,Z}
  obtain⟨o6,hZ⟩:∃o6:Mx,o6=λr j=>if r=k+1 then 0 else WD R k r j:={_,Z}
  let Ht:det (m+1) o8=0:=sr (n:=m+1) (a:=0) (d:=k) J λj hj=>by
   rw[hB];change(if 0=k+1 then _ else WD R k 0 j)=if 0+k+1=k+1 then _ else _
   rw[Yj J,Yk J];rfl
  let hZz:det (m+1) o6=0:=Zy8 (i:=k+1) hk λj hj=>by rw[hZ];show Yk rfl
  let hCz:det (m+1) C=0:=by
   have:=RE (A:=C) (o8:=o8) (C:=o6) (c:=- R (k+1) 0) hk (λr j _ _ XH=>by
    rw[hC,hB,hZ];change(if r=k+1 then _ else WD R k r j)=(if r=k+1 then _ else WD R k r j)/\(if r=k+1 then _ else WD R k r j)=(if r=k+1 then _ else WD R k r j)
    rw[Yj XH,Yj XH,Yj XH];exists Z,Z) (λj _=>by
    rw[hC,hB,hZ];change(if k+1=k+1 then _ else _)=_*(if k+1=k+1 then _ else _)+(if k+1=k+1 then _ else _)
    rw[Yk Z,Yk Z,Yk Z,QM])
   rw[this,Ht,hZz,Rm];rfl
  have:=RE (A:=WD R<|k+1) (o8:=WD R k) (C:=C) (c:=R 0 0) hk (λr j _ _ XH=>by
   let e1:WD R (k+1) r j=WD R k r j:=by
    unfold WD;cases h0:r=0
    .rw[Yk h0,Yk h0]
    .rw[Yj h0,Yj h0];cases h1:r<=k
     .rw[Yk h1,Yk J]
     .rw[Yj h1,Yj J]
   exists e1,?_;rw[hC,e1];change _=if r=k+1 then _ else _
   rw[Yj XH]) (λj _=>by
   let e1:WD R (k+1) (k+1) j=R 0 0*R (k+1) j-R (k+1) 0*R 0 j:=by unfold WD;rw[Yj J,Yk J]
   let e2:WD R k (k+1) j=R (k+1) j:=by unfold WD;rw[Yj pB,Yj J]
   rw[e1,e2,hC];change _=_+(if k+1=k+1 then-R (k+1) 0*R 0 j else _)
   rw[Yk Z,uu]
   rfl)
  rw[this,hCz,ih,QM,Di];rw[<-WA,Rj (R 0 0)]
def zu:R 0 0*det m (offN R)=R 0 0^m*det (m+1) R:=by
 rw[<-ZC8 (k:=m) J,zw λi hi=>?_]
 .let e0:WD R m 0 0=R 0 0:=Yk rfl;rw[e0];show YF (R 0 0 * ·) (Zo λi j hi hj=>?_);unfold WD offN;rw[Yj J,Yk J]
 .unfold WD;rw[Yj J,Yk J,Rj];lia
def ex(k:A5)(r:A5->A5)(i:A5):(A5):=if i<k then i else k+r (i-k)
def Ra(A:Mx)(k M:A5)(R:Mx)(last:A0):(Prop):=last≠0/\∀m r c,(∀i,i<m+1->r i<M/\c i<M)->
 det (m+1) (λi j=>R (r i)<|c j)=det (k+m+1) (λi j=>A (ex k r i)<|ex k c j)*last^m
def zt(A:Mx)(n:A5):Ra A 0 n A 1:={D,λm r c _=>by rw[Int.one_pow,Fd,QN];show Zo λi j _ _=>?_;unfold ex;rw[Yj (QR _),Yj<|QR _,QN,QN,uz,uz]}
def Hs{p:A0}(h:p≠0):∀n:A5,p^n≠0
 |0=>by rw[RU];decide
 |n+1=>by rw[Di];show Int.mul_ne_zero (Hs h n) h
def Of(r:A5->A5):(A5->A5)
 |0=>0
 |i+1=>r i+1
def zr(k:A5)(r:A5->A5)(i:A5):ex k (Of r) i=ex (k+1) r i:=by
 unfold ex;cases h:i<k
 .rw[Yk h,Yk J]
 .rw[Yj h];cases h2:i=k
  .rw[Yk J,h2,MU];rfl
  .rw[Yj J];obtain⟨d,rfl⟩:∃d,i=k+d+1:={i-k-1,B};rw[show k+d+1-k=d+1 by lia,show k+d+1-(k+1)=d by lia];change k+(r d+1)=k+1+r d
   lia
def JZ{k M:A5}(h:Ra A k (M+1) R last)(hp:R 0 0≠0){m:A5}{r c:A5->A5}(hb:∀i,i<m+1->r i<M/\c i<M):
  det (m+1) (λi j=>offN R (r i)<|c j)=R 0 0^m*(last^(m+1)*det (k+1+m+1) λi j=>A (ex (k+1) r i)<|ex (k+1) c j):=by
 let e1:=zu (m:=m+1) (R:=λi j=>R (Of r i)<|Of c j);let e2:=h.2 (m+1) (Of r) (Of c) λi hi=>by
  cases i with
  |zero=>exists Nat.succ_pos _,Nat.succ_pos _
  |succ i=>have:=hb i J;exists pY this.1,pY this.2
 let e3:det (m+1) (offN λi j=>R (Of r i)<|Of c j)=det (m+1) (λi j=>offN R (r i)<|c j):=rfl;let e4:det (k+(m+1)+1) (λi j=>A (ex k (Of r) i)<|ex k (Of c) j)=det (k+1+m+1) (λi j=>A (ex (k+1) r i)<|ex (k+1) c j):=by rw[show k+(m+1)+1=k+1+m+1 by lia];show Zo λi j _ _=>by rw[zr,zr]
 rw[e3]at e1;rw[e4]at e2;let e5:R (Of r 0) (Of c 0)=R 0 0:=rfl
 rw[e5,e2]at e1;generalize det (m+1) (λi j=>offN R (r i)<|c j)=x at *;generalize det (k+1+m+1) (λi j=>A (ex (k+1) r i)<|ex (k+1) c j)=y at *;rw[Di]at e1;show Y3w hp ?_;rw[e1,Rj y,Rj<|R 0 0^m,WA]
def j0(A:Mx):det 1 A=A 0 0:=by change 0+sg 0*A 0 0*1=A 0 0;rw[show sg 0=1 from Z];lia
def jZ{k M:A5}(h:Ra A k (M+1) R last)(hp:R 0 0≠0)(hi:i<M)(hj:j<M):
  offN R i j=last*det (k+2) (λa b=>A (ex (k+1) (λ_=>i) a)<|ex (k+1) (λ_=>j) b):=by
 have:=JZ h hp (m:=0) (r:=λ_=>i) (c:=λ_=>j) λ_ _=>⟨hi,hj⟩
 rwa[j0,RU,RZ,Di,RU,RZ]at this
def zq(h:Ra A k (M+1) R last)(hp:R 0 0≠0)(hR:∀i j,i<M->j<M->R' i j=(offN R i j).fdiv last):Ra A (k+1) M R' (R 0 0):=by
 exists hp,λm r c hb=>?_;let jY:∀i j,i<M->j<M->offN R i j=last*R' i j:=λi j hi hj=>by rw[hR i j hi hj,jZ h hp hi hj,OV _ h.1]
 let e1:=JZ h hp hb;let e2:det (m+1) (λi j=>offN R (r i)<|c j)=last^(m+1)*det (m+1) (λi j=>R' (r i)<|c j):=by rw[<-Zf6];show Zo λi j hi hj=>jY _ _ (hb i hi).1 (hb j hj).2
 rw[e2]at e1;show Y3w (Hs h.1<|m+1) ?_;rw[e1];generalize det (k+1+m+1) (λi j=>A (ex (k+1) r i)<|ex (k+1) c j)=y;rw[uO,Rj y]
def jX(h:Ra A k M R last)(ht:t<M):Ra (λi=>A (rotN k t i)) k M (λi=>R (rotN 0 t i)) last:=by
 exists h.1,λm r c hb=>?_;let e:=h.2 m (λi=>rotN 0 t<|r i) c λi hi=>⟨by
  have:=(hb i hi).1
  unfold rotN;rw[Yj J];split
  .lia
  .split<;>lia,(hb i hi).2⟩
 rw[e];show YF (· * last^m) (Zo λi j _ _=>?_);show YF (λa=>A a<|ex k c j) ?_;unfold ex;cases hi:i<k
 .rw[Yk hi,Yk hi];unfold rotN;rw[Yk hi]
 .rw[Yj hi,Yj hi];change k+rotN 0 t (r<|i-k)=rotN k t (k+r (i-k))
  generalize r (i-k)=a;let r1:rotN 0 t a=if a<0 then a else if a=0 then 0+t else if a<=0+t then a-1 else a:=rfl
  let r2:rotN k t (k+a)=if k+a<k then k+a else if k+a=k then k+t else if k+a<=k+t then k+a-1 else k+a:=rfl
  rw[Yj J]at r1 r2;cases h1:a=0
  .rw[Yk h1]at r1;rw[Yk J]at r2;rw[r1,r2];lia
  .rw[Yj h1]at r1;rw[Yj J]at r2;cases h2:a<=t
   .rw[Yk J]at r1;rw[Yk J]at r2;rw[r1,r2];lia
   .rw[Yj J]at r1;rw[Yj J]at r2;rw[r1,r2]
def Mc(k i:A5):ex k (λi=>i) i=i:=by
 unfold ex;cases h:i<k
 .rw[Yk h]
 .rw[Yj h];change k+(i-k)=i
  grind
def jW{k M:A5}(h:Ra A k (M+1) R last)(h0:∀i,i<M+1->R i 0=0):det (k+M+1) A=0:=by
 let e:=h.2 M (λi=>i) (λi=>i) λi hi=>⟨hi,hi⟩;rw[j3 (A:=λi j=>R i j) h0]at e;let e2:det (k+M+1) (λi j=>A (ex k (λi=>i) i)<|ex k (λi=>i) j)=det (k+M+1) A:=Zo λi j _ _=>by rw[Mc,Mc]
 rw[e2]at e;rcases Int.mul_eq_zero.Y e.symm with z|z
 .show z
 .show absurd z (Hs h.1 M)
def jV(h:Ra A k 1 R last):R 0 0=det (k+1) A:=by
 let e:=h.2 0 (λi=>i) (λi=>i) λi hi=>⟨J,pB⟩;rw[j0,RU,Fd]at e;let e2:det (k+0+1) (λi j=>A (ex k (λi=>i) i)<|ex k (λi=>i) j)=det (k+1) A:=Zo λi j _ _=>by rw[Mc,Mc]
 rwa[e2]at e
end My
namespace L2
open PySem PySem.Spec PyProof.Rows
def jU(i j:A0):(Prop):=i.natAbs<2^9000/\j.natAbs<2^9000
def Hr(i j:A0):(Prop):=j≠0/\j.natAbs<2^9000
def Zu6(h:a.natAbs<2^9000):Builtin.Int.intBits a<=9000:=PySem.intBits_le_iff.X h
section
variable{X:Cx}
def jT:Ww X (binaryOp .Mult) (rI jU λi j=>.int (i*j)):=ES λ_ _ _ _ _ _ _ hc q=>mul_int q (.of_bits (Ym (Zu6 hc.1) D)<|Ym (Zu6 hc.2) D)
def jS:Ww X (binaryOp .FloorDiv) (rI Hr λi j=>.int (i.fdiv j)):=ES λ_ _ _ _ _ _ _ hc q=>floordiv_int hc.1 q (.inl<|PyProof.noPylong_of_log2<|(Nat.log2_lt (by have:=hc.1;ext)).X hc.2)
end
end L2
namespace My
def fnL(L:Ab):(Mx):=λi j=>(L.S i []).S j 0
def Nl{l:Ac}{x:A0}(h:L[i]?=⇑l)(h2:l[j]?=⇑x):fnL L i j=x:=by
 let e:L.S i []=l:=by rw[Wj,h];rfl
 unfold fnL;rw[e,Wj,h2];rfl
def so(o8:A5):(A5->A5)
 |0=>1
 |n+1=>(n+1)*(o8*so o8 n)
def zo{f:A5->A0}{C:A5}:∀{n:A5},(∀i,i<n->(f i).natAbs<=C)->(sm n f).natAbs<=n*C
 |0,_=>by change(0:A0).natAbs<=0*C;rw[Nat.zero_mul];show XI 0
 |n+1,h=>by
  let h1:=zo (n:=n) λi hi=>h i J;let h2:=h n J
  let h3:(sm n f+f n).natAbs<=(sm n f).natAbs+(f n).natAbs:=Je ..;change(sm n f+f n).natAbs<=(n+1)*C
  rw[Nat.succ_mul];lia
def zm:∀{n:A5}{A:Mx},(∀i j,i<n->j<n->(A i j).natAbs<=o8)->(det n A).natAbs<=so o8 n
 |0,_,_=>XI 1
 |n+1,A,h=>by
  show zo λj hj=>?_;let e:(sg j).natAbs=1:=by unfold sg;split<;>rfl
  rw[Fg,Fg,e,Nat.one_mul];show Lb (h 0 j J hj) (zm λi k hi hk=>h (i+1) (sk j k) J<|Og hk)
def zk{b:A5}:∀{n:A5},n<=16->so (2^b) n<=2^((b+4)*n)
 |0,_=>by change 1<=2^((b+4)*0);rw[Nat.mul_zero];show XI 1
 |n+1,h=>by
  let ih:=zk (b:=b) (n:=n) J;let e:2^((b+4)*(n+1))=16*(2^b*2^((b+4)*n)):=by rw[Nat.mul_succ,Nat.pow_add,Nat.pow_add,Dk<|2^((b+4)*n),Dk (2^b)<|2^4,Nat.mul_assoc]
  rw[e];change(n+1)*(2^b*so (2^b) n)<=_
  show Lb h (Lb (XI _) ih)
def zj(hn:n<=16)(h:∀i j,i<n->j<n->(A i j).natAbs<=2^400):(det n A).natAbs<2^9000:=by
 let h1:=zm h;let h2:=zk (b:=400) hn
 let h3:2^((400+4)*n)<=2^(404*16):=DA D (Lb (XI _) hn);let h4:2^(404*16)<2^9000:=Nat.pow_lt_pow_right D D
 show Fu (Ym h1<|Ym h2 h3) h4
def jR(h:Ra A k M R last){i j:A5}(hi:i<M)(hj:j<M):R i j=det (k+1) (λa b=>A (ex k (λ_=>i) a) (ex k (λ_=>j) b)):=by
 have:=h.2 0 (λ_=>i) (λ_=>j) λ_ _=>⟨hi,hj⟩
 rwa[j0,RU,Fd]at this
def zi{k M n:A5}(h:Ra A k M R last)(hn:k+M=n)(hn16:n<=16)(hA:∀i j,i<n->j<n->(A i j).natAbs<=2^400){i j:A5}(hi:i<M)(hj:j<M):(R i j).natAbs<2^9000:=by
 rw[jR h hi hj];show zj J λa b ha hb=>hA _ _ ?_ ?_
 .let e:ex k (λ_=>i) a=if a<k then a else k+i:=rfl
  rw[e];split<;>lia
 .let e:ex k (λ_=>j) b=if b<k then b else k+j:=rfl
  rw[e];split<;>lia
def jQ{L:Ab}{l:Ac}(h:L[t]?=⇑l)(i:A5):(l::L.eraseIdx t)[i]?=L[rotN 0 t i]?:=by
 let ht:=(Xr.Y h).1;let r:rotN 0 t i=if i<0 then i else if i=0 then 0+t else if i<=0+t then i-1 else i:=rfl
 rw[Yj J]at r;cases i with
 |zero=>
  rw[Yk Z,QN]at r;rw[r,h];rfl
 |succ i=>
  rw[Yj J,QN]at r;rw[r,List.getElem?_cons_succ,qj];cases c:i+1<=t
  .rw[Yk c,Yk J];rfl
  .rw[Yj c,Yj J]
def jP{l:Ac}(h:L[t]?=⇑l):fnL (l::L.eraseIdx t)=λi=>fnL L (rotN 0 t i):=by
 funext i j
 change((l::L.eraseIdx t).S i []).S j 0=(L.S (rotN 0 t i) []).S j 0;show YF (λr:Ac=>r.S j 0) ?_;rw[Wj,Wj,jQ h]
def Oe(y:A0)(p:Ac)(last:A0)(l:Ac):(Ac):=List.zipWith (λown other=>(y*own-l.headD 0*other).fdiv last) l.tail p
def zh(h:l.f=p.f+1):(Oe y p last l).f=p.f:=by unfold Oe;rw[QK,List.length_tail];lia
def jO{L:Ab}{M:A5}(hp:p.f=M)(hL:L.f=M)(hl:∀l∈L,l.f=M+1){i j:A5}(hi:i<M)(hj:j<M):
  fnL (L.Q<|Oe y p last) i j=(offN (fnL<|(y::p)::L) i j).fdiv last:=by
 obtain⟨l,JY⟩:∃l,L[i]?=⇑l:={_,Xv J};let WE:=hl l (Xo JY)
 obtain⟨x,l',rfl⟩:∃x l',l=x::l':=by
  cases l with
  |nil=>cases WE
  |cons x l'=>exists x,l',Z
 let CI:l'.f=M:=by rw[YM]at WE;lia
 obtain⟨u,hu⟩:∃u,l'[j]?=⇑u:={_,Xv J};obtain⟨v,hv⟩:∃v,p[j]?=⇑v:={_,Xv J};let e1:fnL (L.Q<|Oe y p last) i j=(y*u-x*v).fdiv last:=Nl (l:=Oe y p last<|x::l') (by rw[Yo,JY];rfl) (by
  change(List.zipWith _ l' p)[j]?=_;rw[Jt,hu,hv]
  rfl)
 let e2:fnL ((y::p)::L) 0 0=y:=rfl;let e3:fnL ((y::p)::L) (i+1) (j+1)=u:=Nl (l:=x::l') JY hu
 let e4:fnL ((y::p)::L) (i+1) 0=x:=Nl (l:=x::l') JY rfl;let e5:fnL ((y::p)::L) 0 (j+1)=v:=Nl (l:=y::p) Z hv
 rw[e1];unfold offN;rw[e2,e3,e4,e5]
end My
namespace My
open PySem L2
def zg(K:Ad)(H:Hp)(v:V)(l:Ac):(Prop):=∃r k,v=.ref r/\SqK k K H r (IL l)
def LiV(d:A7)(H:Hp)(v:V)(l:Ac):(Prop):=∃r,v=.ref r/\H r=⇑(.lst<|IL l)/\r≠d
def LiV.same(s:Same H H')(h:LiV d H v l):LiV d H' v l:=by let(r,e,h,n):=h;exists r,e,s _ _ h,n
def LiV.mut(h:LiV d H v l):LiV d (upd H d o) v l:=by let(r,e,h,n):=h;exists r,e,by rw[Za n];show h,n
def LiV.list(h:LiV d H v l):Vq H v l:=by let(r,e,h,_):=h;exists r,e,h
def Bears.erase{α:Type}[DecidableEq α]{R:V->α->Prop}{xs:A6 V}{l:A6 α}(h:Bears R xs l)(t:A5):Bears R (xs.eraseIdx t) (l.eraseIdx t):=by
 let hl:=h.1;show{by rw[MS,MS,hl],λi a e=>?_};rw[qj]at e;rw[qj];split at e
 .next c=>rw[Yk c];show h.2 _ _ e
 .next c=>rw[Yj c];show h.2 _ _ e
def ZH8(x:A0)(l:Ac):Xl (IL (x::l)) (some 1) none=IL l:=by rw[Oj D];rfl
def jN(t:A5):sg t*sg t=1:=by unfold sg;split<;>rfl
end My
namespace My
def jM{f:A5->A5->A0}:sm n (λi=>sm m λj=>f i j)=sm m (λj=>sm n λi=>f i j):=kg
def zf:∀{n:A5}{A:Mx},det (n+1) A=sm (n+1) λi=>sg i*A i 0*det n (λr c=>A (sk i r) (c+1))
 |0,A=>rfl
 |n+1,A=>by
  let e1:det (n+2) A=sg 0*A 0 0*det (n+1) (mn A 0)+sm (n+1) λj=>sg (j+1)*A 0 (j+1)*det (n+1) (mn A<|j+1):=z3;let e2:sm (n+2) (λi=>sg i*A i 0*det (n+1) λr c=>A (sk i r)<|c+1)=sg 0*A 0 0*det (n+1) (λr c=>A (sk 0 r)<|c+1)+sm (n+1) λi=>sg (i+1)*A (i+1) 0*det (n+1) (λr c=>A (sk (i+1) r)<|c+1):=z3
  rw[e1,e2];let e3:det (n+1) (mn A 0)=det (n+1) (λr c=>A (sk 0 r)<|c+1):=Zo λr c _ _=>rfl
  rw[e3];show YF (λz:A0=>sg 0*A 0 0*det (n+1) (λr c=>A (sk 0 r)<|c+1)+z) ?_;obtain⟨tB,hD⟩:∃tB:A5->A5->A0,tB=λi j=>det n (λr c=>A (sk i r+1)<|sk (j+1)<|c+1):={_,Z};let e4:∀j,j<n+1->det (n+1) (mn A<|j+1)=sm (n+1) λi=>sg i*A (i+1) 0*tB i j:=λj _=>by rw[zf,hD];rfl
  let e5:∀i,i<n+1->det (n+1) (λr c=>A (sk (i+1) r)<|c+1)=sm (n+1) λj=>sg j*A 0 (j+1)*tB i j:=λi hi=>by
   change sm (n+1) (λj=>sg j*A (sk (i+1) 0) (j+1)*det n (mn (λr c=>A (sk (i+1) r)<|c+1) j))=_;show ZM λj _=>?_;rw[hD];change sg j*A (sk (i+1) 0) (j+1)*det n (mn (λr c=>A (sk (i+1) r)<|c+1) j)=sg j*A 0 (j+1)*det n (λr c=>A (sk i r+1)<|sk (j+1)<|c+1)
   rw[show sk (i+1) 0=0 from Z];show YF (sg j*A 0 (j+1) * ·) (Zo λr c _ _=>?_);change A (sk (i+1)<|r+1) (sk j c+1)=A (sk i r+1) (sk (j+1)<|c+1)
   let f1:sk (i+1) (r+1)=sk i r+1:=by
    unfold sk;cases h:r<i
    .rw[Yk h,Yk J]
    .rw[Yj h,Yj J]
   let f2:sk j c+1=sk (j+1) (c+1):=by
    unfold sk;cases h:c<j
    .rw[Yk h,Yk J]
    .rw[Yj h,Yj J]
   rw[f1,f2]
  let e6:sm (n+1) (λj=>sg (j+1)*A 0 (j+1)*det (n+1) (mn A<|j+1))=sm (n+1) λj=>sm (n+1) λi=>sg (j+1)*A 0 (j+1)*(sg i*A (i+1) 0*tB i j):=ZM λj hj=>by rw[e4 j hj,Er]
  let e7:sm (n+1) (λi=>sg (i+1)*A (i+1) 0*det (n+1) λr c=>A (sk (i+1) r)<|c+1)=sm (n+1) λi=>sm (n+1) λj=>sg (i+1)*A (i+1) 0*(sg j*A 0 (j+1)*tB i j):=ZM λi hi=>by rw[e5 i hi,Er]
  rw[e6,e7,jM];show ZM λi _=>ZM λj _=>?_;rw[sy,sy];generalize tB i j=d;generalize A 0 (j+1)=x;generalize A (i+1) 0=y;generalize sg i=s;generalize sg j=u;simp only[uu,Int.neg_inj];simp only[Rj,uO,WA]
def Od:∀{n:A5}{A:Mx},det n (λi j=>A j i)=det n A
 |0,_=>rfl
 |n+1,A=>by
  rw[zf (A:=A)];show ZM λj _=>?_;change sg j*A j 0*det n (λi k=>A (sk j k)<|i+1)=sg j*A j 0*det n (λr c=>A (sk j r)<|c+1)
  rw[<-Od (A:=λr c=>A (sk j r)<|c+1)]
def ze{n a b:A5}(ha:a<n)(hb:b<n)(XH:a≠b)(h:∀j,j<n->A a j=A b j):det n A=0:=by
 rcases Nat.lt_or_gt_of_ne XH with c|c
 .obtain⟨d,rfl⟩:∃d,b=a+d+1:={b-a-1,B};show sr hb h
 .obtain⟨d,rfl⟩:∃d,a=b+d+1:={a-b-1,B};show sr ha λj hj=>(h j hj).symm
def putr(A:Mx)(i:A5)(x:A5->A0):(Mx):=λr=>if r=i then x else A r
def ZA8{c:A0}{x y:A5->A0}(hi:i<n):det n (putr A i λj=>c*x j+y j)=c*det n (putr A i x)+det n (putr A i y):=
 RE hi (λr j _ _ XH=>by unfold putr;rw[Yj XH,Yj XH,Yj XH];exists Z,Z) (λj _=>by unfold putr;rw[Yk Z,Yk Z,Yk Z])
def Zy7:putr A i (A i)=A:=by
 funext r
 unfold putr;cases h:r=i
 .rw[Yk h,h]
 .rw[Yj h]
def ZE8{n a b:A5}{c:A0}(ha:a<n)(hb:b<n)(XH:a≠b):det n (putr A a λj=>A a j+c*A b j)=det n A:=by
 let e:(λj=>A a j+c*A b j)=λj=>c*A b j+A a j:=by funext j;lia
 rw[e,ZA8 ha,Zy7,ze ha hb XH (A:=putr A a<|A b) λj _=>?_,Rm,KY];unfold putr;rw[Yk Z,Yj (YX XH)]
def jL(a i:A5):rotN 0 a (i+1)=sk a i:=by
 let r:rotN 0 a (i+1)=if i+1<0 then i+1 else if i+1=0 then 0+a else if i+1<=0+a then i+1-1 else i+1:=rfl
 rw[Yj J,Yj J]at r;rw[r];unfold sk;cases h:i<a
 .rw[Yk h,Yk J];lia
 .rw[Yj h,Yj J]
def zd{f:A5->A0}{a:A5}:∀{n:A5},a<n->(∀j,j<n->j≠a->f j=0)->sm n f=f a
 |0,h,_=>absurd h (QR _)
 |n+1,h,h0=>by
  change sm n f+f n=f a;cases c:a=n
  .rw[Hu λi hi=>h0 i B J,c,KY]
  .rw[zd (n:=n) J λj hj XH=>h0 j J XH,h0 n J J,QM]
def jK(ha:a<n+1):det (n+1) (putr A a λj=>if j=a then 1 else 0)=det n (λi j=>A (sk a i) (sk a j)):=by
 let e:=j4 (n:=n+1) (k:=0) (t:=a) (A:=putr A a λj=>if j=a then 1 else 0) J;let r0:rotN 0 a 0=a:=by change(if 0<0 then 0 else if 0=0 then 0+a else _)=a;rw[Yj J,Yk Z,QN]
 let top:det (n+1) (λi=>putr A a (λj=>if j=a then 1 else 0)<|rotN 0 a i)=sg a*det n (λi j=>A (sk a i)<|sk a j):=by
  change sm (n+1) (λj=>sg j*putr A a (λj=>if j=a then 1 else 0) (rotN 0 a 0) j*det n (mn (λi=>putr A a (λj=>if j=a then 1 else 0)<|rotN 0 a i) j))=_;rw[zd ha λj _ XH=>?_]
  .rw[r0];let e1:putr A a (λj=>if j=a then 1 else 0) a a=1:=by unfold putr;rw[Yk Z,Yk Z]
   rw[e1,Fd];show YF (sg a * ·) (Zo λi j _ _=>?_);change putr A a (λj=>if j=a then 1 else 0) (rotN 0 a<|i+1) (sk a j)=A (sk a i) (sk a j)
   rw[jL];unfold putr;rw[Yj (by unfold sk;split<;>lia)]
  .rw[r0];let e1:putr A a (λj=>if j=a then 1 else 0) a j=0:=by unfold putr;rw[Yk Z,Yj XH]
   rw[e1,Rm,Dj]
 rw[top]at e;let h:=YF (sg a * ·) e
 simp only[<-WA]at h;rw[show sg a*sg a=1 by unfold sg;split<;>rfl,RZ,RZ]at h
 show h.symm
def ZD8{w:A0}(ha:a<n+1):det (n+1) (λi j=>A i j+w*((if i=a then 1 else 0)*(if j=a then 1 else 0)))=det (n+1) A+w*det n (λi j=>A (sk a i) (sk a j)):=by
 let e:det (n+1) (λi j=>A i j+w*((if i=a then 1 else 0)*(if j=a then 1 else 0)))=det (n+1) (putr A a λj=>w*(λj=>if j=a then 1 else 0) j+A a j):=Zo λi j _ _=>by
  unfold putr;cases h:i=a
  .subst h;rw[Yk Z,Yk Z,RZ];change A i j+w*(if j=i then 1 else 0)=w*(if j=i then 1 else 0)+A i j
   show Int.add_comm ..
  .rw[Yj h,Yj h,Dj,Rm,QM]
 rw[e,ZA8 ha,Zy7,jK ha];lia
def ind(u v i:A5):(A0):=(if i=u then 1 else 0)-(if i=v then 1 else 0)
def Va(A:Mx)(a b:A5):(Mx):=λi j=>(A i j+(if i=b then A a j else 0))+(if j=b then A i a+(if i=b then A a a else 0) else 0)
def Zh6(ha:a<n)(hb:b<n)(XH:a≠b):det n (Va A a b)=det n A:=by
 let e1:det n A=det n (putr A b λj=>A b j+1*A a j):=(ZE8 hb ha<|YX XH).symm;obtain⟨R,hR⟩:∃R:Mx,R=putr A b (λj=>A b j+1*A a j):={_,Z};let e2:det n R=det n (putr (λi j=>R j i) b λj=>(λi j=>R j i) b j+1*(λi j=>R j i) a j):=by rw[ZE8 (A:=λi j=>R j i) hb ha (YX XH)];show Od.symm
 rw[e1,<-hR,e2,<-Od (A:=putr (λi j=>R j i) b λj=>(λi j=>R j i) b j+1*(λi j=>R j i) a j)];show Zo λi j _ _=>?_;let rv:∀r c,R r c=A r c+(if r=b then A a c else 0):=λr c=>by
  rw[hR];unfold putr;cases h:r=b
  .rw[Yk h,Yk h,h];lia
  .rw[Yj h,Yj h];lia
 unfold Va;change _=(putr (λi j=>R j i) b λj=>R j b+1*R j a) j i
 unfold putr;cases h:j=b
 .rw[Yk h,Yk h,rv,rv,h];cases h2:i=b
  .rw[Yk h2,Yk h2];lia
  .rw[Yj h2,Yj h2];lia
 .rw[Yj h,Yj h];change _=R i j
  rw[rv];lia
def za{w:A0}(ha:a<n+1)(hb:b<n+1)(XH:a≠b):det (n+1) (λi j=>A i j+w*(ind a b i*ind a b j))=det (n+1) A+w*det n (λi j=>Va A a b (sk a i) (sk a j)):=by
 let e1:=Zh6 (A:=λi j=>A i j+w*(ind a b i*ind a b j)) ha hb XH;let e2:det (n+1) (Va (λi j=>A i j+w*(ind a b i*ind a b j)) a b)=det (n+1) (λi j=>Va A a b i j+w*((if i=a then 1 else 0)*(if j=a then 1 else 0))):=Zo λi j _ _=>by
  let na:¬a=b:=XH;let nb:¬b=a:=YX XH
  unfold Va ind;cases hi:i=b
  .subst hi;cases hj:j=i
   .subst hj;simp[na,nb];lia
   .cases Qt:j=a
    .subst Qt;simp[na,nb,hj];lia
    .simp[na,nb,hj,Qt]
  .cases Wq:i=a
   .subst Wq;cases hj:j=b
    .subst hj;simp[na,nb];lia
    .cases Qt:j=i
     .subst Qt;simp[na,nb]
     .simp[na,nb,hj,Qt]
   .cases hj:j=b
    .subst hj;simp[na,nb,hi,Wq]
    .cases Qt:j=a
     .subst Qt;simp[na,nb,hi,Wq]
     .simp[na,nb,hi,Wq,hj,Qt]
 rw[<-e1,e2,ZD8 ha,Zh6 ha hb XH]
end My
namespace My
open PySem L2
abbrev Ed:=A5×A5×A0
def lapE:(A6 Ed->Mx)
 |[]=>λ_ _=>0
 |e::E=>λi j=>e.2.2*(ind e.1 e.2.1 i*ind e.1 e.2.1 j)+lapE E i j
def jJ(E:A6 Ed)(e:Ed)(i j:A5):lapE (E++[e]) i j=lapE E i j+e.2.2*(ind e.1 e.2.1 i*ind e.1 e.2.1 j):=by
 induction E with
 |nil=>show _+0=0+_;lia
 |cons f E ih=>
  change _+lapE (E++[e]) i j=_+lapE E i j+_;rw[ih];lia
def SW(E:A6 Ed)(z:A0):(A5×A5):=((E.S z.j (0,0,0)).1,(E.S z.j (0,0,0)).2.1)
def Ua(E:A6 Ed):(Ac->A0)
 |[]=>1
 |z::T=>(E.S z.j (0,0,0)).2.2*Ua E T
def jI(E:A6 Ed)(S T:Ac):Ua E (S++T)=Ua E S*Ua E T:=by
 induction S with
 |nil=>show _=1*_;rw[RZ];rfl
 |cons z S ih=>show _*Ua E (S++T)=_*_*_;rw[ih,WA]
def IsT(k:A5)(E:A6 Ed)(T:Ac):(Prop):=IsSet E.f T/\T.f=k/\∀i j,i<k+1->j<k+1->Conn (T.Q<|SW E) i j
def TW(k:A5)(E:A6 Ed)(s:A0):(Prop):=∃L:Ab,L.Nodup/\(∀T,T∈L↔IsT k E T)/\(L.Q<|Ua E).sum=s
def y9{E:A6 Ed}{e:Ed}{z:A0}(h0:0<=z)(h1:z<E⁻¹):(E++[e]).S z.j (0,0,0)=E.S z.j (0,0,0):=by rw[Wj,Wj,YB J]
def y8(E:A6 Ed)(e:Ed):(E++[e]).S (E.f:A0).j (0,0,0)=e:=by rw[Wj,VN,YE<|XI _,MU];rfl
def Hq{e:Ed}(h:IsSet E.f T):T.Q (SW (E++[e]))=T.Q (SW E):=YZ λz hz=>by
 have:=h.all z hz
 unfold SW;rw[y9 this.1 this.2]
def Ho{e:Ed}(h:∀z∈T,0<=z/\z<E⁻¹):Ua (E++[e]) T=Ua E T:=by
 induction T with
 |nil=>rfl
 |cons z T ih=>
  let hz:=h z Yi;change _*Ua (E++[e]) T=_*Ua E T
  rw[y9 hz.1 hz.2,ih λy hy=>h y (Yn _ hy)]
def sj{e:Ed}(h:IsSet E.f T):IsT k (E++[e]) T↔IsT k E T:=by
 let h2:IsSet (E++[e]).f T:=by rw[Ya];show h.up
 constructor
 .rintro⟨_,a,b⟩;exists h,a,by rwa[Hq h]at b
 .rintro⟨_,a,b⟩;exists h2,a,by rwa[Hq h]
def ZP7{e:Ed}(h:IsSet E.f T):(T++[E⁻¹]).Q (SW (E++[e]))=T.Q (SW E)++[(e.1,e.2.1)]:=by
 rw[Yz,Hq h];change _++[SW (E++[e]) E⁻¹]=_
 unfold SW;rw[y8]
def sh(a x:A5):(A5):=if x<a then x else x-1
def dl(a b x:A5):(A5):=if x=a then sh a b else sh a x
def Hn(a y:A5):sh a (sk a y)=y:=by
 unfold sk;cases h:y<a
 .rw[Yk h];unfold sh;rw[Yk h]
 .rw[Yj h];unfold sh;rw[Yj J];lia
def y7(a y:A5):sk a y≠a:=by unfold sk;split<;>lia
def Mb(h:x≠a):sk a (sh a x)=x:=by
 unfold sh;cases c:x<a
 .rw[Yk c];unfold sk;rw[Yk c]
 .rw[Yj c];unfold sk;rw[Yj J];lia
def Ma(a b y:A5):dl a b (sk a y)=y:=by unfold dl;rw[Yj (y7 a y),Hn]
def Hm(hx:x≠a)(hy:y≠a)(h:sh a x=sh a y):x=y:=by
 have:=YF (sk a) h
 rwa[Mb hx,Mb hy]at this
def jH(XH:b≠a)(h:dl a b x=dl a b y):x=y\/(x=a/\y=b)\/(x=b/\y=a):=by
 unfold dl at h;cases hx:x=a
 .rw[Yk hx]at h;cases hy:y=a
  .show .inl (hx.l hy.symm)
  .rw[Yj hy]at h;show .inr (.inl {hx,(Hm XH hy h).symm})
 .rw[Yj hx]at h;cases hy:y=a
  .rw[Yk hy]at h;show .inr (.inr {Hm hx XH h,hy})
  .rw[Yj hy]at h;show .inl (Hm hx hy h)
def jG(a b:A5)(XH:b≠a):dl a b a=dl a b b:=by unfold dl;rw[Yk Z,Yj XH]
def y6{es:A6 (A5×A5)}{i j:A5}(XH:b≠a)(c:Conn (es++[(a,b)]) i j):Conn (es.Q λe=>(dl a b e.1,dl a b e.2)) (dl a b i) (dl a b j):=by
 induction c with
 |refl i=>show .refl _
 |edge q=>
  rcases Xi.Y q with q|q
  .show .edge (Yp.X {_,q,Z})
  .let e:=Xn.Y q;injection e with e1 e2
   rw[e1,e2,jG a b XH];show .refl _
 |symm _ ih=>show .symm ih
 |trans _ _ a b=>show .trans a b
def yZ{es:A6 (A5×A5)}{u v:A5}(XH:b≠a)(c:Conn (es.Q λe=>(dl a b e.1,dl a b e.2)) u v):∀i j,dl a b i=u->dl a b j=v->Conn (es++[(a,b)]) i j:=by
 let he:Conn (es++[(a,b)]) a b:=.edge AP;let same:∀i j,dl a b i=dl a b j->Conn (es++[(a,b)]) i j:=λi j e=>by
  rcases jH XH e with e|⟨e1,e2⟩|⟨e1,e2⟩
  .rw[e];show .refl _
  .rw[e1,e2];show he
  .rw[e1,e2];show he.symm
 induction c with
 |refl u=>show λi j e1 e2=>same i j (e1.l e2.symm)
 |edge q=>
  intro i j e1 e2;let((x,y),Ko,e):=Yp.Y q;injection e with x1 x2
  show(same i x<|e1.l x1.symm).l (.trans (.edge<|Yy _ Ko)<|same y j<|x2.l e2.symm)
 |symm _ ih=>show λi j e1 e2=>(ih j i e2 e1).symm
 |@trans x y z _ _ Kb Pm=>show λi j e1 e2=>(Kb i (sk a y) e1<|Ma a b y).l (Pm (sk a y) j (Ma a b y) e2)
def LZ{a b x k:A5}(ha:a<k+1)(hb:b<k+2)(XH:b≠a)(hx:x<k+2):dl a b x<k+1:=by
 unfold dl sh;cases h:x=a
 .rw[Yk h];split<;>lia
 .rw[Yj h];split<;>lia
def cdl{a b k:A5}{es:A6 (A5×A5)}(ha:a<k+1)(hb:b<k+2)(XH:b≠a):(∀i j,i<k+2->j<k+2->Conn (es++[(a,b)]) i j)↔∀i j,i<k+1->j<k+1->Conn (es.Q λe=>(dl a b e.1,dl a b e.2)) i j:=by
 constructor
 .intro c i j h1 h2
  have:=y6 XH (c (sk a i) (sk a j) (Og h1)<|Og h2)
  rwa[Ma,Ma]at this
 .show λc i j h1 h2=>yZ XH (c _ _ (LZ ha hb XH h1)<|LZ ha hb XH h2) i j Z rfl
def Sf(a b:A5)(E:A6 Ed):(A6 Ed):=E.Q λe=>(dl a b e.1,dl a b e.2.1,e.2.2)
def yY{z:A0}(h0:0<=z)(h1:z<E⁻¹):(Sf a b E).S z.j (0,0,0)=(dl a b (E.S z.j (0,0,0)).1,dl a b (E.S z.j (0,0,0)).2.1,(E.S z.j (0,0,0)).2.2):=by unfold Sf;rw[Wj,Wj,Yo,Xv pB];rfl
def yX(h:IsSet E.f T):T.Q (SW (Sf a b E))=(T.Q (SW E)).Q λe=>(dl a b e.1,dl a b e.2):=by
 rw[MT];show YZ λz hz=>?_
 have:=h.all z hz
 unfold SW;rw[yY this.1 this.2];rfl
def jF(h:∀z∈T,0<=z/\z<E⁻¹):Ua (Sf a b E) T=Ua E T:=by
 induction T with
 |nil=>rfl
 |cons z T ih=>
  let hz:=h z Yi;change _*Ua (Sf a b E) T=_*Ua E T
  rw[yY hz.1 hz.2,ih λy hy=>h y (Yn _ hy)]
def yW{e:Ed}(ha:a<k+1)(hb:b<k+2)(XH:b≠a)(he:(e.1=a/\e.2.1=b)\/(e.1=b/\e.2.1=a))(h:IsSet E.f T):IsT (k+1) (E++[e]) (T++[E⁻¹])↔IsT k (Sf a b E) T:=by
 let hl:(Sf a b E).f=E.f:=Yb ..;let hc:(∀i j,i<k+2->j<k+2->Conn ((T++[E⁻¹]).Q (SW<|E++[e])) i j)↔∀i j,i<k+2->j<k+2->Conn (T.Q (SW E)++[(a,b)]) i j:=by
  rw[ZP7 h];rcases he with ⟨e1,e2⟩|⟨e1,e2⟩
  .rw[e1,e2]
  .rw[e1,e2];exists λc i j x y=>Zn6<|c i j x y,λc i j x y=>Zn6<|c i j x y
 let h2:IsSet (E++[e]).f (T++[E⁻¹]):=by rw[Ya];show h.snoc
 constructor
 .rintro⟨_,x,y⟩;exists hl▸h,?_,?_
  .rw[Ya,YW]at x;lia
  .rw[yX h];show(cdl ha hb XH).Y (hc.Y y)
 .rintro⟨_,x,y⟩;rw[yX h]at y;exists h2,by rw[Ya,YW,x],hc.X<|(cdl ha hb XH).X y
def jE{E:A6 Ed}{e:Ed}(hE:∀f∈E,f.1<k+1/\f.2.1<k+1)(he:e.1=e.2.1)(h:IsSet E.f T):¬IsT k (E++[e]) (T++[E⁻¹]):=by
 intro Ω;let⟨_,x,y⟩:=Ω;rw[ZP7 h]at y;let Oi:∀i j,i<k+1->j<k+1->Conn (T.Q<|SW E) i j:=λi j hi hj=>(y i j hi hj).lift λf hf=>by
  rcases Xi.Y hf with q|q
  .show .edge q
  .rw[Xn.Y q,he];show .refl _
 let VP:InN (k+1) (T.Q<|SW E):=λf hf=>by
  let(z,hz,rfl):=Yp.Y hf
  have:=h.all z hz
  unfold SW;rw[Wj,Xv J];show hE _ (Jp _)
 let h2:=(Pr J VP).X Oi;let h3:=sQ _ VP
 rw[Yb]at h3;rw[Ya,YW]at x;lia
def jD{e:Ed}(hE:∀f∈E,f.1<k+1/\f.2.1<k+1)(he:e.1=e.2.1)(h:TW k E s):TW k (E++[e]) s:=by
 let(L,a1,a2,a3):=h;exists L,a1,λT=>?_,?_
 .rw[a2];constructor
  .show λh=>(sj h.1).X h
  .intro h;let hs:=h.1
   rw[Ya]at hs;rcases Hx hs with c|⟨T',c,c2⟩
   .show(sj c).Y h
   .show absurd (c▸h) (jE hE he c2)
 .rw[<-a3];show YF List.sum (YZ λT hT=>Ho ((a2 T).Y hT).1.all)
def jC(a b:Ac):(a++b).sum=a.sum+b.sum:=by
 induction a with
 |nil=>rw[Fj,List.sum_nil,KY]
 |cons x a ih=>rw[Jo,MX,MX,ih];lia
def Zb9(w:A0)(l:Ab)(f:Ac->A0):(l.Q λT=>f T*w).sum=w*(l.Q f).sum:=by
 induction l with
 |nil=>rw[List.map_nil,List.map_nil,List.sum_nil,Rm]
 |cons x l ih=>rw[QQ,QQ,MX,MX,ih,Ji,Rj]
def jB{e:Ed}(ha:a<k+1)(hb:b<k+2)(XH:b≠a)(he:(e.1=a/\e.2.1=b)\/(e.1=b/\e.2.1=a))(h1:TW (k+1) E s1)(h2:TW k (Sf a b E) s2):TW (k+1) (E++[e]) (s1+e.2.2*s2):=by
 let(L,a1,a2,a3):=h1;let(M,b1,b2,b3):=h2;let hl:(Sf a b E).f=E.f:=Yb ..
 exists L++M.Q (·++[E⁻¹]),Pb.X {a1,?_,λx hx y hy c=>?_},λT=>?_,?_
 .show List.U.Q _ (λx y h c=>h<|List.append_cancel_right c) b1
 .let⟨z,hz,c2⟩:=Yp.Y hy
  have:=((a2 x).Y hx).1.all E⁻¹ (by rw[c,<-c2];simp)
  lia
 .rw[Xi,a2,Yp];constructor
  .rintro(h|⟨T',hT,rfl⟩)
   .show(sj h.1).X h
   .have:=(b2 T').Y hT
    show(yW ha hb XH he<|hl▸this.1).X this
  .intro h;let hs:=h.1
   rw[Ya]at hs;rcases Hx hs with c|⟨T',c,c2⟩
   .show .inl ((sj c).Y h)
   .show .inr {T',(b2 T').X ((yW ha hb XH he c2).Y (c▸h)),c.symm}
 .rw[Yz,jC,MT];let e1:L.Q (Ua<|E++[e])=L.Q (Ua E):=YZ λT hT=>Ho ((a2 T).Y hT).1.all
  let e2:M.Q (Ua (E++[e])∘(·++[E⁻¹]))=M.Q λT=>Ua (Sf a b E) T*e.2.2:=YZ λT hT=>by
   let hs:IsSet E.f T:=hl▸((b2 T).Y hT).1;change Ua (E++[e]) (T++[E⁻¹])=_
   rw[jI,Ho hs.all,jF hs.all];change _*(((E++[e]).S (E.f:A0).j (0,0,0)).2.2*1)=_
   rw[y8,Fd]
  rw[e1,e2,a3,Zb9,b3]
def yV(XH:b≠a):ind (dl a b u) (dl a b v) i=ind u v (sk a i)+(if sk a i=b then ind u v a else 0):=by
 let key:∀x:A5,((if i=dl a b x then 1 else 0:A0))=(if sk a i=x then 1 else 0)+(if sk a i=b then (if a=x then 1 else 0) else 0):=λx=>by
  unfold dl;cases hx:x=a
  .rw[Yk hx,Yj<|show ¬sk a i=x from hx▸y7 a i,KY];cases h:sk a i=b
   .rw[Yk h,Yk hx.symm,Yk];rw[<-h,Hn]
   .rw[Yj h,Yj];intro e;show h (by rw[e,Mb XH])
  .rw[Yj hx];let e2:(if sk a i=b then (if a=x then 1 else 0:A0) else 0)=0:=by rw[Yj (YX hx)];split<;>rfl
   rw[e2,QM];cases h:sk a i=x
   .rw[Yk h,Yk];rw[<-h,Hn]
   .rw[Yj h,Yj];intro e;show h (by rw[e,Mb hx])
 unfold ind;rw[key u,key v];cases h:sk a i=b
 .rw[Yk h,Yk h,Yk h];lia
 .rw[Yj h,Yj h,Yj h];lia
def yU(XH:b≠a)(i j:A5):∀E:A6 Ed,lapE (Sf a b E) i j=Va (lapE E) a b (sk a i) (sk a j)
 |[]=>by
  change(0:A0)=_;unfold Va lapE;cases h:sk a i=b
  .cases h2:sk a j=b
   .rw[Yk h,Yk h2];rfl
   .rw[Yk h,Yj h2];rfl
  .cases h2:sk a j=b
   .rw[Yj h,Yk h2];rfl
   .rw[Yj h,Yj h2];rfl
 |e::E=>by
  let ih:=yU XH i j E;change e.2.2*(ind (dl a b e.1) (dl a b e.2.1) i*ind (dl a b e.1) (dl a b e.2.1) j)+lapE (Sf a b E) i j=_
  rw[ih,yV XH,yV XH];unfold Va;change _=(e.2.2*(ind e.1 e.2.1 (sk a i)*ind e.1 e.2.1 (sk a j))+lapE E (sk a i) (sk a j)+(if sk a i=b then e.2.2*(ind e.1 e.2.1 a*ind e.1 e.2.1 (sk a j))+lapE E a (sk a j) else 0))+(if sk a j=b then (e.2.2*(ind e.1 e.2.1 (sk a i)*ind e.1 e.2.1 a)+lapE E (sk a i) a)+(if sk a i=b then e.2.2*(ind e.1 e.2.1 a*ind e.1 e.2.1 a)+lapE E a a else 0) else 0)
  generalize ind e.1 e.2.1 (sk a i)=x;generalize ind e.1 e.2.1 (sk a j)=y;generalize ind e.1 e.2.1 a=z;generalize e.2.2=w;cases h:sk a i=b
  .cases h2:sk a j=b
   .simp only[Yk h,Yk h2,Ji,ur];lia
   .simp only[Yk h,Yj h2,Ji,ur,QM,Rm];lia
  .cases h2:sk a j=b
   .simp only[Yj h,Yk h2,Ji,ur,QM,Dj];lia
   .simp only[Yj h,Yj h2,QM]
def yS(u v i:A5):ind v u i=- ind u v i:=by unfold ind;lia
def yR{e:Ed}(ha:a<k+1)(hb:b<k+2)(XH:b≠a)(he:(e.1=a/\e.2.1=b)\/(e.1=b/\e.2.1=a)):det (k+1) (lapE (E++[e]))=det (k+1) (lapE E)+e.2.2*det k (lapE (Sf a b E)):=by
 let e1:det (k+1) (lapE<|E++[e])=det (k+1) (λi j=>lapE E i j+e.2.2*(ind a b i*ind a b j)):=Zo λi j _ _=>by
  rw[jJ];rcases he with ⟨x,y⟩|⟨x,y⟩
  .rw[x,y]
  .rw[x,y,yS a b i,yS a b j,pS]
 let e2:det k (lapE<|Sf a b E)=det k (λi j=>Va (lapE E) a b (sk a i)<|sk a j):=Zo λi j _ _=>yU XH i j E;rw[e1,e2];cases hk:b<k+1
 .show za ha hk (YX XH)
 .let e3:det (k+1) (λi j=>lapE E i j+e.2.2*(ind a b i*ind a b j))=det (k+1) (λi j=>lapE E i j+e.2.2*((if i=a then 1 else 0)*(if j=a then 1 else 0))):=Zo λi j hi hj=>by unfold ind;rw[Yj (show ¬i=b by lia),Yj (show ¬j=b by lia),Int.sub_zero,Int.sub_zero]
  let e4:det k (λi j=>Va (lapE E) a b (sk a i)<|sk a j)=det k (λi j=>lapE E (sk a i)<|sk a j):=Zo λi j hi hj=>by
   let h1:=Og (j:=a) hi;let h2:=Og (j:=a) hj
   unfold Va;rw[Yj (show ¬sk a i=b by lia),Yj (show ¬sk a j=b by lia),QM,QM]
  rw[e3,e4];show ZD8 ha
def yQ{e:Ed}(he:e.1=e.2.1):lapE (E++[e])=lapE E:=by
 funext i j
 rw[jJ,he];unfold ind;rw[Int.sub_self,Dj,Rm,QM]
def si:∀m k E,E.f=m->(∀e∈E,e.1<k+1/\e.2.1<k+1)->TW k E (det k (lapE E))
 |0,k,E,hm,_=>by
  let rfl:=Ur.Y hm;cases k with
  |zero=>
   exists [[]],AP,λT=>?_,Z;rw[Xn];constructor
   .rintro rfl;show⟨IsSet.nil _,Z,λi j hi hj=>by
     have:i=j:=J
     rw[this];show .refl j⟩
   .intro h;show Ur.Y h.2.1
  |succ k=>
   exists [],.nil,λT=>{λh=>(by cases h),λh=>?_},?_
   .let h1:=h.1.len;let h2:=h.2.1
    rw[uH]at h1;lia
   .show(Zy8 (i:=0) J λj _=>rfl).symm
 |m+1,k,E,hm,hE=>by
  obtain⟨E',e,rfl⟩:∃E' e,E=E'++[e]:={E.dropLast,E.getLast (λh=>by rw[h]at hm;cases hm),(Y3g _).symm};let Kt:E'.f=m:=by rw[Ya]at hm;simpa using hm
  let jz:∀f∈E',f.1<k+1/\f.2.1<k+1:=λf hf=>hE f (Yy _ hf);let he:=hE e AP
  let ih:=si m k E' Kt jz;cases hl:e.1=e.2.1
  .rw[yQ hl];show jD jz hl ih
  .obtain⟨k',rfl⟩:∃k',k=k'+1:={k-1,J};obtain⟨a,b,ha,hb,XH,UU⟩:∃a b,a<k'+1/\b<k'+2/\b≠a/\((e.1=a/\e.2.1=b)\/(e.1=b/\e.2.1=a)):=by
    cases c:e.1<k'+1
    .exists e.1,e.2.1,c,he.2,λh=>hl h.symm,.inl ⟨Z,Z⟩
    .exists e.2.1,e.1,J,he.1,hl,.inr ⟨Z,Z⟩
   let Pm:=si m k' (Sf a b E') (by unfold Sf;rwa[Yb]) λf hf=>by
    let(g,hg,rfl):=Yp.Y hf
    have:=jz g hg
    exists LZ ha hb XH this.1,LZ ha hb XH this.2
   rw[yR ha hb XH UU];show jB ha hb XH UU ih Pm
def Vi(ps:Aa)(ws:Ac):(A6 Ed):=List.zipWith (λp w=>(p.1.j,p.2.j,w)) ps ws
def yP(h1:1<=n)(hw:ws.f=ps.f):IsT (n-1).j (Vi ps ws) T↔Zj n ps T:=by
 let hl:(Vi ps ws).f=ps.f:=by unfold Vi;rw[QK];lia
 let hm:IsSet ps.f T->T.Q (SW<|Vi ps ws)=XO ps T:=λhs=>YZ λz hz=>by
  have:=hs.all z hz
  unfold SW Vi;rw[Wj,Jt,Xv J,Xv (show z.j<ws.f by lia),Wj,Xv pB];rfl
 unfold IsT Zj;rw[hl];constructor
 .rintro⟨a,b,c⟩;rw[hm a]at c;exists a,J,λi j hi hj=>c i j J J
 .rintro⟨a,b,c⟩;rw[hm a];exists a,J,λi j hi hj=>c i j J J
def yO(h:∀e∈E,e.2.2=1):∀{T:Ac},(∀z∈T,0<=z/\z<E⁻¹)->Ua E T=1
 |[],_=>rfl
 |z::T,hb=>by
  let hz:=hb z Yi;change(E.S z.j (0,0,0)).2.2*Ua E T=1
  rw[yO h λy hy=>hb y<|Yn _ hy,Fd,Wj,Xv J];show h _ (Jp _)
def jy{l:Ab}{f:Ac->A0}(h:∀T∈l,f T=1):(l.Q f).sum=l⁻¹:=by
 induction l with
 |nil=>rfl
 |cons x l ih=>
  rw[QQ,MX,ih λT hT=>h T<|Yn _ hT,h x Yi,YM];lia
def yN(g:Zz n ps)(ws:Ac):∀e∈Vi ps ws,e.1<(n-1).j+1/\e.2.1<(n-1).j+1:=λe he=>by
 unfold Vi at he;let(i,hi):=YA he;rw[Jt]at hi;let g1:=g.1
 cases h1:ps[i]? with
 |none=>rw[h1]at hi;cases hi
 |some p=>
  cases h2:ws[i]? with
  |none=>rw[h1,h2]at hi;cases hi
  |some w=>
   rw[h1,h2]at hi;let rfl:=Yf hi;let(a,b,c,d):=g.2.2.2 p (Xo h1);exists by change p.1.j<_;lia,by change p.2.j<_;lia
def jx(g:Zz n ps){L:Ab}(hL:L.Nodup)(hm:∀l,l∈L↔Zj n ps l):det (n-1).j (lapE (Vi ps (List.replicate ps.f 1)))=L⁻¹:=by
 let g1:=g.1;let hw:(List.replicate ps.f (1:A0)).f=ps.f:=YN
 let(M,a1,a2,a3):=si _ (n-1).j (Vi ps<|List.replicate ps.f 1) Z (yN g _);let hl:(Vi ps<|List.replicate ps.f 1).f=ps.f:=by unfold Vi;rw[QK,hw];lia
 let w1:∀e∈Vi ps (List.replicate ps.f (1:A0)),e.2.2=1:=λe he=>by
  unfold Vi at he;let(i,hi):=YA he;rw[Jt]at hi;cases h1:ps[i]? with
  |none=>rw[h1]at hi;cases hi
  |some p=>
   cases h2:(List.replicate ps.f (1:A0))[i]? with
   |none=>rw[h1,h2]at hi;cases hi
   |some w=>
    rw[h1,h2]at hi;let rfl:=Yf hi;show List.eq_of_mem_replicate (Xo h2)
 rw[<-a3,jy λT hT=>yO w1 ((a2 T).Y hT).1.all];let hp:M.Perm L:=(Jv a1 hL).X λl=>by rw[a2,hm,yP g1 hw]
 rw[hp.length_eq]
end My
namespace L2
open PySem PySem.Spec PyProof.Rows
section
variable{X:Cx}
def jw(K:Ad):(V->V->Hp->VK->Prop):=λx y H Q=>∃p xs i v,x=.ref p/\y=.int i/\SqL K H p xs/\0<=i/\xs[i.j]?=⇑v/\Q v H
def sf(K:Ad)(hk:X.K=K:=by rfl):Cu X (jw K):=by
 subst hk;intro pins s σ H o i ov iv Q I ro ri h;let(p,xs,j,z,rfl,rfl,hq,h0,he,q):=h;cases ro;let(t,rfl):=ri;let(XW,r,pl,hz):=I.list hq;let(w,ew,MD):=r.get he;let hn:=IK
 let Xu:=(Xr.Y he).1;show wpAny_getItem_list pl.isList h0 J (by simpa using ew) ⟨z,H,I,MD,q⟩
end
end L2
namespace My
open PySem L2
def jv{g:TG}{tb:TS}{tB:Ends}(Ko:xs.f=ys.f)(Pv:A5->St->Hp->Prop)(h0:Pv 0 σ H)(hl:∀i σ H,i<=xs.f->Pv i σ H->SqL K H a xs/\SqL K H b ys)
  (hs:∀(i:A5) x y σ H (p:A7),H p=A8->xs[i]?=⇑x->ys[i]?=⇑y->Pv i σ H->g ↑p σ (upd H p<|.tup [x,y]) λσ2 H2=>tb {tB with nx:=Pv<|i+1,ct:=Pv<|i+1,bk:=tB.nx} σ2 H2)(hd:∀σ H,Pv xs.f σ H->tB.nx σ H):
  ∃W:A5->A5->St->Hp->Prop,(∃m,W 0 m σ H)/\∀i m σ H,W i m σ H->
   ((Et K a b).stop i H/\tB.nx σ H)\/((Et K a b).go i H/\∃N:St->Hp->Prop,(∀σ' H',N σ' H'->∃m',m'<m/\W (i+1) m' σ' H')/\∀x H',(Et K a b).yld i H x H'->g x σ H' λσ2 H2=>tb {tB with nx:=N,ct:=N,bk:=tB.nx} σ2 H2):=by
 exists λi m σ H=>m=xs.f-i/\i<=xs.f/\Pv i σ H,{xs.f,AP,XC _,h0},?_;intro i m σ H Ω;let⟨rfl,hi,p⟩:=Ω;let(q,q2):=hl i σ H hi p;cases Xu:i<xs.f
 .show .inr {{xs,ys,xs[i],ys[i]'(by lia),q,q2,by simp[Xu],Xv pB},Pv<|i+1,λσ' H' p'=>{xs.f-(i+1),B,Z,Xu,p'},λx H' ⟨T,u,v,hT,ex,eH,hu,hv⟩=>?_};subst ex eH;show hs i u v σ H T hT (hu xs q) (hv ys q2) p
 .let e:i=xs.f:=J;subst e;show .inl {{xs,ys,q,q2,.inl<|XI _},hd σ H p}
structure TabAt(H0:Hp)(r:A7)(n:A5)(H:Hp)(ys:A6 V)(L:Ab):Prop where
 tab:H r=⇑(.lst ys)
 rows:Bears (LiV r H) ys L
 len:L.f=n
 all:∀l∈L,l.f=n
 nd:ys.Nodup
 new:∀A,V.ref A∈ys->H0 A=A8
def TabAt.same(s:Same H H')(h:TabAt H0 r n H ys L):TabAt H0 r n H' ys L:={s _ _ h.tab,h.rows.imp λ_ _ q=>q.same s,h.len,h.all,h.nd,h.new}
def TabAt.at(h:TabAt H0 r n H ys L){i:A5}(hi:i<n):∃A l,ys[i]?=some ↑A/\L[i]?=⇑l/\H A=⇑(.lst (IL l))/\l.f=n/\H0 A=A8/\A≠r:=by let hl:=h.len;obtain⟨l,e⟩:∃l,L[i]?=⇑l:={_,Xv J};let(v,e1,A,rfl,e2,e3):=h.rows.2 i l e;exists A,l,e1,e,e2,h.all l<|Xo e,h.new A<|Xo e1,e3
def TabAt.put(h:TabAt H0 r n H ys L){l l':Ac}(e1:ys[i]?=some ↑A)(e2:L[i]?=⇑l)(e3:A≠r)(hl:l'.f=n):TabAt H0 r n (upd H A (.lst (IL l'))) ys (L.set i l'):=by
 let hi:=(Xr.Y e2).1;let TN:=(Xr.Y e1).1
 exists by rw[Za (YX e3)];show h.tab,{by rw[uI];show h.rows.1,λj m em=>?_},by rw[uI];show h.len,λm hm=>?_,h.nd,h.new
 .rw[Fq]at em;cases c:i=j
  .subst c;rw[Yk Z,Yk hi]at em;let rfl:=Yf em;exists _,e1,A,Z,XS,e3
  .rw[Yj c]at em;let(v,f1,o8,rfl,f2,f3):=h.rows.2 j m em;exists _,f1,o8,Z,?_,f3;rw[Za]
   .show f2
   .intro e;rw[e]at f1;show c (Xf h.nd e1 f1)
 .rcases List.mem_or_eq_of_mem_set hm with e|e
  .show h.all m e
  .rw[e];show hl
def ju{L:Ab}{l:Ac}(hi:L[i]?=⇑l)(hj:j<l.f)(a b:A5):fnL (L.set i (l.set j x)) a b=if a=i/\b=j then x else fnL L a b:=by
 let TN:=(Xr.Y hi).1;unfold fnL;cases ha:a=i
 .subst ha;let e1:(L.set a<|l.set j x).S a []=l.set j x:=by rw[Wj,Fq,Yk Z,Yk TN];rfl
  let e2:L.S a []=l:=by rw[Wj,hi];rfl
  rw[e1,e2];cases hb:b=j
  .subst hb;rw[Yk ⟨Z,Z⟩,Wj,Fq,Yk Z,Yk hj];rfl
  .rw[Yj λh=>hb h.2,Wj,Fq,Yj<|YX hb,<-Wj]
 .let e1:(L.set i<|l.set j x).S a []=L.S a []:=by rw[Wj,Wj,Fq,Yj (YX ha)]
  rw[e1,Yj λh=>ha h.1]
def four{A:Mx}{u v:A5}{w:A0}(XH:u≠v)(a b:A5){o8 C tB E:Mx}(h1:∀a b,o8 a b=if a=u/\b=u then A u u+w else A a b)(h2:∀a b,C a b=if a=v/\b=v then o8 v v+w else o8 a b)(h3:∀a b,tB a b=if a=u/\b=v then C u v-w else C a b)(h4:∀a b,E a b=if a=v/\b=u then tB v u-w else tB a b):E a b=A a b+w*(ind u v a*ind u v b):=by
 let nv:¬v=u:=YX XH;unfold ind;cases x1:a=u
 .subst x1;cases y1:b=a
  .subst y1;simp[h4,h3,h2,h1,XH,nv]
  .cases y2:b=v
   .subst y2;simp[h4,h3,h2,h1,XH,nv];lia
   .simp[h4,h3,h2,h1,XH,nv,y1,y2]
 .cases x2:a=v
  .subst x2;cases y1:b=u
   .subst y1;simp[h4,h3,h2,h1,XH,nv];omega
   .cases y2:b=a
    .subst y2;simp[h4,h3,h2,h1,XH,nv]
    .simp[h4,h3,h2,h1,XH,nv,y1,y2]
  .simp[h4,h3,h2,h1,XH,nv,x1,x2]
def jt{ps:Aa}{ws:Ac}{p:A0×A0}{w:A0}(hp:ps[i]?=⇑p)(hw:ws[i]?=⇑w):Vi (ps.R (i+1)) (ws.R (i+1))=Vi (ps.R i) (ws.R i)++[(p.1.j,p.2.j,w)]:=by
 let h1:=(Xr.Y hp).1;let h2:=(Xr.Y hw).1
 unfold Vi;rw[Yw,Yw,hp,hw];rw[List.zipWith_append (by rw[Yx,Yx];grind)];rfl
def Conn.image{f:A5->A5}(h:∀e∈es,Conn fs (f e.1) (f e.2))(c:Conn es i j):Conn fs (f i) (f j):=by
 induction c with
 |refl i=>show .refl _
 |edge e=>show h _ e
 |symm _ ih=>show ih.symm
 |trans _ _ Kb Pm=>show Kb.l Pm
def yM(g:Zz n ps)(h:IsSet ps.f T)(c:∀i j,i<n.j->j<n.j->Conn (XO ps T) i j):n-1<=T⁻¹:=by
 let g1:=g.1;let VP:=ZY (ns:=T) g h.all
 let h2:=(Pr J VP).X c;let h3:=sQ _ VP
 rw[show(XO ps T).f=T.f from Yb ..]at h3;lia
end My
namespace L2
open PySem
def Qs(t:SetTable):(Prop):=t.place.m.U (·<·)
def sd{xs:B3 A5}(h:xs.m.U (·<·)){i k a b:A5}(hik:i<k)(ha:xs[i]?=⇑a)(hb:xs[k]?=⇑b):a<b:=by rw[<-YO]at ha hb;let(h1,e1):=Xr.Y ha;let(h2,e2):=Xr.Y hb;rw[<-e1,<-e2];show YQ.Y h i k h1 h2 hik
def Hl(h:xs.m.U (·<·)):∀f lo hi,hi-lo<=f->lo<=hi->hi<=xs.o->(∀i v,xs[i]?=⇑v->i<lo->v<j)->(∀i v,xs[i]?=⇑v->hi<=i->j<=v)->
  SetTable.below.go xs j f lo hi<=xs.o/\∀i v,xs[i]?=⇑v->(i<SetTable.below.go xs j f lo hi↔v<j)
 |0,lo,hi,hf,hl,hs,a,b=>by unfold SetTable.below.go;grind
 |f+1,lo,hi,hf,hl,hs,a,b=>by
  unfold SetTable.below.go;cases c:lo<hi
  .rw[Yk c];dsimp only;obtain⟨m,hm⟩:∃m,xs[(lo+hi)/2]?=⇑m:={_,Ld J};let em:xs.S ((lo+hi)/2) j=m:=by rw[YS,hm];rfl
   rw[em];cases d:m<j
   .rw[Yk d];show Hl h f _ hi B J hs (λi v hv Wq=>?_) b;cases e:i=(lo+hi)/2
    .ext
    .have:=sd h (show i<(lo+hi)/2 by lia) hv hm
     lia
   .rw[Yj d];show Hl h f lo _ B J J a λi v hv Wq=>?_;cases e:i=(lo+hi)/2
    .ext
    .have:=sd h (show(lo+hi)/2<i by lia) hm hv
     lia
  .rw[Yj c];grind
def r6(h:xs.m.U (·<·))(j:A5):SetTable.below xs j<=xs.o/\∀i v,xs[i]?=⇑v->(i<SetTable.below xs j↔v<j):=
 Hl h xs.o 0 xs.o (by ext) (XC _) (XI _) (λi v _ h=>absurd h<|QR _) λi v hv hi=>by
  ext
def yL(h:xs.m.U (·<·)){i v:A5}(hv:xs[i]?=⇑v):SetTable.below xs v=i:=by
 let(h1,h2):=r6 h v;let a:¬i<SetTable.below xs v:=λq=>by ext
 show pV J (OU λq=>?_);let Xu:=(Array.getElem?_eq_some_iff.Y hv).1
 obtain⟨u,hu⟩:∃u,xs[SetTable.below xs v]?=⇑u:={_,Ld J};let b:=sd h q hu hv
 grind
def ZY8(h:xs.m.U (·<·)){i v:A5}(hv:xs[i]?=⇑v):SetTable.below xs (v+1)=i+1:=by
 let(h1,h2):=r6 h (v+1);let a:=(h2 i v hv).X (RV v)
 show pV (OU λq=>?_) a;obtain⟨u,hu⟩:∃u,xs[i+1]?=⇑u:={_,Ld J};let b:=(h2 _ u hu).Y q
 have:=sd h (RV i) hv hu
 lia
def ZX8(h:xs.m.U (·<·)):SetTable.below xs 0=0:=by let(h1,h2):=r6 h 0;show Nat.le_zero.Y (OU λq=>?_);obtain⟨u,hu⟩:∃u,xs[0]?=⇑u:={_,Ld J};show QR _ ((h2 _ u hu).Y q)
def Ep(t:SetTable)(j:A5):(Prop):=t.place[SetTable.below t.place j]?≠⇑j
def js(h:Qs t)(hn:Ep t j):Qs (t.put j).1:=by
 let(h1,h2):=r6 h j;let up:∀i v,t.place[i]?=⇑v->SetTable.below t.place j<=i->j<v:=λi v hv hi=>by
  let a:¬v<j:=λq=>by have:=(h2 i v hv).X q;lia
  let b:v≠j:=λe=>hn (by rw[e]at hv;rwa[yL h hv]);lia
 change(SetTable.insertAt t.place (SetTable.below t.place j) j).m.U (·<·);rw[SetTable.toList_insertAt];let dn:∀x∈t.place.m.R (SetTable.below t.place j),x<j:=λx hx=>by
  let(i,hi):=YA hx;rw[Jr]at hi;split at hi
  .ext
  ext
 let ub:∀x∈t.place.m.drop (SetTable.below t.place j),j<x:=λx hx=>by let(i,hi):=YA hx;rw[Ft,YO]at hi;show up _ x hi (Nat.le_add_right _ _)
 show YI.X {Y4c (RX _ _) h,PX.X {ub,Y4c (List.drop_sublist _ _) h},λa ha b hb=>?_};grind
def Zg4(h:t.slot j=.empty\/t.slot j=.dummy):Ep t j:=λe=>by
 let e2:t.slot j=.live (SetTable.below t.place j):=by unfold SetTable.slot;dsimp only;rw[Yk (by rw[e];simp)]
 lia
def jr{f:A5->A0}:∀n p j d,(∀e,p.dummy=⇑e->Ep t e)->SetTable.probe.go t f h n p=⇑(.empty j d)->Ep t j/\∀e,d=⇑e->Ep t e
 |0,p,j,d,_,h=>by cases h
 |n+1,p,j,d,hp,h=>by
  let adv:∀q:SetTable.Probe,(t.advance q).dummy=q.dummy:=λq=>by unfold SetTable.advance;split<;>rfl
  unfold SetTable.probe.go at h;split at h
  .rename_i hs;cases h;exists Zg4<|.inl hs,hp
  .rename_i hs;show jr n _ j d (λe he=>by rw[adv]at he;cases he;show Zg4<|.inr hs) h
  .split at h
   .cases h
   .show jr n _ j d (λe he=>hp e<|by ext) h
def ZS9{b:B2}(e:t.freeSlot h=⇑(s,b)):Ep t s:=by
 unfold SetTable.freeSlot at e;split at e
 .rename_i j d hp;let(a1,a2):=jr _ _ j d (λe he=>by cases he) hp;let e1:=YF Prod.fst (Yf e)
  dsimp only at e1;rw[<-e1];cases d with
  |none=>show a1
  |some x=>show a2 x rfl
 ext
def rZ(t:SetTable)(n:A5):Qs (t.standIn n):=by change(Array.range n).m.U (·<·);rw[Array.toList_range];show DB
def jq(h:Qs t)(es:B3 (A0×B1))(k:A0)(x:B1):Qs (layNew t es k x).2.1/\(layNew t es k x).2.1.led=t.led:=by
 unfold layNew;split
 .rename_i s b e;dsimp only;unfold SetTable.orStandIn;split
  .exists js h<|ZS9 e,Z
  .exists rZ _ _,Z
 .exists rZ _ _,Z
def Zi9(h:Qs t)(es:B3 (A0×B1))(n:A5):Qs (relayAll t es n).2.1/\(relayAll t es n).2.1.led=t.led:=by
 unfold relayAll;split
 .rename_i t' order e;dsimp only;split
  .unfold SetTable.relaid SetTable.laid at e;cases ho:SetTable.layClean (SetTable.sizeAbove n-1) (es.Q (·.1)) with
   |none=>rw[ho]at e;cases e
   |some owner=>
    rw[ho]at e;let e1:=YF Prod.fst (Yf e)
    rw[<-e1];exists ?_,Z;change(List.Q _<|List.filterMap _ _).E.m.U (·<·)
    rw[List.toList_toArray,Na,List.pairwise_filterMap];show DB.imp λ{a b} UU x hx y hy=>?_;let ex:x.1=a:=by
     cases q:owner.S a none with
     |none=>ext
     |some z=>rw[q]at hx;cases hx;rfl
    let ey:y.1=b:=by
     cases q:owner.S b none with
     |none=>ext
     |some z=>rw[q]at hy;cases hy;rfl
    ext
  .exists rZ _ _,Z
 .exists rZ _ _,Z
end L2
namespace L2
open PySem PySem.Spec PyProof.Rows
def SetR(P:Program)(w:World)(h:Heap)(a:A7)(led:B2)(S:A0->B2)(n:A5):(Prop):=
 ∃o es ep t,h.G a=⇑o/\o.ExactSet/\o.data=.set es ep t/\ElemsOf (intKind P w) es.m/\(∀z,S z=A9↔∃y∈es.m,(intKind P w).is z y.2=A9)/\es.o<scanBound/\t.fits es.o=A9/\es.o=n/\Qs t/\t.led=led
def SetR.at{S:A0->B2}(q:SetR P w h a led S n)(k:∀o,h.G a=⇑o->h'.G a=⇑o):SetR P w h' a led S n:=
 let ⟨o,es,ep,t,ho,r⟩:=q
 {o,es,ep,t,k o ho,r}
section
variable{prog:Program}{w:World}{A:Around}{E:Ae}{s:B5}
def Zi4{h:Heap}{o:Obj}{es:B3 (A0×B1)}{ep:A5}{t:SetTable}(ho:h.G a=⇑o)(hx:o.ExactSet)(hd:o.data=.set es ep t)(fs:B3 (A0×B1))(u:SetTable):
  (h.update a<|Obj.putSet fs u).G a=⇑{o with data:=.set fs (ep+1) u}/\({o with data:=.set fs (ep+1) u}:Obj).ExactSet:=by let q:=UP (Obj.putSet fs u) ho (by rw[putSet_of fs u hd];rfl);rw[putSet_of fs u hd]at q;exists q,hx
def jo{gv:B2->Sem Unit}(hgv:∀b s1 R,R () s1->wpAny (model prog w) A (gv b) R E s1)
 {o:Obj}{es fs:B3 (A0×B1)}{ep:A5}{t u:SetTable}(ho:s.C.G a=⇑o)(hx:o.ExactSet)(hd:o.data=.set es ep t)
  {S:A0->B2}(he:ElemsOf (intKind prog w) fs.m)(hm:∀z,S z=A9↔∃y∈fs.m,(intKind prog w).is z y.2=A9)(hb:fs.o<scanBound)(hf:u.fits fs.o=A9)(hr:Qs u){dm:B2}{R:Option B2->B5->Prop}
  (k:∀h',Heap.SameBut a s.C h'->SetR prog w h' a u.led S fs.o->R ⇑true {s with heap:=h'}):
  wpAny (model prog w) A (do
   storeSet a fs u
   if (!dm&&u.tooFull)=A9 then do
    gv (relayAll u fs<|SetTable.grown fs.o).2.2
    storeSet a (relayAll u fs<|SetTable.grown fs.o).1 (relayAll u fs<|SetTable.grown fs.o).2.1
    pure ⇑true
   else pure ⇑true) R E s:=by
 let(h1,x1):=Zi4 ho hx hd fs u;let b1:=NF s.C a (Obj.putSet fs u)
 show XU (wpAny_storeSet_of ho hd ?_<|fits_of_scanBound hb);cases c:(!dm&&u.tooFull)=A9
 .rw[Yk c];let p:=relayAll_perm u fs (SetTable.grown fs.o)
  let f:=relayAll_fits u fs (SetTable.grown fs.o);let(r,l):=Zi9 hr fs (SetTable.grown fs.o);generalize relayAll u fs (SetTable.grown fs.o)=o6 at p f r l ⊢;let(gs,v,gave):=o6;let ez:gs.o=fs.o:=by rw[<-YV,p.length_eq,YV]
  let(h2,x2):=Zi4 h1 x1 Z gs v;show XU (hgv _ _ _<|XU<|wpAny_storeSet_of h1 Z (Yg ?_)<|fits_of_scanBound<|by rwa[ez]);show k _ (b1.l<|NF _ a _) ⟨_,gs,_,v,h2,x2,Z,he.perm p,λz=>(hm z).l {λzz=>by let(y,hy,q):=zz;show{y,p.mem_iff.X hy,q},λzz=>by let(y,hy,q):=zz;exists y,p.mem_iff.Y hy,q},by rw[ez];show hb,f,ez,r,l⟩
 .rw[Yj c];show Yg (k _ b1 {_,fs,_,u,h1,x1,Z,he,hm,hb,hf,Z,hr,Z})
def jm{S:A0->B2}{z:A0}{x:B1}{R:B2->B5->Prop}(hz:(intKind prog w).is z x=A9)(Ts:x.scannable=A9)(hS:SetR prog w s.C a led S n)(room:n+1<scanBound)
  (k:∀h',Heap.SameBut a s.C h'->SetR prog w h' a led (λy=>S y||decide (y=z)) (if S z then n else n+1)->R (!S z) {s with heap:=h'}):
  wpAny (model prog w) A (setAddHashed a x<|(intKind prog w).hash z) R E s:=by
 let(o,es,ep,t,ho,hx,hd,he,hm,hb,hf,hn,hr,hl):=hS;show Ro (XU<|Fm ho hd hf ?_);dsimp only;rw[Yk (byScan_of Ts hb he)];show XU (XU<|PM<|XU<|wpAny_setScan_of hz ho hd hf he ?_);cases hw:List.findIdx? (λy=>(intKind prog w).is z y.2) es.m with
 |some j=>
  let(j1,j2,_):=List.findIdx?_eq_some_iff_getElem.Y hw;let yes:S z=A9:=(hm z).X {es.m[j],Jp j1,j2}
  let fin:=k s.C (Heap.SameBut.refl a s.C) {o,es,ep,t,ho,hx,hd,he,λy=>by rw[Bool.or_eq_true,decide_eq_true_eq,<-hm y];show{λq=>q.elim id λq=>q▸yes,.inl},hb,hf,by rw[yes];show hn,hr,hl}
  rw[yes]at fin;show Yg (Yg fin)
 |none=>
  let no:S z=B0:=Dt.X λq=>by grind
  dsimp only;let p:=layNew_perm t es ((intKind prog w).hash z) x
  let f:=layNew_fits t es ((intKind prog w).hash z) x;let(r,l):=jq hr es ((intKind prog w).hash z) x;generalize layNew t es ((intKind prog w).hash z) x=o6 at p f r l ⊢;let(fs,u,dm,gave):=o6;dsimp only at p f r l ⊢;rw[Pa]at p;let ez:fs.o=n+1:=by rw[<-YV,p.length_eq,Ya,YV,hn];rfl
  let gw:∀(b:B2){s1:B5}{R':Unit->B5->Prop},R' () s1->wpAny (model prog w) A (match b with|true=>rule "set.scan.the-table-gave-way" | false=>pure ()) R' E s1:=λb s1 R' q=>by
   cases b
   .show Yg q
   .show PM q
  let fin:∀h',Heap.SameBut a s.C h'->SetR prog w h' a led (λy=>S y||decide (y=z)) fs.o->R true {s with heap:=h'}:=λh' q1 q2=>by
   ext
  let jl:=(he.push hz Ts).perm p;let Pn:∀y,(S y||decide (y=z))=A9↔∃v∈fs.m,(intKind prog w).is y v.2=A9:=mem_push_iff hz hm p
  let Eo:fs.o<scanBound:=by ext
  show XU (gw _ ?_);let tail:∀v:SetTable,v.fits fs.o=A9->Qs v->v.led=led->wpAny (model prog w) A (do
    storeSet a fs v
    if (!dm&&v.tooFull)=A9 then do
     (match (relayAll v fs<|SetTable.grown fs.o).2.2 with|true=>rule "set.scan.the-table-gave-way" | false=>pure ())
     storeSet a (relayAll v fs<|SetTable.grown fs.o).1 (relayAll v fs<|SetTable.grown fs.o).2.1
     pure ⇑true
    else pure ⇑true) (λy s1=>wpAny (model prog w) A (match y with|some added=>pure added|none=>setAddHashedIn a x ((intKind prog w).hash z) 99999) R E s1) E s:=λv a1 a2 a3=>
   jo (gv:=λb=>match b with|true=>rule "set.scan.the-table-gave-way" | false=>pure ()) (λb s1 R' q=>gw b q) ho hx hd jl Pn Eo a1 a2 λh' q1 q2=>Yg (fin h' q1<|a3▸q2)
  split
  .show XU ?_;rw[hashByValue_scannable 8 Ts];show Yg ?_;split
   .show tail u f r (l.l hl)
   .show tail _ (SetTable.fits_plain_off f) r (l.l hl)
  .show XU (Yg ?_);show tail u f r (l.l hl)
end
section
variable{prog:Program}{w:World}{A:Around}{R:Result->B5->Prop}{I:A7}{fp wr:A6 A7}{G:B3 GenState->B3 GenState->Prop}{n:A5}{P:A5->B1->Prop}{St:A5->B5->Prop}
def jk(W:WalksS prog w A.in1 I fp wr G n P St)(b:A7)(JX:b∉fp)(val:A5->A0)(hv:∀i v,P i v->∃t,v=.int (val i) t)(hn:n+1<scanBound):
  ∀k i s,n-i=k->i<=n->St i s->SetR prog w s.C b led (λz=>(firstMet val i).any (· == z)) (firstMet val i).f->
   (∀s',Moved (b::wr) G s s'->SetR prog w s'.C b led (λz=>(firstMet val n).any (· == z)) (firstMet val n).f->R (.ok<|.ret .none) s')->
   codeAny (model prog w) A (.builtin "set.update.loop" {[.ref b,.ref I],[]}) R s
 |0,i,s,hk,hi,st,hS,q=>by let e:i=n:=B;subst e;show Sn F.entry_set_update_loop ?_;show XU (W.done s _ _ st λs1 m=>?_);show Yg (q s1 (m.mono λc hc=>.tail _ hc)<|hS.at λo ho=>m.C b o (λhc=>JX<|W.sub _ hc) ho)
 |k+1,i,s,hk,hi,st,hS,q=>by
  let Xu:i<n:=B;show Sn F.entry_set_update_loop ?_;show XU (W.item i s _ _ Xu st λv s1 hP UX m=>?_);let(t,rfl):=hv i v hP;let JW:=hS.at (h':=s1.C) λo ho=>m.C b o (λhc=>JX<|W.sub _ hc) ho
  show XU (Ro ?_);show Ro (XU<|(intKind prog w).pyHash (k:=val i) (intKind_is _ _ _ _) ?_);let fm:=firstMet_length_le val i
  show jm (s:={s1 with toks:=s1.toks+1}) (intKind_is _ _ _ _) Z JW J λh2 sb jj=>?_;let hS3:SetR prog w h2 b led (λz=>(firstMet val<|i+1).any (· == z)) (firstMet val<|i+1).f:=by
   let e1:(λz=>(firstMet val<|i+1).any (· == z))=λy=>((firstMet val i).any (· == y)||decide (y=val i)):=funext λy=>by rw[CZ,step_any]
   rwa[e1,CZ,step_length]
  let kept:∀c o,c≠b->s1.C.G c=⇑o->h2.G c=⇑o:=λc o hc e=>(sb.2 c hc).l e;show Yg {MW F.plain_set_update_loop _,jk W b JX val hv hn k (i+1) _ B Xu (W.frame _ s1 _ _ UX (Tz _) λc hc o e=>kept c o (λe'=>JX<|e'▸hc) e) hS3 λs2 m2 hS4=>?_};show q s2 (Moved.l W.gtrans ((m.mono λc hc=>.tail _ hc).then_heap (Tz _) λc o hc e=>kept c o (λe'=>hc<|e'▸.head _) e) m2) hS4
end
section
variable{prog:Program}{w:World}{A:Around}{E:Ae}{s:B5}
def Pl(w:World):(Obj):={cls:=.type "set",dict:=A8,data:=.set #[] 0 (.fresh 0 0<|!w.params.followText "set-order")}
def yK(a:B1){Q:Ae}(k:Q (.ref (~~~s)) {s with heap:=s.C.push (Pl w)}):
  codeAny (model prog w) A (.call (.builtin "set.__new__") {[.type "set",a],[]}) (wants Q E) s:=by
 show codeAny_of_tree ?_;show XU (Nx (F.newCall_set_1 a)<|Yg ⟨MW F.plain_set_new _,Sn F.entry_set_new ?_⟩);let Qy:=sub_set_self
 wp_walk
 show Fi (Yg ?_);show XU (wpAny_alloc<|Yg<|Yg k)
def ZO5(e:h.G a=⇑(Pl w)):SetR prog w h a (!w.params.followText "set-order") (λz=>(firstMet (λ_=>0) 0).any (· == z)) 0:=by exists _,#[],0,_,e,⟨Z,Z,Z⟩,Z,λy hy=>(by cases hy),λz=>{λq=>(by cases q),λzz=>by let(y,hy,_):=zz;show(by cases hy)},D,by simp[SetTable.fits,SetTable.fresh,SetTable.fill],Z,.nil,Z
def ji{h0:Heap}{Q:Ae}(hh:A.handled=A8)(SD:h0.G b=⇑(Pl w))(hl:h0.IsList l items)(XH:l≠b)(hi:IntsAre items.m ns)(hn:items.o+1<scanBound)
  (k:∀h' tk,SetR prog w h' b (!w.params.followText "set-order") (λz=>(firstMet (λi=>ns.S i 0) items.o).any (· == z)) (firstMet (λi=>ns.S i 0) items.o).f->(∀c o,c≠b->h0.G c=⇑o->h'.G c=⇑o)->Q .none {s with heap:=h',toks:=tk}):
  wpAny (model prog w) A.in1 (Builtin.«set.__init__» {[.ref b,.ref l],[]}) (λfin s'=>match fin with | .done f=>wants Q E (.ok f) s' | .again c'=>c'.quiet=A9/\codeAny (model prog w) A c' (wants Q E) s') (λe s'=>wants Q E (.error e) s') {s with heap:=h0}:=by
 let hT:Shared.TypeIs {s with heap:=h0} ↑b "set":={_,SD,Z};let Pk:=hl
 let((jh,yJ,yI,Hj),OE,TM,nl,En):=hl;simp only at TM En;subst TM En;let q1:=F.sub_list_set
 let q2:=F.sub_list_frozenset;unfold Builtin.«set.__init__» noKeywords Builtin.Frozenset.updateFrom;generalize jg:pyIter=PI
 wp_walk
 subst jg;show Fl Pk ?_;show XU (Dl ?_);let Hi:l<h0.objs.o:=Yh OE
 let rY:b<h0.objs.o:=Yh SD;let bf:b∉[h0.objs.o,l]:=λq=>by grind
 show jk ((Walks.list (A:=A.in1.in1) (by simp[hh]) _ l (Yl Hi) items).toS) b bf (led:=!w.params.followText "set-order") (λi=>ns.S i 0) (λi v hv=>ui hi i v<|by ext) hn (items.o-0) 0 _ (by ext) (XC _)
  {{_,Qd _ Z,Z,Z},Pk.push _} ?_ ?_
 .show ZO5 (Xs _ SD)
 .rintro⟨h',g',d',jf,Cc⟩ m hS;let e1:g'=s.gens:=m.gens
  let e2:d'=s.drawn:=m.drawn;let e3:Cc=s.os:=m.os
  subst e1 e2 e3;show Yg ?_;show Yg (k h' jf hS λc o hc e=>m.C c o (λq=>?_)<|Xs _ e);rcases Yu.Y q with e'|e'
  .lia
  .show Yl (Yh e) (Xn.Y e')
set_option maxRecDepth 100000 in
set_option maxHeartbeats 3000000 in
def yH{Q:Ae}(hh:A.handled=A8)(hl:s.C.IsList l items)(hi:IntsAre items.m ns)(hn:items.o+1<scanBound)
  (k:∀h' tk,SetR prog w h' (~~~s) (!w.params.followText "set-order") (λz=>(firstMet (λi=>ns.S i 0) items.o).any (· == z)) (firstMet (λi=>ns.S i 0) items.o).f->(∀c o,s.C.G c=⇑o->h'.G c=⇑o)->Q (.ref (~~~s)) {s with heap:=h',toks:=tk}):
  wpAny (model prog w) A (call (.type "set") [.ref l]) Q E s:=by
 let(c,tl,je):=Sm.mro;let a1:=Sm.made
 let a2:=Sm.sub;let a3:=Sm.notType
 let a4:=Sm.canCreate;let a5:=F.typeCall_set_1 ↑l
 show CT (codeAny_of_tree ?_);show Yg {Ds _ CC,Sn F.entry_type_call ?_};rw[Around.under_plain (weight_type_call_type "set" [.ref l] []) Z]
 repeat any_goals first|assumption|wp_step
 show Ny (yK ↑l (E:=E) (Q:=λob s1=>ob=.ref (~~~s)/\s1={s with heap:=s.C.push (Pl w)}) ⟨Z,Z⟩) λr s1 hr=>?_
 match r,hr with
 | .error e,hr=>show hr
 | .ok (.ret ob),hr=>
  let(rfl,rfl):=hr;let SD:(s.C.push<|Pl w).G (~~~s)=⇑(Pl w):=Qd _ rfl
  let hT:Shared.TypeIs {s with heap:=s.C.push (Pl w)} (.ref (~~~s)) "set":={_,SD,Z};let a6:=Sm.init.M
  let a7:=Sm.init.bind (.ref (~~~s))
  repeat any_goals first|assumption|wp_step
  let Hi:l<(~~~s):=by let(_,e,_):=hl;show Yh e
  show Ny (codeAny_call_builtin (R:=wants (λr s2=>r=.none/\Q (.ref (~~~s)) s2) E) Sm.init.plain F.entry_set_init<|check_set_init_1 hT<|ji (A:=_) (s:=s) ?_ SD (hl.push _) (Yl Hi) hi hn λh' tk hS kp=>{Z,k h' tk hS λc o e=>kp c o (Yl<|Yh e)<|Xs _ e}) λr2 s2 VS=>?_
  .simp[hh]
  .match r2,VS with
   | .error e,VS=>show VS
   | .ok (.ret v),VS=>
    let(rfl,q):=VS
    repeat any_goals first|assumption|wp_step
end
def WX:PySem.Slot "set_iterator" "__next__" "set_iterator.__next__":=
 .of (owner:="set_iterator") (n:="__next__") pC CC CC CC
  (by first|show .inl CC|show .inr CC) pC
def rX:entryFor table "set_iterator.__next__"=some Builtin.«set_iterator.__next__»:=entryFor_of_tree pC
def rW(a:B1):argsOk "set_iterator.__next__" {[a],[]}:=by kernel_rfl
def yG:PySem.Slot "set_iterator" "__iter__" "set_iterator.__iter__":=
 .of (owner:="set_iterator") (n:="__iter__") pC CC CC CC
  (by first|show .inl CC|show .inr CC) pC
def jd(a:B1):argsOk "set_iterator.__iter__" {[a],[]}:=by kernel_rfl
def jc:entryFor table "set_iterator.__iter__"=some Builtin.«dict_keyiterator.__iter__»:=
 entryFor_alias (id':="dict_keyiterator.__iter__") pC (by first|rfl|decide +kernel|(unfold String.splitOn;simp +decide [String.splitOnAux])) CC pC
def yF:PySem.Slot "set" "__iter__" "set.__iter__":=
 .of (owner:="set") (n:="__iter__") pC CC CC CC
  (by first|show .inl CC|show .inr CC) pC
def jb(a:B1):argsOk "set.__iter__" {[a],[]}:=by kernel_rfl
def ja:entryFor table "set.__iter__"=some Builtin.«frozenset.__iter__»:=
 entryFor_alias (id':="frozenset.__iter__") pC (by first|rfl|decide +kernel|(unfold String.splitOn;simp +decide [String.splitOnAux])) CC pC
def IsSi(h:Heap)(I a:A7)(f:B1)(i n ep:A5):(Prop):=∃o,h.G I=⇑o/\o.cls=.type "set_iterator"/\o.data=.fields #[f,rawInt (i:A0),.ref a,rawInt (n:A0),rawInt (ep:A0)]
def IsSi.ty{s:B5}(x:IsSi s.C I a f i n ep):s.TypeIs ↑I "set_iterator":=by let(o,p,q,_):=x;exists o,p,q
def IsSi.keep(x:IsSi h I a f i n ep)(e:∀o,h.G I=⇑o->h'.G I=⇑o):IsSi h' I a f i n ep:=by let(o,p,q):=x;exists o,e _ p,q
def SetIs(h:Heap)(a:A7)(es:B3 (A0×B1))(ep:A5)(t:SetTable):(Prop):=∃o,h.G a=⇑o/\o.ExactSet/\o.data=.set es ep t
def SetIs.keep(x:SetIs h a es ep t)(e:∀o,h.G a=⇑o->h'.G a=⇑o):SetIs h' a es ep t:=by let(o,p,q):=x;exists o,e _ p,q
section
variable{prog:Program}{w:World}{A:Around}{E:Ae}{s:B5}
def ZQ8{Q:A5->B5->Prop}(hn:n≠0)(k:∀i,i<n->∀d,Q i {s with drawn:=d}):wpAny M A (choose src n) Q E s:=
 λΓ p _=>{hn,k _ (Dc _<|Nat.pos_of_ne_zero hn) _}
def Hh{α:Type}:∀{l:A6 α}{i:A5}{y:α},l[i]?=⇑y->(y::l.eraseIdx i).Perm l
 |[],_,_,h=>by simp at h
 |x::l,0,y,h=>by
  ext
 |x::l,i+1,y,h=>(List.Perm.swap x y<|l.eraseIdx i).l ((Hh (l:=l) (i:=i) h).cons x)
def Zw8{α:Type}:∀(n:A5)(xs:A6 α)(s:B5)(Q:A6 α->B5->Prop),n=xs.f->(∀ys d,ys.Perm xs->Q ys {s with drawn:=d})->wpAny M A (drawOrder n xs) Q E s
 |0,xs,s,Q,h,k=>by let e:xs=[]:=Ur.Y h.symm;subst e;show Yg (k [] s.drawn .rfl)
 |n+1,[],s,Q,h,k=>by cases h
 |n+1,x::xs,s,Q,h,k=>by show XU (ZQ8 AP λi hi d=>?_);obtain⟨y,hy⟩:∃y,(x::xs)[i]?=⇑y:={_,Xv hi};rw[hy];show XU (Zw8 n ((x::xs).eraseIdx i) _ _ (by rw[List.length_eraseIdx_of_lt hi];ext) λys d' hp=>Yg<|k (y::ys) d' ?_);show(hp.cons y).l (Hh hy)
def ZR5{α:Type}{f:A5->A5}:∀(n k:A5)(l:A6 α)(out:B3 α),n=l.f->(pickOrder.go f n k l out).m.Perm (out.m++l)
 |0,k,l,out,h=>by rw[Ur.Y h.symm,Wc];show .rfl
 |n+1,k,l,out,h=>by let hi:f k%l.f<l.f:=Dc _ J;obtain⟨y,hy⟩:∃y,l[f k%l.f]?=⇑y:={_,Xv hi};unfold pickOrder.go;rw[hy];show(ZR5 n (k+1) _ _ B).l ?_;rw[Pa,QP];show Y4b _ ?_;show Hh hy
def yE{Q:Ae}(hr:IsSi s.C I a f i n ep)(h:Q ↑I s):wpAny (model prog w) A (pyIter ↑I) Q E s:=by show wpAny_pyIter_slot hr.ty yG (OZ yG hr.ty jc ?_<|jd _);show Yg {_,Z,"set_iterator",_,hr.ty,WX.M,h}
def Em(prog:Program)(w:World)(a:A7)(es:B3 (A0×B1))(ep:A5)(t:SetTable)(ord:Ag)(sl:A5->A5):(Prop):=
 ∀A E s i Q,SetIs s.C a es ep t->i<=ord.f->Q ((ord[i]?).Q λx=>(x,sl<|i+1)) s->wpAny (model prog w) A (setNext a (sl i) i ep) Q E s
def i9{sl:A5->A5}{i:A5}{x:B1}{Q:Option B1->B5->Prop}(hN:Em prog w a es ep t ord sl)(hS:SetIs s.C a es ep t)(hf:t.fits es.o=A9)(hi:IsSi s.C I a (rawInt (sl i:A5)) i es.o ep)(hx:ord[i]?=⇑x)
  (k:∀h',IsSi h' I a (rawInt (sl (i+1):A5)) (i+1) es.o ep->Heap.SameBut I s.C h'->Q ⇑x {s with heap:=h'}):wpAny (model prog w) A (pyNext<|.ref I) Q E s:=by
 let(o,ho,hc,hd):=id hi;let(oa,JV,i8,Qr):=id hS;show XU (Jj<|Ju (name:=Str.H "__next__") hi.ty WX<|OZ WX hi.ty rX ?_<|rW _);show XU (Nx (a:=(Value.ref I,[])) Z ?_);show XU (MN ho hd ?_);dsimp only[rawInt];show XU (Dv JV Qr hf ?_);rw[Yj AP];show XU (hN _ _ s i _ hS (NA (Xr.Y hx).1) ?_);rw[hx];show XU (La ho hd AP ?_);let Vd:=UP (Obj.mapFields λvs=>vs.setIfInBounds 0<|rawInt (sl (i+1):A5)) ho (Dy<|PU hd _)
 show XU (La Vd (PU hd _) AP ?_);show Yg {x,Z,Yg<|k _ ⟨_,UP _ Vd<|Dy<|PU (PU hd _) _,?_,?_⟩<|(NF ..).l (NF ..)}
 .rw[uK,uK];show hc
 .rw[PU (PU hd _)];rfl
def i7{sl:A5->A5}{Q:Option B1->B5->Prop}(hh:A.handled=A8)(hN:Em prog w a es ep t ord sl)(hS:SetIs s.C a es ep t)(hf:t.fits es.o=A9)(hi:IsSi s.C I a (rawInt (sl ord.f:A5)) ord.f es.o ep)
  (k:∀h',Heap.ExtBut I s.C h'->Q none {s with heap:=h'}):wpAny (model prog w) A (pyNext<|.ref I) Q E s:=by let(o,ho,hc,hd):=id hi;let(oa,JV,i8,Qr):=id hS;show XU (Jj<|Ju (name:=Str.H "__next__") hi.ty WX<|OZ WX hi.ty rX ?_<|rW _);show XU (Nx (a:=(Value.ref I,[])) rfl ?_);show XU (MN ho hd ?_);show XU (Dv JV Qr hf ?_);rw[Yj AP];show XU (hN _ _ s ord.f _ hS (XI _) ?_);rw[Fv (XI _)];show XU (La ho hd AP ?_);show XU ?_;show XU (PR ?_<|by size_fits);show XU (m:=firstArgMember _ _) (Nx (a:=Value.none) (by first|rfl|(simp only[firstArgMember];rfl)) ?_);show PR ?_ (by size_fits);show XU (wpAny_handled ?_);rw[show A.in1.handled=A8 from hh];show XU (Yg<|wpAny_throw ?_);show XU (uE (T:="StopIteration") (b:=A9) {_,Qd _ rfl,rfl} isSubtype_stop ?_);show Yg (k _<|(((NF ..).extBut).push _).push _)
def i6{sl:A5->A5}(hh:A.handled=A8)(hN:Em prog w a es ep t ord sl)(hf:t.fits es.o=A9)(XH:a≠I):
  Walks prog w A I [I,a] [I] ord.f (λi v=>ord[i]?=⇑v) (λi h=>i<=ord.f/\IsSi h I a (rawInt (sl i:A5)) i es.o ep/\SetIs h a es ep t) where
 sub:=λb hb=>Yu.X (.inl<|Xn.Y hb)
 frame:=λ_ _ _ x hk=>{x.1,x.2.1.keep λo e=>hk I AP o e,x.2.2.keep λo e=>hk a AP o e}
 item:=λi s Q E hi ⟨_,x1,x2⟩ hQ=>by let hx:ord[i]?=⇑(ord[i]'hi):=Xv hi;show i9 hN x2 hf x1 hx λh' y hs=>hQ _ h' s.toks hx {hi,y,x2.keep λo e=>(hs.2 a XH).l e} λb o hb eo=>hs.extBut b o (λe=>hb<|by simp[e]) eo
 done:=λs Q E zz hQ=>by let(_,x1,x2):=zz;show i7 hh hN x2 hf x1 λh' he=>hQ h' s.toks λb o hb eo=>he b o (λe=>hb<|by simp[e]) eo
 self:=λ_ _ _ _ x hQ=>yE x.2.1 hQ
def yD(hf:t.fits es.o=A9)(hr:Qs t)(hb:w.params.followText "set-order"=B0)(hl:t.led=A9)(hd:(!t.plain&&decide (es.o>1))=B0):
  Em prog w a es ep t (es.m.Q (·.2)) (λi=>if i=0 then 0 else (t.place.S (i-1) 0)+1):=by
 intro A E s i Q ⟨o,ho,hx,Qr⟩ hi q;let hps:t.place.o=es.o:=by unfold SetTable.fits at hf;simp only[Fn,um]at hf;show hf.1
 rw[Yb,YV]at hi;show XU (Fm ho Qr hf ?_);show XU ?_;unfold setsByText;show XU (Fi<|Yg ?_);change wpAny _ _ (if (w.params.followText "set-order")=A9 then _ else _) _ _ _
 rw[Yj (by ext)];change wpAny _ _ (if (!t.plain&&decide (es.o>1))=A9 then _ else _) _ _ _
 rw[Yj (by rw[hd];decide)];show XU ?_;change wpAny _ _ (if (!t.led && !es.isEmpty)=A9 then _ else _) _ _ _
 rw[Yj J];show Yg ?_;let eb:SetTable.below t.place (if i=0 then 0 else (t.place.S (i-1) 0)+1)=i:=by
  cases c:i=0
  .rw[Yk c,c];show ZX8 hr
  .rw[Yj c];obtain⟨v,hv⟩:∃v,t.place[i-1]?=⇑v:={_,Ld J};let e:t.place.S (i-1) 0=v:=by rw[YS,hv];rfl
   rw[e,ZY8 hr hv];lia
 rw[eb];show Yg ?_;cases c:i<es.o
 .ext
 ext
def next_text(hf:t.fits es.o=A9)(hb:w.params.followText "set-order"=A9):
  Em prog w a es ep t ((pickOrder (w.params.setOrder a ep) es).m.Q (·.2)) (λ_=>0):=by
 intro A E s i Q ⟨o,ho,hx,Qr⟩ hi q;show XU (Fm ho Qr hf ?_);show XU ?_;show XU (Fi<|Yg ?_);change wpAny _ _ (if (w.params.followText "set-order")=A9 then _ else _) _ _ _
 rw[Yk hb,Yj AP];show XU ?_;show XU (Fm ho Qr hf ?_);show XU ?_;show XU (Fi<|Yg ?_);change wpAny _ _ (if (w.params.followText "set-order")=A9 then _ else _) _ _ _
 rw[Yk hb];show XU (Fi<|Yg ?_);rw[Yo,YO,Option.map_map]at q;show Yg q
def IsPl(h:Heap)(b:A7)(pl:A6 A5):(Prop):=∃o n,h.G b=⇑o/\o.data=.seq (pl.Q λ(i:A5)=>rawInt (i:A0)).E n
def IsPl.keep(x:IsPl h b pl)(e:∀o,h.G b=⇑o->h'.G b=⇑o):IsPl h' b pl:=by let(o,n,p,q):=x;exists o,n,e _ p,q
def i5{i j:A5}{x:A0×B1}{Q:Option B1->B5->Prop}(hS:SetIs s.C a es ep t)(hf:t.fits es.o=A9)(hi:IsSi s.C I a ↑b i es.o ep)(hb:IsPl s.C b pl)(hj:pl[i]?=⇑j)(hx:es[j]?=⇑x)
  (k:∀h',IsSi h' I a ↑b (i+1) es.o ep->Heap.SameBut I s.C h'->Q (some x.2) {s with heap:=h'}):wpAny (model prog w) A (pyNext<|.ref I) Q E s:=by
 let(o,ho,hc,hd):=id hi;let(oa,JV,i8,Qr):=id hS;let(ob,nb,yC,RP):=hb;show XU (Jj<|Ju (name:=Str.H "__next__") hi.ty WX<|OZ WX hi.ty rX ?_<|rW _);show XU (Nx (a:=(Value.ref I,[])) Z ?_);show XU (MN ho hd ?_);dsimp only[rawInt];show XU (Dv JV Qr hf ?_);rw[Yj AP];show XU (Jm yC RP ?_);dsimp only;let e:(pl.Q λ(i:A5)=>rawInt (i:A0)).E[(i:A0).j]?=⇑(.int (j:A0) 0):=by rw[VN,CM,Yo,hj];rfl
 rw[e];dsimp only;rw[VN,VN];show XU ?_;show XU (Fm JV Qr hf ?_);dsimp only;rw[Yj AP,hx];show Yg ?_;show XU (La ho hd AP ?_);show Yg {x.2,Z,Yg<|k _ ⟨_,UP _ ho<|Dy<|PU hd _,?_,?_⟩<|NF ..}
 .rw[uK];show hc
 .rw[PU hd];rfl
def i4{Q:Option B1->B5->Prop}(hh:A.handled=A8)(hS:SetIs s.C a es ep t)(hf:t.fits es.o=A9)(hi:IsSi s.C I a ↑b pl.f es.o ep)(hb:IsPl s.C b pl)
  (k:∀h',Heap.ExtBut I s.C h'->Q none {s with heap:=h'}):wpAny (model prog w) A (pyNext<|.ref I) Q E s:=by
 let(o,ho,hc,hd):=id hi;let(oa,JV,i8,Qr):=id hS;let(ob,nb,yC,RP):=hb;show XU (Jj<|Ju (name:=Str.H "__next__") hi.ty WX<|OZ WX hi.ty rX ?_<|rW _);show XU (Nx (a:=(Value.ref I,[])) Z ?_);show XU (MN ho hd ?_);show XU (Dv JV Qr hf ?_);rw[Yj AP];show XU (Jm yC RP ?_);dsimp only;let e:(pl.Q λ(i:A5)=>rawInt (i:A0)).E[(pl.f:A0).j]?=A8:=by rw[VN,CM];show Fv AP
 rw[e];show XU (La ho hd AP ?_);let Vd:=UP (Obj.mapFields λvs=>vs.setIfInBounds 0<|rawInt 0) ho (Dy<|PU hd _)
 show XU (La Vd (PU hd _) AP ?_);show XU ?_;show XU (PR ?_<|by size_fits);show XU (m:=firstArgMember _ _) (Nx (a:=Value.none) (by first|rfl|(simp only[firstArgMember];rfl)) ?_)
 show PR ?_ (by size_fits);show XU (wpAny_handled ?_);rw[show A.in1.handled=A8 from hh];show XU (Yg<|wpAny_throw ?_);show XU (uE (T:="StopIteration") (b:=A9) {_,Qd _ Z,Z} isSubtype_stop ?_);show Yg (k _<|((((NF ..).l (NF ..)).extBut).push _).push _)
def iZ(hh:A.handled=A8)(hp:pl.Perm (List.range es.o))(hf:t.fits es.o=A9)(XH:a≠I)(hnb:b≠I):
  Walks prog w A I [I,a,b] [I] pl.f (λi v=>(pl.filterMap λj=>(es[j]?).Q (·.2))[i]?=⇑v) (λi h=>i<=pl.f/\IsSi h I a ↑b i es.o ep/\SetIs h a es ep t/\IsPl h b pl) where
 sub:=λc hc=>Yu.X (.inl<|Xn.Y hc)
 frame:=λ_ _ _ x hk=>{x.1,x.2.1.keep λo e=>hk I AP o e,x.2.2.1.keep λo e=>hk a AP o e,x.2.2.2.keep λo e=>hk b AP o e}
 item:=λi s Q E hi ⟨_,x1,x2,x3⟩ hQ=>by
  let hj:pl[i]?=⇑(pl[i]'hi):=Xv hi;let Xu:=YR.Y (hp.mem_iff.Y<|Xo hj)
  let hx:es[pl[i]'hi]?=⇑(es[pl[i]'hi]'Xu):=Ld Xu;let fm:∀(l:A6 A5),(∀j∈l,j<es.o)->l.filterMap (λj=>(es[j]?).Q (·.2))=l.Q λj=>(es.S j (0,.none)).2:=λl hl=>by
   induction l with
   |nil=>rfl
   |cons y l ih=>
    ext
  let hv:(pl.filterMap λj=>(es[j]?).Q (·.2))[i]?=some (es[pl[i]'hi]'Xu).2:=by rw[fm pl λj hj=>YR.Y<|hp.mem_iff.Y hj,Yo,hj,Option.map_some,YS,hx];rfl
  show i5 x2 hf x1 x3 hj hx λh' y hs=>hQ _ h' s.toks hv {hi,y,x2.keep λo e=>(hs.2 a XH).l e,x3.keep λo e=>(hs.2 b hnb).l e} λc o hc eo=>hs.extBut c o (λe=>hc<|by simp[e]) eo
 done:=λs Q E zz hQ=>by let(_,x1,x2,x3):=zz;show i4 hh x2 hf x1 x3 λh' he=>hQ h' s.toks λc o hc eo=>he c o (λe=>hc<|by simp[e]) eo
 self:=λ_ _ _ _ x hQ=>yE x.2.1 hQ
end
section
variable{prog:Program}{w:World}{A o8:Around}{E:Ae}{s:B5}
def SetIs.ty(x:SetIs s.C a es ep t):s.TypeIs ↑a "set":=by let(o,p,q,_):=x;exists o,p,q.1
def iY{Q:Ae}(hh:A.handled=A8)(hS:SetIs s.C a es ep t)(hf:t.fits es.o=A9)(hr:Qs t)(hl:t.led=!w.params.followText "set-order")(hz:es.o<=sizeLine)
  (k:∀(I:A7)(h':Heap) d (ord:Ag) (fp:A6 A7) (St:A5->Heap->Prop),ord.Perm (es.m.Q (·.2))->Walks prog w A I fp [I] ord.f (λi v=>ord[i]?=⇑v) St->St 0 h'->(∀b∈fp,b<h'.objs.o/\(b=a\/(~~~s)<=b))->I∈fp->(~~~s)<=I->(∀c o,s.C.G c=⇑o->h'.G c=⇑o)->Q ↑I {s with heap:=h',drawn:=d}):
  wpAny (model prog w) o8 (pyIter<|.ref a) Q E s:=by
 let(o,ho,hx,hd):=id hS;let rV:a<(~~~s):=Yh ho
 show wpAny_pyIter_slot hS.ty yF (OZ yF hS.ty ja ?_<|jb _);show XU (Nx (a:=a) rfl ?_);show XU ?_;show XU (Dv ho hd hf<|Yg ?_);show XU ?_;show XU (Fm ho hd hf ?_);show XU ?_;show XU (Fi<|Yg<|Yg ?_);let num:∀ord sl,sl 0=0->Em prog w a es ep t ord sl->ord.Perm (es.m.Q (·.2))->wpAny (model prog w) o8.in1 (pure (rawInt 0) >>= λfirst=>setEpoch a >>= λe=>newFields "set_iterator" [first,rawInt 0,.ref a,rawInt (es.o:A0),rawInt (e:A0)] >>= λit=>ret it)
   (λfin s'=>∃v,fin=Fin.done (Flow.ret v)/\∃T' r,s'.TypeIs v T'/\typeLookup (Value.type T') (Str.H "__next__")=pure ⇑r/\Q v s') E s:=λord sl h0 hN hp=>by
  show XU (Yg<|XU<|wpAny_setEpoch_of ho hd hf<|XU ?_);show PR ?_ (by size_fits);let hI:IsSi (s.C.push {cls:=.type "set_iterator",data:=.fields [rawInt 0,rawInt 0,.ref a,rawInt (es.o:A0),rawInt (ep:A0)].E}) (~~~s) a (rawInt (sl 0:A5)) 0 es.o ep:={_,Qd _ Z,Z,by rw[h0];rfl}
  show Yg {_,Z,"set_iterator",_,IsSi.ty (s:={s with heap:=_}) hI,WX.M,?_};let ne:a≠(~~~s):=Yl rV
  show k _ _ s.drawn ord _ _ hp (i6 hh hN hf ne) {XC _,hI,hS.keep λo e=>Xs _ e} (λb hb=>?_) AP (XI _) λc o e=>Xs _ e;rw[PQ];grind
 cases hb:w.params.followText "set-order"=A9
 .rw [Yj (by change ¬(!w.params.followText "set-order" && _)=A9;ext)];show num _ (λ_=>0) Z (next_text hf hb) ?_
  have:=ZR5 (f:=w.params.setOrder a ep) es.o 0 es.m #[] (by ext)
  show this.Q _
 .let Uz:w.params.followText "set-order"=B0:=by simpa using hb
  rw[Uz]at hl;cases c:(!t.plain&&decide (es.o>1))=A9
  .rw [Yk (by change(!w.params.followText "set-order" && (!t.plain&&decide (es.o>1)))=A9;rw[Uz,c];rfl)];show XU (Zw8 es.o (List.range es.o) s _ (by ext) λpl d hp=>?_);let UB:pl.f=es.o:=by rw[hp.length_eq,MZ]
   show XU (wpAny_newTuple ?_<|by ext);let hoS:∀(h:Heap) o,h.G a=⇑o->(h.push {cls:=.type "tuple",data:=.seq (List.Q (λi=>rawInt ((i:A5):A0)) pl).E}).G a=⇑o:=λh o e=>Xs _ e
   show XU (wpAny_setEpoch_of (hoS s.C o ho) hd hf<|XU ?_);show PR ?_ (by size_fits);generalize AJ:s.C.push {cls:=.type "tuple",data:=.seq (List.Q (λi=>rawInt ((i:A5):A0)) pl).E}=h1;let s1:h1.objs.o=(~~~s)+1:=by rw[<-AJ];show PQ ..
   let yB:∀c o,s.C.G c=⇑o->h1.G c=⇑o:=λc o e=>by rw[<-AJ];show Xs _ e
   let hP1:IsPl h1 (~~~s) pl:=by rw[<-AJ];exists _,0,Qd _ Z,Z
   let hI:IsSi (h1.push {cls:=.type "set_iterator",data:=.fields [Value.ref (~~~s),rawInt 0,.ref a,rawInt (es.o:A0),rawInt (ep:A0)].E}) h1.objs.o a (.ref (~~~s)) 0 es.o ep:={_,Qd _ Z,Z,Z};show Yg {_,Z,"set_iterator",_,IsSi.ty (s:={s with heap:=_,drawn:=d}) hI,WX.M,?_};let RD:(pl.filterMap λj=>(es[j]?).Q (·.2)).Perm (es.m.Q (·.2)):=by show(hp.filterMap _).l ?_;rw[<-filterMap_getElem?_range es,List.map_filterMap]
   let OE:(pl.filterMap λj=>(es[j]?).Q (·.2)).f=pl.f:=by rw[RD.length_eq,Yb,YV,UB]
   let W:=iZ (prog:=prog) (w:=w) (A:=A) (I:=h1.objs.o) (a:=a) (b:=(~~~s)) (es:=es) (ep:=ep) (t:=t) hh hp hf J (by ext);rw[<-OE]at W;show k _ _ d _ _ _ RD W {XC _,hI,hS.keep λo e=>Xs _<|yB _ o e,hP1.keep λo e=>Xs _ e} (λb hb=>?_) AP (by rw[s1];show Tz _) λc o e=>Xs _ (yB c o e);rw[PQ,s1];grind
  .let c':(!t.plain&&decide (es.o>1))=B0:=by simpa using c
   rw[Yj (by change ¬(!w.params.followText "set-order" && (!t.plain&&decide (es.o>1)))=A9;rw[c'];simp)];show num _ _ Z (yD hf hr Uz hl c') .rfl
end
def iX:typeLookup (.type "set") "__len__"=pure ⇑(.builtin "set.__len__"):=by kernel_rfl
section
variable{prog:Program}{w:World}{A:Around}{E:Ae}{s:B5}
def iW{r:A7}{Q:B2->B5->Prop}(hT:s.TypeIs ↑r "set")(h:Q false s):wpAny (model prog w) A (Builtin.List.listLengthHint ↑r) Q E s:=by show XU (wpAny_specialOf hT iX ?_);generalize rT:("set.__len__":String)=id0;subst rT;show XU (uE (T:="set") (b:=A9) hT sub_set_self ?_);show XU (uo (T:="set") hT<|Yg h)
def ZW6{Q:A6 B1->B5->Prop}(hh:A.handled=A8)(hS:SetIs s.C a es ep t)(hf:t.fits es.o=A9)(hr:Qs t)(hl:t.led=!w.params.followText "set-order")(hz:es.o<=sizeLine)
  (k:∀(out:Ag) h' tk d,out.Perm (es.m.Q (·.2))->(~~~s)<=h'.objs.o->(∀c o,s.C.G c=⇑o->h'.G c=⇑o)->Q out {s with heap:=h',toks:=tk,drawn:=d}):wpAny (model prog w) A (collect<|.ref a) Q E s:=by
 let Np:(s.C.push<|seqObj "list" #[] 0).G (~~~s)=⇑(seqObj "list" #[] 0):=Qd _ rfl;let JW:SetIs (s.C.push<|seqObj "list" #[] 0) a es ep t:=hS.keep λo e=>Xs _ e
 let rV:a<(~~~s):=by let(_,e,_):=hS;show Yh e
 show XU (Dl<|Sn pM ?_);show XU (KZ<|Yg ⟨Ds _ CC,Sn entry_list_iadd' ?_⟩);change wpAny _ _ (Builtin.List.listExtendWith (.ref (~~~s)) ↑a<|.ref (~~~s)) _ _ {s with heap:=s.C.push (seqObj "list" #[] 0)}
 show XU (uo (T:="set") (SetIs.ty (s:={s with heap:=s.C.push (seqObj "list" #[] 0)}) JW) ?_);let e1:Builtin.List.listSameRef (.ref (~~~s)) ↑a=B0:=by change((~~~s) == a)=B0;show beq_false_of_ne (Sa rV)
 rw[Yj (by rw[e1];decide)];show XU (iY (A:=A.in1) (by simp[hh]) JW hf hr hl hz λI h' d ord fp St RD W st0 hfp hI Sg kp=>?_);let iV:Shared.TypeIs {s with heap:=h',drawn:=d} ↑a "set":=SetIs.ty (s:={s with heap:=h',drawn:=d}) (JW.keep λo e=>kp a o e)
 show XU (Ro<|iW iV ?_);let iU:=kp _ _ Np
 show XU (PM<|XU ?_);show XU (Nz (xs:=#[]) (n:=0) iU Z ?_ (XC _)<|by ext);let hL3:=UP (Obj.mapSeq (·.push Value.none)) iU rfl
 show Nz (xs:=#[].push Value.none) (n:=1) hL3 Z ?_ D (by ext);let hL4:=UP (Obj.mapSeq Array.pop) hL3 rfl
 let old:∀c o,c≠(~~~s)->h'.G c=⇑o->((h'.update (~~~s) (Obj.mapSeq (·.push Value.none))).update (~~~s) (Obj.mapSeq Array.pop)).G c=⇑o:=λc o hc e=>by rwa[YL _ _ (YX hc),YL _ _ (YX hc)]
 let LY:(~~~s)∉fp:=λq=>by
  rcases(hfp _ q).2 with e|e
  .show Sa rV e
  .rw [show({s with heap:=s.C.push (seqObj "list" #[] 0)}:B5).C.objs.o=(~~~s)+1 from PQ ..] at e;lia
 let iT:ord.f=es.o:=by rw[RD.length_eq,Yb,YV]
 show Yg {MW PySem.F.plain_extend_loop _,codeAny_extend_loopS W.toS (by rwa[iT]) (~~~s) LY _ ord.f 0 _ #[] _ Z (XC _) (W.frame 0 _ _ st0 λb hb o e=>old b o (λq=>LY<|q▸hb) e) hL4 (ItemsOf.nil _) λs2 acc c m hL5 Vc=>?_};let eo:acc.m=ord:=by
  show ND λi=>?_;rw[YO];cases hi:i<ord.f
  .let q:acc[i]?=⇑(acc[i]'(by rwa[Vc.1])):=Ld _;rw[q,Vc.2 i _ q]
  .rw[Fv (by ext),CQ (by rw[Vc.1];ext)]
 show XU (CU hL5 ?_);show Yg ?_;rw[eo,Moved.eq_with m];show k ord s2.C s2.toks d RD (NA<|Yh hL5) λc o e=>?_;let lt:=Yh e
 show m.C c o (λq=>?_) (old c o (Yl lt)<|kp c o<|Xs _ e);rcases Yu.Y q with e'|e'
 .show Yl lt e'
 .rw[Xn.Y e']at lt
  have:=Ye lt (Ym (Tz _)<|PQ .. ▸ Sg)
  ext
end
def iS:∀{l:Ac},m.Nodup->l.f=m.f->(∀x∈m,x∈l)->l.Perm m:=by
 induction m with
 |nil=>ext
 |cons x m ih=>
  intro l hn hl hs;let hx:=hs x Yi
  let Fc:=Rp.Y hn;show(List.perm_cons_erase hx).l ((ih Fc.2 (by ext) λy hy=>?_).cons x);grind
def ZJ9(p:us.Perm vs):∀{ns:Ac},IntsAre vs ns->∃ms,IntsAre us ms/\ms.Perm ns:=by
 induction p with
 |nil=>intro ns h;exists ns,h,.rfl
 |cons x _ ih=>
  intro ns h;cases h with
  |cons n t h=>
   let(ms,h1,h2):=ih h;exists n::ms,.cons n t h1,h2.cons n
 |swap x y l=>
  intro ns h;cases h with
  |cons n t h=>
   cases h with
   |cons m u h=>exists m::n::_,.cons m u<|.cons n t h,.swap n m _
 |trans _ _ Kb Pm=>
  grind
def iR(h:IntsAre vs ns):vs.f=ns.f:=by
 induction h with
 |nil=>rfl
 |cons n t _ ih=>ext
def El(val:A5->A0):∀i,(firstMet val i).Nodup
 |0=>.nil
 |i+1=>by
  rw[CZ];unfold step_dedup;split
  .show El val i
  .rename_i h;show Pb.X {El val i,AP,λa ha b hb e=>?_}
   ext
section
variable{prog:Program}{w:World}{A:Around}{E:Ae}{s:B5}
def yA:∀{l:A6 (A0×B1)},ElemsOf (intKind prog w) l->∃ms,IntsAre (l.Q (·.2)) ms/\∀z,z∈ms↔∃y∈l,(intKind prog w).is z y.2=A9
 |[],_=>{[],.nil,λz=>{λh=>(by cases h),λzz=>by let(y,h,_):=zz;show(by cases h)}}
 |y::l,h=>by
  let(ms,h1,h2):=yA h.tail;let((z,hz,_),_):=h.head;let(hy,v):=y;let(u,rfl):=Value.isInt_shape (show Value.isInt z v=A9 from hz);exists z::ms,.cons z u h1,λx=>?_;rw[Yu,h2];constructor
  .rintro(e|⟨y,hy,q⟩)
   .ext
   grind
  .rintro⟨y,hy,q⟩;rcases Yu.Y hy with e|e
   .rw[e]at q;show .inl ((intKind prog w).inj _ _ _ q hz)
   .show .inr ⟨y,e,q⟩
def Ze4{led:B2}{S:A0->B2}{Q:Ae}(hh:A.handled=A8)(hS:SetR prog w s.C a (!w.params.followText "set-order") S n)(Nk:n<64)
  (k:∀(ms:Ac)(out:Ag) r h' tk d c,IntsAre out ms->ms.U (·<=·)->ms.f=n->(∀z,z∈ms↔S z=A9)->(~~~s)<=r->h'.G r=⇑(seqObj "list" out.E c)->(∀c o,s.C.G c=⇑o->h'.G c=⇑o)->Q ↑r {s with heap:=h',toks:=tk,drawn:=d}):
  wpAny (model prog w) A (call (.builtin "sorted") [.ref a]) Q E s:=by
 let(o,es,ep,t,ho,hx,hd,he,hm,hb,hf,hn,hr,hl):=hS;let(ns,hI,Xh):=yA he;let Ek:sizeLine=16777216:=PN
 show Calls.call_function_entry kind_sorted plain_sorted entry_sorted (args_sorted1 _) ?_;show XU (m:=checkCount "sorted" 1 1 _) (Yg ?_);show XU (ZW6 (A:=A.in1) (by simp[hh]) ⟨o,ho,hx,hd⟩ hf hr hl J λout h1 tk d hp Sg kp=>?_);let(ls,hI2,VW):=ZJ9 hp hI;let lo:=iR hI2
 let ll:ls.f=n:=by rw[<-lo,hp.length_eq,Yb,YV,hn]
 show XU (KZ ?_);let hL:(h1.push<|seqObj "list" out.E 0).G h1.objs.o=⇑(seqObj "list" out.E 0):=Qd _ rfl
 show XU (Ro<|OZ slot_list_sort ⟨_,hL,Z⟩ entry_list_sort (list_sort_tree hL hI2 (by ext) λres ms b1 b2 b3=>{_,Z,?_})<|args_list_sort _);let(c,hc):=sortedHeap_at (out:=res) hL;show Yg {_,Z,k ms res.m h1.objs.o _ tk d c b1 b3 (by rw[b2.length_eq,ll]) (λz=>by rw[b2.mem_iff,VW.mem_iff,Xh,hm]) Sg (by show hc) λb ob e=>?_};let lt:=Yh (kp b ob e)
 rw[sortedHeap_old (Yl lt) (by rw[size_push'];show Du lt)];show Xs _ (kp b ob e)
end
section
variable{X:Cx}{p p2 pos Tg:Pos}{e:B4}{t:TA}
def Inv.drew(I:Inv X pins σ H s)(d:Drawn):Inv X pins σ H {s with drawn:=d}:=
 I.step (g':=s.gens) (d':=d) (t':=s.toks) (h':=s.C) (ch:=[]) (λb hb=>(by cases hb)) (λb o _ _ _ q _=>q) (λb o _ _ _ q _=>⟨o.slots,q⟩) (λb o _ _ n=>n) (λb o _ q=>⟨o,q⟩) (λb xs q=>q) (λb o u q=>q) (λb ps q=>{#[],by rw[q];simp}) (λm hm=>hm) I.hok I.bare
def Zj7(K:Ad)(t:TA):(TE):=λσ H Q=>t σ H λvs H1=>∃(a:A7)(ns:Ac),vs=[.ref a]/\SqL K H1 a (ns.Q V.int)/\ns.f<64/\∀ms:Ac,ms.U (·<·)->(∀z,z∈ms↔z∈ns)->∀l,H1 l=A8->Q ↑l (upd H1 l<|.lst<|ms.Q V.int)
def iQ(K:Ad)(hc:X.calm=A9)(g1:Gl X "sorted")(m1:X.mg "sorted"=A8)(g2:Gl X "set")(m2:X.mg "set"=A8)(ha:PA X [e] t)(hk:X.K=K:=by rfl)
  (he:starEach [e] X.env=[(false,eval e X.env)]:=by rfl)
  (Br:starEach [.Call (.Name "set" p2) [e] [] Tg] X.env=[(false,eval (.Call (.Name "set" p2) [e] [] Tg) X.env)]:=by rfl):
  PE X (.Call (.Name "sorted" p) [.Call (.Name "set" p2) [e] [] Tg] [] pos) (Zj7 K t):=by
 subst hk;intro pins s σ H Q I h;show Nb (PL I g1 m1 Boot.«sorted» ?_);show qw ?_ pq rfl;show pQ ?_;show Nb (PL I g2 m2 Boot.«set» ?_);show Lf (thn (ha Tg pins s σ H _ I h) λus s1 zz=>?_) (by rw[he];rfl) rfl;let(vs,H1,I1,r1,q1):=zz;let(a,ns,rfl,hq,hn,q):=q1;let(u,rfl,ru):=Ve r1;let rfl:u=Value.ref a:=ru;let(XW,rv,pl,hz):=I1.list hq;let hi:=ZF rv
 let el:XW.E.o=ns.f:=by rw[YK,<-rv.f,Yb]
 let sb:scanBound=4096:=rfl;show yH (I.ok.hd hc) pl.isList (ns:=ns) pB J λh2 tk hS kp=>?_;show pN ?_;let fl:=firstMet_length_le (λi=>ns.S i 0) XW.E.o
 show Ze4 (led:=A9) (s:={s1 with heap:=h2,toks:=tk}) (I.ok.hd hc) hS J λms out r h3 iP d c hI hs hl Xh Sg hr iO=>?_;let em:∀z,z∈ms↔z∈ns:=λz=>by
  rw[Xh,firstMet_any,el];let e1:(List.range ns.f).Q (λi=>ns.S i 0)=ns:=by
   show ND λi=>?_;rw[Yo];cases c:i<ns.f
   .ext
   .ext
  rw[e1];simp
 let QZ:ms.Nodup:=(iS (El _ _) hl λx hx=>(Xh x).X (Fo.X ⟨x,hx,AP⟩)).nodup_iff.X (El _ _);let Xu:(~~~s1)<=h2.objs.o:=by let(_,_,_,_,e,_):=hS;show NA (Yh e)
 let Oc:(~~~s1)<=r:=Ym Xu Sg;let I2:=(I1.laid (o:=.lst<|ms.Q V.int) (h':=h3) (t':=iP) (λb o e=>iO b o<|kp b o e) Oc ⟨B,out,c,AX hI,hr⟩).drew d
 exists .ref r,_,I2,Z,q ms (My.VT hs QZ) em r<|I1.hok.fresh Oc
end
end L2
namespace My
open PySem L2
def ZK8{f g:A5->A5}{N k:A5}(hf:∀i j,i<N->j<N->(f i=f j↔Conn A i j))(hk:∀i,i<N->f i<k)(hg:∀a,a<k->g a<N/\f (g a)=a)(hA:InN N A)(hB:InN N o8):
  (∀i j,i<N->j<N->Conn (A++o8) i j)↔∀a b,a<k->b<k->Conn (o8.Q λe=>(f e.1,f e.2)) a b:=by
 let gi:∀i,i<N->Conn A (g<|f i) i:=λi hi=>by grind
 constructor
 .intro c a b ha hb;let(a1,a2):=hg a ha;let(b1,b2):=hg b hb;let q:=(c (g a) (g b) a1 b1).image (f:=f) (fs:=o8.Q λe=>(f e.1,f e.2)) λe he=>by
   rcases Xi.Y he with q|q
   .let⟨e1,e2⟩:=hA e q;rw[(hf _ _ e1 e2).X (.edge q)];show .refl _
   .show .edge (Yp.X ⟨e,q,Z⟩)
  ext
 .intro c i j hi hj;let up:∀{i j:A5},Conn A i j->Conn (A++o8) i j:=λq=>q.mono λe he=>Yy _ he
  let q:=(c (f i) (f j) (hk i hi)<|hk j hj).image (f:=g) (fs:=A++o8) λe he=>by let(d,hd,rfl):=Yp.Y he;let(d1,d2):=hB d hd;show(up<|gi _ d1).l ((Conn.edge<|Yc _ hd).l (up<|gi _ d2).symm)
  show(up<|gi i hi).symm.l (q.l<|up<|gi j hj)
def PC(n:A0)(ps:Aa)(I O:Ac)(c:A5):(Prop):=∃L:Ab,L.Nodup/\(∀l,l∈L↔Zj n ps l/\(∀z∈I,z∈l)/\∀z∈O,z∉l)/\L.f=c
def PC.uniq(h1:PC n ps I O c)(h2:PC n ps I O d):c=d:=by
 let(L,a1,a2,a3):=h1;let(M,b1,b2,b3):=h2
 have:L.Perm M:=(Jv a1 b1).X λl=>by rw[a2,b2]
 rw[<-a3,<-b3,this.length_eq]
def XA(m:A5)(gone:Ac):(Ac):=(Wx m).filter λz=>decide (z∉gone)
def WQ{z:A0}:z∈XA m gone↔(0<=z/\z<(m:A0))/\z∉gone:=by unfold XA;rw[Yq,YY,Xy]
def Zr8(m:A5)(gone:Ac):(XA m gone).U (·<·):=(XY.Y<|Kl m).2.filter _
def SA(f:A5->A5)(ps:Aa)(R:Ac):(Aa):=R.Q λz=>((f (ZK ps z).1:A0),(f (ZK ps z).2:A0))
def Qq(R:Ac)(S:Ac):(Ac):=S.Q λt=>R.S t.j 0
def iM(hR:R.U (·<·))(hS:IsSet R.f S):(Qq R S).U (·<·):=by
 let(a1,a2):=XY.Y hS;show Na.X (a2.imp_of_mem λ{a b} ha hb UU=>?_);let h1:=a1 a ha
 let h2:=a1 b hb;rw[Wj,Wj,Xv (by ext),Xv (by ext)];show YQ.Y hR a.j b.j (by ext) (by ext) B
def Ob(hS:IsSet R.f S){z:A0}(h:z∈Qq R S):z∈R:=by
 let(t,ht,rfl):=Yp.Y h;let h1:=hS.all t ht
 ext
def yz{f:A5->A5}(hS:IsSet R.f S):XO (SA f ps R) S=(XO ps (Qq R S)).Q λe=>(f e.1,f e.2):=by
 unfold XO Qq;rw[MT,MT];show YZ λt ht=>?_;let h1:=hS.all t ht
 let e:(SA f ps R).S t.j (0,0)=((f (ZK ps<|R.S t.j 0).1:A0),(f (ZK ps<|R.S t.j 0).2:A0)):=by unfold SA;rw[Wj,Yo,Wj,Xv (by ext)];rfl
 rw[e];rfl
def QY(m:A5)(I R S:Ac):(Ac):=(Wx m).filter λz=>decide (z∈I\/z∈Qq R S)
def Hg(m:A5)(I R S:Ac):(QY m I R S).U (·<·):=(XY.Y<|Kl m).2.filter _
def WS{z:A0}:z∈QY m I R S↔(0<=z/\z<(m:A0))/\(z∈I\/z∈Qq R S):=by unfold QY;rw[Yq,YY,Xy]
section
variable{n:A0}{ps:Aa}{I O S:Ac}{f g:A5->A5}{k:A5}
def iK(hI:IsSet ps.f I)(hS:IsSet (XA ps.f (I++O)).f S):(QY ps.f I (XA ps.f (I++O)) S).Perm (I++Qq (XA ps.f (I++O)) S):=by
 let ua:=iM (Zr8 ps.f<|I++O) hS;show(Jv (Mo<|Hg _ _ _ _)<|Pb.X {hI.nodup,Mo ua,λa ha b hb e=>?_}).X λz=>?_
 .have:=(WQ.Y<|Ob hS hb).2
  ext
 .rw[WS,Xi];exists λh=>h.2,λh=>{?_,h};rcases h with q|q
  .show hI.all z q
  .show(WQ.Y<|Ob hS q).1
theorem ZM8(g0:Zz n ps)(hI:IsSet ps.f I)(hf:∀i j,i<n.j->j<n.j->(f i=f j↔Conn (XO ps I) i j))(hk:∀i,i<n.j->f i<k)(hg:∀a,a<k->g a<n.j/\f (g a)=a)(hS:IsSet (XA ps.f (I++O)).f S):
  ((∀i j,i<n.j->j<n.j->Conn (XO ps<|QY ps.f I (XA ps.f<|I++O) S) i j)↔∀a b,a<k->b<k->Conn (XO (SA f ps<|XA ps.f<|I++O) S) a b):=by
 let hp:=iK (O:=O) hI hS;let hA:=ZY (ns:=I) g0 hI.all
 let hB:=ZY (ns:=Qq (XA ps.f<|I++O) S) g0 λz hz=>(WQ.Y<|Ob hS hz).1;let e:XO ps (I++Qq (XA ps.f<|I++O) S)=XO ps I++XO ps (Qq (XA ps.f<|I++O) S):=by unfold XO;show Yz
 rw[yz hS,<-ZK8 hf hk hg hA hB,<-e];exists λc i j hi hj=>(Mm λz=>hp.mem_iff).Y (c i j hi hj),λc i j hi hj=>(Mm λz=>hp.mem_iff).X (c i j hi hj)
def JU(hI:IsSet ps.f I)(hT:IsSet ps.f T)(h1:∀z∈I,z∈T)(h2:∀z∈O,z∉T):∃S,IsSet (XA ps.f (I++O)).f S/\T=QY ps.f I (XA ps.f (I++O)) S:=by
 exists (Wx (XA ps.f<|I++O).f).filter λt=>decide<|(XA ps.f<|I++O).S t.j 0∈T,XY.X {λt ht=>Xy.Y (Yq.Y ht).1,(XY.Y<|Kl _).2.filter _},sH (XY.Y hT).2 (Hg _ _ _ _) λz=>?_;rw[WS];constructor
 .intro hz;exists hT.all z hz,?_;cases c:z∈I
  .show .inl c
  .right;let hR:z∈XA ps.f (I++O):=WQ.X ⟨hT.all z hz,λq=>by
    ext⟩
   let(t,ht):=YA hR;let e:(XA ps.f<|I++O).S ((t:A0)).j 0=z:=by rw[VN];show XF ht
   show Yp.X {(t:A0),Yq.X {Xy.X {by ext,B},YU<|by rwa[e]},e}
 .rintro⟨_,q|q⟩
  .show h1 z q
  .let⟨t,ht,rfl⟩:=Yp.Y q;grind
def yy{S':Ac}(hS:IsSet (XA ps.f (I++O)).f S)(SE:IsSet (XA ps.f (I++O)).f S')(e:QY ps.f I (XA ps.f (I++O)) S=QY ps.f I (XA ps.f (I++O)) S'):S=S':=by
 let key:∀{A o8:Ac},IsSet (XA ps.f<|I++O).f A->IsSet (XA ps.f<|I++O).f o8->QY ps.f I (XA ps.f<|I++O) A=QY ps.f I (XA ps.f<|I++O) o8->∀t,t∈A->t∈o8:=λ{A o8} hA hB e t ht=>by
  let h1:=hA.all t ht;let hm:(XA ps.f<|I++O).S t.j 0∈Qq (XA ps.f<|I++O) A:=Yp.X ⟨t,ht,Z⟩
  let hR:=WQ.Y (Ob hA hm);let h2:(XA ps.f<|I++O).S t.j 0∈QY ps.f I (XA ps.f<|I++O) o8:=e▸WS.X {hR.1,.inr hm}
  rcases(WS.Y h2).2 with q|q
  .show absurd (Yy _ q) hR.2
  .let⟨u,hu,e2⟩:=Yp.Y q;let h3:=hB.all u hu
   rw[Wj,Wj,Xv (by ext),Xv (by ext)]at e2
   have:=Xf (Mo<|Zr8 ps.f<|I++O) (i:=u.j) (j:=t.j) (Xv<|by ext) (by ext)
   grind
 show sH (XY.Y hS).2 (XY.Y SE).2 λt=>{key hS SE e t,key SE hS e.symm t}
def rS(f:A5->A5)(ps:Aa)(R:Ac):(SA f ps R).f=R.f:=Yb ..
def iI(g0:Zz n ps)(hI:IsSet ps.f I)(LX:∀z∈I,z∉O)(hf:∀i j,i<n.j->j<n.j->(f i=f j↔Conn (XO ps I) i j))(hk:∀i,i<n.j->f i<k)(hg:∀a,a<k->g a<n.j/\f (g a)=a)(hn:(k:A0)+I⁻¹=n)(h:TC k (SA f ps (XA ps.f (I++O))) c):PC n ps I O c:=by
 let(L,h1,h2,h3):=h;let hs:∀l∈L,IsSet (XA ps.f<|I++O).f l:=λl hl=>rS f ps _▸((h2 l).Y hl).1
 let len:∀{S:Ac},IsSet (XA ps.f<|I++O).f S->(QY ps.f I (XA ps.f<|I++O) S).f=I.f+S.f:=λ{S} hS=>by rw[(iK hI hS).length_eq,Ya];unfold Qq;rw[Yb]
 let iff:∀{S:Ac},IsSet (XA ps.f<|I++O).f S->(Zj n ps (QY ps.f I (XA ps.f<|I++O) S)↔Zj k (SA f ps<|XA ps.f<|I++O) S):=λ{S} hS=>by
  let l:=len hS;let q:=ZM8 (O:=O) g0 hI hf hk hg hS
  constructor
  .rintro⟨a1,a2,a3⟩;exists by rw[rS];show hS,J,λa b ha hb=>q.Y a3 a b (by ext)<|by ext
  .rintro⟨a1,a2,a3⟩;exists XY.X {λz hz=>(WS.Y hz).1,Hg _ _ _ _},J,q.X λa b ha hb=>a3 a b (by ext)<|by ext
 show{L.Q<|QY ps.f I<|XA ps.f<|I++O,Na.X<|h1.imp_of_mem λ{a b} ha hb UU e=>UU<|yy (hs a ha) (hs b hb) e,λT=>?_,by ext};rw[Yp];constructor
 .rintro⟨S,hS,rfl⟩;exists (iff<|hs S hS).X ((h2 S).Y hS),λz hz=>WS.X {hI.all z hz,.inl hz},λz hz q=>?_;rcases(WS.Y q).2 with q|q
  .show LX z q hz
  .show(WQ.Y<|Ob (hs S hS) q).2 (Yc _ hz)
 .rintro⟨hT,q1,q2⟩;let(S,hS,rfl):=JU hI hT.1 q1 q2;exists S,(h2 S).X ((iff hS).Y hT),Z
def ZN8(g0:Zz n ps)(gone:Ac)(hk:∀i,i<n.j->f i<k)(k1:1<=k)(kn:k<=n.j):Zz k (SA f ps (XA ps.f gone)):=by
 let(g1,g2,g3,g4):=g0;exists J,J,?_,λp hp=>?_
 .rw[rS]
  have:(XA ps.f gone).f<=(Wx ps.f).f:=Nd ..
  have:=(Kl ps.f).len
  lia
 .let⟨z,hz,rfl⟩:=Yp.Y hp;let rR:=(WQ.Y hz).1
  obtain⟨q,hq⟩:∃q,ps[z.j]?=⇑q:={_,Xv<|by ext};let ee:ZK ps z=(q.1.j,q.2.j):=by unfold ZK;rw[XF hq]
  grind
def yx(g0:Zz n ps)(hI:IsSet ps.f I)(hf:∀i j,i<n.j->j<n.j->(f i=f j↔Conn (XO ps I) i j))(hk:∀i,i<n.j->f i<k)(hg:∀a,a<k->g a<n.j/\f (g a)=a)(k1:1<=k)(kn:k<=n.j)(hn:n<(k:A0)+I⁻¹):PC n ps I O 0:=by
 exists [],.nil,λT=>{λh=>(by cases h),λzz=>?_},Z;let(hT,q1,q2):=zz;let(S,hS,rfl):=JU hI hT.1 q1 q2;let q:=(ZM8 (O:=O) g0 hI hf hk hg hS).Y hT.2.2
 let gg:=ZN8 (f:=f) g0 (I++O) hk k1 kn;let l:=yM gg (by rwa[rS]) λa b ha hb=>q a b (by ext) (by ext)
 let l2:=hT.2.1;rw[(iK hI hS).length_eq,Ya]at l2;unfold Qq at l2;grind
end
def Uw:(Ac->A0->A5)
 |[],_=>0
 |x::l,z=>if x=z then 0 else Uw l z+1
def RC:∀{l:Ac}{z:A0},z∈l->l[Uw l z]?=⇑z
 |x::l,z,h=>by
  unfold Uw;cases c:x=z
  .rw[Yk c,c];rfl
  .rw[Yj c];show RC ((Yu.Y h).resolve_left λe=>c e.symm)
def iH(h:z∈l):Uw l z<l.f:=(Xr.Y<|RC h).1
def iG(hz:z∈l)(hy:y∈l):Uw l z=Uw l y↔z=y:=by
 show{λe=>?_,λe=>by rw[e]};let h1:=RC hz
 rw[e,RC hy]at h1;lia
def iF(hn:l.Nodup){i:A5}{z:A0}(h:l[i]?=⇑z):Uw l z=i:=Xf hn (RC<|Xo h) h
def yw(h:i<M.f):mk M i∈M:=by
 ext
section
variable{N:A5}{es:A6 (A5×A5)}{F:Ac}
def iE(h:InN N es)(hF:F.U (·<·))(hm:∀z,z∈F↔z∈Xj N es):
  ∃g:A5->A5,(∀i j,i<N->j<N->(Uw F (mk (Xj N es) i)=Uw F (mk (Xj N es) j)↔Conn es i j))/\(∀i,i<N->Uw F (mk (Xj N es) i)<F.f)/\∀a,a<F.f->g a<N/\Uw F (mk (Xj N es)<|g a)=a:=by
 let hl:=Zs N es;let iC:∀i,i<N->mk (Xj N es) i∈F:=λi hi=>(hm _).X (yw<|by ext)
 let ex:∀a,∃i,a<F.f->i<N/\Uw F (mk (Xj N es) i)=a:=λa=>by
  cases c:a<F.f
  .let q:=(hm _).Y (Jp c);let(i,hi):=YA q;let Wq:=(Xr.Y hi).1
   exists i,λ_=>{by ext,?_};let e:mk (Xj N es) i=F[a]:=by unfold mk;show XF hi
   rw[e];show iF (Mo hF) (Xv c)
  .exists 0,λh=>absurd h c
 exists λa=>Classical.choose<|ex a,λi j hi hj=>?_,λi hi=>iH<|iC i hi,λa ha=>Classical.choose_spec (ex a) ha;rw[iG (iC i hi) (iC j hj)];show EF h hi hj
def iz:∀i,∃p,p<=i/\VZ M p=A9/\mk M p=mk M i:=by
 intro i
 induction i using Nat.strongRecOn with
 |_ i ih=>
  cases c:VZ M i=A9
  .grind
  .obtain⟨j,hj,e⟩:∃j,j<i/\mk M j=mk M i:=Yr λno=>c (XB.X λj hj e=>no ⟨j,hj,e⟩);grind
def ZT9(hF:F.U (·<·))(hm:∀z,z∈F↔z∈M):F.f=cnt M:=by
 let e:F.Perm ((Ud M M.f).Q (mk M)):=by
  show(Jv (Mo hF) ?_).X λz=>?_
  .show Na.X ?_;show(DB.filter<|VZ M).imp_of_mem λ{a b} ha hb UU=>?_;show XB.Y (Yq.Y hb).2 a UU
  .rw[hm,Yp];constructor
   .intro hz;let(i,hi):=YA hz;let Wq:=(Xr.Y hi).1
    let(p,h1,h2,h3):=iz (M:=M) i;exists p,Yq.X {YR.X J,h2},h3.l ?_;show XF hi
   .rintro⟨p,hp,rfl⟩;show yw (YR.Y (Yq.Y hp).1)
 rw[e.length_eq,Yb];rfl
def Zm5(h:InN N es)(hN:1<=N)(hF:F.U (·<·))(hm:∀z,z∈F↔z∈Xj N es):1<=F.f/\F.f<=N/\N<=F.f+es.f:=by
 let e:=ZT9 hF hm;let hl:=Zs N es
 let e2:=z5 (HW (n:=N) (es:=es) h);let e3:=sQ es h
 let e4:=sP (M:=Xj N es) (by ext);let e5:cnt (Xj N es)<=N:=by
  unfold cnt Ud;show Ym (Nd ..) ?_;rw[MZ]
  ext
 ext
end
def PC.congr{n:A0}{ps:Aa}{I O I' O':Ac}{c:A5}(hI:∀z,z∈I↔z∈I')(hO:∀z,z∈O↔z∈O')(h:PC n ps I O c):PC n ps I' O' c:=by
 let(L,h1,h2,h3):=h;exists L,h1,λl=>?_,h3
 ext
def TC.pc{n:A0}{ps:Aa}{c:A5}(h:TC n ps c):PC n ps [] [] c:=by let(L,h1,h2,h3):=h;exists L,h1,λl=>by ext,h3
def iy{t:A0}(h1:PC n ps (t::I) O a)(h2:PC n ps I (t::O) b):PC n ps I O (a+b):=by
 let(L,l1,l2,l3):=h1;let(M,m1,m2,m3):=h2;exists L++M,Pb.X {l1,m1,λx hx y hy e=>?_},λT=>?_,by ext
 .ext
 grind
def FD(A o8:Ac)(t:A0):(Prop):=t∈A/\t∉o8/\∀s,s<t->(s∈A↔s∈o8)
def FD.uniq(h:FD A o8 t)(k:FD A o8 u):t=u:=by
 rcases uN t u with c|c|c
 .show absurd ((k.2.2 t c).Y h.1) h.2.1
 .show c
 .show absurd ((h.2.2 u c).Y k.1) k.2.1
def rQ:∀{A o8:Ac},A.U (·<·)->o8.U (·<·)->A.f=o8.f->(HT.lexLt A o8=A9↔∃t,FD A o8 t)
 |[],[],_,_,_=>{λh=>(by cases h),λzz=>by let(t,h,_):=zz;show(by cases h)}
 |x::A,y::o8,hA,hB,hl=>by
  let(a1,a2):=PX.Y hA;let(b1,b2):=PX.Y hB;let CI:A.f=o8.f:=MV hl
  change(if x=y then HT.lexLt A o8 else decide (x<y))=A9↔_;cases c:x=y
  .subst c;rw[Yk Z,rQ a2 b2 CI];constructor
   .rintro⟨t,h1,h2,h3⟩;exists t,Yn _ h1,λq=>?_,λs hs=>?_
    .grind
    ext
   .rintro⟨t,h1,h2,h3⟩;let tx:t≠x:=λe=>h2 (e▸Yi)
    let h1':=(Yu.Y h1).resolve_left tx;exists t,h1',λq=>h2<|Yn _ q,λs hs=>?_;grind
  .constructor
   .intro h;exists x,Yi,λq=>?_,λs hs=>{λq=>?_,λq=>?_}
    .grind
    .grind
    grind
   .rintro⟨t,h1,h2,h3⟩;grind
def Rk(n:A0)(ps:Aa)(T:Ac)(r:A5):(Prop):=∃L:Ab,L.Nodup/\(∀l,l∈L↔Zj n ps l/\HT.lexLt l T=A9)/\L.f=r
def Rk.uniq(h1:Rk n ps T c)(h2:Rk n ps T d):c=d:=by
 let(L,a1,a2,a3):=h1;let(M,b1,b2,b3):=h2
 have:L.Perm M:=(Jv a1 b1).X λl=>by rw[a2,b2]
 rw[<-a3,<-b3,this.length_eq]
def rP{α:Type}[DecidableEq α]:∀{l m:A6 α},l.Nodup->(∀x∈l,x∈m)->l.f<=m.f
 |[],_,_,_=>XC _
 |x::l,m,hn,hs=>by
  let(h1,h2):=Rp.Y hn
  have:=rP (m:=m.erase x) h2 λy hy=>(List.mem_erase_of_ne λe=>h1<|by ext).X (hs y<|Yn _ hy)
  grind
def yu(hT:Zj n ps T)(h1:Rk n ps T r)(h2:Rk n ps U q)(h:HT.lexLt T U=A9):r<q:=by
 let(L,a1,a2,a3):=h1;let(M,b1,b2,b3):=h2
 have:=rP (l:=T::L) (m:=M) (Rp.X {λq=>absurd ((a2 T).Y q).2 (by rw[Xm];decide),a1}) λl hl=>by
  rcases Yu.Y hl with e|e
  .ext
  .let⟨c1,c2⟩:=(a2 l).Y e;show(b2 l).X {c1,WL c2 h}
 grind
def ix(h:TC n ps c):∃d,PC n ps Is Os d:=by let(L,h1,h2,_):=h;exists _,L.filter λU=>decide ((∀z∈Is,z∈U)/\∀z∈Os,z∉U),h1.filter _,λU=>by rw[Yq,YY,h2],Z
def Hf{l T O:Ac}{I:Ac}(hl:IsSet m l)(hT:IsSet m T)(tT:t∉T)(hI:∀z,z∈I↔(z∈T/\z<t)\/z=t)(hO:∀z,z∈O↔(0<=z/\z<(m:A0))/\z∉T/\z<t):((∀z∈I,z∈l)/\∀z∈O,z∉l)↔FD l T t:=by
 constructor
 .rintro⟨h1,h2⟩;exists h1 t<|(hI t).X (.inr Z),tT,λs hs=>{λq=>Yr λno=>?_,λq=>h1 s<|(hI s).X (.inl ⟨q,hs⟩)};show h2 s ((hO s).X {hl.all s q,no,hs}) q
 .rintro⟨h1,_,h3⟩;grind
def iw(hT:Zj n ps T)(bs:Ac)(hb:∀z,z∈bs↔(0<=z/\z<ps⁻¹)/\z∉T)(hbn:bs.Nodup)(cs:A6 A5)(TM:cs.f=bs.f)
  (hc:∀(j:A5)(t:A0)(c:A5),bs[j]?=⇑t->cs[j]?=⇑c->∃I O,PC n ps I O c/\(∀z,z∈I↔(z∈T/\z<t)\/z=t)/\∀z,z∈O↔(0<=z/\z<ps⁻¹)/\z∉T/\z<t):Rk n ps T cs.sum:=by
 let step:∀j,j<=bs.f->∃L:Ab,L.Nodup/\(∀l,l∈L↔Zj n ps l/\∃t∈bs.R j,FD l T t)/\L.f=(cs.R j).sum:=λj=>by
  induction j with
  |zero=>ext
  |succ j ih=>
   intro hj;let(L,l1,l2,l3):=ih J;obtain⟨t,ht⟩:∃t,bs[j]?=⇑t:={_,Xv J};obtain⟨c,hcj⟩:∃c,cs[j]?=⇑c:={_,Xv J};let(I,O,(M,m1,m2,m3),hI,hO):=hc j t c ht hcj;let tT:=((hb t).Y (Xo ht)).2
   let rO:∀l,l∈M↔Zj n ps l/\FD l T t:=λl=>by rw[m2];exists λzz=>by let(a,b):=zz;show{a,(Hf a.1 hT.1 tT hI hO).Y b},λzz=>by let(a,b):=zz;exists a,(Hf a.1 hT.1 tT hI hO).X b
   exists L++M,Pb.X {l1,m1,λx hx y hy e=>?_},λl=>?_,?_
   .rw[<-e]at hy;let(_,u,hu,fu):=(l2 x).Y hx;let eu:=fu.uniq ((rO x).Y hy).2
    rw[eu]at hu;let(q,hq):=YA hu;rw[Jr]at hq;split at hq
    .have:=Xf hbn hq ht
     ext
    lia
   .rw[Xi,l2,rO,Yw,ht];grind
   .rw[Ya,l3,m3,Yw,hcj,List.sum_append];simp
 let(L,l1,l2,l3):=step bs.f (XI _);rw[Ys]at l2;rw[<-TM,Ys]at l3;exists L,l1,λl=>?_,l3;rw[l2];show Dq λhl=>?_;rw[rQ (XY.Y hl.1).2 (XY.Y hT.1).2 (by have:=hl.2.1;have:=hT.2.1;lia)];exists λzz=>by let(t,_,f):=zz;show⟨t,f⟩,λzz=>by let(t,f):=zz;exists t,(hb t).X {hl.1.all t f.1,f.2.1},f
def BL(n:A0)(ps:Aa)(I:Ac)(t:A0)(b:A5):(Prop):=∃L:Ab,L.Nodup/\(∀l,l∈L↔Zj n ps l/\∃s,s<t/\FD l I s)/\L.f=b
section
variable{n:A0}{ps:Aa}{I O:Ac}{i b c:A5}
def iu(h:I=[]):BL n ps I 0 0:=by
 exists [],.nil,λl=>{λh=>(by cases h),λzz=>?_},Z;let(hl,s,hs,f):=zz
 have:=hl.1.all s f.1
 lia
def ir(hI:IsSet i I)(h:BL n ps I (i:A0) b):BL n ps (I++[(i:A0)]) ((i+1:A5):A0) b:=by
 let(L,l1,l2,l3):=h;let key:∀l s,s<(i:A0)->(FD l (I++[(i:A0)]) s↔FD l I s):=λl s hs=>by unfold FD;grind
 exists L,l1,λl=>?_,l3;rw[l2];show Dq λ_=>{λzz=>by let(s,hs,f):=zz;show{s,J,(key l s hs).X f},λzz=>?_};let(s,hs,f):=zz;let UC:s≠(i:A0):=λe=>f.2.1 (by ext)
 exists s,J,(key l s B).Y f
def iq(hm:i<ps.f)(hI:IsSet i I)(hO:∀z,z∈O↔(0<=z/\z<(i:A0))/\z∉I)(h:BL n ps I (i:A0) b)(hc:PC n ps (I++[(i:A0)]) O c):BL n ps I ((i+1:A5):A0) (b+c):=by
 let(L,l1,l2,l3):=h;let(M,m1,m2,m3):=hc;let hI':IsSet ps.f I:=XY.X {λz hz=>by have:=hI.all z hz;lia,(XY.Y hI).2}
 let tI:(i:A0)∉I:=λq=>by have:=hI.all _ q;ext
 let rO:∀l,l∈M↔Zj n ps l/\FD l I (i:A0):=λl=>by
  rw[m2];show Dq λhl=>Hf (m:=ps.f) hl.1 hI' tI (λz=>?_) λz=>?_
  .rw[Xi,Xn];exists λq=>q.imp_left λq=>{q,(hI.all z q).2},λq=>q.imp_left λq=>q.1
  grind
 exists L++M,Pb.X {l1,m1,λx hx y hy e=>?_},λl=>?_,by ext
 .rw[<-e]at hy;let(_,s,hs,f):=(l2 x).Y hx
  have:=f.uniq ((rO x).Y hy).2
  ext
 grind
def ip{r:A5}(hI:IsSet ps.f I)(hO:∀z,z∈O↔(0<=z/\z<ps⁻¹)/\z∉I)(h:BL n ps I ps⁻¹ b)(hc:PC n ps I O c)(hr:r<c):Zj n ps I/\Rk n ps I b/\r=0:=by
 let(L,l1,l2,l3):=h;let(M,m1,m2,m3):=hc;let eq:∀l∈M,l=I:=λl hl=>by let(a,q1,q2):=(m2 l).Y hl;show sH (XY.Y a.1).2 (XY.Y hI).2 λz=>{λhz=>Yr λno=>q2 z ((hO z).X {a.1.all z hz,no}) hz,q1 z}
 obtain⟨l,hl⟩:∃l,l∈M:=by
  cases M with
  |nil=>grind
  |cons x M=>exists x,Yi
 let hT:Zj n ps I:=(eq l hl)▸((m2 l).Y hl).1;let hle:M.f<=1:=by
  match M,eq,m1 with
  |[],_,_=>show XC _
  |[_],_,_=>show XI 1
  |x::y::M,eq,m1=>
   let h1:=eq x Yi
   ext
 exists hT,{L,l1,λl=>?_,l3},J;rw[l2];show Dq λhl=>?_;rw[rQ (XY.Y hl.1).2 (XY.Y hI).2 (by have:=hl.2.1;have:=hT.2.1;lia)];exists λzz=>by let(s,_,f):=zz;show⟨s,f⟩,λzz=>by let(s,f):=zz;exists s,(hl.1.all s f.1).2,f
end
def ik{L:Ab}{U:Ac}(Xh:∀l,l∈L↔Zj n ps l)(Qp:L.U Ub)(h:L[i]?=⇑U):Rk n ps U i:=by
 let(hi,eU):=Xr.Y h;exists L.R i,(Zq4 Qp).sublist (RX _ _),λl=>{λhl=>?_,λ⟨hl,Xu⟩=>?_},B
 .let⟨j,hj⟩:=YA hl;rw[Jr]at hj;split at hj
  .rename_i rN;let(h1,e1):=Xr.Y hj;exists (Xh l).Y (Xo hj),?_
   have:=YQ.Y Qp j i h1 hi rN
   ext
  ext
 .let⟨j,hj⟩:=YA ((Xh l).X hl);let(h1,e1):=Xr.Y hj;let rN:j<i:=by
   rcases Nat.lt_trichotomy j i with c|c|c
   .show c
   .subst c;rw[h]at hj;rw[<-Yf hj,Xm]at Xu;lia
   .have:=ZX7 (YQ.Y Qp i j hi h1 c)
    ext
  show Xo (i:=j) ?_
  ext
def ij{n:A0}{ps:Aa}{U V:Ac}{r:A5}(hU:Zj n ps U)(hV:Zj n ps V)(h1:Rk n ps U r)(h2:Rk n ps V r):U=V:=by
 show Tj (Dt.X λh=>?_) (Dt.X λh=>?_)
 .show SQ _ (yu hU h1 h2 h)
 .show SQ _ (yu hV h2 h1 h)
end My
namespace L2
open PySem PySem.Spec PyProof.Rows
section
variable{X:Cx}
def Zt6:VL X (.builtin "abs") (λxs H Q=>∃z:A0,xs=[.int z]/\Q (.int (if z<0 then -z else z)) H):=by intro pins s σ H xs us Q I r h;let(z,rfl,q):=h;let(u,rfl,ru):=Ve r;let(t,rfl):=ru;show call_abs_int λu tk=>{.int<|if z<0 then -z else z,H,I.tok tk,⟨u,Z⟩,q}
end
end L2
namespace My
open PySem L2
def LW{s rest:TS}{tB:Ends}{σ:L2.St}{H:Hp}(P:L2.St->Hp->Prop)(h1:∀σ' H',P σ' H'->rest tB σ' H')(h2:∀K:L2.St->Hp->Prop,(∀σ' H',P σ' H'->K σ' H')->s {tB with nx:=K} σ H):IX s rest tB σ H:=h2 _ h1
def Zr6{m:A5}(hm:m<=30):∀k,(Uc (m:A0) k).f<=30^k
 |0=>XI 1
 |k+1=>by
  let h1:=sJ (m:=m) (Uc (m:A0) k) λs hs=>(WY.Y hs).2;let h2:=Zr6 hm k
  let h3:m*(Uc (m:A0) k).f<=30*30^k:=Lb hm h2;rw[Nat.pow_succ,Dk];show Ym h1 h3
def Ej(g:Zz n ps)(h:TC n ps c):c<10^20:=by
 let(L,hn,hm,rfl):=h;let(g1,g2,g3,_):=g;show Fu (m:=30^13) (Ym (rP (m:=Uc ps⁻¹ (n-1).j) hn λx hx=>WY.X {?_,((hm x).Y hx).1})<|Ym (Zr6 pB _)<|DA D<|by ext) D
 have:=((hm x).Y hx).2.1
 lia
def ig(g:Zz n ps):∃L:Ab,(∀l,l∈L↔Zj n ps l)/\L.U Ub:={UD n.j ps (n-1).j,λ_=>ku g,(kL _ _).filter _}
def He(hc:PC n ps I O c)(hd:TC n ps d):c<=d:=by let(L,hn,hm,rfl):=hc;let(M,_,WG,rfl):=hd;show rP hn λx hx=>(WG x).X ((hm x).Y hx).1
end My
namespace L2
open PySem PySem.Spec PyProof.Rows
def ZJ7:∀{names:A6 (B8×NameKind)}{n:A5}{acc:A6 (B8×A7)}{h:Heap},(names.filter λy=>y.2 == .cell)=[]->cellsFrom n names acc=acc/\pushCells h names=h
 |[],_,_,_,_=>⟨Z,Z⟩
 | (x,k)::r,n,acc,h,e=>by
  rw[OS]at e;cases hk:(k == NameKind.cell)=A9
  .rw[Yk hk]at e;cases e
  .rw[Yj hk]at e;unfold cellsFrom pushCells;rw[Yj hk,Yj hk];show ZJ7 e
def ZG7:∀{names:A6 (B8×NameKind)}{n:A5}{acc:A6 (B8×A7)}{h:Heap}{xo:B8},(names.filter λy=>y.2 == .cell)=[(xo,.cell)]->cellsFrom n names acc=(xo,n)::acc/\pushCells h names=h.push {cls:=.type "cell",data:=.cell none}
 |[],_,_,_,_,e=>by cases e
 | (x,k)::r,n,acc,h,xo,e=>by
  rw[OS]at e;cases hk:(k == NameKind.cell)=A9
  .rw[Yk hk]at e;let(e1,e2):=Jk e;unfold cellsFrom pushCells;rw[Yk hk,Yk hk,(Prod.mk.inj e1).1];show ZJ7 e2
  .rw[Yj hk]at e;unfold cellsFrom pushCells;rw[Yj hk,Yj hk];show ZG7 e
section
variable{M:Model}{A:Around}{E:Ae}{s:B5}
def ie{qual:B8}{outer:Env}{Q:Env->B5->Prop}{xo:B8}(h1:(scope.names.filter λy=>y.2 == .cell)=[(xo,.cell)])
  (hQ:∀h',h'.Ns (~~~s) (λ_=>none)->h'.IsCell ((~~~s)+1) none->(∀b o,s.C.G b=⇑o->h'.G b=⇑o)->
   Q {scope,locals:=(~~~s),globals,cells:=(xo,(~~~s)+1)::closure,qual,func:=A8,code:=outer.code,frame:=outer.frame,builtins:=outer.builtins} {s with heap:=h'}):
  wpAny M A (newFunctionEnv scope globals closure [] qual none .none<|some outer) Q E s:=by
 simp only[newFunctionEnv,Option.isSome_some,if_true];show XU (wpAny_alloc ?_);show XU (wpAny_layCells _ (λname kind cells=>by ext) _ _ _ _ ?_);let e1:=λ(n:A5) (acc:A6 (B8×A7)) (h:Heap)=>ZG7 (n:=n) (acc:=acc) (h:=h) h1
 rw[(e1 _ _<|s.C.push {cls:=.type "dict",data:=.dict #[]}).1,(e1 0 [] _).2];rw[show({s with heap:=s.C.push {cls:=.type "dict",data:=.dict #[]} }:B5).C.objs.o=(~~~s)+1 from PQ ..];show XU ?_;show Yg (Yg<|hQ _ ?_ ?_ ?_)
 .show(Heap.Ns.new s.C<|.type "dict").keeps λb o e=>Xs _ e
 .exists {cls:=.type "cell",data:=.cell none},?_,Z
  have:=Qd (s.C.push {cls:=.type "dict",data:=.dict #[]}) (o:={cls:=.type "cell",data:=.cell none}) rfl
  ext
 .show λb o e=>Xs _ (Xs _ e)
end
def JT{xo x:B8}{c d:A7}{cl:A6 (B8×A7)}(h:((xo,d)::cl).M x=⇑c):(x=xo/\c=d)\/(x≠xo/\cl.M x=⇑c):=by grind
def ic{xo:B8}{d:A7}{cl:A6 (B8×A7)}:((xo,d)::cl).M xo=⇑d:=by
 ext
def yt{xo x:B8}{c d:A7}{cl:A6 (B8×A7)}(hx:x≠xo)(h:cl.M x=⇑c):((xo,d)::cl).M x=⇑c:=by grind
def Sz(X:Cx)(N':A6 B8)(scope:B9)(xo:B8)(C:A7)(s:B5)(H:Hp)(fp:A6 A7):(Cx) where
 prog:=X.prog
 w:=X.w
 K:=X.K
 mg:=X.mg
 base:=X.base
 A:=X.A
 N:=N'
 s₀:=s
 H₀:=H
 env:=compEnvC scope ((xo,C+1)::Wl X.env.cells scope.names []) C X.env
 outer:=X.stack
 stack:=X.stack
 ex:=fp
 fn:=λx=>match scope.names.M x with|some .cell=>true|_=>false
 calm:=X.calm
 pn:=[]
 xe:=λ_ _=>False
structure CompScopeD(sc0:B9)(N N':A6 B8)(o:A5)(fr:A6 A5)(scope:B9)(xo:B8):Prop where
 kind:scope.kind=.function
 one:(scope.names.filter λy=>y.2 == .cell)=[(xo,.cell)]
 loc:(scope.names.all λy=>y.2 != .local||scope.names.M y.1 == some .local)=A9
 free:(scope.names.all λy=>y.2 != .free||(y.1 != xo&&(sc0.names.M y.1 == some .cell||sc0.names.M y.1 == some .free)))=A9
 len:N'.f=o+fr.f
 sees:((List.range fr.f).all λj=>match fr[j]? with
  |none=>false
  |some y=>match N[y]? with
   |none=>false
   |some x=>N'[o+j]? == some x&&scope.names.M x == some .free)=A9
section
variable{X:Cx}{pins:A6 (A7×Obj)}{σ:St}{H:Hp}{s:B5}{N':A6 B8}{o:A5}{fr:A6 A5}{scope:B9}{fp:A6 A7}{xo:B8}
def CompScopeD.cell'(S:CompScopeD sc0 N N' o fr scope xo):∀x,(x,NameKind.cell)∈scope.names->x=xo:=λx hx=>by let h:(x,NameKind.cell)∈scope.names.filter λy=>y.2 == .cell:=Yq.X ⟨hx,Z⟩;rw[S.one]at h;grind
def CompScopeD.loc'(S:CompScopeD sc0 N N' o fr scope xo):∀y∈scope.names,y.2=.local->scope.names.M y.1=some .local:=λy hy e=>by
 let q:=Wd.Y S.loc y hy
 ext
def CompScopeD.free'(S:CompScopeD sc0 N N' o fr scope xo)(hs:X.env.scope=sc0):∀y∈scope.names,y.2=.free->y.1≠xo/\(X.env.kindOf y.1=some .cell\/X.env.kindOf y.1=some .free):=λy hy e=>by
 let q:=Wd.Y S.free y hy;rw[e]at q;change _/\(X.env.scope.names.M y.1=_\/X.env.scope.names.M y.1=_)
 rw[hs];simpa using q
def CompScopeD.sees'(S:CompScopeD sc0 N N' o fr scope xo):∀j y,fr[j]?=⇑y->∃x,N[y]?=⇑x/\N'[o+j]?=⇑x/\scope.names.M x=some .free:=λj y e=>by
 let hj:j<fr.f:=(Xr.Y e).1;let q:=Wd.Y S.sees j (YR.X hj)
 grind
def CompScopeD.cells(S:CompScopeD sc0 N0 N' o fr scope xo)(hs:X.env.scope=sc0)(I:Inv X pins σ H s):∀y∈scope.names,y.2=.free->∃c,X.env.cells.M y.1=⇑c:=λy hy e=>I.ok.has y.1 (S.free' hs y hy e).2
def CompScopeD.sub(S:CompScopeD sc0 N0 N' o fr scope xo)(hs:X.env.scope=sc0)(I:Inv X pins σ H s):∀x c,(Wl X.env.cells scope.names []).M x=⇑c->X.env.cells.M x=⇑c:=
 tH (env:=X.env) scope.names [] (S.cells hs I) (λ_ _ z=>nomatch z)
def Inv.blockD(S:CompScopeD sc0 N0 N' o fr scope xo)(hs:X.env.scope=sc0)(hN:X.N=N0)(I:Inv X pins σ H s)(hf:∀b∈fp,FpOk X pins H b)(Ui:∀b∈fp,b<(~~~s)){h1:Heap}{C tB:A7}{m:Af}{t:A5}
  (hC:(~~~s)<=C)(hD:(~~~s)<=tB)(Ta:tB≠C)
  (old:∀b ob,s.C.G b=⇑ob->h1.G b=⇑ob)(hn:h1.Ns C m)(TM:h1.IsCell (C+1) none)(ha:h1.G tB=⇑(ZU us)):Inv (Sz X N' scope xo C s H fp) [(tB,ZU us)] (σC o fr σ) H {s with heap:=h1,toks:=t}:=by
 let sub:=S.sub hs I;let yr:∀x c,X.env.cells.M x=⇑c->c<(~~~s):=λx c e=>by let(v,z):=I.cell x c e;show z.lt
 let ng:∀b∈UD X.stack,b<(~~~s):=λb hb=>by let(_,ob,ho,_):=I.stack.mem hb;show Yh ho
 show⟨{I.ok.mod,S.kind,I.ok.glob,I.ok.blt,hC,λx y c e1 e2=>?_,λx hx=>?_,λx c nc hlk=>?_,I.ok.hd,I.ok.frames,.inl Z,λb hb=>?_,I.bs,Ym I.ok.bsz I.sz,λb ob e hb=>?_,λb hb Uz=>?_,I.stack,I.stkFree},
  rfl,I.bare,Un.kept old,{m,hn,λi x v e1 e2 e3=>?_},λx c e=>?_,I.hok.fresh hC,λx c e=>?_,λp hp=>?_,I.hok.kept old,?_⟩
 .rcases JT e1 with ⟨a1,a2⟩|⟨a1,a2⟩<;>rcases JT e2 with ⟨b1,b2⟩|⟨b1,b2⟩
  .rw[a1,b1]
  .let q:=yr y c (sub y c b2);rw[a2]at q;show absurd (Ye q<|Ym hC<|Tz _) (SQ _)
  .let q:=yr x c (sub x c a2);rw[b2]at q;show absurd (Ye q<|Ym hC<|Tz _) (SQ _)
  .show I.ok.inj x y c (sub x c a2) (sub y c b2)
 .let Uj:(relabel scope X.env).names.M x=some .cell\/(relabel scope X.env).names.M x=some .free:=hx;let key:(x,NameKind.free)∈scope.names\/(x,NameKind.cell)∈scope.names:=by
   rcases Uj with z|z
   .show ZS (env:=X.env) z (.inl Z)
   .show ZS (env:=X.env) z (.inr Z)
  change ∃c,((xo,C+1)::Wl X.env.cells scope.names []).M x=⇑c;cases Hd:x=xo
  .rw[Hd];exists _,ic
  .rcases key with z|z
   .let⟨c,hc⟩:=OW.Y (EK (cells:=X.env.cells) scope.names [] x z);exists c,yt Hd hc
   .show absurd (S.cell' x z) Hd
 .let hk:scope.names.M x=some .cell:=by
   let LV:(match scope.names.M x with|some .cell=>true|_=>false)=A9:=nc
   cases e:scope.names.M x with
   |none=>rw[e]at LV;cases LV
   |some q=>
    rw[e]at LV;cases q<;>first|rfl|(show absurd LV D)
  let Hd:=S.cell' x (Nc hk);rcases JT hlk with ⟨a1,a2⟩|⟨a1,a2⟩
  .rw[a2];show Ym hC (Tz _)
  .show absurd Hd a1
 .let⟨f0,f1,f2,f3,f4,f5⟩:=hf b hb;let Uz:=Ui b hb
  exists Yl<|Ye Uz hC,λx c e=>?_;rcases JT e with ⟨a1,a2⟩|⟨a1,a2⟩
  .rw[a2];show Sa (Ye Uz<|Ym hC<|Tz _)
  .show f4 x c (sub x c a2)
 .let⟨f0,f1,f2,f3,f4,f5⟩:=hf b hb;rcases f3 with z|z
  .show I.ok.noex b ob e z
  .show absurd (Ye (Yh e)<|Ym I.ok.bsz z) (SQ _)
 .let⟨f0,f1,f2,f3,f4,f5⟩:=hf b hb;rcases Yu.Y (I.stkSub b Uz) with z|z
  .show f1 z
  .show f2 z
 .unfold σC at e2;cases hi:i<o
  .rw[YB (by rwa[YN]),Y3J,Yk hi]at e2;cases e2
  .rw[YE (by rw[YN];show Nat.not_lt.Y hi),YN,Yo]at e2;cases hy:fr[i-o]? with
   |none=>rw[hy]at e2;cases e2
   |some y=>
    rw[hy]at e2;let Iq:(σ[y]?).join=⇑v:=Yf e2
    let m9:σ[y]?=⇑(⇑v):=by
     cases q:σ[y]? with
     |none=>rw[q]at Iq;cases Iq
     |some z=>rw[q]at Iq;show YF some Iq
    let(x',s2,s1,s3):=S.sees' (i-o) y hy;rw[<-hN]at s2;rw[show o+(i-o)=i by ext]at s1;let ex:x=x':=by let m8:N'[i]?=⇑x:=e1;rw[m8]at s1;show Yf s1
    subst ex;let Xh:=Nc s3
    let(m0,_,hl):=I.loc;let(Hd,hk):=S.free' hs (x,.free) Xh rfl;let(u,ru,lk):=hl y x v s2 m9 (by rcases hk with z|z;show .inr (.inl z);show .inr<|.inr z);exists u,ru,.inr {tG (env:=X.env) s3,?_};let(c',VV):=OW.Y (EK (cells:=X.env.cells) scope.names [] x Xh);exists c',yt Hd VV,?_;rcases lk with ⟨z,_⟩|⟨_,c,e,ob,ho,hd⟩
    .rcases hk with z'|z'
     .rw[z]at z';cases z'
     .rw[z]at z';cases z'
    .let ec:c=c':=by
      have:=sub x c' VV
      rw[e]at this;show Yf this
     subst ec;exists ob,old _ _ ho,hd
 .rcases JT e with ⟨a1,a2⟩|⟨a1,a2⟩
  .rw[a2];exists none,TM
  .let⟨v,ob,ho,hd⟩:=I.cell x c (sub x c a2);exists v,ob,old _ _ ho,hd
 .rcases JT e with ⟨a1,a2⟩|⟨a1,a2⟩
  .rw[a2];show I.hok.fresh (Ym hC<|Tz _)
  .show I.freeC x c (sub x c a2)
 .let e:p=(tB,ZU us):=by simpa using (show p∈([]:A6 (A7×Obj))++[(tB,ZU us)] from hp)
  subst e;exists ha,I.hok.fresh hD,Ta,λz=>absurd (Ye (ng tB z) hD)<|SQ _,λv z=>nomatch z
 .change(σC o fr σ).f=N'.f;unfold σC;rw[Ya,YN,Yb,S.len]
def Inv.unblockD(I:Inv X pins σ H s)(hf:∀b∈fp,FpOk X pins H b){σ':St}{s':B5}(hC:(~~~s)<=C)(hD:(~~~s)<=tB)(Ta:tB≠C)
  (I':Inv (Sz X N' scope xo C s H fp) [(tB,ZU us)] σ' H' s')(r:Vals ys us)(hz:ys.f<=sizeLine):∃oC m,s'.C.G C=⇑oC/\s'.C.Ns C m/\Inv X (pins++[(C,oC)]) σ (upd H' tB<|.lst ys) s':=by
 let(aD,nD,_,_,_):=I'.pin (tB,ZU us) AP;let un:Un (UD X.stack) fp H H' s.C s'.C:=I'.base
 let lt:∀b u,H b=⇑u->b≠tB:=λb u e=>Yl (Ye (I.hok.lt e) hD);let Ip:Un (UD X.stack) fp H (upd H' tB<|.lst ys) s.C s'.C:=by
  exists un.keep,un.slot,λb ob e n hx=>?_,un.there,λb xs e=>?_,λb ob u e=>?_,λb ps e=>?_
  .rw[Za (Yl<|Ye (Yh e) hD)];show un.free b ob e n hx
  .rw[Za (lt b _ e)];show un.tups b xs e
  .rw[Za (lt b _ e)];show un.frzs b ob u e
  .let⟨more,q⟩:=un.tbls b ps e;exists more,by rwa[Za (lt b _ e)]
 let hok:HOk X.prog X.w (upd H' tB<|.lst ys) s'.C:=λb u e=>by
  cases hb:b=tB
  .subst hb;rw[XS]at e;cases e;exists hz,us,us.f,r,aD
  .rw[Za hb]at e;show(I'.hok b u e).stay (λc v _ q=>q) (λc q=>by rwa[Za (Ze q nD)]) λc xs q=>by rwa[Za (Ze q nD)]
 let os:s'.os=s.os:=I'.os;let o7:Inv X pins σ (upd H' tB<|.lst ys) s':=I.call' (ch:=fp) os Ip hok I'.bare λb hb=>by let(f0,f1,f2,f3,f4,f5):=hf b hb;exists f3,f1,f4,f5
 let(m,hn,_):=I'.loc;let(oC,es,ep,Io,hdC,_):=id hn;exists oC,m,Io,hn,o7.pins_of λp hp=>?_;rcases Xi.Y hp with z|z
 .show o7.pin p (Yc _ z)
 .let e:p=(C,oC):=by simpa using z
  subst e;let nC:H' C=A8:=I'.free
  show{Io,by rw[Za (YX Ta)];show nC,Sa<|Ye I.lt hC,I.nofs hC,λv z=>?_};lia
end
section
variable{xo:B8}{X:Cx}{N':A6 B8}{o:A5}{fr:A6 A5}{scope:B9}{elt tg iter:B4}{ifs:A6 B4}{pos:Pos}{wi:TI}{g:TG}{tt:TT}{te:TE}
def g8(hc:X.calm=A9)(S:CompScopeD sc0 N0 N' o fr scope xo)(hi:PI X tg iter wi)(ho:RN o g)
  (hg:∀C s H fp,PG (Sz X N' scope xo C s H fp) tg g)
  (ht:∀C s H fp,Iu (Sz X N' scope xo C s H fp) ifs tt)
  (he:∀C s H fp,PE (Sz X N' scope xo C s H fp) elt te)
  (hs:∀x,foldedSetIterable iter X.env x=pure x)(Ts:X.env.scope=sc0)(Mw:X.N=N0)(I:Inv X pins σ H s)(h:BD wi g tt te o fr σ H Qv)
  {use:Option (B1->Sem Unit)}{Q:Ae}{E:Ae}
  (hE:∀e s',X.xe e s'->E e s')
  (fin:∀C oC tB m H' ys s',Inv X (pins++[(C,oC)]) σ (upd H' tB<|.lst ys) s'->Qv ↑tB (upd H' tB<|.lst ys)->s'.C.Ns C m->H' C=A8->C≠tB->
   C≠X.env.locals->(~~~X.s₀)<=C->(∀x c,X.env.cells.M x=⇑c->c≠C)->(∀p∈X.pn++pins,p.1≠C)->compPost (model X.prog X.w) X.A E use Q ↑tB C (.ok .next) s'):
  wpAny (model X.prog X.w) X.A (comprehension (.ListComp elt [⟨tg,iter,ifs,0⟩] scope pos) scope X.env (firstIterPos [⟨tg,iter,ifs,0⟩] pos) (newList []) false (eval iter X.env) use) Q E s:=by
 show wpAny_comprehension_free (use:=use) Z hs (ZH4<|S.cells Ts I) S.kind S.loc' (TX (hi pins s σ H _ I h) (λxv s1 h1=>TX h1 (λtW s2 h2=>?_) hE) hE);let(it,fp,tn,o7,H2,rfl,I2,T,WN,f2,W,(m0,w0),turn):=h2;let Ui:∀b∈fp,b<(~~~s2):=λb hb=>by let(ob,e,_):=T.obj 0 _ WN b hb;show Yh e
 show PR (ie S.one λh1 OF yq hkp1=>?_);generalize Il:s2.C.push {cls:=.type "list",dict:=A8,data:=.seq ([]:Ag).E}=G at OF yq hkp1 ⊢;let BA:G.objs.o=(~~~s2)+1:=by rw[<-Il,PQ]
 let hC:(~~~s2)<=G.objs.o:=by rw[BA];show Tz _
 let Ta:(~~~s2)≠G.objs.o:=by rw[BA];show Yl (RV _)
 let old:∀b ob,s2.C.G b=⇑ob->h1.G b=⇑ob:=λb ob e=>hkp1 b ob (Il▸Xs _ e);let Vc:h1.G (~~~s2)=⇑(ZU []):=hkp1 _ _ (Il▸Qd _ Z)
 let UX:tn 0 h1:=T.keep _ _ _ WN λb _ ob e=>old b ob e;let Ik:∀{us:Ag}{H':Hp},(∀b∈fp,H' b=A8)->∀b∈fp,FpOk (Sz X N' scope xo G.objs.o s2 H2 fp) [((~~~s2),ZU us)] H' b:=λ{us H'} hn b hb=>by
  let(f0,f1,f3,f4,f5,f6):=f2 b hb;show⟨hn b hb,Yl<|Ye (Ui b hb) hC,λz=>?_,.inl hb,λx c e=>by
   rcases JT e with ⟨a1,a2⟩|⟨a1,a2⟩
   .grind
   .show f5 x c<|S.sub Ts I2 x c a2,λp hp=>?_⟩
  .rcases Yu.Y (I2.stkSub b z) with q|q
   .show f1 q
   lia
  .let e:p=((~~~s2),ZU us):=by simpa using (show p∈([]:A6 (A7×Obj))++[((~~~s2),ZU us)] from hp)
   subst e;show Sa (Ui b hb)
 let loop:∀s3:B5,s3={s2 with heap:=h1}->
   codeAny (model X.prog X.w) X.A (.compLoop (.ListComp elt [⟨tg,iter,ifs,0⟩] scope pos) 0 ↑it (.ref (~~~s2))<|compEnvC scope ((xo,G.objs.o+1)::Wl X.env.cells scope.names []) G.objs.o X.env)
    (compPost (model X.prog X.w) X.A E use Q (.ref (~~~s2)) G.objs.o) s3:=by
  rintro s3 rfl;show Za3 (λn s'=>∃i σ' H' ys us,Inv (Sz X N' scope xo G.objs.o s2 H2 fp) [((~~~s2),ZU us)] σ' H' s'/\σ'=σC o fr σ/\Vals ys us/\tn i s'.C/\(∀b∈fp,H' b=A8)/\W i n ys H') ?_ m0
   {0,_,H2,[],[],I2.blockD (t:=s2.toks) S Ts Mw f2 Ui hC (XI _) Ta old OF yq Vc,Z,.nil,UX,λb hb=>(f2 b hb).1,w0}
  intro n s' Ω;let⟨i,σ',H',ys,us,I',rfl,rv,XT,Bz,w'⟩:=Ω;rcases turn i n ys H' w' with ⟨stop,hz,q⟩|⟨go,hz,step⟩
  .show thn (T.done (Sz X N' scope xo G.objs.o s2 H2 fp) Z Z Z hc i _ s' _ H' _ I' (Ik Bz) XT stop) λr s4 zz=>?_;let(hr,I4):=zz;subst hr;let(oC,m,Io,hn,J4):=I2.unblockD f2 hC (XI _) Ta I4 rv hz;show fin _ oC _ m H' ys s4 J4 (q _ (I4.pin ((~~~s2),ZU us) AP).2.1) hn I4.free (YX Ta) (Sa<|Ye I2.lt hC) (Ym I2.sz hC)
    (λx c e=>by let(v,z):=I2.cell x c e;show Yl<|Ye z.lt hC) λp hp=>Yl (Ye (Yh (I2.pin p hp).1) hC)
  .show thn (T.item (Sz X N' scope xo G.objs.o s2 H2 fp) Z Z Z hc i _ s' _ H' _ I' (Ik Bz) XT go) λr s4 XE=>?_;let(u,hr,h4):=XE;subst hr;show thn h4 λ_ s5 XE=>?_;let(x,H5,I5,r5,y5,Vk,Cp):=XE;let Wo:=step x H5 y5
   let Ij:=ho x (List.replicate o none) (fr.Q λj=>(σ[j]?).join) H5 _ (YN ..) Wo;let Co:=I5.pinned (Ik (us:=us) Cp) (T.obj _ _ Vk)
   show thn (hg _ _ _ _ _ s5 _ H5 x u _ Co r5 Ij) λ_ s6 XE=>?_;let(σ6,H6,I6,(ow,OE,e6),q6):=XE;subst e6;show thn (ht _ _ _ _ _ s6 _ H6 _ I6 q6) λb s7 XE=>?_;let(H7,I7,q7):=XE;let back:∀{us':Ag}{σ8:St}{H8:Hp}{s8:B5},Inv (Sz X N' scope xo G.objs.o s2 H2 fp) ([((~~~s2),ZU us')]++VM fp s5.C) (ow++fr.Q λj=>(σ[j]?).join) H8 s8->
     Inv (Sz X N' scope xo G.objs.o s2 H2 fp) [((~~~s2),ZU us')] (σC o fr σ) H8 s8/\tn (i+1) s8.C/\∀b∈fp,H8 b=A8:=λ{us' σ8 H8 s8} I8=>by
    exists I8.unpinned.weak ?_ λj v e=>?_,T.keep _ _ _ Vk λb hb ob e=>(I8.pin (b,ob)<|Yc _<|Yc _<|EU hb e).1,λb hb=>?_
    .unfold σC
     ext
    .unfold σC at e;grind
    .let⟨ob,e,_⟩:=T.obj _ _ Vk b hb;show(I8.pin (b,ob)<|Yc _<|Yc _<|EU hb e).2.1
   cases b with
   |false=>
    let(m',hm,w7):=q7;let(I8,m7,m6):=back (us':=us) (σ8:=[]) I7;exists m',hm,i+1,_,H7,ys,us,I8,Z,rv,m7,m6,w7
   |true=>
    show thn (he _ _ _ _ _ s7 _ H7 _ I7 q7) λy s8 XE=>?_;let(yv,H8,I8,r8,m',hm,w8):=XE;let(aD,nD,_,_,_):=I8.pin ((~~~s2),ZU us) AP;let tF:us.f<=sizeLine:=by rw[<-rv.f];show NA hz
    show append_at (hsz:=by omega) aD λh9 m5 EJ=>?_;let hD9':h9.G (~~~s2)=⇑(ZU<|us++[y]):=by
     rw[EJ];change some ({cls:=.type "list",data:=.seq (us.E.push y) (us.f+1)}:Obj)=⇑{cls:=.type "list",data:=.seq (us++[y]).E (us++[y]).f}
     rw[Ya,YW,List.push_toArray]
    let I9:Inv (Sz X N' scope xo G.objs.o s2 H2 fp) (VM fp s5.C) (ow++fr.Q λj=>(σ[j]?).join) H8 {s8 with heap:=h9}:=
     (I8.pins_of (pins':=VM fp s5.C) λp hp=>I8.pin p<|Yc _<|Yc _ hp).turned (t':=s8.toks) (it:=(~~~s2)) (λb ob hb e=>m5.extBut b ob hb e) nD Ta (.inr<|XI _)
      (λx c e=>by
       rcases JT e with ⟨a1,a2⟩|⟨a1,a2⟩
       .lia
       .let⟨v,z⟩:=I2.cell x c (S.sub Ts I2 x c a2);show Yl z.lt)
      λp hp=>by let(hb,_):=oM (show p∈VM fp s5.C from by simpa[Sz] using hp);show Yl (Ui p.1 hb)
    let mZ:Inv (Sz X N' scope xo G.objs.o s2 H2 fp) ([((~~~s2),ZU<|us++[y])]++VM fp s5.C) (ow++fr.Q λj=>(σ[j]?).join) H8 {s8 with heap:=h9}:=
     I9.pins_of λp hp=>by
      rcases Xi.Y hp with z|z
      .let e:p=((~~~s2),ZU<|us++[y]):=by simpa using z
       ext
      .show I9.pin p (Yc _ z)
    let(mY,Ii,Ih):=back (us':=us++[y]) (σ8:=[]) mZ;exists m',hm,i+1,_,H8,ys++[yv],us++[y],mY,Z,Vals.append rv<|.cons r8 .nil,Ii,Ih,w8
 show codeAny_compStart_list (loop _ Z) (T.self _ 0 _ _ _ UX<|loop _ Z)
def yp{x:B8}{px:Pos}{OD:Pos}(hc:X.calm=A9)(hN:X.N.Nodup)(hx:X.N[i]?=⇑x)(hl:X.env.kindOf x=some .local)(S:CompScopeD sc0 N0 N' o fr scope xo)(hi:PI X tg iter wi)(ho:RN o g)
  (hg:∀C s H fp,PG (Sz X N' scope xo C s H fp) tg g)
  (ht:∀C s H fp,Iu (Sz X N' scope xo C s H fp) ifs tt)
  (he:∀C s H fp,PE (Sz X N' scope xo C s H fp) elt te)
  (hs:∀x,foldedSetIterable iter X.env x=pure x:=by intro _;rfl)(Ts:X.env.scope=sc0:=by rfl)(Mw:X.N=N0:=by rfl)
  (mX:swapsWith (.ListComp elt [⟨tg,iter,ifs,0⟩] scope pos) (some<|.Name x px) OD.line X.env=pure true:=by rfl):
  PS X (.Assign [.Name x px] (.ListComp elt [⟨tg,iter,ifs,0⟩] scope pos) OD) (tAsg (BD wi g tt te o fr)<|OO i):=by
 intro pins s σ H tB I h;rw[exec_Assign_Name_used _ _ _ _ mX];show XU (uv<|XU ?_);show XU (TX (g8 (Q:=λ_ s'=>SP X pins tB .next s') hc S hi ho hg ht he hs Ts Mw I h (use:=some<|assign (.Name x px) X.env) (λ_ _ z=>z) λC oC Dd m H' ys s' o7 q hn nC By Bx Bw Bv Bu=>?_) (λ_ s' hq=>Yg<|Yg hq) λ_ _ e=>e);show pP (CF o7 hN hx (.inl hl) (v:=.ref Dd) Z (λs2 I2=>?_)<|.inr hl);let g1:=(I2.pin (C,oC) AP).1
 let n2:s2.C.Ns C m:=by
  let(oc,es,ep,e,r):=hn;let e0:=(o7.pin (C,oC) AP).1
  let e0:s'.C.G C=⇑oC:=e0;rw[e]at e0;cases e0;exists _,es,ep,g1,r
 exists m,n2,λh' VF=>{_,upd H' Dd<|.lst ys,?_,q};show I2.unpinned.turned (t':=s2.toks) (it:=C) (λb ob hb e=>VF.extBut b ob hb e) (by rwa[Za By]) Bx (.inr Bw) Bv Bu
end
section
variable{prog:Program}{w:World}{A:Around}{E:Ae}{s:B5}
def yo{u:B1}{Q:Ae}(hj:s.C.IsTupleIter j t i)(ht:s.C.IsTuple t us)(hu:us[i]?=⇑u)
  (q:∀h',h'.IsTupleIter j t (i+1)->Heap.SameBut j s.C h'->Q u {s with heap:=h'}):wpAny (model prog w) A (Builtin.SmallTypes.nextOf<|.ref j) Q E s:=by
 let(o1,e1,c1,d1):=id hj;let(o2,e2,_,n2,d2):=ht;show XU (Ju (name:=Str.H "__next__") hj.typeIs uS<|OZ uS hj.typeIs Y4f ?_<|CS _);change wpAny _ _ (field ↑j 0 >>= _) _ _ s
 show XU (CW e1 d1 (x:=.ref t) Z ?_);show XU (CW e1 d1 (x:=.int i 0) Z ?_);show XU (Jm e2 d2 ?_);simp only[hu,VN];show XU (La e1 d1 AP<|Yg ⟨u,Z,Yg<|q _ ?_<|NF ..⟩);exists _,UP _ e1<|Dy<|PU d1 _,(uK ..).l c1,?_;rw[PU d1];simp[rawInt]
def yn{Q:Ae}(hh:A.handled=A8)(hj:s.C.IsTupleIter j t i)(ht:s.C.IsTuple t us)(hu:us[i]?=A8)
  (q:∀h' e,Heap.ExtBut j s.C h'->(∃o,h'.G e=⇑o/\o.cls=.type "StopIteration")->E ↑e {s with heap:=h'}):wpAny (model prog w) A (Builtin.SmallTypes.nextOf<|.ref j) Q E s:=by
 let(o1,e1,c1,d1):=id hj;let(o2,e2,_,n2,d2):=ht;show XU (Ju (name:=Str.H "__next__") hj.typeIs uS<|OZ uS hj.typeIs Y4f ?_<|CS _);change wpAny _ _ (field ↑j 0 >>= _) _ _ s
 show XU (CW e1 d1 (x:=.ref t) rfl ?_);show XU (CW e1 d1 (x:=.int i 0) rfl ?_);show XU (Jm e2 d2 ?_);simp only[hu,VN];show XU (PM<|XU<|La e1 d1 AP<|XU (m:=newExc (.type "StopIteration") []) ?_);show XU (PR (XU (m:=firstArgMember _ _)<|Nx (a:=Value.none) (by first|rfl|(simp only[firstArgMember];rfl))<|PR ?_<|by size_fits)<|by size_fits)
 show XU (wpAny_handled ?_)
 first
  |rw[hh]
  |rw[show A.in1.handled=A8 from hh]
 show XU (Yg<|wpAny_throw<|q _ _ (((NF ..).extBut.push _).push _) {_,Qd _ Z,Z})
end
end L2
namespace My
open PySem L2
def ev(b:A0):(Ac->A0)
 |[]=>0
 |d::l=>d+b*ev b l
def Za9(l:Ac)(x:A0):(l++[x]).sum=l.sum+x:=by
 ext
def subs:(A5->Ab)
 |0=>[[]]
 |m+1=>subs m++(subs m).Q (·++[(m:A0)])
def Vz:∀{m:A5}{F:Ac},F∈subs m↔IsSet m F
 |0,F=>by
  change F∈[[]]↔_;rw[Xn];constructor
  .rintro rfl;show IsSet.nil _
  .intro h;show Ur.Y (Nat.le_zero.Y h.len)
 |m+1,F=>by
  change F∈subs m++(subs m).Q (·++[(m:A0)])↔_;rw[Xi,Yp,Vz];constructor
  .rintro(h|⟨G,h,rfl⟩)
   .show h.up
   .show(Vz.Y h).snoc
  .intro h;rcases Hx h with c|⟨G,e,c⟩
   .show .inl c
   .show .inr {G,Vz.X c,e.symm}
def cM(M:Ac)(p:A5)(x:A0):(A0):=((M.R p).count x:A5)
def ym:∀es:A6 (A5×A5),InN n es->∀i,i<n->0<=mk (Xj n es) i/\mk (Xj n es) i<=(i:A0)/\mk (Xj n es) (mk (Xj n es) i).j=mk (Xj n es) i:=by
 show Nq (λ_ i hi=>?_) λes e ih h=>?_
 .let e:mk (Xj n []) i=(i:A0):=EG hi
  ext
 .let⟨h1,h2,h3⟩:=h.snoc;let ih:=ih h1
  intro i hi;rw[Yz7];let hl:=Zs n es
  generalize Xj n es=M at *;let(i1,i2,i3):=ih i hi;let(a1,a2,a3):=ih e.1 h2;let(b1,b2,b3):=ih e.2 h3;unfold pm;cases c:min (mk M e.1) (mk M e.2)<max (mk M e.1) (mk M e.2)
  .rw[Yk c];obtain⟨lo,Px⟩:∃lo,lo=min (mk M e.1) (mk M e.2):={_,Z};obtain⟨Wu,Kd⟩:∃Wu,Wu=max (mk M e.1) (mk M e.2):={_,Z};rw[<-Px,<-Kd]at c ⊢;let g7:mk M lo.j=lo:=by
    rcases Int.le_total (mk M e.1) (mk M e.2) with q|q
    .rw[Px,pR q];show a3
    .rw[Px,Int.min_eq_right q];show b3
   rw[HY _ _ (by ext)];cases d:mk M i=Wu
   .rw[Yk d,HY _ _ J,g7,Yj J];grind
   .rw[Yj d,HY _ _ J,i3,Yj d];exists i1,i2,Z
  .rw[Yj c];exists i1,i2,i3
section
variable{n:A5}{es:A6 (A5×A5)}(h:InN n es)
include h
def Hc(hi:i<n):Conn es i (mk (Xj n es) i).j:=by let(a,b,c):=ym es h i hi;show(EF h hi J).Y c.symm
def g6(hi:i<n)(hj:j<n)(c:Conn es i j):mk (Xj n es) i<=(j:A0):=by rw[(EF h hi hj).X c];show(ym es h j hj).2.1
end
def Zm6{φ:A5->Prop}(h:∀e∈es,(φ e.1↔φ e.2))(c:Conn es i j):φ i↔φ j:=by
 induction c with
 |refl i=>lia
 |edge q=>show h _ q
 |symm _ ih=>show ih.symm
 |trans _ _ i1 i2=>ext
def gZ(f:A5->A5)(h:∀e∈es,Conn fs (f e.1) (f e.2))(c:Conn es i j):Conn fs (f i) (f j):=by
 induction c with
 |refl i=>show .refl _
 |edge e=>show h _ e
 |symm _ ih=>show ih.symm
 |trans _ _ Kb Pm=>show Kb.l Pm
def yk(f:A0->A0):∀{l:Ac},l≠[]->∃m∈l,∀z∈l,f z<=f m
 |[x],_=>{x,AP,λz hz=>by ext}
 |x::y::l,_=>by let(m,hm,q):=yk f (l:=y::l) AP;grind
abbrev Xw(ls:Ac)(z:A0):A0:=ls.S z.j 0
def Uv(ls:Ac)(x:A0):(Ac):=(Wx ls.f).filter λz=>decide (Xw ls z<x)
def Sy(ls:Ac)(x:A0):(Ac):=(Wx ls.f).filter λz=>decide (Xw ls z<=x)
def WW:z∈Uv ls x↔(0<=z/\z<ls⁻¹)/\Xw ls z<x:=by unfold Uv;rw[Yq,Xy,YY]
def Xg:z∈Sy ls x↔(0<=z/\z<ls⁻¹)/\Xw ls z<=x:=by unfold Sy;rw[Yq,Xy,YY]
def gY(h:y<x)(hz:z∈Uv ls x)(hy:Xw ls z=y):(Uv ls y).f<(Uv ls x).f:=by
 let hn:∀x,(Uv ls x).Nodup:=λx=>(Mo<|lE _).filter _;let Po:z∉Uv ls y:=λc=>by have:=(WW.Y c).2;ext
 show Hz (l:=z::Uv ls y) (Rp.X {Po,hn y}) λw hw=>by
  rcases Yu.Y hw with r|r
  .ext
  .let q:=WW.Y r;show WW.X ⟨q.1,J⟩
def mA(N:A5)(ps:Aa)(ls:Ac)(x:A0):(Ac):=Xj N (XO ps<|Uv ls x)
def mB(N:A5)(ps:Aa)(ls:Ac)(x:A0):(Ac):=Xj N (XO ps<|Sy ls x)
def WR(N:A5)(ps:Aa)(ls:Ac)(x:A0)(i:A5):(A0):=if mk (mA N ps ls x) i=mk (mB N ps ls x) i then 0 else mk (mA N ps ls x) i
def VO(N:A5)(ps:Aa)(ls:Ac):(Aa):=(List.range ps.f).Q λi=>(WR N ps ls (ls.S i 0) (ps.S i (0,0)).1.j,WR N ps ls (ls.S i 0) (ps.S i (0,0)).2.j)
def rM(N:A5)(ps:Aa)(ls:Ac):(VO N ps ls).f=ps.f:=by unfold VO;grind
def Hb(h0:0<=z)(h1:z<ps⁻¹):ZK (VO N ps ls) z=((WR N ps ls (Xw ls z) (ZK ps z).1).j,(WR N ps ls (Xw ls z) (ZK ps z).2).j):=by
 let e:(VO N ps ls).S z.j (0,0)=(WR N ps ls (Xw ls z) (ZK ps z).1,WR N ps ls (Xw ls z) (ZK ps z).2):=by unfold VO;rw[Wj,Yo,qb (by ext)];rfl
 unfold ZK at *;rw[e]
section
variable{n:A0}{ps:Aa}{ls T:Ac}(g:Zz n ps)(hl:ls.f=ps.f)
include g hl
def yj(x:A0):InN n.j (XO ps (Uv ls x)):=ZY g λz hz=>by have:=(WW.Y hz).1;ext
def yi(x:A0):InN n.j (XO ps (Sy ls x)):=ZY g λz hz=>by have:=(Xg.Y hz).1;ext
def LU(x:A0)(hi:i<n.j):0<=mk (mA n.j ps ls x) i/\mk (mA n.j ps ls x) i<=(i:A0)/\mk (mA n.j ps ls x) (mk (mA n.j ps ls x) i).j=mk (mA n.j ps ls x) i:=ym _ (yj g hl x) i hi
def Oa(x:A0)(hi:i<n.j):0<=mk (mB n.j ps ls x) i/\mk (mB n.j ps ls x) i<=(i:A0)/\mk (mB n.j ps ls x) (mk (mB n.j ps ls x) i).j=mk (mB n.j ps ls x) i:=ym _ (yi g hl x) i hi
def LS(x:A0)(hi:i<n.j):Conn (XO ps (Uv ls x)) i (mk (mA n.j ps ls x) i).j:=Hc (yj g hl x) hi
def Ha(x:A0)(hi:i<n.j):Conn (XO ps (Sy ls x)) i (mk (mB n.j ps ls x) i).j:=Hc (yi g hl x) hi
def gX(x:A0)(hi:i<n.j)(hj:j<n.j):mk (mA n.j ps ls x) i=mk (mA n.j ps ls x) j↔Conn (XO ps (Uv ls x)) i j:=EF (yj g hl x) hi hj
def RB(x:A0)(hi:i<n.j)(hj:j<n.j):mk (mB n.j ps ls x) i=mk (mB n.j ps ls x) j↔Conn (XO ps (Sy ls x)) i j:=EF (yi g hl x) hi hj
def gW(x:A0){i j:A5}(hi:i<n.j)(hj:j<n.j)(c:Conn (XO ps (Uv ls x)) i j):mk (mA n.j ps ls x) i<=(j:A0):=g6 (yj g hl x) hi hj c
def GZ(x:A0){i j:A5}(hi:i<n.j)(hj:j<n.j)(c:Conn (XO ps (Sy ls x)) i j):mk (mB n.j ps ls x) i<=(j:A0):=g6 (yi g hl x) hi hj c
def GY(x:A0){i j:A5}(c:Conn (XO ps (Uv ls x)) i j):Conn (XO ps (Sy ls x)) i j:=c.mono (ZG λz hz=>by have:=WW.Y hz;show Xg.X ⟨this.1,J⟩)
def gV(h:y<x){i j:A5}(c:Conn (XO ps (Sy ls y)) i j):Conn (XO ps (Uv ls x)) i j:=c.mono (ZG λz hz=>by have:=Xg.Y hz;show WW.X ⟨this.1,J⟩)
def ZQ9(hv:v<n.j)(a1:mk (mA n.j ps ls x) v=v)(b1:mk (mB n.j ps ls x) v≠v)(a2:mk (mA n.j ps ls y) v=v)(b2:mk (mB n.j ps ls y) v≠v):x=y:=by
 let key:∀x y:A0,y<x->mk (mA n.j ps ls x) v=v->mk (mB n.j ps ls y) v≠v->False:=λx y h a b=>by
  let(o1,o2,_):=Oa g hl y hv
  have:=gW g hl x hv J (gV g hl h<|Ha g hl y hv)
  lia
 rcases uN x y with c|c|c
 .show(key y x c a2 b1).elim
 .show c
 .show(key x y c a1 b2).elim
def rL(hi:i<n.j):0<=WR n.j ps ls x i/\WR n.j ps ls x i<n/\(WR n.j ps ls x i≠0->WR n.j ps ls x i=mk (mA n.j ps ls x) i/\mk (mA n.j ps ls x) (WR n.j ps ls x i).j=WR n.j ps ls x i/\mk (mB n.j ps ls x) (WR n.j ps ls x i).j≠WR n.j ps ls x i):=by
 let(o1,o2,o3):=LU g hl x hi;unfold WR;cases c:mk (mA n.j ps ls x) i=mk (mB n.j ps ls x) i
 .rw[Yk c];lia
 .rw[Yj c];exists o1,J,λ_=>{Z,o3,λe=>c ?_};rw[<-e];show(RB g hl x J hi).X (GY g hl x<|LS g hl x hi).symm
def JS:Zz n (VO n.j ps ls):=by
 let(g1,g2,g3,g4):=id g;show{g1,g2,by rw[rM];show g3,λp hp=>?_};let(i,hi,rfl):=Yp.Y hp;let he:=SY (z:=(i:A0)) g (by ext) (by ext)
 let h1:=rL g hl (x:=ls.S i 0) he.1;let h2:=rL g hl (x:=ls.S i 0) he.2
 exists h1.1,h1.2.1,h2.1,h2.2.1
def gU(hT:Zj n (VO n.j ps ls) T):∀k x,(Uv ls x).f=k->∀a,a<n.j->Conn (XO ps (T.filter λz=>decide (Xw ls z<=x))) a (mk (mB n.j ps ls x) a).j:=by
 intro k
 induction k using Nat.strongRecOn with
 |ind k ih=>
  intro x hk;let(t1,t2,t3):=id hT;rw[rM]at t1;let tm:∀{y z:A0},z∈T.filter (λz=>decide<|Xw ls z<=y)↔z∈T/\Xw ls z<=y:=by intro y z;rw[Yq,YY]
  let low:∀{i j:A5},Conn (XO ps<|Uv ls x) i j->Conn (XO ps<|T.filter λz=>decide<|Xw ls z<=x) i j:=λc=>c.lift λe he=>by
   let(z,hz,rfl):=Yp.Y he;let q:=WW.Y hz
   let Po:z∈Sy ls (Xw ls z):=Xg.X {q.1,Int.le_refl _};let ee:=SY (z:=z) g q.1.1 (by ext)
   let i1:=ih _ (by rw[<-hk];show gY q.2 hz Z) (Xw ls z) Z _ ee.1;let i2:=ih _ (by rw[<-hk];show gY q.2 hz Z) (Xw ls z) Z _ ee.2
   let e1:mk (mB n.j ps ls<|Xw ls z) (ZK ps z).1=mk (mB n.j ps ls<|Xw ls z) (ZK ps z).2:=(RB g hl _ ee.1 ee.2).X (.edge<|Yp.X ⟨z,Po,Z⟩);rw[e1]at i1;show(i1.l i2.symm).mono (ZG λw hw=>B)
  let atA:∀a,a<n.j->Conn (XO ps<|T.filter λz=>decide<|Xw ls z<=x) a (mk (mA n.j ps ls x) a).j:=λa ha=>low (LS g hl x ha);let bA:∀a,a<n.j->mk (mB n.j ps ls x) (mk (mA n.j ps ls x) a).j=mk (mB n.j ps ls x) a:=λa ha=>by let o:=LU g hl x ha;show(RB g hl x J ha).X (GY g hl x<|LS g hl x ha).symm
  obtain⟨φ,hφ⟩:∃φ:A5->Prop,φ=λw=>w<n.j->mk (mA n.j ps ls x) w=w->mk (mB n.j ps ls x) w≠w->Conn (XO ps<|T.filter λz=>decide<|Xw ls z<=x) w (mk (mB n.j ps ls x) w).j:={_,Z};let yh:φ 0:=by
   rw[hφ];intro h1 _ h3
   have:=Oa g hl x h1
   show absurd J h3
  let other:∀y a,a<n.j->y≠x->φ (WR n.j ps ls y a).j:=λy a ha hy=>by
   let(q0,q1,q2):=rL g hl (x:=y) ha;cases c:WR n.j ps ls y a=0
   .rw[c];show yh
   .let⟨_,q3,q4⟩:=q2 c;rw[hφ];intro h1 h2 h3;show absurd (ZQ9 g hl (v:=(WR n.j ps ls y a).j) pB J (λe=>q4 J) h2 h3) hy
  let own:∀a,a<n.j->(φ (WR n.j ps ls x a).j↔Conn (XO ps<|T.filter λz=>decide<|Xw ls z<=x) a (mk (mB n.j ps ls x) a).j):=λa ha=>by
   cases c:mk (mA n.j ps ls x) a=mk (mB n.j ps ls x) a
   .let e:WR n.j ps ls x a=0:=by unfold WR;rw[Yk c]
    rw[e];grind
   .let e:WR n.j ps ls x a=mk (mA n.j ps ls x) a:=by unfold WR;rw[Yj c]
    let(o1,o2,o3):=LU g hl x ha;let ba:=bA a ha
    rw[e,hφ];change(_->_->_->Conn _ _ _)↔_
    rw[ba];constructor
    .intro h;show(atA a ha).l (h J J λe2=>c<|by rw[e2];lia)
    .intro h _ _ _;show(atA a ha).symm.l h
  let all:∀w,w<n.j->φ w:=λw hw=>by
   show(Zm6 (φ:=φ) (λe he=>?_)<|t3 0 w J hw).Y yh;let(z,hz,rfl):=Yp.Y he;let zb:=t1.all z hz
   let ee:=SY (z:=z) g zb.1 zb.2;change φ (ZK (VO n.j ps ls) z).1↔φ (ZK (VO n.j ps ls) z).2
   rw[Hb zb.1 zb.2];cases c:Xw ls z=x
   .rw[c,own _ ee.1,own _ ee.2];let ce:Conn (XO ps<|T.filter λz=>decide<|Xw ls z<=x) (ZK ps z).1 (ZK ps z).2:=.edge (Yp.X {z,tm.X ⟨hz,B⟩,Z})
    let e1:mk (mB n.j ps ls x) (ZK ps z).1=mk (mB n.j ps ls x) (ZK ps z).2:=(RB g hl _ ee.1 ee.2).X (.edge<|Yp.X {z,Xg.X {{zb.1,by ext},J},Z});rw[e1];exists λh=>ce.symm.l h,λh=>ce.l h
   grind
  grind
end
def rK(n:A0)(ps:Aa)(ls T:Ac):(Prop):=∀x i j,i<n.j->j<n.j->Conn (XO ps<|Sy ls x) i j->Conn (XO ps<|T.filter λz=>decide<|Xw ls z<=x) i j
def yg(n:A0)(ps:Aa)(ls T:Ac):(Prop):=∀o z,exg n ps T o z->Xw ls o<=Xw ls z
def yf(ls:Ac):∃U:A0,∀z:A0,Xw ls z<=U:=by
 let h:∀l:Ac,∃U:A0,∀i:A5,l.S i 0<=U:=by
  intro l
  induction l with
  |nil=>exists 0,λi=>AP
  |cons x l ih=>
   let(U,hU):=ih;exists max x U,λi=>?_;cases i with
   |zero=>show x<=_;lia
   |succ i=>have:=hU i;grind
 let(U,hU):=h ls;exists U,λz=>hU z.j
section
variable{n:A0}{ps:Aa}{ls T:Ac}(g:Zz n ps)(hl:ls.f=ps.f)
include g hl
def gT(hT:Zj n (VO n.j ps ls) T):rK n ps ls T:=λx i j hi hj c=>by
 let h1:=gU g hl hT _ x Z i hi;let h2:=gU g hl hT _ x Z j hj
 rw[(RB g hl x hi hj).X c]at h1;show h1.l h2.symm
def GX(hT:Zj n (VO n.j ps ls) T):Zj n ps T:=by
 let(t1,t2,t3):=id hT;rw[rM]at t1;let(U,hU):=yf ls;let zero:∀a,a<n.j->mk (mB n.j ps ls U) a=0:=λa ha=>by
  let(o1,o2,o3):=Oa g hl U ha;show Yr λno=>?_;obtain⟨v,hv⟩:∃v:A5,v=(mk (mB n.j ps ls U) a).j:={_,Z};let v0:v≠0:=J
  let vn:v<n.j:=J;let st:=Zm6 (φ:=λw=>w≠v) (λe he=>by
   let(z,hz,rfl):=Yp.Y he;let zb:=t1.all z hz
   let ee:=SY (z:=z) g zb.1 zb.2;change(ZK (VO n.j ps ls) z).1≠v↔(ZK (VO n.j ps ls) z).2≠v
   rw[Hb zb.1 zb.2];let key:∀c,c<n.j->(WR n.j ps ls (Xw ls z) c).j≠v:=λc hc e=>by
    let(q0,q1,q2):=rL g hl (x:=Xw ls z) hc;let ov2:=Oa g hl (Xw ls z) vn
    let cb:=Ha g hl (Xw ls z) vn;let cu:Conn (XO ps<|Sy ls U) v (mk (mB n.j ps ls<|Xw ls z) v).j:=cb.mono (ZG λy hy=>by have:=Xg.Y hy;show Xg.X {this.1,hU y})
    have:=GZ g hl U vn J cu
    lia
   exists λ_=>key _ ee.2,λ_=>key _ ee.1) (t3 0 v J vn)
  show(st.Y<|YX v0) rfl
 exists t1,t2,?_;let key:∀a,a<n.j->Conn (XO ps T) a 0:=λa ha=>by let h1:=gU g hl hT _ U Z a ha;rw[zero a ha]at h1;show h1.mono (ZG λz hz=>(Yq.Y hz).1)
 show λi j hi hj=>(key i hi).l (key j hj).symm
def gS(hv:v<n.j):∀k x,(Uv ls x).f=k->mk (mB n.j ps ls x) v≠v->∃y,mk (mA n.j ps ls y) v=v/\mk (mB n.j ps ls y) v≠v:=by
 intro k
 induction k using Nat.strongRecOn with
 |ind k ih=>
  intro x hk hb;cases c:mk (mA n.j ps ls x) v=v
  .exists x,c,hb
  .let ne:Uv ls x≠[]:=λe=>c (by unfold mA;rw[e];show EG hv)
   let(m,hm,q):=yk (Xw ls) ne;let WG:=WW.Y hm
   let e:Sy ls (Xw ls m)=Uv ls x:=by
    unfold Sy Uv;show Jf λz hz=>?_;rw[RW];constructor
    .lia
    .intro h;show q z (WW.X {Xy.Y hz,h})
   show ih _ (by rw[<-hk];show gY WG.2 hm Z) (Xw ls m) Z ?_;let e2:mB n.j ps ls (Xw ls m)=mA n.j ps ls x:=by unfold mB mA;rw[e]
   rwa[e2]
def gR(hT:Zj n ps T)(hv:rK n ps ls T):Zj n (VO n.j ps ls) T:=by
 let(t1,t2,t3):=id hT;let(U,hU):=yf ls;show{by rw[rM];show t1,t2,?_};let tm:∀{y z:A0},z∈T.filter (λz=>decide<|Xw ls z<=y)↔z∈T/\Xw ls z<=y:=by intro y z;rw[Yq,YY]
 let key:∀v,v<n.j->Conn (XO (VO n.j ps ls) T) v 0:=λv Ei=>by
  cases v0:v=0
  .rw[v0];show .refl _
  let bU:mk (mB n.j ps ls U) v≠v:=by
   let cu:Conn (XO ps<|Sy ls U) v 0:=(t3 v 0 Ei J).mono (ZG λy hy=>by have:=t1.all y hy;show Xg.X {{this.1,by ext},hU y})
   have:=GZ g hl U Ei J cu
   lia
  let(y,ya,yb):=gS g hl Ei _ U Z bU;let(b1,b2,b3):=Oa g hl y Ei;obtain⟨u,hu⟩:∃u:A5,u=(mk (mB n.j ps ls y) v).j:={_,Z};let un:u<n.j:=J
  let cvu:Conn (XO ps<|Sy ls y) v u:=by rw[hu];show Ha g hl y Ei
  let cT:=hv y v u Ei un cvu;let mp:=gZ (fs:=XO (VO n.j ps ls) T) (λi=>(WR n.j ps ls y i).j) (λe he=>by
   let(z,hz,rfl):=Yp.Y he;let(zT,zy):=tm.Y hz;let zb:=t1.all z zT
   let ee:=SY (z:=z) g zb.1 zb.2;change Conn _ (WR n.j ps ls y (ZK ps z).1).j (WR n.j ps ls y (ZK ps z).2).j
   cases c:Xw ls z=y
   .let e:=Hb (N:=n.j) (ls:=ls) zb.1 zb.2;rw[c]at e
    have:(ZK (VO n.j ps ls) z)∈XO (VO n.j ps ls) T:=Yp.X ⟨z,zT,Z⟩
    rw[e]at this;show .edge this
   .let z1:z∈Uv ls y:=WW.X {{zb.1,by ext},J};let z2:z∈Sy ls y:=Xg.X {⟨zb.1,J⟩,zy}
    let ea:=(gX g hl y ee.1 ee.2).X (.edge<|Yp.X ⟨z,z1,Z⟩);let eb:=(RB g hl y ee.1 ee.2).X (.edge<|Yp.X ⟨z,z2,Z⟩)
    let e:WR n.j ps ls y (ZK ps z).1=WR n.j ps ls y (ZK ps z).2:=by unfold WR;rw[ea,eb]
    rw[e];show .refl _) cT
  let sv:WR n.j ps ls y v=(v:A0):=by unfold WR;rw[Yj J,ya]
  let su:WR n.j ps ls y u=0:=by
   let(a1,a2,a3):=LU g hl y un;let ca:=LS g hl y un
   have:=GZ g hl y (i:=(mk (mA n.j ps ls y) u).j) (j:=(mk (mA n.j ps ls y) u).j) J B (.refl _)
   let e1:mk (mB n.j ps ls y) (mk (mA n.j ps ls y) u).j=mk (mB n.j ps ls y) u:=(RB g hl y J un).X (GY g hl y ca).symm;unfold WR;rw[Yk J]
  rwa[sv,su]at mp
 show λi j hi hj=>(key i hi).l (key j hj).symm
omit hl in
def gQ(hl:ls.f=ps.f)(hT:Zj n ps T)(hg:yg n ps ls T):rK n ps ls T:=λx i j _ _ c=>c.lift λe he=>by
 let(z,hz,rfl):=Yp.Y he;let(zb,zx):=Xg.Y hz;cases zT:z∈T
 .show .edge (Yp.X {z,Yq.X {zT,YU zx},Z})
 .show(ZP5 g hT zb.1<|by ext).mono (ZG λy hy=>?_);let(yT,yc):=Vp.Y hy
  have:=hg y z {yT,λe=>zT<|e▸yT,yc}
  grind
def gP(hT:Zj n ps T)(hv:rK n ps ls T):yg n ps ls T:=λo z he=>by
 show Yr λno=>?_;let(h1,h2,h3):=he;let(z0,z1):=AR h3;let ee:=SY (z:=z) g z0 z1
 show(Ou g hT z0 z1).Y h3 ?_;show(hv (Xw ls z) _ _ ee.1 ee.2<|.edge<|Yp.X {z,Xg.X {{z0,by ext},Int.le_refl _},Z}).mono (ZG λy hy=>?_);let(yT,yl):=Yq.Y hy;let yl:=YJ yl
 show WZ.X {yT,λe=>no<|by rwa[<-e]}
def gO:Zj n (VO n.j ps ls) T↔Zj n ps T/\yg n ps ls T:=
 {λh=>{GX g hl h,gP g hl (GX g hl h)<|gT g hl h},λh=>gR g hl h.1<|gQ g hl h.1 h.2}
end
def ye(h1:InN n es)(h2:InN n fs)(h:∀i j,Conn es i j↔Conn fs i j):Xj n es=Xj n fs:=by
 let key:∀{es fs:A6 (A5×A5)},InN n es->InN n fs->(∀i j,Conn es i j↔Conn fs i j)->∀i,i<n->mk (Xj n es) i<=mk (Xj n fs) i:=λ{es fs} h1 h2 h i hi=>by
  let(o1,o2,_):=ym fs h2 i hi
  have:=g6 h1 hi J ((h i _).X (Hc h2 hi))
  lia
 show ND λi=>?_;cases c:i<n
 .rw[To (by rwa[Zs]),To (by rwa[Zs])];show YF some (Int.le_antisymm (key h1 h2 h i c)<|key h2 h1 (λi j=>(h i j).symm) i c)
 .rw[Fv (by rw[Zs];ext),Fv (by rw[Zs];ext)]
def lvl(ls:Ac)(x:A0)(i:A5):(Ac):=(Wx i).filter λz=>decide (Xw ls z=x)
def ZT7(ls:Ac)(x:A0)(i:A5):lvl ls x (i+1)=lvl ls x i++(if ls.S i 0=x then [(i:A0)] else []):=by unfold lvl Wx;rw[NC,Yz,Pc];grind
def Vy:z∈lvl ls x i↔(0<=z/\z<(i:A0))/\Xw ls z=x:=by unfold lvl;rw[Yq,Xy,YY]
def yd(ls:Ac)(x:A0)(i:A5):IsSet i (lvl ls x i):=XY.X {λz hz=>(Vy.Y hz).1,(lE i).filter _}
def rJ(N:A5)(ps:Aa)(ls:Ac)(i:A5):(A0×A0):=(WR N ps ls (ls.S i 0) (ps.S i (0,0)).1.j,WR N ps ls (ls.S i 0) (ps.S i (0,0)).2.j)
def Qo(N:A5)(ps:Aa)(ls:Ac)(p:A5->Prop)[DecidablePred p]:(Aa):=(List.range ps.f).Q λi=>if p i then rJ N ps ls i else ps.S i (0,0)
def gN(N:A5)(ps:Aa)(ls:Ac)(p:A5->Prop)[DecidablePred p]:(Qo N ps ls p).f=ps.f:=by unfold Qo;grind
def Zx9{p q:A5->Prop}[DecidablePred p][DecidablePred q](h:∀i,i<ps.f->(p i↔q i)):Qo N ps ls p=Qo N ps ls q:=by
 unfold Qo
 ext
def x9{p:A5->Prop}[DecidablePred p](h:∀i,i<ps.f->¬p i):Qo N ps ls p=ps:=by unfold Qo;show ND λi=>?_;grind
def gM{p:A5->Prop}[DecidablePred p](h:∀i,i<ps.f->p i):Qo N ps ls p=VO N ps ls:=by show YZ λi hi=>?_;rw[Yk (h i<|YR.Y hi)];rfl
def gL{p q:A5->Prop}[DecidablePred p][DecidablePred q](h:∀i,i<ps.f->(q i↔p i\/i=k)):(Qo N ps ls p).set k (rJ N ps ls k)=Qo N ps ls q:=by unfold Qo;show ND λi=>?_;grind
section
variable{n:A0}{ps:Aa}{ls Ls S:Ac}{j:A5}{x:A0}(g:Zz n ps)(hl:ls.f=ps.f)(JR:Ls.U (·<·))(NZ:∀z,z∈Ls↔z∈ls)(hx:Ls[j]?=⇑x)
include JR hx
def x8{y:A0}(hy:y∈Ls):y∈Ls.R j↔y<x:=by
 let(hj,e):=Xr.Y hx;constructor
 .intro h;let(i,hi,ei):=qh.Y h;rw[Yx]at hi;rw[List.getElem_take]at ei;rw[<-ei,<-e];show YQ.Y JR i j B hj J
 .intro h;let(i,hi,ei):=qh.Y hy
  have:i<j:=Yr λno=>by
   rcases Nat.lt_or_eq_of_le (OU no) with c|c
   .have:=YQ.Y JR j i hj hi c
    lia
   ext
  show qh.X {i,B,by ext}
include g hl NZ
def gK(hS:∀z,z∈S↔(0<=z/\z<ps⁻¹)/\Xw ls z∈Ls.R j):Xj n.j (XO ps S)=mA n.j ps ls x:=by
 show ye (ZY g λz hz=>((hS z).Y hz).1) (yj g hl x) λa b=>Mm λz=>?_;rw[hS,WW,hl];show Dq λzb=>?_;show x8 JR hx ((NZ _).X ?_)
 ext
def x6(hS:∀z,z∈S↔(0<=z/\z<ps⁻¹)/\Xw ls z∈Ls.R j):Pp (Xj n.j (XO ps S)) (XO ps (lvl ls x ps.f))=Xj n.j (XO ps (S++lvl ls x ps.f))/\Xj n.j (XO ps (S++lvl ls x ps.f))=mB n.j ps ls x/\∀z,z∈S++lvl ls x ps.f↔(0<=z/\z<ps⁻¹)/\Xw ls z∈Ls.R (j+1):=by
 let m1:∀z,z∈S++lvl ls x ps.f↔(0<=z/\z<ps⁻¹)/\Xw ls z∈Ls.R (j+1):=λz=>by rw[Xi,hS,Vy,Yw,hx];grind
 exists ?_,?_,m1
 .unfold Pp Xj XO;grind
 .show ye (ZY g λz hz=>((m1 z).Y hz).1) (yi g hl x) λa b=>Mm λz=>?_;rw[Xi,hS,Vy,Xg,hl];let t:(0<=z/\z<ps⁻¹)->(Xw ls z∈Ls.R j↔Xw ls z<x):=λzb=>x8 JR hx ((NZ _).X (by
   ext))
  constructor
  .rintro(⟨a,b⟩|⟨a,b⟩)
   .exists a,Int.le_of_lt<|(t a).Y b
   .exists a,Int.le_of_eq b
  .rintro⟨a,b⟩;rcases Int.lt_or_eq_of_le b with c|c
   .show .inl {a,(t a).X c}
   .show .inr ⟨a,c⟩
end
def XQ(ls T:Ac):(A0):=(T.Q<|Xw ls).sum
def ZI5(h:a.Perm b):XQ ls a=XQ ls b:=by
 unfold XQ
 induction h with
 |nil=>rfl
 |cons x _ ih=>ext
 |swap x y l=>rw[QQ,QQ,QQ,QQ,MX,MX,MX,MX];lia
 |trans _ _ i1 i2=>show i1.l i2
def xZ:∀{T:Ac},T.Nodup->o∈T->XQ ls (wo T o)+Xw ls o=XQ ls T
 |[],_,h=>by cases h
 |x::T,hn,h=>by
  let(n1,n2):=Rp.Y hn;unfold wo;cases c:x=o
  .rw[Y3L J];let e:T.filter (λy=>decide<|y≠o)=T:=MP.X λy hy=>YU λe=>n1 J
   rw[e,<-c];change XQ ls T+Xw ls x=Xw ls x+XQ ls T
   lia
  .rw[Y3K J]
   have:=xZ (ls:=ls) n2 ((Yu.Y h).resolve_left λe=>c e.symm)
   change Xw ls x+XQ ls (wo T o)+Xw ls o=Xw ls x+XQ ls T;lia
def gJ(hn:T.Nodup)(ho:o∈T)(hp:M.Perm (wo T o++[z])):XQ ls M=XQ ls T-Xw ls o+Xw ls z:=by
 rw[ZI5 hp]
 have:=xZ (ls:=ls) hn ho
 let e:XQ ls (wo T o++[z])=XQ ls (wo T o)+Xw ls z:=by unfold XQ;rw[Yz,uP];show Za9 _ _
 grind
section
variable{n:A0}{ps:Aa}{ls T:Ac}(g:Zz n ps)
include g
def Zg7(hT:Zj n ps T)(hW:Zj n ps W)(h:∀z∈T,z∈W):T.Perm W:=by
 have:=iS (l:=W) hT.1.nodup (by have:=hT.2.1;have:=hW.2.1;lia) h
 show this.symm
def gI(hT:Zj n ps T)(hg:yg n ps ls T):∀k W,Zj n ps W->(T.filter λz=>decide (z∉W)).f=k->XQ ls T<=XQ ls W:=by
 intro k
 induction k using Nat.strongRecOn with
 |ind k ih=>
  intro W hW hk;cases c:∀z∈T,z∈W
  .rw[ZI5 (Zg7 g hT hW c)]
   ext
  .obtain⟨z,hz⟩:∃z,z∈T/\z∉W:=Yr λno=>c λz hz=>Yr λhn=>no ⟨z,hz,hn⟩;let(y,h1,h2):=Zl4 g hT hW hz.1 hz.2;let lz:=hg z y h1
   let(M,Nj,Eh):=kD (wo W y++[z]);let tM:=lN g hW h2 Nj Eh
   let sM:=gJ (ls:=ls) hW.1.nodup h2.1 Nj;let yT:y∉T:=((sO g hT).Y h1).2.1
   let less:(T.filter λx=>decide<|x∉M).f<k:=by
    rw[<-hk];show Hz (l:=z::T.filter λx=>decide<|x∉M) ?_ λx hx=>?_
    .show Rp.X {λh=>?_,hT.1.nodup.filter _};grind
    .rcases Yu.Y hx with e|e
     .ext
     .let⟨e1,e2⟩:=Yq.Y e;let e2:=YJ e2
      show Yq.X {e1,YU λh=>e2<|Nj.mem_iff.X<|Yy _<|WZ.X {h,λq=>yT<|q▸e1}}
   have:=ih _ less M tM rfl
   lia
def gH(hT:Zj n ps T)(h:∀W,Zj n ps W->XQ ls T<=XQ ls W):yg n ps ls T:=λo z he=>by
 let(M,Nj,Eh):=kD (wo T o++[z]);let tM:=lN g hT he Nj Eh
 let sM:=gJ (ls:=ls) hT.1.nodup he.1 Nj;grind
def QX(hl:ls.f=ps.f):Zj n (VO n.j ps ls) T↔Zj n ps T/\∀W,Zj n ps W->XQ ls T<=XQ ls W:=by rw[gO g hl];exists λh=>{h.1,λW hW=>gI g h.1 h.2 _ W hW Z},λh=>{h.1,gH g h.1 h.2}
def gG(hl:ls.f=ps.f):(∃W,Zj n ps W)↔∃W,Zj n (VO n.j ps ls) W:=by
 constructor
 .rintro⟨W,hW⟩;let(L,Np,iU):=ig g;let key:∀l:Ab,l≠[]->∃m∈l,∀x∈l,XQ ls m<=XQ ls x:=by
   intro l
   induction l with
   |nil=>lia
   |cons x l ih=>
    intro _;cases c:l=[]
    .ext
    grind
  let(m,hm,q):=key L (λe=>by ext);exists m,(QX g hl).X {(Np m).Y hm,λV hV=>q V<|(Np V).X hV}
 .rintro⟨W,hW⟩;exists W,((QX g hl).Y hW).1
end
def Tf(x y p q:A0):(Prop):=0<q/\Int.gcd p q=1/\p*y=x*q
def gF{a b c:A0}(h:a∣b*c)(g:Int.gcd b a=1):a∣c:=by
 let h1:a.natAbs∣b.natAbs*c.natAbs:=by rw[<-Fg];show Y4e.X h
 let h2:Nat.Coprime a.natAbs b.natAbs:=by unfold Nat.Coprime;rwa[Ff]
 show Y4e.Y (h2.dvd_of_dvd_mul_left h1)
def gE(hy:y≠0)(h:Tf x y p q)(h':Tf x y p' q'):p=p'/\q=q':=by
 let(q0,g,e):=h;let(q0',g',e'):=h';let c:p*q'=p'*q:=by show Y3q hy ?_;rw[WA,Rj q' y,<-WA,e,WA p',Rj q y,<-WA,e',WA,WA,Rj q q']
 let d1:q∣q':=by
  have:q∣p*q':=by rw[c];show Int.dvd_mul_left p' q
  show gF this g
 let d2:q'∣q:=by
  have:q'∣p'*q:=by rw[<-c];show Int.dvd_mul_left p q'
  show gF this g'
 let eq:q=q':=Int.dvd_antisymm J J d1 d2;exists ?_,eq;rw[eq]at c;show Y3q J c
def xY{x y d:A0}(hy:y≠0)(hd:d=if y<0 then -(Int.gcd x y:A0) else (Int.gcd x y:A0)):d≠0/\Tf x y (x.fdiv d) (y.fdiv d):=by
 let gp:0<Int.gcd x y:=Int.gcd_pos_of_ne_zero_right _ hy;let d0:d≠0:=by rw[hd];split<;>ext
 let(u,hu):=Int.gcd_dvd_left (a:=x) (b:=y);let(v,hv):=Int.gcd_dvd_right (a:=x) (b:=y);let cop:Int.gcd u v=1:=by
  let h:=Int.gcd_mul_left (Int.gcd x y:A0) u v;rw[<-hu,<-hv,Int.natAbs_natCast]at h
  have:Int.gcd x y*1=Int.gcd x y*Int.gcd u v:=J
  show(Nat.eq_of_mul_eq_mul_left gp this).symm
 cases c:y<0
 .rw[Yk c]at hd;let ex:x=d*(-u):=by rwa[hd,pS]
  let ey:y=d*(-v):=by rwa[hd,pS]
  let fx:x.fdiv d=-u:=by rw[ex];show OV _ d0
  let fy:y.fdiv d=-v:=by rw[ey];show OV _ d0
  rw[fx,fy];exists d0,?_,by rw[Int.gcd_neg,Int.neg_gcd];show cop,?_
  .have:(Int.gcd x y:A0)*v<0:=B
   have:v<0:=Y3v (a:=(Int.gcd x y:A0)) (by show this) J
   lia
  .let e1:(-u)*y=(-u)*(d*(-v)):=by rw[<-ey]
   let e2:x*(-v)=d*(-u)*(-v):=by rw[<-ex]
   grind
 .rw[Yj c]at hd;let ex:x=d*u:=by rwa[hd]
  let ey:y=d*v:=by rwa[hd]
  let fx:x.fdiv d=u:=by rw[ex];show OV _ d0
  let fy:y.fdiv d=v:=by rw[ey];show OV _ d0
  rw[fx,fy];exists d0,?_,cop,?_
  .have:0<(Int.gcd x y:A0)*v:=J
   show Y3v (a:=(Int.gcd x y:A0)) (by show this) J
  .let e1:u*y=u*(d*v):=by rw[<-ey]
   let e2:x*v=d*u*v:=by rw[<-ex]
   grind
def xX(hW:0<W)(h:Tf x W a b):b<=W/\a.natAbs<=x.natAbs:=by
 let(h1,h2,h3):=h;let d:b∣W:=gF (b:=a) (by ext) h2
 let hb:b<=W:=Int.le_of_dvd hW d;exists hb,?_;let e:a.natAbs*W.natAbs=x.natAbs*b.natAbs:=by rw[<-Fg,h3,Fg]
 let l:x.natAbs*b.natAbs<=x.natAbs*W.natAbs:=Nat.mul_le_mul_left _ B;show Nat.le_of_mul_le_mul_right (by rwa[e]) B
end My
namespace L2
open PySem PySem.Spec PyProof.Rows
section
def Xe(p:IsTup h a us):h.IsTuple a us:=by let(o,e,c,n,d):=p;exists o,e,c,n,d
def gD(hh:A.handled=A8)(it l:A7)(ne:l≠it)(us:B3 B1):
  Draws prog w A it [it,l] us.o (λi v=>us[i]?=⇑v) (λi h=>h.IsTupleIter it l i/\h.IsTuple l us) where
 live:=λ_ _ st=>by let((o,ho,_),_):=st;grind
 frame:=λ_ _ _ st hk=>by let((o,ho,r),o2,Vd,r2):=st;exists {o,hk it AP o ho,r},o2,hk l AP o2 Vd,r2
 item:=λi s Q E hi st q=>yo st.1 st.2 (u:=us[i]) (by simp[hi]) λg t1 sb=>q _ g s.toks (by ext) {t1,st.2.extBut sb.extBut ne} sb
 done:=λs Q E st q=>yn hh st.1 st.2 AP q
variable{prog:Program}{w:World}{A:Around}{E:Ae}{s:B5}
def ZE6{M:Model}{Q:B2->B5->Prop}{b:B2}(h:∀b,Q b s):wpAny M A (pure b) Q E s:=Yg (h b)
set_option maxRecDepth 100000 in
def ZY9(l:A7)(us:B3 B1):
  Meets (Builtin.«enumerate.__new__» {[.type "enumerate",.ref l],[]}) (λ_ R s=>s.C.IsTuple l us/\
   R (.ok<|.ret<|.ref (s.C.push {cls:=.type "tuple_iterator",data:=.fields #[.ref l,.int 0 0]}).objs.o)
    {s with heap:=(s.C.push {cls:=.type "tuple_iterator",data:=.fields #[.ref l,.int 0 0]}).push {cls:=.type "enumerate",data:=.fields #[.none,.bool false,.ref (~~~s),rawInt 0,.none,.none]} }):=
 .of_wp λprog w A R s h=>by
  let(hp,g,d,tk,os):=s;let(hl,h):=h;let q0:=sub_enumerate
  let hL:Heap.IsTuple (Shared.C ⟨hp,g,d,tk,os⟩) l us:=hl
  wp_walk using AutoSeq1.wpAny_loadPart' e1
  show wpAny_stack_any λst=>ZE6 λb=>?_;cases b
  all_goals
   wp_walk using AutoSeq1.wpAny_loadPart' e1,uM hL
   exists _,Z,h
def ZT8{Q:Ae}(ht:s.C.IsTuple l us)
  (q:∀g,IsEnum g ((~~~s)+1) (~~~s) 0 .none->g.IsTupleIter (~~~s) l 0->g.objs.o=(~~~s)+2->(∀b o,s.C.G b=⇑o->g.G b=⇑o)->Q (.ref<|(~~~s)+1) {s with heap:=g}):
  wpAny (model prog w) A (call (.type "enumerate") [.ref l]) Q E s:=by
 show callType_new F.called_enumerate D (F.typeCall_enumerate_1 _) (F.newCall_enumerate_1 _) (λob=>F.args_object_init_2 ob _) F.entry_enumerate_new (ZY9 l us) {ht,?_};obtain⟨G,hG⟩:∃G,G=s.C.push {cls:=.type "tuple_iterator",data:=.fields #[.ref l,.int 0 0]}:={_,Z};let z:G.objs.o=(~~~s)+1:=by rw[hG];show PQ ..
 rw[<-hG,z];let e1:=Qd G (o:={cls:=.type "enumerate",data:=.fields #[.none,.bool false,.ref (~~~s),rawInt 0,.none,.none]}) rfl
 rw[z]at e1;let i1:G.IsTupleIter (~~~s) l 0:=by rw[hG];exists _,Qd _ Z,Z,Z
 let(o1,i2,i3):=i1;exists {_,e1,Z},q _ e1 {o1,Xs _ i2,i3} (by ext) λb o x=>Xs _<|by rw[hG];show Xs _ x
end
def xW(K:Ad)(a:A7):(It):=
 {λi H=>∃xs x,SqT K H a xs/\xs[i]?=⇑x,λi H v H'=>∃T x,H T=A8/\v=.ref T/\H'=upd H T (.tup [.int i,x])/\∀xs,SqT K H a xs->xs[i]?=⇑x,λi H=>∃xs,SqT K H a xs/\xs.f<=i}
def Ze7{P:Program}{w:World}{K:Ad}{elts:A6 B4}{x1:A5}{pos:Pos}(a e it:A7)(XH:e≠it)(hae:a≠e)(hai:a≠it):Turn P w K (.Tuple elts x1 pos) (xW K a) [e,it] e (λi h=>(∃old,IsEnum h e it i old)/\h.IsTupleIter it a i) where
 mem:=AP
 obj:=λi h st b hb=>by let((old,he),o,eo,c,d):=st;grind
 keep:=λi h h' st k=>by let((old,he),o,ho,r):=st;exists {old,k e AP _ he},o,k it AP o ho,r
 item:=by
  intro X hP hw hK hc i pins s σ H E I hf st hg;subst hP hw hK;let(xs,x,hq,hx):=hg;let((old,he),hit):=st;let(XW,rv,p,hz):=I.tuple hq;let(u,hu,ru):=rv.get hx;let(f0,f1,f2,f3,f4,f5):=hf e AP;let(g0,g1,g2,g3,g4,g5):=hf it AP;let Bs:H (~~~s)=A8:=I.hok.fresh (XI _)
  let Xu:i<XW.E.o:=by simpa using (Xr.mp hu).1
  let pT:s.C.IsTuple a XW.E:=Xe p;show wpAny_pyNext_enum_itemD (gD (A:=X.A.in1) (by simpa using I.ok.hd hc) it a hai XW.E) he ⟨hit,pT⟩ Xu XH B λx' h' tk Uj ho XT hT hsz hk=>?_;let ex':x'=u:=by
   let e1:XW.E[i]?=⇑u:=by simpa using hu
   let e2:XW.E[i]?=⇑x':=Uj;rw[e1]at e2;show(Yf e2).symm
  subst ex';let Rg:∀b ob,s.C.G b=⇑ob->b≠(~~~s):=λb ob z=>Yl (Yh z)
  let SI:∀b ob,H b=⇑ob->b≠(~~~s):=λb ob z=>Yl (I.hok.lt z);let I1:Inv X pins σ (upd H (~~~s)<|.tup [.int i,x]) {s with heap:=h',toks:=tk+1}:=by
   show I.step (g':=s.gens) (d':=s.drawn) (ch:=[e,it]) (λb hb=>?_) (λb o _ _ Wz z _=>hk b o (λq=>Wz<|by simp[q]) (λq=>Wz<|by simp[q]) z) (λb o _ _ Wz z _=>{o.slots,hk b o (λq=>Wz<|by simp[q]) (λq=>Wz<|by simp[q]) z})
    (λb o _ z n=>by rwa[Za (Rg b o z)]) (λb o Wz z=>{o,hk b o (λq=>Wz<|by simp[q]) (λq=>Wz<|by simp[q]) z}) (λb ys z=>by rwa[Za (SI b _ z)]) (λb o v z=>by rwa[Za (SI b _ z)])
    (λb ps z=>{#[],by rw[Za (SI b _ z),z];simp}) (λm hm=>?_) (λb v z=>?_) I.bare
   .rcases Yu.Y hb with q|hb
    .rw[q];exists f3,f1,f4,f5
    .let q:b=it:=by simpa using hb
     rw[q];exists g3,g1,g4,g5
   .let⟨o,es,ep,Tb,r⟩:=hm;exists o,es,ep,hk _ o (YX f1) (YX g1) Tb,r
   .cases hb:b=(~~~s)
    .subst hb;rw[XS]at z;cases z;exists by change 2<=sizeLine;decide,[.int i tk,x'],.cons {_,Z}<|.cons ru .nil,{_,hT,Z,_,Z}
    .rw[Za hb]at z;show(I.hok b v z).stay (λc w' VV q=>?_) (λc q=>by rwa[Za (SI c _ q)]) λc ys q=>by rwa[Za (SI c _ q)]
     grind
  exists _,Z,wpAny_letOwnedTupleGo_enum ho λh2 Br UC=>?_;let fT:e≠(~~~s):=Rg e _ he
  let I2:Inv X pins σ (upd H (~~~s)<|.tup [.int i,x]) {s with heap:=h2,toks:=tk+1}:=Inv.turned (s:={s with heap:=h',toks:=tk+1}) (h':=h2) (t':=tk+1) (it:=e) I1 (λb o hb z=>UC.extBut b o hb z) (by rwa[Za fT]) f1 f3 f4 f5;exists .ref (~~~s),_,I2,Z,{_,x,Bs,Z,Z,λys hy=>by rwa[I.tuple_inj hy hq]},{{x',by simpa using Br},XT.1.extBut UC.extBut<|YX XH},λb hb=>?_;rcases Yu.Y hb with q|hb
  .rw[q,Za fT];show f0
  .let q:b=it:=by simpa using hb
   let(o,eo,_):=hit;rwa[q,Za (Rg it o eo)]
 done:=by
  intro X hP hw hK hc i pins s σ H E I hf st hg;subst hP hw hK;let(xs,hq,hx):=hg;let((old,he),hit):=st;let(XW,rv,p,hz):=I.tuple hq;let(g0,g1,g2,g3,g4,g5):=hf it AP;let hl:=rv.f
  let hT:s.TypeIs ↑e "enumerate":={_,he,Z};show XU (Jj<|Ju (name:=Str.H "__next__") hT F.slot_enumerate_next<|OZ F.slot_enumerate_next hT F.entry_enumerate_next ?_<|F.args_enumerate_next_1 _);change wpAny _ _ (field ↑e 2 >>= _) _ _ _
  show XU (CW he Z (x:=.ref it) Z<|XU<|yn (by simpa using I.ok.hd hc) hit (Xe p) (by ext) λh' x he' ⟨o,ho,TM⟩=>XU<|uE (T:="StopIteration") (b:=A9) ⟨o,ho,TM⟩ isSubtype_stop<|Yg ?_);exists Z,I.turned (t':=s.toks) (it:=it) (λb o hb z=>he' b o hb z) g0 g1 g3 g4 g5
 self:=λ_ _ _ _ _ st h=>by let((_,he),_):=st;show OR he h
def xV(kd:B2)(K:Ad)(a:A7):(It):=match kd with
 |false=>Mv K a
 |true=>xW K a
def gC(K:Ad)(ta:TA):(TI):=λσ H R=>ta σ H λvs H1=>∃a kd,vs=[.ref a]/\(∃xs,My.SqK kd K H1 a xs)/\R (xV kd K a) H1
section
variable{X:Cx}
def gB(K:Ad){elts:A6 B4}{x1:A5}{Tw:Pos}{a:B4}{ta:TA}{p pos:Pos}(hg:Gl X "enumerate")(hm:X.mg "enumerate"=A8)(ha:PA X [a] ta)(hs:starEach [a] X.env=[(false,eval a X.env)]:=by rfl)(hk:X.K=K:=by rfl):
  PI X (.Tuple elts x1 Tw) (.Call (.Name "enumerate" p) [a] [] pos) (gC K ta):=by
 subst hk;intro pins s σ H R I h;show Call_ (PL I hg hm Boot.«enumerate»<|Lf (thn (ha pos pins s σ H _ I h) λus s1 XE=>?_) hs Z);let(vs,H1,I1,r1,q1):=XE;let(b,kd,e,(xs,hq),q):=q1;subst e;let(u,rfl,ru):=Ve r1;let rfl:u=Value.ref b:=ru;let nn:∀k,(~~~s1)<=k->H1 k=A8:=λk hk=>I1.hok.fresh hk
 let fin:∀c∈[(~~~s1)+1,(~~~s1)],(~~~s1)<=c:=λc hc=>by grind
 cases kd with
 |false=>
  let(XW,rv,pl,hz):=I1.list hq;show call_enumerate_list pl.isList λh' he hit hsz hk=>?_;let I2:Inv X pins σ H1 {s1 with heap:=h'}:=I1.kept (t':=s1.toks) hk
  show OR he {(~~~s1)+1,[(~~~s1)+1,(~~~s1)],_,_,H1,Z,I2,ZF5 b _ _<|pZ _,⟨⟨_,he⟩,hit⟩,λc hc=>?_,q};show I1.fpOk (fin c hc) (nn c<|fin c hc)
 |true=>
  let(XW,rv,pl,hz):=I1.tuple hq;let pT:s1.C.IsTuple b XW.E:=Xe pl
  let rY:b<(~~~s1):=by let(_,e,_):=pT;show Yh e
  show ZT8 pT λh' he hit hsz hk=>?_;let I2:Inv X pins σ H1 {s1 with heap:=h'}:=I1.kept (t':=s1.toks) hk
  show OR he {(~~~s1)+1,[(~~~s1)+1,(~~~s1)],_,_,H1,Z,I2,Ze7 b _ _ (pZ _) (Yl<|Du rY)<|Yl rY,⟨⟨_,he⟩,hit⟩,λc hc=>?_,q};show I1.fpOk (fin c hc) (nn c<|fin c hc)
end
section
variable{prog:Program}{w:World}{A:Around}{E:Ae}{s:B5}
def Zj9{h0:Heap}{Q:Ae}(hh:A.handled=A8)(SD:h0.G b=⇑(Pl w))(hl:h0.IsTuple l items)(XH:l≠b)(hi:IntsAre items.m ns)(hn:items.o+1<scanBound)
  (k:∀h' tk,SetR prog w h' b (!w.params.followText "set-order") (λz=>(firstMet (λi=>ns.S i 0) items.o).any (· == z)) (firstMet (λi=>ns.S i 0) items.o).f->(∀c o,c≠b->h0.G c=⇑o->h'.G c=⇑o)->Q .none {s with heap:=h',toks:=tk}):
  wpAny (model prog w) A.in1 (Builtin.«set.__init__» {[.ref b,.ref l],[]}) (λfin s'=>match fin with | .done f=>wants Q E (.ok f) s' | .again c'=>c'.quiet=A9/\codeAny (model prog w) A c' (wants Q E) s') (λe s'=>wants Q E (.error e) s') {s with heap:=h0}:=by
 let hT:Shared.TypeIs {s with heap:=h0} ↑b "set":={_,SD,Z};let Pk:=hl
 let((jh,yJ,yI,Hj),OE,TM,nl,En):=hl;simp only at TM En;subst TM En;let q1:=F.sub_tuple_set
 let q2:=F.sub_tuple_frozenset;unfold Builtin.«set.__init__» noKeywords Builtin.Frozenset.updateFrom;generalize jg:pyIter=PI
 wp_walk
 subst jg;show uM Pk ?_;show XU (Dl ?_);let Hi:l<h0.objs.o:=Yh OE
 let rY:b<h0.objs.o:=Yh SD;let bf:b∉[h0.objs.o,l]:=λq=>by grind
 show jk ((Walks.tuple (A:=A.in1.in1) (by simp[hh]) _ l (Yl Hi) items).toS) b bf (led:=!w.params.followText "set-order") (λi=>ns.S i 0) (λi v hv=>ui hi i v B) hn (items.o-0) 0 _ J (XC _)
  {{_,Qd _ Z,Z,Z},Pk.push _} ?_ ?_
 .show ZO5 (Xs _ SD)
 .rintro⟨h',g',d',jf,Cc⟩ m hS;let e1:g'=s.gens:=m.gens
  let e2:d'=s.drawn:=m.drawn;let e3:Cc=s.os:=m.os
  subst e1 e2 e3;show Yg ?_;show Yg (k h' jf hS λc o hc e=>m.C c o (λq=>?_)<|Xs _ e);rcases Yu.Y q with e'|e'
  .lia
  .show Yl (Yh e) (Xn.Y e')
set_option maxRecDepth 100000 in
set_option maxHeartbeats 3000000 in
def gz{Q:Ae}(hh:A.handled=A8)(hl:s.C.IsTuple l items)(hi:IntsAre items.m ns)(hn:items.o+1<scanBound)
  (k:∀h' tk,SetR prog w h' (~~~s) (!w.params.followText "set-order") (λz=>(firstMet (λi=>ns.S i 0) items.o).any (· == z)) (firstMet (λi=>ns.S i 0) items.o).f->(∀c o,s.C.G c=⇑o->h'.G c=⇑o)->Q (.ref (~~~s)) {s with heap:=h',toks:=tk}):
  wpAny (model prog w) A (call (.type "set") [.ref l]) Q E s:=by
 let(c,tl,je):=Sm.mro;let a1:=Sm.made
 let a2:=Sm.sub;let a3:=Sm.notType
 let a4:=Sm.canCreate;let a5:=F.typeCall_set_1 ↑l
 show CT (codeAny_of_tree ?_);change wpAny _ _ (callAny (.type "set") _) _ _ _
 show Yg {Ds _ CC,Sn F.entry_type_call ?_};rw[Around.under_plain (weight_type_call_type "set" [.ref l] []) Z]
 repeat any_goals first|assumption|wp_step
 show Ny (yK ↑l (E:=E) (Q:=λob s1=>ob=.ref (~~~s)/\s1={s with heap:=s.C.push (Pl w)}) ⟨Z,Z⟩) λr s1 hr=>?_
 match r,hr with
 | .error e,hr=>show hr
 | .ok (.ret ob),hr=>
  let(rfl,rfl):=hr;let SD:(s.C.push<|Pl w).G (~~~s)=⇑(Pl w):=Qd _ rfl
  let hT:Shared.TypeIs {s with heap:=s.C.push (Pl w)} (.ref (~~~s)) "set":={_,SD,Z};let a6:=Sm.init.M
  let a7:=Sm.init.bind (.ref (~~~s))
  repeat any_goals first|assumption|wp_step
  let Hi:l<(~~~s):=by let(_,e,_):=hl;show Yh e
  show Ny (codeAny_call_builtin (R:=wants (λr s2=>r=.none/\Q (.ref (~~~s)) s2) E) Sm.init.plain F.entry_set_init<|check_set_init_1 hT<|Zj9 (A:=_) (s:=s) ?_ SD (hl.push _) (Yl Hi) hi hn λh' tk hS kp=>{Z,k h' tk hS λc o e=>kp c o (Yl<|Yh e)<|Xs _ e}) λr2 s2 VS=>?_
  .simp[hh]
  .match r2,VS with
   | .error e,VS=>show VS
   | .ok (.ret v),VS=>
    let(rfl,q):=VS
    repeat any_goals first|assumption|wp_step
def gy{Q:Ae}(hh:A.handled=A8)(hl:s.C.IsList l items\/s.C.IsTuple l items)(hi:IntsAre items.m ns)(hn:items.o+1<scanBound)
  (k:∀h' tk,SetR prog w h' (~~~s) (!w.params.followText "set-order") (λz=>(firstMet (λi=>ns.S i 0) items.o).any (· == z)) (firstMet (λi=>ns.S i 0) items.o).f->(∀c o,s.C.G c=⇑o->h'.G c=⇑o)->Q (.ref (~~~s)) {s with heap:=h',toks:=tk}):
  wpAny (model prog w) A (call (.type "set") [.ref l]) Q E s:=by
 rcases hl with h|h
 .show yH hh h hi hn k
 .show gz hh h hi hn k
end
section
variable{X:Cx}{p p2 pos Tg:Pos}{e:B4}{t:TA}
def ZG6(K:Ad)(t:TA):(TE):=λσ H Q=>t σ H λvs H1=>∃(kd:B2)(a:A7)(ns:Ac),vs=[.ref a]/\My.SqK kd K H1 a (ns.Q V.int)/\ns.f<64/\∀ms:Ac,ms.U (·<·)->(∀z,z∈ms↔z∈ns)->∀l,H1 l=A8->Q ↑l (upd H1 l<|.lst<|ms.Q V.int)
def Zk4(K:Ad)(hc:X.calm=A9)(g1:Gl X "sorted")(m1:X.mg "sorted"=A8)(g2:Gl X "set")(m2:X.mg "set"=A8)(ha:PA X [e] t)(hk:X.K=K:=by rfl)
  (he:starEach [e] X.env=[(false,eval e X.env)]:=by rfl)
  (Br:starEach [.Call (.Name "set" p2) [e] [] Tg] X.env=[(false,eval (.Call (.Name "set" p2) [e] [] Tg) X.env)]:=by rfl):
  PE X (.Call (.Name "sorted" p) [.Call (.Name "set" p2) [e] [] Tg] [] pos) (ZG6 K t):=by
 subst hk;intro pins s σ H Q I h;show Nb (PL I g1 m1 Boot.«sorted» ?_);show qw ?_ pq rfl;show pQ ?_;show Nb (PL I g2 m2 Boot.«set» ?_);show Lf (thn (ha Tg pins s σ H _ I h) λus s1 zz=>?_) (by rw[he];rfl) rfl;let(vs,H1,I1,r1,q1):=zz;let(kd,a,ns,rfl,hq,hn,q):=q1;let(u,rfl,ru):=Ve r1;let rfl:u=Value.ref a:=ru;obtain⟨XW,rv,pl,hz⟩:∃XW:Ag,Vals (ns.Q V.int) XW/\(s1.C.IsList a XW.E\/s1.C.IsTuple a XW.E)/\(ns.Q V.int).f<=sizeLine:=by
  cases kd with
  |false=>
   let(XW,rv,pl,hz):=I1.list hq;exists XW,rv,.inl pl.isList,hz
  |true=>
   let(XW,rv,pl,hz):=I1.tuple hq;exists XW,rv,.inr<|Xe pl,hz
 let hi:=ZF rv;let el:XW.E.o=ns.f:=by rw[YK,<-rv.f,Yb]
 let sb:scanBound=4096:=rfl;show gy (I.ok.hd hc) pl (ns:=ns) pB J λh2 tk hS kp=>?_;show pN ?_;let fl:=firstMet_length_le (λi=>ns.S i 0) XW.E.o
 show Ze4 (led:=A9) (s:={s1 with heap:=h2,toks:=tk}) (I.ok.hd hc) hS J λms out r h3 iP d c hI hs hl Xh Sg hr iO=>?_;let em:∀z,z∈ms↔z∈ns:=λz=>by
  rw[Xh,firstMet_any,el];let e1:(List.range ns.f).Q (λi=>ns.S i 0)=ns:=by
   show ND λi=>?_;rw[Yo];cases c:i<ns.f
   .ext
   .ext
  rw[e1];simp
 let QZ:ms.Nodup:=(iS (El _ _) hl λx hx=>(Xh x).X (Fo.X ⟨x,hx,AP⟩)).nodup_iff.X (El _ _);let Xu:(~~~s1)<=h2.objs.o:=by let(_,_,_,_,e,_):=hS;show NA (Yh e)
 let Oc:(~~~s1)<=r:=Ym Xu Sg;let I2:=(I1.laid (o:=.lst<|ms.Q V.int) (h':=h3) (t':=iP) (λb o e=>iO b o<|kp b o e) Oc ⟨B,out,c,AX hI,hr⟩).drew d
 exists .ref r,_,I2,Z,q ms (My.VT hs QZ) em r<|I1.hok.fresh Oc
end
end L2
namespace My
open PySem L2
section
variable{K:Ad}{kd:B2}{a:A7}{xs:A6 V}{g:TG}{tt:TT}{te:TE}{o:A5}{fr:A6 A5}{σ:St}{H:Hp}{Q:VK}
def gx(Pv:A5->A6 V->Hp->Prop)(h0:Pv 0 [] H)(hz:xs.f<sizeLine)(hl:∀i ys H,i<=xs.f->Pv i ys H->SqK kd K H a xs/\ys.f<=i)
  (hs:∀(i:A5) x ys H (p:A7),H p=A8->xs[i]?=⇑x->Pv i ys H->Ku Pv g tt te o fr σ i ↑p ys (upd H p<|.tup [.int i,x]))(hd:∀ys H,Pv xs.f ys H->∀p,H p=A8->Q ↑p (upd H p<|.lst ys)):Nt (xV kd K a) g tt te o fr σ H Q:=by
 cases kd with
 |false=>show HR Pv h0 hz hl hs hd
 |true=>
  exists λi m ys H=>m=xs.f-i/\i<=xs.f/\Pv i ys H,{xs.f,AP,XC _,h0},?_;intro i m ys H Ω;let⟨rfl,hi,p⟩:=Ω;let(q,hy):=hl i ys H hi p;cases Xu:i<xs.f
  .show .inr {{xs,xs[i],q,by simp[Xu]},J,λx H' zz=>?_};let(T,y,hT,ex,eH,lP):=zz;subst ex eH;show hs i y ys H T hT (lP xs q) p (λj ys H=>∃m',m'<xs.f-i/\m'=xs.f-j/\j<=xs.f/\Pv j ys H) λys H p'=>{xs.f-(i+1),B,Z,Xu,p'}
  .let e:i=xs.f:=J;subst e;show .inl {{xs,q,XI _},J,hd ys H p}
end
end My
namespace HT
open PySem PyProof.Rows
section
open PySem.SeqAt
open PySem.AutoSeq1 (wpAny_loadPart')
open PySem.MeetsSeq PySem.MeetsSeq2 PySem.MeetsSeq3
def Zf7(l b:A7)(xs ys:B3 B1)(n n2:A5)(dd Pz:Option A7)(sl Py:B3 (Option B1))(d:A5)(r:B2)(Eg:d<=min xs.o ys.o):
  Meets (Builtin.«tuple.__lt__» {[.ref l,.ref b],[]})
   (λA R s=>s.C.G l=⇑{cls:=.type "tuple",dict:=dd,data:=.seq xs n,slots:=sl}/\s.C.G b=⇑{cls:=.type "tuple",dict:=Pz,data:=.seq ys n2,slots:=Py}/\
    (∀j (h1:j<xs.o) (h2:j<ys.o),j<=d->EqAt A.in1 s xs[j] ys[j] (decide<|j≠d))/\
    (∀(h1:d<xs.o)(h2:d<ys.o)(prog:Program)(w:World)(E:Ae)(Q:Ae),Q (.bool r) s->wpAny (model prog w) A.in1 (richCompare .Lt xs[d] ys[d]) Q E s)/\
    (d=min xs.o ys.o->r=decide (xs.o<ys.o))/\R (.ok<|.ret<|.bool r) s):=
 .of_wp λprog w A R s h=>by
  let(hp,g,d1,tk,os):=s;let(hl,hb,he,Xu,LR,h):=h;let f2:=AutoSeq1.sub_tuple_tuple
  let hZ:(xs.m.zip ys.m).f=min xs.o ys.o:=AP
  wp_walk using Lc hl,Lc hb,wpAny_forIn_list _ (λrest b s'=>b.1=none/\s'=⟨hp,g,d1,tk,os⟩/\∃i,i<=d/\rest=(xs.toList.zip ys.toList).drop i) _
  case turn=>
   rintro⟨y,x⟩ rest b s' ⟨Uz,rfl,i,rT,hz⟩;let hi:i<(xs.m.zip ys.m).f:=by
    rcases Nat.lt_or_ge i (xs.m.zip ys.m).f with q|q
    .show q
    .rw[List.drop_of_length_le q]at hz;cases hz
   let hm:i<min xs.o ys.o:=hZ▸hi;let h1:i<xs.o:=Ye hm (uJ _ _)
   let h2:i<ys.o:=Ye hm (Nat.min_le_right _ _);rw[DC hi]at hz;injection hz with tO KI
   let hy:y=xs[i]:=by have:=YF Prod.fst tO;simpa using this
   let hx:x=ys[i]:=by have:=YF Prod.snd tO;simpa using this
   subst hy hx;show XU (he i h1 h2 rT prog w _ _ ?_);cases c:i=d
   .subst c;let oe:=Xu h1 h2 prog w
    wp_walk using oe
    ext
   .wp_walk
    grind
  case fin=>
   rintro⟨b1,b2⟩ s' ⟨Uz,rfl,i,rT,hz⟩;subst Uz;let Sg:min xs.o ys.o<=i:=by
    rcases Nat.lt_or_ge i (xs.m.zip ys.m).f with q|q
    .ext
    .show hZ▸q
   rw[LR J]at h
   wp_walk
   exists _,Z,by simpa[Builtin.Tuple.tupleCompareSizes] using h
  case h=>exists Z,Z,0,XC _,Z
end
section
variable{prog:Program}{w:World}{A:Around}{E:Ae}{s:B5}
def gu{d:A5}{r:B2}{Q:Ae}(hl:IsTup s.C l xs)(hb:IsTup s.C b ys)(Eg:d<=min xs.o ys.o)(hu:A.units<cLine)
  (he:∀j (h1:j<xs.o) (h2:j<ys.o),j<=d->SeqAt.EqAt A.in1 s xs[j] ys[j] (decide<|j≠d))
  (Xu:∀(h1:d<xs.o)(h2:d<ys.o)(prog:Program)(w:World)(E:Ae)(Q:Ae),Q (.bool r) s->wpAny (model prog w) A.in1 (richCompare .Lt xs[d] ys[d]) Q E s)
  (LR:d=min xs.o ys.o->r=decide (xs.o<ys.o))(h:Q (.bool r) s):wpAny (model prog w) A (compareOp .Lt ↑l<|.ref b) Q E s:=by
 let((cls,dd,data,sl),ho,hc,n,hd):=id hl;let((IB,Pz,data2,Py),Vd,Vt,n2,hd2):=id hb;subst hc hd Vt hd2;show richCompare_meets_room (op:=.Lt) {_,ho,Z} {_,Vd,Z} CO Y3S (Y3H _ _) (Zf7 l b xs ys n n2 dd Pz sl Py d r Eg)
  {ho,Vd,he,Xu,LR,show Value.bool r≠Value.notImplemented/\Q (.bool r) s from{(λx=>nomatch x),h}} hu
def Vn(hl:IsTup s.C l xs)(hb:IsTup s.C b ys)(hi:IntsAre xs.m ns)(hj:IntsAre ys.m ms)(hu:A.units<cLine):SeqAt.EqAt A s ↑l ↑b (decide (ns=ms)):=by
 let z1:xs.o=ns.f:=by rw[<-hi.f];simp
 let z2:ys.o=ms.f:=by rw[<-hj.f];simp
 cases UU:l=b
 .subst UU;let(o1,e1,_,n1,d1):=hl;let(o2,e2,_,n2,d2):=hb;rw[e1]at e2;cases e2;rw[d1]at d2;cases d2;let en:ns=ms:=L2.TQ hi hj
  rw[YU en];show uA _
 .let k:=SeqAt.RcAt.tuples (A:=A) (s:=s) (e:=λj=>ns.S j 0 == ms.S j 0) (L2.Xe hl) (L2.Xe hb) hu λj h1 h2=>by let(t,ea):=ui hi j xs[j] (by simp[h1]);let(u,ec):=ui hj j ys[j] (by simp[h2]);rw[ea,ec];show Fp _ _ _ _
  let e:((List.range<|min xs.o ys.o).all (λj=>ns.S j 0 == ms.S j 0)&&xs.o == ys.o)=decide (ns=ms):=by
   rw[z1,z2,OX,Fn,Wd,YY];constructor
   .rintro⟨q1,q2⟩;show ND λj=>?_;cases c:j<ns.f
    .ext
    ext
   .lia
  rw[e]at k;show uL UU k
def Vv(x y:A0×Ac):(B2):=decide (x.1<y.1)||(decide (x.1=y.1)&&lexLt x.2 y.2)
def LQ{a c:A0}{t u:Tok}{r1 r2:Ag}{Q:Ae}(hl:IsTup s.C l (.int a t::.ref p::r1).E)(hb:IsTup s.C b (.int c u::.ref q::r2).E)
  (hp:IsTup s.C p xs)(hq:IsTup s.C q ys)(hi:IntsAre xs.m ns)(hj:IntsAre ys.m ms)(hr:a=c->ns=ms->r1=[]/\r2=[])(hu:A.units+2<cLine)(h:Q (.bool<|Vv (a,ns) (c,ms)) s):wpAny (model prog w) A (compareOp .Lt ↑l<|.ref b) Q E s:=by
 let u1:A.units<cLine:=J;let u2:A.in1.units<cLine:=by change A.units+1<cLine;lia
 cases c1:a=c
 .subst c1;cases c2:ns=ms
  .let⟨rfl,rfl⟩:=hr Z c2;let e:Vv (a,ns) (a,ms)=B0:=by
    subst c2;change(decide (a<a)||(decide (a=a)&&lexLt ns ns))=B0
    rw[My.Xm];simp
   show gu (d:=2) (r:=Vv (a,ns) (a,ms)) hl hb AP u1 (λj h1 h2 Tn=>?_) (λh1=>absurd h1 AP) (λ_=>by rw[e];simp) h
   match j,h1,h2,Tn with
   |0,_,_,_=>show(show SeqAt.EqAt A.in1 s (.int a t) (.int a u) true from by have:=Fp (A:=A.in1) (s:=s) a t a u;ext)
   |1,_,_,_=>show(show SeqAt.EqAt A.in1 s ↑p ↑q true from by have:=Vn (A:=A.in1) hp hq hi hj u2;ext)
   |j+2,h1,_,_=>show absurd h1 AP
  .let e:Vv (a,ns) (a,ms)=lexLt ns ms:=by
    change(decide (a<a)||(decide (a=a)&&lexLt ns ms))=_
    simp
   rw[e]at h;show gu (d:=1) (r:=lexLt ns ms) hl hb AP u1 (λj h1 h2 Tn=>?_) (λh1 h2 prog w E Q MF=>?_) (λz=>absurd z AP) h
   .match j,h1,h2,Tn with
    |0,_,_,_=>show(show SeqAt.EqAt A.in1 s (.int a t) (.int a u) true from by have:=Fp (A:=A.in1) (s:=s) a t a u;ext)
    |1,_,_,_=>show(show SeqAt.EqAt A.in1 s ↑p ↑q false from by have:=Vn (A:=A.in1) hp hq hi hj u2;ext)
    |j+2,_,_,z=>ext
   .show(show wpAny (model prog w) A.in1 (compareOp .Lt ↑p<|.ref q) Q E s from UK hp hq hi hj u2 MF)
 .let e:Vv (a,ns) (c,ms)=decide (a<c):=by
   change(decide (a<c)||(decide (a=c)&&lexLt ns ms))=_
   simp[c1]
  rw[e]at h;show gu (d:=0) (r:=decide<|a<c) hl hb (XC _) u1 (λj h1 h2 Tn=>?_) (λh1 h2 prog w E Q MF=>?_) (λz=>absurd z AP) h
  .match j,h1,h2,Tn with
   |0,_,_,_=>show(show SeqAt.EqAt A.in1 s (.int a t) (.int c u) false from by have:=Fp (A:=A.in1) (s:=s) a t c u;lia)
   |j+1,_,_,z=>ext
  .show Zw7 A.in1 s a t c u prog w E Q MF
end
def VR(x:A0×Ac):Vv x x=B0:=by
 change(decide (x.1<x.1)||(decide (x.1=x.1)&&lexLt x.2 x.2))=B0
 rw[My.Xm];simp
def We:Vv x y=A9↔x.1<y.1\/(x.1=y.1/\lexLt x.2 y.2=A9):=by unfold Vv;simp
def Vm(h1:Vv x y=A9)(h2:Vv y z=A9):Vv x z=A9:=by
 rw[We]at h1 h2 ⊢;rcases h1 with a|⟨a,b⟩
 .grind
 .rcases h2 with c|⟨c,d⟩
  .ext
  .show .inr {J,My.WL b d}
end HT
namespace My
open PySem L2
def Vh{lt:A5->A5->B2}(hi:∀i,lt i i=B0)(ht:∀i j k,lt i j=A9->lt j k=A9->lt i k=A9):∀j i,i<=j->lt i (argBest lt j)=B0
 |0,i,h=>by
  have:i=0:=J
  subst this;show hi _
 |j+1,i,h=>by let ih:=Vh hi ht j;unfold argBest;grind
end My
namespace L2
open PySem PySem.Spec PyProof.Rows
section
variable{prog:Program}{w:World}{A:Around}{I S:A7}{fp wr:A6 A7}{n:A5}{P:A5->B1->Prop}{St:A5->Heap->Prop}{R:Result->B5->Prop}
def Zw9(W:Walks prog w A.in1 I fp wr n P St)(lt:A5->A5->B2)(C:Heap->Prop)(ck:∀h h',C h->(∀b o,b≠S->b∉wr->h.G b=⇑o->h'.G b=⇑o)->C h')(cc:∀s i j v u E Q,C s.C->i≠j->P i v->P j u->Q (.bool (lt i j)) s->wpAny (model prog w) A.in1 (compareOp .Lt v u) Q E s)(LY:S∉fp):∀k j s vb c,n-(j+1)=k->j+1<=n->St (j+1) s.C->P (argBest lt j) vb->C s.C->
  s.C.G S=⇑{cls:=.type "list",dict:=A8,data:=.seq #[vb,vb] c,slots:=#[]}->
  (∀v h' tk,P (argBest lt<|n-1) v->(∀b o,b≠S->b∉wr->s.C.G b=⇑o->h'.G b=⇑o)->R (.ok<|.ret v) {s with heap:=h',toks:=tk})->
  codeAny (model prog w) A (.builtin "min.loop" {[.ref I,.none,.ref S],[]}) R s:=by
 let rH:S∉wr:=λh=>LY (W.sub _ h);let nm:(toString "min"++toString ".loop":String)="min.loop":=D
 intro k
 induction k with
 |zero=>
  intro j s vb c hk hj st pb ta hS hR;let ej:j+1=n:=J
  show Sn Jd ?_;show XU (Jm hS Z ?_);show XU (MO<|W.done s _ _ (ej▸st) λh' tk VX=>?_);let SE:=VX S _ rH hS
  show XU (uC SE Z<|XU<|CY<|Yg ?_);show hR vb _ tk (by rwa[<-ej]) λb o b1 b2 e=>(YL _ _<|YX b1).l (VX b o b2 e)
 |succ k ih=>
  intro j s vb c hk hj st pb ta hS hR;let Xu:j+1<n:=pB
  show Sn Jd ?_;show XU (Jm hS Z ?_);show XU (MO<|W.item (j+1) s _ _ Xu st λv h' tk pv XT VX=>?_);let SE:=VX S _ rH hS
  let gr:=ck _ h' ta λb o _ b2 e=>VX b o b2 e;change wpAny _ A.in1 (tryCatch (holding [v,v]<|richCompare .Lt (v) (vb) >>= _) _ >>= _) _ _ _
  show XU (MO<|Ro<|XU<|show wpAny _ _ (compareOp .Lt (v)<|vb) _ _ _ from cc {s with heap:=h',toks:=tk} (j+1) _ v vb _ _ gr (Sa<|Nat.lt_succ_of_le<|My.Rf _ _) pv pb ?_);show XU (Ro<|MY ?_);show XU (CY<|Yg ?_);cases hb:lt (j+1) (argBest lt j) with
  |true=>
   show XU (uC SE Z<|XU<|CY ?_);let up:∀b o,b≠S->h'.G b=⇑o->(h'.update S<|Obj.mapSeq λ_=>#[v,v]).G b=⇑o:=λb o b1 e=>(YL _ _<|YX b1).l e
   show Yg {MW Dn _,ih (j+1) _ (v) _ B Xu (W.frame _ h' _ XT λb JX o e=>up b o (λh=>LY<|h▸JX) e) ?_ (ck _ _ gr λb o b1 _ e=>up b o b1 e) (UP _ SE Z) λv' xU NY xT xS=>?_}
   .unfold argBest;lia
   .show hR v' xU NY xT λb o b1 b2 e=>xS b o b1 b2 (up b o b1<|VX b o b2 e)
  |false=>
   show XU (CY ?_);show Yg {MW Dn _,ih (j+1) _ (vb) c J Xu XT ?_ gr SE λv' xU NY xT xS=>?_}
   .unfold argBest
    ext
   .show hR v' xU NY xT λb o b1 b2 e=>xS b o b1 b2 (VX b o b2 e)
def ZM7(W:Walks prog w A.in1 I fp wr n P St)(lt:A5->A5->B2)(C:Heap->Prop)(ck:∀h h',C h->(∀b o,b≠S->b∉wr->h.G b=⇑o->h'.G b=⇑o)->C h')(cc:∀s i j v u E Q,C s.C->i≠j->P i v->P j u->Q (.bool (lt i j)) s->wpAny (model prog w) A.in1 (compareOp .Lt v u) Q E s)(LY:S∉fp)(hn:0<n){c:A5}(st:St 0 s.C)(ta:C s.C)(hS:s.C.G S=⇑{cls:=.type "list",dict:=A8,data:=.seq #[] c,slots:=#[]})
  (hR:∀v h' tk,P (argBest lt<|n-1) v->(∀b o,b≠S->b∉wr->s.C.G b=⇑o->h'.G b=⇑o)->R (.ok<|.ret v) {s with heap:=h',toks:=tk}):
  codeAny (model prog w) A (.builtin "min.loop" {[.ref I,.none,.ref S],[]}) R s:=by
 let rH:S∉wr:=λh=>LY (W.sub _ h);let nm:(toString "min"++toString ".loop":String)="min.loop":=D
 show Sn Jd ?_;rw[Around.under_plainId Dn _];change wpAny _ A.in1 (seqItems? ↑S >>= _) _ _ s
 show XU (Jm hS Z ?_);change wpAny _ A.in1 (tryCatch (pyNext<|.ref I) _ >>= _) _ _ s
 show XU (MO<|W.item 0 s _ _ hn st λv h' tk pv XT VX=>?_);let SE:=VX S _ rH hS
 change wpAny _ A.in1 (updateSeq S (λ_=>#[v,v]) >>= _) _ _ _;show XU (uC SE Z ?_);let up:∀b o,b≠S->h'.G b=⇑o->(h'.update S<|Obj.mapSeq λ_=>#[v,v]).G b=⇑o:=λb o b1 e=>(YL _ _<|YX b1).l e
 show Yg {MW Dn _,Zw9 W lt C ck cc LY _ 0 _ v _ Z hn (W.frame _ h' _ XT λb JX o e=>up b o (λh=>LY<|h▸JX) e) pv (ck _ _ ta λb o b1 b2 e=>up b o b1<|VX b o b2 e) (UP _ SE Z) λv' xU NY xT xS=>?_};show hR v' xU NY xT λb o b1 b2 e=>xS b o b1 b2 (up b o b1<|VX b o b2 e)
end
section
variable{X:Cx}
def xR(r:Vals (x::xs) us):∃u vs,us=u::vs/\RelV x u/\Vals xs vs:=by
 cases r with
 |cons a b=>exists _,_,Z,a,b
def ZS8(K:Ad)(hc:X.calm=A9)(hu:X.A.units+8<cLine)(hk:X.K=K:=by rfl):VL X (.builtin "min") (λxs H Q=>∃(p:A7)(ys:A6 V)(L:A6 (A0×Ac))(fl:B2),xs=[.ref p]/\SqL K H p ys/\0<ys.f/\ys.f=L.f/\
  (∀(i:A5)(x:A0×Ac),L[i]?=⇑x->∃(a q:A7)(rest:A6 V),ys[i]?=some ↑a/\SqT K H a (.int x.1::.ref q::rest)/\SqT K H q (x.2.Q V.int)/\(fl=A9->rest=[]))/\(fl=B0->L.Nodup)/\
  ∀(i:A5)(a:A7)(x:A0×Ac),L[i]?=⇑x->ys[i]?=some ↑a->(∀m∈L,HT.Vv m x=B0)->Q ↑a H):=by
 subst hk;intro pins s σ H xs us Q I r h;let(p,ys,L,fl,rfl,hq,hn,hl,hT,QZ,q):=h;let(u,rfl,ru):=Ve r;let rfl:u=Value.ref p:=ru;let(XW,rv,pl,hz):=I.list hq;let el:XW.f=ys.f:=rv.f.symm
 let hp:p<(~~~s):=by let(_,_,e,_):=pl;show Yh e
 show call_function_tree F.kind_min F.plain_min F.entry_min (F.args_min1 _) ?_;show XU (Nx (a:=[none,none]) Z ?_);show XU (Yg ?_);show XU (Fl pl.isList ?_);show XU (PR ?_);let W:=Walks.list (prog:=X.prog) (w:=X.w) (A:=X.A.in1) (I.ok.hd hc) (~~~s) p (Yl hp) XW.E
 obtain⟨G,hG⟩:∃G,G=s.C.push {cls:=.type "list_iterator",data:=.fields #[.ref p,.int 0 0]}:={_,Z};let e1:G.G (~~~s)=⇑{cls:=.type "list_iterator",data:=.fields #[.ref p,.int 0 0]}:=by rw[hG];show Qd s.C rfl
 let z1:G.objs.o=(~~~s)+1:=by rw[hG];show PQ ..
 let up:∀b o,s.C.G b=⇑o->G.G b=⇑o:=λb o e=>by rw[hG];show Xs _ e
 let plG:G.IsList p XW.E:=by rw[hG];show pl.isList.push _
 rw[<-hG];let at':∀(i:A5)(v:B1),XW.E[i]?=⇑v->∃(a:A7)(x:A0×Ac)(qa:A7)(rest:A6 V),L[i]?=⇑x/\ys[i]?=some ↑a/\v=.ref a/\SqT X.K H a (.int x.1::.ref qa::rest)/\SqT X.K H qa (x.2.Q V.int)/\(fl=A9->rest=[]):=λi v e=>by
  let e:XW[i]?=⇑v:=by simpa using e
  let hi:i<XW.f:=(Xr.Y e).1;let(a,qa,rest,ea,ta,tq,tf):=hT i L[i] (Xv pB);let(x,ex,rx):=rv.at hi;let ea2:=ea
  rw[ex]at ea2;cases ea2;rw[Xv hi]at e;let e:XW[i]=v:=Yf e
  rw[e]at rx;exists a,L[i],qa,rest,Xv pB,ea,rx,ta,tq,tf
 show Yg {MW Dn _,?_};obtain⟨lt,Xu⟩:∃lt:A5->A5->B2,lt=λi j=>HT.Vv (L.S i (0,[])) (L.S j (0,[])):={_,Z};show ZM7 (A:=X.A) (S:=G.objs.o) W lt (λh=>∀b o,s.C.G b=⇑o->h.G b=⇑o) (λh h' c k b o e=>k b o (by rw[z1];show Yl<|Du<|Yh e) (λz=>absurd (Xn.Y z)<|Yl<|Yh e)<|c b o e) (λs2 i j v u E Q c WH pv pu hQ=>?_) ?_ (by ext) {{_,Xs _ e1,Z,Z},plG.push _} (λb o e=>Xs _<|up b o e) (Qd _ Z) λv h' tk pv VX=>?_
 .let⟨a1,x1,q1,r1,l1,_,rfl,t1,tq1,f1⟩:=at' i v pv;let(a2,x2,q2,r2,l2,_,rfl,t2,tq2,f2):=at' j u pu;let keep:∀{a:A7}{xs:B3 B1},IsTup s.C a xs->IsTup s2.C a xs:=λzz=>by let(o,ho,z):=zz;exists o,c _ o ho,z
  let(i1,v1,p1,_):=I.tuple t1;let(i2,v2,p2,_):=I.tuple t2;let(j1,w1,o1,_):=I.tuple tq1;let(j2,w2,o2,_):=I.tuple tq2;let(c1,xQ,rfl,rc1,v1'):=xR v1;let(c2,xP,rfl,rc2,v2'):=xR v2;let(d1,xQ,rfl,rd1,vv1):=xR v1';let(d2,xP,rfl,rd2,vv2):=xR v2';obtain⟨tk1,rfl⟩:∃t,c1=Value.int x1.1 t:=rc1;obtain⟨tk2,rfl⟩:∃t,c2=Value.int x2.1 t:=rc2;let rfl:d1=Value.ref q1:=rd1;let rfl:d2=Value.ref q2:=rd2;let g1:L.S i (0,[])=x1:=My.XF l1
  let g2:L.S j (0,[])=x2:=My.XF l2;show HT.LQ (keep p1) (keep p2) (keep o1) (keep o2) (by simpa using ZF w1) (by simpa using ZF w2) (λb1 b2=>?_) J (by rw[Xu]at hQ;simpa only[g1,g2] using hQ);let hxx:x1=x2:=Prod.ext b1 b2
  cases Ui:fl with
  |true=>
   let z1:=f1 Ui;let z2:=f2 Ui
   rw[z1]at vv1;rw[z2]at vv2;let a1:=vv1.f
   let a2:=vv2.f;grind
  |false=>
   show absurd (My.Xf (QZ Ui) l1 J) WH
 .grind
 .let⟨a,x,qa,rest,l1,y1,rfl,_⟩:=at' _ v pv;exists .ref a,H,I.kept λb o e=>VX b o ?_ ?_<|Xs _<|up b o e,Z,q _ a x l1 y1 λm hm=>?_
  .rw[z1];show Yl (Du<|Yh e)
  .show λh=>absurd (Xn.Y h) (Yl<|Yh e)
  .let⟨i,hi,ei⟩:=Js hm;let k:=My.Vh (lt:=lt) (λi=>by rw[Xu];show HT.VR _) (λi j k a b=>by rw[Xu]at a b ⊢;show HT.Vm a b) (XW.E.o-1) i B
   ext
end
end L2
namespace My
open PySem L2
section
variable{one d0 d1:A0}{other:Option A0}
def oz(one:A0)(other:Option A0)(d0 d1 y:A0):(A0):=if y=one then d0 else if some y=other then d1 else y
end
end My
namespace L2
open PySem PySem.Spec PyProof.Rows
def TL(l:A6 B8):(A6 V):=l.Q V.str
def xO:∀{l:A6 B8}{us:Ag},Vals (TL l) us->∃k:A6 (B8×Tok),us=strValues k/\k.Q (λx=>x.fst)=l
 |[],_,.nil=>{[],Z,Z}
 |x::l,_,.cons r t=>by let(tk,rfl):=r;let(k,rfl,h):=xO (l:=l) t;exists (x,tk)::k,Z,by ext
section
variable{X:Cx}
def gq(K:Ad):(V->A6 V->Hp->VK->Prop):=λx vs H Q=>∃sep a l,x=.str sep/\vs=[.ref a]/\SqL K H a (TL l)/\JoinOk sep l=A9/\Q (.str<|sep.join l) H
def Ef(K:Ad)(h:X.K=K:=by rfl):Nu X "str.join" (gq K):=by subst h;intro pins s σ H x vs v us Q I rx rv h;let(sep,a,l,rfl,rfl,hq,hj,q):=h;let(tk,rfl):=rx;let(u,rfl,ru):=rv.one;cases ru;let(XW,r,pl,hz):=I.list hq;let(k,rfl,hk):=xO r;show PySem.SC.join pl.isList hk hj λt' n=>{.str _,H,I.tok n,⟨t',Z⟩,?_};rwa[show Txt.join sep l=sep.join l from PySem.StrLaws.glued_eq_join sep l]
def Zx:VL X (.type "str") (λxs H Q=>∃i:A0,xs=[.int i]/\-(10^70)<i/\i<10^70/\Q (.str (Str.H (toString i))) H):=by intro pins s σ H xs us Q I r h;let(i,rfl,h1,h2,q):=h;show Zu5 pins s σ H _ us Q I r {i,Z,Yz9 h1 h2,q}
end
def ZD5:∀l n,Vals (TL l) (strsFrom n l)
 |[],_=>.nil
 |_::l,n=>.cons ⟨n,Z⟩ (ZD5 l<|n+1)
section
variable{X:Cx}
def gn:(V->A6 V->Hp->VK->Prop):=λx vs H Q=>∃z y,x=.str z/\vs=[.str y]/\(y.f == 0)=B0/\z.f<=sizeLine/\(Txt.split z y).f<=sizeLine/\∀p,H p=A8->Q ↑p (upd H p<|.lst<|TL<|Txt.split z y)
def gm:Nu X "str.split" gn:=by
 intro pins s σ H x vs v us Q I rx rv h;let(z,y,rfl,rfl,hy,hz,hl,q):=h;let(t,rfl):=rx;let(u,rfl,ru):=rv.one;let(u',rfl):=ru;let self:Txt.split z y=[z]->EP X pins σ Q (.ref (~~~s)) {s with heap:=s.C.push {cls:=.type "list",data:=.seq #[.str z t]} }:=λe=>by rw[e]at q;exists .ref (~~~s),_,I.laid (t':=s.toks) (o:=.lst<|TL [z]) (λb ob q=>Xs _ q) (XI _) ?_,Z,q _<|I.hok.fresh<|XI _;exists by rw[e]at hl;show hl,[.str z t],0,.cons ⟨t,Z⟩ .nil,Qd _ Z
 cases c1:(decide (z.f<y.f)||decide (Builtin.Str.strKind z<Builtin.Str.strKind y))=A9
 .let e:Txt.split z y=[z]:=by unfold Txt.split;rw[Yk c1]
  show Nw Fz (QJ _ _ _) qm (qq _ _) (meets_str_split_cannot_occur z y t u' c1) (self e)
 .let c1':=Dt.X c1;cases c2:(Builtin.Str.occurrences z y 0 z.f<|z.f+1).isEmpty=A9
  .let e:Txt.split z y=[z]:=by unfold Txt.split;rw[Yj c1,Yk c2]
   show Nw Fz (QJ _ _ _) qm (qq _ _) (meets_str_split_not_found z y t u' c1' hy c2) (self e)
  .let e:Txt.split z y=Builtin.Str.partsBetween z (Builtin.Str.occurrences z y 0 z.f<|z.f+1) y.f:=by unfold Txt.split;rw[Yj c1,Yj c2]
   rw[e]at hl q;show Nw Fz (QJ _ _ _) qm (qq _ _) (meets_str_split_sep z y t u' c1' hy (Dt.X c2) hz hl) ?_;exists .ref (~~~s),_,I.laid (o:=.lst<|TL<|Builtin.Str.partsBetween z (Builtin.Str.occurrences z y 0 z.f<|z.f+1) y.f) (λb ob q=>Xs _ q) (XI _) ?_,Z,q _<|I.hok.fresh<|XI _;exists by unfold TL;ext,_,0,ZD5 _ _,Qd _ Z
def gk:(V->A6 V->Hp->VK->Prop):=λx vs H Q=>∃z y,x=.str z/\vs=[.str y]/\Q (.bl<|Txt.startswith z y) H
def Zu9:Nu X "str.startswith" gk:=by intro pins s σ H x vs v us Q I rx rv h;let(z,y,rfl,rfl,q):=h;let(t,rfl):=rx;let(u,rfl,ru):=rv.one;let(u',rfl):=ru;show PySem.SC.startswith {.bl _,H,I,Z,q}
def xN:VL X (.type "int") (λxs H Q=>∃z n,xs=[.str z]/\intText? z=⇑n/\z.f<=640/\Q (.int n) H):=by intro pins s σ H xs us Q I r h;let(z,n,rfl,hz,hl,q):=h;let(u,rfl,ru):=Ve r;let(t,rfl):=ru;show PySem.W.KIN.call_text hz hl {.int n,H,I.tok _,{_,Z},q}
def gj(z:B8):(It):={λi _=>i<z.cps.o,λi H x H'=>H'=H/\∃c,z.cps[i]?=⇑c/\x=.str {#[c]},λi _=>z.cps.o<=i}
def gh{P:Program}{w:World}{K:Ad}{tg:B4}(z:B8)(t:Tok)(it:A7):Turn P w K tg (gj z) [it] it (λi h=>h.IsStrIter it "str_ascii_iterator" z t i) where
 mem:=AP
 obj:=λi h st b hb=>by
  let e:b=it:=by simpa using hb
  subst e;let(o,e,c,d):=st;exists o,e,λv z=>by ext
 keep:=λi h h' st k=>by let(o,e,c,d):=st;exists o,k it AP o e,c,d
 item:=by
  intro X hP hw hK hc i pins s σ H E I hf st hg;obtain⟨c,VV⟩:∃c,z.cps[i]?=⇑c:={_,Ld hg};let(f0,f1,f2,f3,f4,f5):=hf it AP;show wpAny_pyNext_ascii_item st VV λh' XT sb=>?_;let I1:Inv X pins σ H {s with heap:=h',toks:=s.toks+1}:=I.turned (λb o hb e=>(sb.2 b hb).l e) f0 f1 f3 f4 f5
  let(o,e,c',d):=id XT;exists _,Z,MH (s:={s with heap:=h',toks:=s.toks+1}) e c' d D {.str {#[c]},H,I1,{_,Z},⟨Z,c,VV,Z⟩,XT,λb hb=>(hf b hb).1}
 done:=by intro X hP hw hK hc i pins s σ H E I hf st hg;let(f0,f1,f2,f3,f4,f5):=hf it AP;show wpAny_pyNext_ascii_end (I.ok.hd hc) st (CQ hg) λh' eb=>{Z,I.turned (t':=s.toks) (λb o hb e=>eb b o hb e) f0 f1 f3 f4 f5}
 self:=λ_ _ _ _ _ st h=>wpAny_pyIter_striter_ascii st h
def gf(tl:TE):(TI):=λσ H R=>tl σ H λx H1=>∃z:B8,x=.str z/\(z.cps.all λc=>decide<|c<128)=A9/\R (gj z) H1
def gd{l tg:B4}{tl:TE}(hl:PE X l tl):PI X tg l (gf tl):=by
 intro pins s σ H R I h;show thn (hl pins s σ H _ I h) λv s1 XE=>?_;let(x,H1,I1,r1,q1):=XE;let(z,e,ha,q):=q1;subst e;let(t,rfl):=r1;show wpAny_pyIter_ascii ha ?_;exists (~~~s1),[(~~~s1)],_,_,H1,Z,I1.kept (t':=s1.toks) λb o e=>Xs _ e,gh z t _,{_,Qd _ Z,Z,Z},λb hb=>?_,q;let e:b=(~~~s1):=by simpa using hb
 subst e;show I1.fpOk (XI _) (I1.hok.fresh<|XI _)
def gc:(V->Option A0->Option A0->Hp->VK->Prop):=λx lo hi H Q=>∃z:B8,x=.str z/\(StrLaws.sliceText z lo hi).f<=sizeLine/\Q (.str<|StrLaws.sliceText z lo hi) H
def xM(h:IsPart v o):∃l:Option (A0×Tok),v=partValue l/\l.Q (λx=>x.fst)=o:=by
 cases h with
 |none=>exists none,Z,Z
 |int i t=>exists some (i,t),Z,Z
def f9:tN X gc:=by
 intro pins s σ H x v vl vu lo hi sl Q I rx hs pl pu h;let(z,rfl,hz,q):=h;let(t,rfl):=rx;exists "str",_,slot_str_getitem.M,QJ s z t,?_;let(l,rfl,e1):=xM pl;let(u,rfl,e2):=xM pu;subst e1 e2;show wpAny_getItem_str_slice (l:=l) (u:=u) (st:=A8) hs pq ?_;unfold StrLaws.sliceText at hz q;change Made.post (if (1 == 1&&(Builtin.Str.strSliceIndices (l.Q λx=>x.fst) (u.Q λx=>x.fst) 1 z.f).f == z.f)=A9 then _ else _) _ s
 split at hz
 .rename_i c;rw[Yk c]at q;rw[Yk c];exists .str z,H,I,⟨t,Z⟩,q
 .rename_i c;rw[Yj c]at q;rw[Yj c];exists hz,.str _,H,I.tok _,{_,Z},q
end
end L2
namespace My
open PySem L2
section
variable{g:TG}{tt:TT}{te:TE}{o:A5}{fr:A6 A5}{σ:L2.St}{H:Hp}{Q:VK}
def f7(Pv:A5->A6 V->Hp->Prop)(h0:Pv 0 [] H)(hz:z.cps.o<sizeLine)(hl:∀i ys H,i<=z.cps.o->Pv i ys H->ys.f<=i)
  (hs:∀i c ys H,z.cps[i]?=⇑c->Pv i ys H->Ku Pv g tt te o fr σ i (.str {#[c]}) ys H)(hd:∀ys H,Pv z.cps.o ys H->∀p,H p=A8->Q ↑p (upd H p<|.lst ys)):Nt (gj z) g tt te o fr σ H Q:=by
 exists λi m ys H=>m=z.cps.o-i/\i<=z.cps.o/\Pv i ys H,{z.cps.o,AP,XC _,h0},?_;intro i m ys H Ω;let⟨rfl,hi,p⟩:=Ω;let hy:=hl i ys H hi p
 cases Xu:i<z.cps.o
 .show .inr {Xu,J,λx H' zz=>?_};let(e,c,hc,y):=zz;subst e;subst y;show hs i c ys _ hc p (λj ys H=>∃m',m'<z.cps.o-i/\m'=z.cps.o-j/\j<=z.cps.o/\Pv j ys H) λys H p'=>{z.cps.o-(i+1),B,Z,Xu,p'}
 .let e:i=z.cps.o:=J;subst e;show .inl {XI _,J,hd ys H p}
end
def nT(i:A0):(B8):=Str.H (toString i)
def dg(m:A5):(A6 A5):=(Nat.toDigits 10 m).Q Char.j
def Pj(i:A0):(A6 A5):=if i<0 then 45::dg i.natAbs else dg i.natAbs
def JQ(i:A0):(nT i).cps.m=Pj i:=by
 unfold nT Pj;cases i with
 |ofNat m=>
  show W.KIN.signs_num m
 |negSucc m=>
  rw[Yk (Int.negSucc_lt_zero m)];let e:(Str.H<|toString ((m+1:A5):A0)).cps.m=dg (m+1):=W.KIN.signs_num (m+1)
  rw[Str.ofString_eq_toList]at e ⊢;let e2:(toString<|Int.negSucc m).m='-'::(toString ((m+1:A5):A0)).m:=by change("-"++toString (m+1)).m='-'::(toString<|m+1).m;rw[String.toList_append];rfl
  ext
def dgc{d:A5}(h:d<10):(Nat.digitChar d).j=48+d:=(by decide:∀d<10,(Nat.digitChar d).j=48+d) d h
def Sx(h:m<10):dg m=[48+m]:=by unfold dg;rw[Nat.toDigits_of_lt_base h,uP,dgc h]
def Sw(h:10<=m):dg m=dg (m/10)++[48+m%10]:=by unfold dg;rw[Nat.toDigits_of_base_le D h,Yz,uP,dgc (Dc _ D)]
def Ee(m:A5):NumText.AllDigits (dg m):=by
 induction m using Nat.strongRecOn with
 |ind m ih=>
  intro c hc;cases h:m<10
  .rw[Sx h]at hc;grind
  .rw[Sw (by ext)]at hc;rcases Xi.Y hc with q|q
   .show ih (m/10) J c q
   grind
def LP(m:A5):dg m≠[]:=by
 cases h:m<10
 .rw[Sx h];simp
 .rw[Sw (by ext)];simp
def xK(m:A5):NumText.digitsVal (dg m)=m:=by
 induction m using Nat.strongRecOn with
 |ind m ih=>
  cases h:m<10
  .rw[Sx h];change 0*10+(48+m-48)=m
   ext
  .rw[Sw (by ext),qd,ih (m/10) B];lia
def JP{m k:A5}(hk:1<=k)(h:m<10^k):(dg m).f<=k:=by unfold dg;rw[Yb];show toDigits_len_pow D hk h
def xJ(h:0<m):∃c r,dg m=c::r/\c≠48:=by
 induction m using Nat.strongRecOn with
 |ind m ih=>
  cases c:m<10
  .exists 48+m,[],Sx c,J
  .let⟨a,r,e,ne⟩:=ih (m/10) J (by ext);exists a,r++[48+m%10],by rw[Sw B,e];rfl,ne
def JO(x:B8):x.f=x.cps.m.f:=by
 change x.cps.o=_
 ext
def rG{x y:B8}(h:x.cps.m=y.cps.m):x=y:=Str.ext' (Array.toList_inj.Y h)
def fZ{k:A5}(hk:1<=k)(h1:-(10^k)<i)(h2:i<10^k):(Pj i).f<=k+1:=by
 have:=JP hk (m:=i.natAbs) B
 unfold Pj;grind
def Se{k:A5}(hk:1<=k)(h1:-(10^k)<i)(h2:i<10^k):(nT i).f<=k+1:=by rw[JO,JQ];show fZ hk h1 h2
def xI{k:A5}(hk:1<=k)(h4:k<=4000)(h1:-(10^k)<i)(h2:i<10^k):intText? (nT i)=⇑i:=by
 let hl:=Se hk h1 h2;let e:=JQ i
 unfold Pj at e;split at e
 .rw[intText_neg e (Ee _) (LP _) J,xK];grind
 .rw[intText_digits (by rw[e];show Ee _) (by rw[e];show LP _) B,e,xK];lia
def WM(cs:A6 A5):(A6 A5):=if cs.head?=some 45 then cs.tail else cs
def JN(cs:A6 A5):(B2):=decide (1<=(WM cs).f/\(WM cs).f<=60/\(∀c∈WM cs,48<=c/\c<=57)/\(cs=[48]\/(WM cs).head?≠some 48))
def fY(m:A5):(dg m).head?≠some 45:=λh=>by
 cases e:dg m with
 |nil=>show LP m e
 |cons c r=>
  rw[e]at h
  have:=Ee m c (by ext)
  ext
def fX(i:A0):WM (Pj i)=dg i.natAbs:=by
 unfold WM Pj;split
 .rfl
 .rw[Yj (fY _)]
def xH(h1:-(10^60)<i)(h2:i<10^60):JN (Pj i)=A9:=by
 show YU ?_;rw[fX];exists Dx.X<|LP _,JP (k:=60) D J,Ee _,?_;cases c:i=0
 .subst c;show .inl rfl
 .let⟨a,r,e,ne⟩:=xJ (m:=i.natAbs) (by ext)
  ext
def jn(c:A5):(A6 (A6 A5)->A6 A5)
 |[]=>[]
 |[a]=>a
 |a::b::l=>a++c::jn c (b::l)
def xG(c:A5):∀l:A6 B8,(Str.join {#[c]} l).cps.m=jn c (l.Q λx=>x.cps.m)
 |[]=>rfl
 |[a]=>rfl
 |a::b::l=>by
  let ih:=xG c (b::l);change((a++{#[c]}++Str.join {#[c]} (b::l)):B8).cps.m=a.cps.m++c::jn c ((b::l).Q λx=>x.cps.m)
  rw[<-ih,Str.cps_append,Str.cps_append,Yt,Yt,QP];rfl
def ZD4{c:A5}:∀{a b x y:A6 A5},c∉a->c∉b->a++c::x=b++c::y->a=b/\x=y
 |[],[],_,_,_,_,e=>{Z,(Jk e).2}
 |[],b::bs,_,_,_,hb,e=>absurd (Yi) ((Jk e).1▸hb)
 |a::as,[],_,_,ha,_,e=>absurd (Yi) ((Jk e).1▸ha)
 |a::as,b::bs,x,y,ha,hb,e=>by
  let(e1,e2):=Jk e;let(h1,h2):=ZD4 (a:=as) (b:=bs) (λh=>ha<|Yn _ h) (λh=>hb<|Yn _ h) e2
  ext
def xF:∀{A o8:A6 (A6 A5)},A≠[]->o8≠[]->(∀a∈A,c∉a)->(∀b∈o8,c∉b)->jn c A=jn c o8->A=o8
 |[],_,h,_,_,_,_=>absurd Z h
 |_,[],_,h,_,_,_=>absurd Z h
 |[a],[b],_,_,_,_,e=>by let e:a=b:=e;rw[e]
 |[a],b::b'::o8,_,_,ha,_,e=>by
  let e:a=b++c::jn c (b'::o8):=e
  ext
 |a::a'::A,[b],_,_,_,hb,e=>by let e:a++c::jn c (a'::A)=b:=e;show absurd B (hb b Yi)
 |a::a'::A,b::b'::o8,_,_,ha,hb,e=>by let(e1,e2):=ZD4 (ha a Yi) (hb b Yi) (show a++c::jn c (a'::A)=b++c::jn c (b'::o8) from e);rw[e1,xF (A:=a'::A) (o8:=b'::o8) AP AP (λx hx=>ha x<|Yn _ hx) (λx hx=>hb x<|Yn _ hx) e2]
def fW(x y:B8):Txt.split x y≠[]:=by
 unfold Txt.split;split
 .simp
 .split
  .simp
  .rw[StrLaws.partsBetween_eq];let(p,r,e):=StrLaws.partsFrom_ne x y.f 0 (Builtin.Str.occurrences x y 0 x.f<|x.f+1)
   ext
def fV{c:A5}{l:A6 B8}(hl:l≠[])(hf:∀p∈l,c∉p.cps.m):Txt.split (Str.join {#[c]} l) {#[c]}=l:=by
 let e:=StrLaws.join_split (Str.join {#[c]} l) {#[c]};let e2:=YF (λx:B8=>x.cps.m) e
 rw[xG,xG]at e2;let m:=xF (by simpa using fW _ _) (by ext) (λa ha=>by
  let(p,hp,rfl):=Yp.Y ha;show StrLaws.split_free _ c p hp) (λa ha=>by
  grind) e2
 show(p7 λx y h=>rG h).Y m
def Qn{mg:Af}{z:B8}{v:B1}(X:K.In h)(G:h.Ns mainGlobals mg)(a:PySem.W.nsIn K mainGlobals x=⇑(⇑v))(e:∃tk,v=.str z tk):∃tk,mg x=⇑(.str z tk):=by let(tk,rfl):=e;exists tk,Jl X G a
def TK:(B8):=Str.H " "
def Ec:(B8):=Str.H "\n"
def UZ(p:A0×A0)(l:A0):(B8):=Str.join TK [Str.H "tie",nT p.1,nT p.2,nT l]
def Wk(n:A0)(ps:Aa)(ls:Ac):(A6 B8):=(Str.H "places "++nT n)::List.zipWith UZ ps ls
def RA(n:A0)(ps:Aa)(ls:Ac):(B8):=Str.join Ec (Wk n ps ls)
def ZV8:TK={#[32]}:=by rfl
def fU:Ec={#[10]}:=by rfl
def Zn9(n:A0):Str.H "places "++nT n=Str.join TK [Str.H "places",nT n]:=by rfl
def ZL5{c:A5}(h:c∈Pj i):c=45\/48<=c/\c<=57:=by
 unfold Pj at h;split at h
 .rcases Yu.Y h with e|e
  .show .inl e
  .show .inr (Ee _ c e)
 .show .inr (Ee _ c h)
def xE{c:A5}(h1:c≠45)(h2:c<48\/57<c):c∉(nT i).cps.m:=λh=>by rw[JQ]at h;rcases ZL5 h with e|e<;>lia
def xD(i:A0):((nT i).cps.all λc=>decide (c<128))=A9:=by rw[<-Array.all_toList,JQ,Wd];intro c hc;show YU ?_;rcases ZL5 hc with e|e<;>lia
def xC{c x:A5}:∀{A:A6 (A6 A5)},x∈jn c A->x=c\/∃a∈A,x∈a
 |[],h=>by cases h
 |[a],h=>.inr ⟨a,Yi,h⟩
 |a::b::A,h=>by
  rcases Xi.Y h with h|h
  .ext
  .rcases Yu.Y h with h|h
   .show .inl h
   .rcases xC h with e|⟨y,hy,hx⟩
    .show .inl e
    grind
def xB{c o8:A5}:∀{A:A6 (A6 A5)},(∀a∈A,a.f<=o8)->(jn c A).f<=A.f*(o8+1)
 |[],_=>XC _
 |[a],h=>by
  have:=h a Yi
  change a.f<=1*(o8+1);lia
 |a::b::A,h=>by
  let h1:=h a Yi;let ih:=xB (c:=c) (A:=b::A) λx hx=>h x (Yn _ hx)
  change(a++c::jn c (b::A)).f<=_;rw[Ya,YM,YM,Nat.add_mul];lia
def NX{c o8:A5}{l:A6 B8}(h:∀a∈l,a.f<=o8):(Str.join {#[c]} l).f<=l.f*(o8+1):=by rw[JO,xG];show Ym (xB (o8:=o8) λa ha=>?_) (by ext);let(p,hp,rfl):=Yp.Y ha;show h p hp
def Eb{c o8:A5}{l:A6 B8}(h:∀a∈l,a.f<=o8)(hl:l.f*o8+l.f<=16777216):JoinOk {#[c]} l=A9:=by unfold JoinOk;rw[StrLaws.joinFits h (by change l.f*o8+l.f*1<=_;ext)];rfl
def Told(l:Ac):(Prop):=∀z∈l,-(10^60)<z/\z<(10:A0)^60
def GW(h:Told l):∀a∈l.Q nT,a.f<=61:=λa ha=>by let(z,hz,rfl):=Yp.Y ha;show Se (k:=60) D (h z hz).1 (h z hz).2
def fS{name:B8}{l:Ac}(hn:32∉name.cps.m):Txt.split (Str.join TK (name::l.Q nT)) TK=name::l.Q nT:=by
 show fV AP λp hp=>?_;rcases Yu.Y hp with e|e
 .rw[e];show hn
 .let⟨z,_,rfl⟩:=Yp.Y e;show xE D (.inl D)
def xA{name:B8}{l:Ac}(hn:10∉name.cps.m):10∉(Str.join TK (name::l.Q nT)).cps.m:=λh=>by
 rw[ZV8,xG]at h;rcases xC h with e|⟨a,ha,hx⟩
 .cases e
 .let⟨p,hp,rfl⟩:=Yp.Y ha;rcases Yu.Y hp with e|e
  .lia
  .let⟨z,_,rfl⟩:=Yp.Y e;show xE D (.inl D) hx
def fR:Txt.split (RA n ps ls) Ec=Wk n ps ls:=by
 show fV (by unfold Wk;simp) λp hp=>?_;rcases Yu.Y hp with e|e
 .rw[e,Zn9];show xA (l:=[n]) D
 .let⟨i,hi,e⟩:=Js e;rw[List.getElem_zipWith]at e;rw[<-e];show xA (l:=[_,_,_]) D
def Zd9(w:B8):Txt.startswith w (Str.H "-")=decide (w.cps.m.head?=some 45):=by
 let h:=StrLaws.subAt_one w 45 0;let e:Str.H "-"=⟨#[45]⟩:=pq
 rw[e];unfold Txt.startswith;rw[List.head?_eq_getElem?];lia
def Zq7(h:1<=w.cps.m.f):(StrLaws.sliceText w (some 1) none).cps.m=w.cps.m.tail:=by
 rw[StrLaws.sliceText_from (i:=1) ⟨D,J⟩];change(List.R _<|List.drop 1 _)=_
 rw[List.drop_one];show YG ?_
 ext
def ZU9(c:A5):(!(!(Builtin.Str.occurrences (Str.H "0123456789") {#[c]} 0 (Str.H "0123456789").f 1).isEmpty))=!decide (48<=c/\c<=57):=by
 rw[StrLaws.found_one];congr 1;let e:(Str.H "0123456789").cps.m=[48,49,50,51,52,53,54,55,56,57]:=pq
 rw[e];show RW.X {λh=>?_,λh=>?_}
 .simp at h;omega
 .simp;lia
def GV{i:A5}{v:V}(h:(TL l)[i]?=⇑v):∃x,v=.str x/\l[i]?=⇑x:=by unfold TL at h;grind
def ZH(l:A6 B8):(TL l).f=l.f:=by unfold TL;grind
def xw(l:A6 B8)(x:B8):TL l++[.str x]=TL (l++[x]):=by unfold TL;ext
def fQ{ps:Aa}{ls:Ac}{p:A0×A0}{l:A0}(hp:ps[i]?=⇑p)(hl:ls[i]?=⇑l):Wk n (ps.R (i+1)) (ls.R (i+1))=Wk n (ps.R i) (ls.R i)++[UZ p l]:=by unfold Wk;rw[Yw,Yw,hp,hl];rw[List.zipWith_append B];rfl
def GU(hl:ls.f=ps.f):(Wk n ps ls).f=ps.f+1:=by
 unfold Wk
 ext
def fP(h:Told [p.1,p.2,l]):(UZ p l).f<=400:=by
 show Ym (NX (o8:=61) (l:=Str.H "tie" :: [p.1,p.2,l].Q nT) λa ha=>?_) (show 4*(61+1)<=400 by decide);rcases Yu.Y ha with e|e
 .rw[e];decide
 .show GW h a e
def fO(g:Zz n ps)(hT:Told ls){i:A5}{p:A0×A0}{l:A0}(hp:ps[i]?=⇑p)(hl:ls[i]?=⇑l):Told [p.1,p.2,l]:=λz hz=>by
 have:=g.2.2.2 p (Xo hp)
 have:=g.2.1
 rcases Yu.Y hz with e|e
 .grind
 .rcases Yu.Y e with e|e
  .grind
  .rw[Xn.Y e];show hT l (Xo hl)
def xu(g:Zz n ps)(hT:Told ls):∀a∈Wk n ps ls,a.f<=400:=λa ha=>by
 rcases Yu.Y ha with e|e
 .rw[e,JO,Str.cps_append,Yt,Ya,<-JO,<-JO]
  have:=Se (i:=n) (k:=60) D (by have:=g.1;omega) (by have:=g.2.1;omega)
  let e2:(Str.H "places ").f=7:=D;lia
 .let⟨i,hi,e⟩:=Js e;rw[List.getElem_zipWith]at e;rw[<-e];show fP (fO g hT (i:=i) (Xv B)<|Xv B)
def rF(K:Ad)(mg:Af)(x m qual:B8)(st:B6):(Prop):=∃C f fd,mg x=some ↑C/\Fun K m qual st f fd/\Meth K C m f
def NW{K:Ad}{h:Heap}{mg:Af}{x m qual:B8}{st:B6}{C f:A7}{oc:B1}{od an:Option A7}{UA:B3 (Option B1)}{kV doc pm XG ct:B1}(X:K.In h)(G:h.Ns mainGlobals mg)
  (aC:PySem.W.nsIn K mainGlobals x=⇑(some<|.ref C))(a:PySem.W.findIn K ↑C m=⇑(some<|.ref f))(i:PySem.W.isFn K ↑f=A9)
  (l:K.M f=⇑{oc,od,.func<|PySem.W.fnOf m qual (Tt st) (Rh st) (Zc st) .none kV doc pm an XG ct,UA})(c:PySem.W.codeIn K XG qual=A9)(k:PySem.W.keepIn K ↑f=A9):rF K mg x m qual st:=
 {C,f,_,Jl X G aC,BF l c k,⟨a,i,k⟩}
abbrev Tr:=A0×Aa×Ac
def rE(T:Tr):(Prop):=Zz T.1 T.2.1/\T.2.2.f=T.2.1.f/\Told T.2.2
def StageV(C:A7)(H:Hp)(v:V)(T:Tr):(Prop):=∃t w a,v=.ref t/\H t=⇑(.tup [.ref w,.ref a])/\WebAt C H w T.1 T.2.1/\H a=⇑(.lst<|IL T.2.2)
def StageV.same{C:A7}{H H':Hp}{v:V}{T:Tr}(s:Same H H')(h:StageV C H v T):StageV C H' v T:=by let(t,w,a,e,h1,h2,h3):=h;exists t,w,a,e,s _ _ h1,h2.same s,s _ _ h3
def DeskAt(C:A7)(H:Hp)(x d:A7)(zs:A6 V):(Prop):=∃dx,H x=⇑(.ins C dx<|WC "stages" ↑d [])/\H d=⇑(.lst zs)
def DeskAt.same{C:A7}{H H':Hp}{x d:A7}{zs:A6 V}(s:Same H H')(h:DeskAt C H x d zs):DeskAt C H' x d zs:=by let(dx,h1,h2):=h;exists dx,s _ _ h1,s _ _ h2
def rD(d:A7):(WC "stages" (V.ref d) []).M ("stages":B8)=some ↑d:=by rw[ER,Yk Z]
def TJ(l:Ac):(B8):=if l=[] then Str.H "-" else Str.join TK (l.Q nT)
def GS(p q:A0):(B8):=nT p++Str.H "/"++nT q
def lenT(z:A0)(l:Ac):(B8):=nT z++Str.H ": "++TJ l
def xt(h:l.f<=1000)(hl:Told l):(TJ l).f<=62000:=by
 unfold TJ;split
 .decide
 .show Ym (NX (o8:=61)<|GW hl) ?_;grind
def JM:∀k l,l.f=k->(∀c∈l,48<=c/\c<=57)->NumText.digitsVal l<10^k
 |0,l,h,_=>by let rfl:=Ur.Y h;show Nat.one_pos
 |k+1,l,h,hd=>by
  rcases CL l with rfl|⟨L,c,e⟩
  .cases h
  .rw[Y4a]at e;subst e;let hL:L.f=k:=by rw[Ya,YW]at h;lia
   let ih:=JM k L hL λc hc=>hd c (Yy _ hc)
   have:=hd c (Yc _ Yi)
   rw[qd,Nat.pow_succ];grind
def GR:∀k l,l.f=k->l≠[]->(∀c∈l,48<=c/\c<=57)->(l=[48]\/l.head?≠some 48)->dg (NumText.digitsVal l)=l
 |0,l,h,hn,_,_=>absurd (Ur.Y h) hn
 |k+1,l,h,_,hd,hz=>by
  rcases CL l with rfl|⟨L,c,e⟩
  .cases h
  .rw[Y4a]at e;subst e;let hL:L.f=k:=by rw[Ya,YW]at h;grind
   let hc:=hd c (Yc _ Yi);rw[qd];cases L with
   |nil=>
    change dg (0*10+(c-48))=[c];rw[Sx B];grind
   |cons a r=>
    let ha:(a::r).head?≠some 48:=by
     rcases hz with e|e
     .ext
     .show e
    let ih:=GR k (a::r) hL AP (λc hc=>hd c<|Yy _ hc) (.inr ha);let pos:NumText.digitsVal (a::r)≠0:=λz=>by rw[z]at ih;rw[<-ih]at ha;show ha rfl
    rw[Sw J,show(NumText.digitsVal (a::r)*10+(c-48))/10=NumText.digitsVal (a::r) by grind,ih];congr 2;grind
def fN{w:B8}(h:JN w.cps.m=A9):∃i:A0,w=nT i/\-(10^60)<i/\i<10^60:=by
 let(h1,h2,h3,h4):=YJ h;let ne:WM w.cps.m≠[]:=λz=>by ext
 let lt:NumText.digitsVal (WM w.cps.m)<10^60:=Ye (JM _ _ Z h3) (DA D h2);cases hm:w.cps.m.head?=some 45
 .let hf:WM w.cps.m=w.cps.m.tail:=Yk hm;let rC:w.cps.m=45::WM w.cps.m:=by
   rw[hf];cases e:w.cps.m with
   |nil=>ext
   |cons a r=>ext
  let hz:(WM w.cps.m).head?≠some 48:=h4.elim (λe=>J) id;let hv:=GR _ _ Z ne h3 (.inr hz)
  let pos:NumText.digitsVal (WM w.cps.m)≠0:=λz=>by rw[z]at hv;rw[<-hv]at hz;show hz rfl
  exists -(NumText.digitsVal (WM w.cps.m):A0),rG ?_,J,J;rw[JQ];unfold Pj;grind
 .let hf:WM w.cps.m=w.cps.m:=Yj hm;rw[hf]at h3 h4 ne lt;let hv:=GR _ _ Z ne h3 h4
  exists (NumText.digitsVal w.cps.m:A0),rG ?_,J,J;rw[JQ];unfold Pj
  ext
def LO{w:B8}:JN w.cps.m=A9↔∃i:A0,w=nT i/\-(10^60)<i/\i<10^60:=
 {fN,λzz=>by let(i,e,h1,h2):=zz;rw[e,JQ];show xH h1 h2}
end My
namespace My
open PySem PySem.W PyProof.Rows
def SV{α:Type}(c:A5->A5->B2):(KasT α->α)
 | .ret a=>a
 | .ask i j k=>SV c (k<|c i j)
def Ea{α β:Type}{c:A5->A5->B2}{f:α->KasT β}:∀t:KasT α,SV c (t.bind f)=SV c (f (SV c t))
 | .ret _=>rfl
 | .ask i j k=>Ea (k<|c i j)
section
variable{n:A5}{key:A5->A0}
def Ahd(key:A5->A0)(i j:A5):(Prop):=key i<key j\/(key i=key j/\i<j)
def Ahd.trans{i j k:A5}(h1:Ahd key i j)(h2:Ahd key j k):Ahd key i k:=by unfold Ahd at *;grind
structure Ord(n m:A5)(p:B3 A5):Prop where
 perm:p.Perm (List.range n).E
 suf:∀i,m<=i->i<n->p.S i 0=i
def Ord.size(h:Ord n m p):p.o=n:=by rw[h.perm.size_eq];simp
def LN{p:B3 A5}(h:i<p.o):p[i]?=⇑(p.S i 0):=by
 ext
def Ord.inj(h:Ord n m p)(hi:i<n)(hj:j<n)(e:p.S i 0=p.S j 0):i=j:=by
 let hn:p.m.Nodup:=(Le.Y h.perm).nodup_iff.X List.nodup_range;let hs:=h.o
 let e1:=LN (p:=p) (i:=i) (by ext);let e2:=LN (p:=p) (i:=j) (by ext)
 rw[<-YO]at e1 e2;show(List.getElem?_inj (i:=i) (j:=j) (by ext) hn).Y (by rw[e1,e2,e])
def Ord.lt(h:Ord n m p)(hm:m<=n)(hi:i<m):p.S i 0<m:=by
 cases hc:p.S i 0<m
 .show hc
 .let hs:=h.o;let hb:p.S i 0<n:=by let e1:=LN (p:=p) (i:=i) B;rw[<-YO]at e1;show YR.Y ((Le.Y h.perm).mem_iff.Y (Xo e1))
  let e:=h.inj J hb (h.suf _ (by ext) hb).symm;grind
def Ord.mono(h:Ord n m p)(hk:m<=k):Ord n k p:={h.perm,λi hi=>h.suf i J}
def Ni{i j k:A5}(hj:j<=p.o):(kas_rev p i j).S k 0=if i<=k/\k<j then p.S (i+j-1-k) 0 else p.S k 0:=by unfold kas_rev;rw[YS,Jc hj,apply_ite λo:Option A5=>o.S 0,<-YS,<-YS]
def Ord.rev(h:Ord n m p)(hj:j<=m)(hm:m<=n):Ord n m (kas_rev p i j):=by let hs:=h.o;exists (mirror_perm _ _ _ _).l h.perm,λk hk hn=>?_;rw[Ni J,Yj J];show h.suf k hk hn
def Asc(key:A5->A0)(m:A5)(p:B3 A5):(Prop):=∀i j,i<j->j<m->Ahd key (p.S i 0) (p.S j 0)
def Asc.more(hm:1<=m)(h:Asc key m p)(h2:Ahd key (p.S (m-1) 0) (p.S m 0)):Asc key (m+1) p:=λi j WH hj=>by
 cases e:j=m
 .subst e;cases e2:i=j-1
  .rw[e2];show h2
  .show(h i (j-1) J pB).l h2
 .show h i j WH J
def GQ:∀f m p,m+f=n->1<=m->Ord n m p->Asc key m p->∃k,SV (λi j=>decide (key i<key j)) (kas_asc p f m)=k/\m<=k/\k<=n/\Asc key k p/\(k<n->key (p.S k 0)<key (p.S (k-1) 0))
 |0,m,p,hf,h1,ho,ha=>{m,Z,XI _,by ext,ha,λh=>by ext}
 |f+1,m,p,hf,h1,ho,ha=>by
  change ∃k,SV _ (if decide (key (p.S m 0)<key (p.S (m-1) 0))=A9 then KasT.ret m else kas_asc p f (m+1))=k/\_;cases hc:key (p.S m 0)<key (p.S (m-1) 0)
  .rw[Yk (YU hc)];exists m,Z,XI _,J,ha,λ_=>hc
  .rw[Yj λz=>hc (YJ z)];let e:=ho.suf m (XI _) J
   let l:=ho.lt J (i:=m-1) J;let(k,e1,e2,e3,e4,e5):=GQ f (m+1) p J (by ext) (ho.mono<|by ext) (ha.more h1<|by unfold Ahd;rw[e]at hc ⊢;lia);exists k,e1,J,e3,e4,e5
structure Dsc(key:A5->A0)(m g:A5)(p:B3 A5):Prop where
 le:g+1<=m
 old:∀i j,i<j->j<m-(g+1)->Ahd key (p.S j 0) (p.S i 0)
 mid:∀i j,i<m-(g+1)->m-(g+1)<=j->j<m->key (p.S j 0)<key (p.S i 0)
 own:∀i j,m-(g+1)<=i->i<j->j<m->key (p.S i 0)=key (p.S j 0)/\p.S i 0<p.S j 0
def Fall(key:A5->A0)(m:A5)(p:B3 A5):(Prop):=∀i j,i<j->j<m->Ahd key (p.S j 0) (p.S i 0)
def Dsc.turn(h:Dsc key m g p)(hs:m<=p.o):Fall key m (kas_rev p (m-(g+1)) m):=λi j WH hj=>by
 rw[Ni hs,Ni hs];cases c1:m-(g+1)<=j
 .rw[Yk ⟨c1,hj⟩];cases c2:m-(g+1)<=i
  .rw[Yk ⟨c2,J⟩];show .inr (h.own (m-(g+1)+m-1-j) (m-(g+1)+m-1-i) J J J)
  .rw[Yj J];show .inl (h.mid i _ J J J)
 .rw[Yj J,Yj J];show h.old i j WH J
def Dsc.last(h:Dsc key m g p)(hs:m<=p.o):key ((kas_rev p (m-(g+1)) m).S (m-1) 0)=key (p.S (m-1) 0):=by
 let hl:=h.le;rw[Ni hs,Yk B];cases e:g=0
 .congr 2;grind
 .show(h.own (m-(g+1)+m-1-(m-1)) (m-1) pB B J).1
def Dsc.fall(h:Dsc key m 0 p):Fall key m p:=λi j WH hj=>by
 cases e:j<m-(0+1)
 .show h.old i j WH e
 .show .inl (h.mid i j B (by ext) hj)
def Fall.new(hm:1<=m)(h:Fall key m p)(hk:key (p.S m 0)<key (p.S (m-1) 0)):Dsc key (m+1) 0 p:=by
 show{by ext,λi j WH hj=>h i j WH (by ext),λi j hi h1 h2=>?_,λi j h1 h2 h3=>B};let e:j=m:=J
 subst e;cases c:i=j-1
 .rw[c];show hk
 .have:=h i (j-1) J B
  unfold Ahd at this;omega
def Fall.rev(h:Fall key m p)(hs:m<=p.o):Asc key m (kas_rev p 0 m):=λi j WH hj=>by rw[Ni hs,Ni hs,Yk {XC _,J},Yk {XC _,hj}];show h _ _ B B
def Asc.rev(h:Asc key m p)(hs:m<=p.o):Fall key m (kas_rev p 0 m):=λi j WH hj=>by rw[Ni hs,Ni hs,Yk {XC _,hj},Yk {XC _,B}];show h _ _ J J
def rB:∀f m g p,m+f=n->Ord n m p->Dsc key m g p->∃p' m' g',SV (λi j=>decide (key i<key j)) (kas_desc f p m g)=(p',m',g')/\m<=m'/\m'<=n/\Ord n m' p'/\Dsc key m' g' p'
 |0,m,g,p,hf,ho,hd=>{p,m,g,Z,XI _,by ext,ho,hd}
 |f+1,m,g,p,hf,ho,hd=>by
  let hl:=hd.le;let hs:=ho.o
  let em:=ho.suf m (XI _) J;let ll:=ho.lt J (i:=m-1) J
  change ∃p' m' g',SV _ (if decide (key (p.S m 0)<key (p.S (m-1) 0))=A9 then (if g>0 then kas_desc f (kas_rev p (m-(g+1)) m) (m+1) 0 else kas_desc f p (m+1) 0) else KasT.ask (p.S (m-1) 0) (p.S m 0) λd=>if d=A9 then .ret (p,m,g) else kas_desc f p (m+1) (g+1))=_/\_;cases hc:key (p.S m 0)<key (p.S (m-1) 0)
  .rw[Yk (YU hc)];cases hg:g>0
   .rw[Yk hg];let hr:=ho.rev (i:=m-(g+1)) (XI m) J
    let em2:=hr.suf m (XI _) J;let(p',m',g',e1,e2,e3,e4,e5):=rB f (m+1) 0 (kas_rev p (m-(g+1)) m) J (hr.mono J) ((hd.turn J).new J (by rw[hd.last J,em2];rwa[em]at hc));exists p',m',g',e1,J,e3,e4,e5
   .let rfl:g=0:=by ext
    let(p',m',g',e1,e2,e3,e4,e5):=rB f (m+1) 0 p B (ho.mono B) (hd.fall.new pB hc);exists p',m',g',e1,J,e3,e4,e5
  .rw[Yj λz=>hc (YJ z)];change ∃p' m' g',SV _ (if decide (key (p.S (m-1) 0)<key (p.S m 0))=A9 then KasT.ret (p,m,g) else kas_desc f p (m+1) (g+1))=_/\_
   cases Vt:key (p.S (m-1) 0)<key (p.S m 0)
   .rw[Yk (YU Vt)];exists p,m,g,Z,XI _,J,ho,hd
   .rw[Yj λz=>Vt (YJ z)];let ek:key (p.S (m-1) 0)=key (p.S m 0):=J
    let(p',m',g',e1,e2,e3,e4,e5):=rB f (m+1) (g+1) p B (ho.mono B) ⟨by ext,λi j h1 h2=>hd.old i j h1 (by ext),λi j h1 h2 h3=>by
     cases c:j=m
     .rw[c,<-ek];show hd.mid i (m-1) (by ext) J J
     .show hd.mid i j (by ext) (by ext) J,λi j h1 h2 h3=>by
     cases c:j=m
     .rw[c];cases c2:i=m-1
      .rw[c2,em];rw[em]at ek;exists ek,ll
      .have:=hd.own i (m-1) (by ext) J B
       lia
     .show hd.own i j (by ext) h2 B⟩
    exists p',m',g',e1,J,e3,e4,e5
def xr(hm:1<=m)(hn:m<=n)(ho:Ord n m p)(hf:Fall key m p):∃k p',SV (λi j=>decide (key i<key j)) (kas_tail3 m n p)=(k,p')/\1<=k/\k<=n/\Ord n k p'/\Asc key k p':=by
 let hs:=ho.o;unfold kas_tail3;rw[Ea];let hr:=ho.rev (i:=0) (XI m) hn
 let(k,e1,e2,e3,e4,_):=GQ (n-m) m (kas_rev p 0 m) (by ext) hm hr (hf.rev<|by ext);rw[e1];exists k,_,Z,J,e3,hr.mono e2,e4
def xq(hm:1<=m)(hn:m<n)(ho:Ord n m p)(hf:Fall key m p)(hk:key (p.S m 0)<key (p.S (m-1) 0)):∃k p',SV (λi j=>decide (key i<key j)) (kas_descPart m n p)=(k,p')/\1<=k/\k<=n/\Ord n k p'/\Asc key k p':=by
 unfold kas_descPart;rw[Ea];let(p',m',g',e1,e2,e3,e4,e5):=rB (n-(m+1)) (m+1) 0 p B (ho.mono J) (hf.new hm hk);rw[e1];let hs:=e4.o
 cases hg:g'>0
 .rw[Yk hg];show xr J e3 (e4.rev (XI _) e3) (e5.turn<|by ext)
 .let rfl:g'=0:=by ext
  show xr J e3 e4 e5.fall
def fM(hn:1<=n)(ho:Ord n 1 p):∃k p',SV (λi j=>decide (key i<key j)) (kas_count n p)=(k,p')/\1<=k/\k<=n/\Ord n k p'/\Asc key k p':=by
 unfold kas_count;rw[Ea];let(k,e1,e2,e3,e4,e5):=GQ (key:=key) (n-1) 1 p (by ext) (XI _) ho λi j h1 h2=>by ext
 rw[e1];let hs:=ho.o
 let hk:=ho.mono e2;cases c:k=n
 .rw[Yk (by ext)];exists k,p,Z,e2,e3,hk,e4
 .rw[Yj λz=>c (um.Y z)];let Xu:k<n:=J
  let h5:=e5 Xu;cases c1:k>1
  .rw[Yk c1];change ∃k' p',SV _ (if decide (key (p.S 0 0)<key (p.S (k-1) 0))=A9 then KasT.ret (k,p) else kas_descPart k n (kas_rev p 0 k))=_/\_
   cases c2:key (p.S 0 0)<key (p.S (k-1) 0)
   .rw[Yk (YU c2)];exists k,p,Z,e2,e3,hk,e4
   .rw[Yj λz=>c2 (YJ z)];let a0:=e4 0 (k-1) J J
    let eq:key (p.S 0 0)=key (p.S (k-1) 0):=by unfold Ahd at a0;lia
    let hr:=hk.rev (i:=0) (XI k) pB;show xq e2 Xu hr (e4.rev<|by ext) ?_;rwa[Ni (by ext),Ni (by ext),Yj (by ext),Yk J,show 0+k-1-(k-1)=0 by ext,eq]
  .let rfl:k=1:=J;show xq (XI _) Xu hk (λi j h1 h2=>by ext) h5
def GP(hk:Asc key k p):∀f l r,r-l<=f->l<=r->r<=k->(∀i,i<l->¬key (p.S k 0)<key (p.S i 0))->(∀i,r<=i->i<k->key (p.S k 0)<key (p.S i 0))->∃l',SV (λi j=>decide (key i<key j)) (kas_place p k f l r)=l'/\l'<=k/\(∀i,i<l'->¬key (p.S k 0)<key (p.S i 0))/\(∀i,l'<=i->i<k->key (p.S k 0)<key (p.S i 0))
 |0,l,r,hf,h1,h2,ha,hb=>{l,Z,J,ha,λi hi=>hb i B}
 |f+1,l,r,hf,h1,h2,ha,hb=>by
  let mono:∀i j,i<=j->j<k->key (p.S i 0)<=key (p.S j 0):=λi j WH hj=>by
   cases e:i=j
   .rw[e];show Int.le_refl _
   .have:=hk i j J hj
    unfold Ahd at this;lia
  unfold kas_place;cases c:l >= r
  .rw[Yk c];exists l,Z,B,ha,λi hi=>hb i J
  .rw[Yj c];change ∃l',SV _ (if decide (key (p.S k 0)<key (p.S ((l+r)/2) 0))=A9 then kas_place p k f l ((l+r)/2) else kas_place p k f ((l+r)/2+1) r)=l'/\_
   cases c2:key (p.S k 0)<key (p.S ((l+r)/2) 0)
   .rw[Yk (YU c2)];show GP hk f l ((l+r)/2) J J J ha λi hi hik=>by grind
   .rw[Yj λz=>c2 (YJ z)];show GP hk f ((l+r)/2+1) r J J pB (λi hi=>by
     grind) hb
def NV{k d x:A5}(hk:k<p.o)(hd:d<=k):(bubble p k d).S x 0=if x=k-d then p.S k 0 else if k-d<x/\x<=k then p.S (x-1) 0 else p.S x 0:=by rw[YS,getElem?_bubble hk d hd,apply_ite λo:Option A5=>o.S 0,apply_ite λo:Option A5=>o.S 0,<-YS,<-YS,<-YS]
def xp:∀f k p,k+f=n->Ord n k p->Asc key k p->∃p',SV (λi j=>decide (key i<key j)) (kas_bin f p k)=p'/\Ord n n p'/\Asc key n p'
 |0,k,p,hf,ho,ha=>by let rfl:k=n:=pB;exists p,Z,ho,ha
 |f+1,k,p,hf,ho,ha=>by
  let hs:=ho.o;let ek:=ho.suf k (XI _) J
  unfold kas_bin;rw[Ea];let(l,e1,e2,e3,e4):=GP ha k 0 k (by ext) (by ext) (XI _) (λi hi=>by ext) λi hi Wq=>B;rw[e1];show xp f (k+1) (bubble p k<|k-l) J {(bubble_perm _ _ _).l ho.perm,λi hi hn=>?_} λi j WH hj=>?_
  .rw[NV J (by ext),Yj J,Yj J];show ho.suf i J hn
  .let low:∀x,x<k->p.S x 0<k:=λx hx=>ho.lt J hx;rw[NV J (by ext),NV J (by ext)];let ekl:k-(k-l)=l:=J
   rw[ekl];cases c1:i=l
   .rw[Yk c1,Yj J,Yk J];show .inl (e4 (j-1) J J)
   .rw[Yj c1];cases c2:j=l
    .rw[Yk c2,Yj J];let a:=e3 i (by ext)
     let b:=low i J;rw[ek]at a ⊢;unfold Ahd;lia
    .rw[Yj c2];cases c3:l<i
     .rw[Yk ⟨c3,J⟩,Yk ⟨J,J⟩];show ha _ _ J J
     .rw[Yj J];cases c4:l<j
      .rw[Yk ⟨c4,B⟩];show ha _ _ J J
      .rw[Yj J];show ha _ _ WH J
def LM(hn:1<=n):∃p,SV (λi j=>decide (key i<key j)) (kas_sort n)=p/\p.m.Perm (List.range n)/\p.m.U (Ahd key):=by
 let fin:∀p,Ord n n p->Asc key n p->p.m.Perm (List.range n)/\p.m.U (Ahd key):=λp ho ha=>by
  let hs:=ho.o;exists Le.Y ho.perm,YQ.X λi j hi hj WH=>?_;rw[YV]at hi hj
  have:=ha i j WH (by ext)
  ext
 unfold kas_sort;rw[Ea];let(k,p,e1,e2,e3,e4,e5):=fM (key:=key) hn (p:=(List.range n).E) {Dp _,λi _ hi=>by ext};rw[e1];cases c:k<n
 .rw[Yk c,Nat.max_eq_left e2];let(q,h1,h2,h3):=xp (n-k) k p (by ext) e4 e5;exists q,h1,fin q h2 h3
 .rw[Yj c];let rfl:k=n:=J;exists p,Z,fin p e4 e5
end
end My
namespace L2
open PySem PySem.Spec PyProof.Rows
def NU(P:Program)(w:World)(K:Ad)(mg:Af)(base:Heap)(N:A6 B8)(qual:B8)(scope:B9)(f:A7)(cd:B1)(cl:A6 (B8×A7))(A:Around)(outer:A6 Env)(s:B5)(H:Hp):(Cx) where
 prog:=P
 w:=w
 K:=K
 mg:=mg
 base:=base
 A:=A.deeper (PySem.W.envX qual scope (~~~s) f cd cl)
 N:=N
 s₀:=s
 H₀:=H
 env:=PySem.W.envX qual scope (~~~s) f cd cl
 outer:=outer
 stack:=PySem.W.envX qual scope (~~~s) f cd cl::outer
 ex:=[]
 calm:=A9
 fn:=λ_=>false
 pn:=[]
 xe:=λ_ _=>False
structure LamScope(v x:B8)(sc:B9):Prop where
 kind:sc.kind=.function
 co:sc.isCoroutine=B0
 gen:sc.isGenerator=B0
 nocell:∀y∈sc.names,y.2≠.cell
 par:sc.names.M v=some .local
 free:sc.names.M x=some .free
 only:∀y,sc.names.M y=some .free->y=x
 ne:v≠x
section
variable{P:Program}{w:World}{K:Ad}{mg:Af}{base:Heap}{qual name v x:B8}{scope:B9}{f c c':A7}{cd pm QW u ux:B1}{A:Around}{outer:A6 Env}{s:B5}{H:Hp}{vv vx:V}{params:Arguments}{body:B4}{k:A5}{t:TE}{Q:VK}
def rz{c2:A7}(h:List.M y [(x,c)]=⇑c2):y=x/\c2=c:=by grind
def fL(S:LamScope v x scope)(hd:A.handled=A8)(e0:Env0 P w K mg base A outer s H)(hc:s.C.IsCell c ⇑ux)(rx:RelV vx ux)(fK:H c=A8)(rv:RelV vv u){h1:Heap}{tk:A5}
  (Nh:h1.Ns (~~~s) λy=>[(v,u)].reverse.M y)(hk:∀b o,s.C.G b=⇑o->h1.G b=⇑o):
  Inv (NU P w K mg base [v,x] qual scope f cd [(x,c)] A outer s H) [] [⇑vv,⇑vx] H {s with heap:=h1,toks:=tk}:=by
 let IC:∀b:A7,b∉(NU P w K mg base [v,x] qual scope f cd [(x,c)] A outer s H).ex:=λb z=>absurd (show b∈([]:A6 A7) from z) AP;let hck:h1.IsCell c ⇑ux:=by let(o,e,d):=hc;exists o,hk _ _ e,d
 let lk:List.M x [(x,c)]=⇑c:=by unfold List.lookup;rw[Dr]
 show⟨{e0.mod,S.kind,Z,Z,XI _,λy z c2 h1 h2=>?_,λy hy=>?_,λy c2 z _=>(nomatch z),λ_=>hd,Around.frames_deeper e0.frames,.inr ⟨Z,Z⟩,λb z=>absurd z<|IC b,e0.bs,e0.bsz,λb _ _=>IC b,λb z=>absurd z<|IC b,e0.funs,e0.frf},
  rfl,e0.bare,Un.kept hk,{_,Nh,λi y v' h1 h2 h3=>?_},λy c2 h=>?_,e0.hok.fresh<|XI _,λy c2 h=>?_,λp hp=>absurd (show p∈([]:A6 (A7×Obj)) from hp) AP,e0.hok.kept hk,Z⟩
 .rw[(rz h1).1,(rz h2).1]
 .rcases hy with hy|hy
  .show absurd Z (S.nocell _<|Nc hy)
  .rw[S.only y hy];exists c,lk
 .match i,h1,h2 with
  |0,h1,h2=>
   let rfl:v=y:=Yf h1;let rfl:vv=v':=Yf (Yf h2);exists u,rv,.inl {S.par,?_}
   ext
  |1,h1,h2=>
   let rfl:x=y:=Yf h1;let rfl:vx=v':=Yf (Yf h2);exists ux,rx,.inr {.inr S.free,c,lk,hck}
  |i+2,h1,h2=>cases h1
 .rw[(rz h).2];grind
 .rw[(rz h).2];show fK
def fJ(S:LamScope v x scope)(hr:Room (k+1) A)(e0:Env0 P w K mg base A outer s H)(ho:s.C.G f=⇑(PySem.W.kla_obj name qual params body scope [(x,c)] pm c' QW))(Sl:s.C.CodeRec ↑c' qual)
  (Sv:bindArgs (PySem.W.kla_fn name qual params body scope [(x,c)] pm ↑c' QW) {[u],[]}=pure [(v,u)])(hc:s.C.IsCell c ⇑ux)(rx:RelV vx ux)(fK:H c=A8)(rv:RelV vv u)
  (hb:PE (NU P w K mg base [v,x] qual scope f ↑c' [(x,c)] A outer s H) body t)(hq:t [⇑vv,⇑vx] H Q):
  codeAny (model P w) A (.call ↑f {[u],[]}) (λr s'=>∃u',r=.ok (.ret u')/\CE outer P w H s Q u' s') s:=by
 let lim:s.C.NoLimit:=e0.mod.nolimit.keeps λb o e=>(e0.bs b o e).1;show PySem.W.kla_callFunE hr.depth ho Z S.co S.gen Z Sl ?_;rw[Sv];show Yg (wpAny_newFunctionEnv S.nocell (λy hy=>?_) (λh1 Nh hsb=>{lim.fresh _ hsb,?_}) S.kind)
 .rw[Xn.Y hy];show S.par
 let hk:∀b o,s.C.G b=⇑o->h1.G b=⇑o:=λb o e=>hsb.extBut b o (Yl<|Yh e) (Xs _ e);let I:Inv (NU P w K mg base [v,x] qual scope f ↑c' [(x,c)] A outer s H) [] [⇑vv,⇑vx] H {s with heap:=h1,toks:=s.toks+[(v,u)].f}:=fL S hr.hd e0 hc rx fK rv Nh hk
 show PySem.W.kla_codeExpr (TX (hb [] _ _ H _ I hq) (λu' s' h=>?_) λe s' h=>False.elim h);let(y,H',o7,r,q):=h;exists u',Z,y,H',o7.os,o7.bare,o7.base,o7.hok,r,q
end
end L2
namespace My
open PySem PySem.W PyProof.Rows
def Asks{α:Type}(n:A5)(R:α->Prop):(KasT α->Prop)
 | .ret a=>R a
 | .ask i j k=>i<n/\j<n/\∀b,Asks n R (k b)
def Asks.bind{α β:Type}{R:α->Prop}{S:β->Prop}{f:α->KasT β}:∀{t:KasT α},Asks n R t->(∀a,R a->Asks n S (f a))->Asks n S (t.bind f)
 | .ret a,h,hf=>hf a h
 | .ask _ _ _,h,hf=>{h.1,h.2.1,λb=>Asks.bind (h.2.2 b) hf}
def goT_wp'{α:Type}{R:α->Prop}{c:A5->A5->B2}{cmp:A5->A5->(B2->B5->Prop)->B5->Prop}{o7:B5->Prop}(h:∀i j C s,i<n->j<n->o7 s->(∀s',o7 s'->C (c i j) s')->cmp i j C s){Q:α->B5->Prop}:∀t s,Asks n R t->o7 s->(∀s',o7 s'->Q (SV c t) s')->t.kasWp cmp Q s
 | .ret _,s,_,hs,q=>q s hs
 | .ask i j k,s,ha,hs,q=>h i j _ s ha.1 ha.2.1 hs λs' VF=>goT_wp' h (k<|c i j) s' (ha.2.2 _) VF q
section
variable{n:A5}
def Bd(n:A5)(p:B3 A5):(Prop):=p.Perm (List.range n).E
def Bd.lt(h:Bd n p)(hn:1<=n)(i:A5):p.S i 0<n:=by
 cases hi:i<p.o
 .let e1:=LN (p:=p) hi;rw[<-YO]at e1;show YR.Y ((Le.Y h).mem_iff.Y (Xo e1))
 lia
def Bd.rev(h:Bd n p)(i j:A5):Bd n (kas_rev p i j):=(mirror_perm _ _ _ _).l h
def fI(hn:1<=n)(hp:Bd n p):∀f m:A5,Asks n (λ_=>True) (kas_asc p f m)
 |0,m=>trivial
 |f+1,m=>⟨hp.lt hn _,hp.lt hn _,λb=>by
  cases b with
  |true=>show trivial
  |false=>show fI hn hp f<|m+1⟩
def rq(hn:1<=n):∀f p m q,Bd n p->Asks n (λr=>Bd n r.1) (kas_desc f p m q)
 |0,p,m,q,hp=>hp
 |f+1,p,m,q,hp=>⟨hp.lt hn _,hp.lt hn _,λb=>by
  cases b with
  |true=>
   split
   .show rq hn f _ _ _ (hp.rev _ _)
   .show rq hn f _ _ _ hp
  |false=>
   exists hp.lt hn _,hp.lt hn _,λd=>?_;cases d with
   |true=>show hp
   |false=>show rq hn f _ _ _ hp⟩
def ZH5(hn:1<=n)(hp:Bd n p)(m r:A5):Asks n (λz=>Bd n z.2) (kas_tail3 m r p):=
 (fI hn (hp.rev _ _) _ _).bind λ_ _=>hp.rev _ _
def ZV5(hn:1<=n)(hp:Bd n p)(m r:A5):Asks n (λz=>Bd n z.2) (kas_descPart m r p):=
 (rq hn _ p _ _ hp).bind λz hz=>by
  split
  .show ZH5 hn (hz.rev _ _) _ _
  .show ZH5 hn hz _ _
def ZJ8(hn:1<=n)(hp:Bd n p)(r:A5):Asks n (λz=>Bd n z.2) (kas_count r p):=
 (fI hn hp _ _).bind λz _=>by
  split
  .show hp
  .split
   .exists hp.lt hn _,hp.lt hn _,λb=>?_;cases b with
    |true=>show hp
    |false=>show ZV5 hn (hp.rev _ _) _ _
   .show ZV5 hn hp _ _
def fH(hn:1<=n)(hp:Bd n p)(k:A5):∀f l r:A5,Asks n (λ_=>True) (kas_place p k f l r)
 |0,l,r=>trivial
 |f+1,l,r=>by
  unfold kas_place;split
  .show trivial
  .exists hp.lt hn _,hp.lt hn _,λb=>?_;cases b with
   |true=>show fH hn hp k f _ _
   |false=>show fH hn hp k f _ _
def ZW8(hn:1<=n):∀f p k,Bd n p->Asks n (λz=>Bd n z) (kas_bin f p k)
 |0,p,k,hp=>hp
 |f+1,p,k,hp=>(fH hn hp k _ _ _).bind λl _=>ZW8 hn f _ _ ((bubble_perm _ _ _).l hp)
def Qm(hn:1<=n):Asks n (λz=>Bd n z) (kas_sort n):=
 (ZJ8 hn (p:=(List.range n).E) (Dp _) n).bind λz hz=>by
  split
  .show ZW8 hn _ _ _ hz
  .show hz
end
end My
namespace L2
open PySem PySem.Spec PyProof.Rows PySem.W
def Rz(key:A0->A0)(ns ms:Ac):(Prop):=∃p:A6 A5,p.Perm (List.range ns.f)/\p.U (My.Ahd λi=>key<|ns.S i 0)/\ms=p.Q λi=>ns.S i 0
section
variable{X:Cx}{pins:A6 (A7×Obj)}{σ:St}{H:Hp}{s:B5}{b:A7}{o:Obj}
def Inv.pin1(I:Inv X pins σ H s)(F:FpOk X pins H b)(e:s.C.G b=⇑o)(hd:∀v,o.data≠.cell v):Inv X (pins++[(b,o)]) σ H s:=I.pins_of λp hp=>by
 rcases Xi.Y hp with hp|hp
 .show I.pin p (Yc _ hp)
 .rw[Xn.Y hp];exists e,F.1,F.2.1,F.2.2.1,hd
def FpOk.more{pl:A6 (A7×Obj)}(F:FpOk X pins H b)(hn:∀p∈pl,p.1≠b):FpOk X (pins++pl) H b:=⟨F.1,F.2.1,F.2.2.1,F.2.2.2.1,F.2.2.2.2.1,λp hp=>by
 rcases Xi.Y hp with hp|hp
 .show F.2.2.2.2.2 p (Yy _ hp)
 .rcases Xi.Y hp with hp|hp
  .show F.2.2.2.2.2 p (Yc _ hp)
  .show hn p hp⟩
def Inv.changed{h':Heap}{t':A5}(I:Inv X pins σ H s)(F:FpOk X pins H b)(k:∀c o,c≠b->s.C.G c=⇑o->h'.G c=⇑o):Inv X pins σ H {s with heap:=h',toks:=t'}:=
 I.turned k F.1 F.2.1 F.2.2.2.1 F.2.2.2.2.1 F.2.2.2.2.2
def Inv.adopt(I:Inv X pins σ H s)(hex:X.ex=[])(F:FpOk X pins H b)(new:ObjOk X.prog X.w (upd H b u) s.C b u):Inv X pins σ (upd H b u) s:=by
 let f4:(~~~X.s₀)<=b:=F.2.2.2.1.resolve_left (by ext);let hn:=F.1
 exists I.ok,I.os,I.bare,{I.base.keep,I.base.slot,λc o e n hc=>?_,I.base.there,λc xs q=>?_,λc o w q=>?_,λc ps q=>?_},I.loc,I.cell,?_,λx c e=>?_,λp hp=>?_,λc w e=>?_,I.len
 .rw[Za (Yl<|Ye (Yh e) f4)];show I.base.free c o e n hc
 .have:=I.base.tups c xs q
  rwa[Za (Ze this hn)]
 .have:=I.base.frzs c o w q
  rwa[Za (Ze this hn)]
 .let⟨m,this⟩:=I.base.tbls c ps q;exists m,by rwa[Za (Ze this hn)]
 .rw[Za (YX F.2.1)];show I.free
 .rw[Za (F.2.2.2.2.1 x c e)];show I.freeC x c e
 .have:=I.pin p hp
  exists this.1,by rw[Za (F.2.2.2.2.2 p hp)];show this.2.1,this.2.2
 .cases hb:c=b
  .subst hb;rw[XS]at e;lia
  .rw[Za hb]at e;show(I.hok c w e).stay (λ_ _ _ q=>q) (λd q=>by rwa[Za (Ze q hn)]) λd xs q=>by rwa[Za (Ze q hn)]
end
section
variable{X:Cx}{pins:A6 (A7×Obj)}{σ:St}{H:Hp}{s:B5}{a kS:A7}{A:Around}{E:Ae}{P:PySem.Fin->B5->Prop}{kA:B3 B1}{e e1:A5}{f:B1}{key:A0->A0}{ns:Ac}{vs:Ag}
def xn{st:SortSt}{out:Ag}(I:Inv X (pins++[(a,seqObj "list" #[] e1),(kS,seqObj "list" kA e)]) σ H s)(Fa:FpOk X pins H a)(Fk:FpOk X pins H kS)(Nn:a≠kS)(hz:kA.o<64)(Ui:failedOf st=A8)
  (GO:(arrOf st).Q (·.2)=out.E)(hlen:out.f<64)(h:∀s' m,Inv X pins σ H s'->s'.C.G a=⇑(seqObj "list" out.E m)->P (.done<|.ret .none) s'):
  wpAny (model X.prog X.w) A (ksk_tail a false e1 ↑kS st) P E s:=by
 let Ek:sizeLine=16777216:=PN;let pa:=(I.pin (a,seqObj "list" #[] e1) AP).1
 let pk:=(I.pin (kS,seqObj "list" kA e) AP).1;let I0:Inv X pins σ H s:=I.unpinned
 let fG:(s.C.update kS<|Obj.mapSeq λ_=>(#[]:B3 B1)).G a=⇑(seqObj "list" #[] e1):=(YL _ _<|YX Nn).l pa;obtain⟨m,hm⟩:∃m,((s.C.update kS<|Obj.mapSeq λ_=>(#[]:B3 B1)).update a (Obj.mapSeq λ_=>out.E)).G a=⇑(seqObj "list" out.E m):={_,Dh fG λ_=>out.E};unfold ksk_tail;dsimp only;rw[GO];show XU (Nz pk Z ?_ J<|XC _);show XU (CY ?_);show XU (seqEpoch_at fG Z ?_);show XU (Nz fG Z ?_ (XC _)<|by simp;lia);rw[Ui];simp only[Jh,Dw,if_false];show Yg (h _ m ?_ hm);let I1:Inv X pins σ H {s with heap:=s.C.update kS<|Obj.mapSeq λ_=>(#[]:B3 B1),toks:=s.toks}:=I0.changed Fk λc o hc q=>(YL _ _<|YX hc).l q
 show I1.changed (t':=s.toks) Fa λc o hc q=>(YL _ _<|YX hc).l q
def GN{vs:Ag}{ns:Ac}(h0:IntsAre vs ns):∀i,i<ns.f->∃t,vs[i]?=⇑(.int (ns.S i 0) t):=by
 induction h0 with
 |nil=>show λi h=>absurd h (QR _)
 |cons n t r ih=>
  intro i h;cases i with
  |zero=>exists t,Z
  |succ i=>show ih i (by rw[YM]at h;lia)
def GL(hv:IntsAre vs ns)(hk:IntsAre kA.m (ns.Q key))(hi:i<ns.f):∃t u,kas_item (kA.zip vs.E) i=(.int (key (ns.S i 0)) t,.int (ns.S i 0) u):=by
 let(u,hu):=GN hv i hi;let(t,ht):=GN hk i (by rwa[Yb]);let e:(ns.Q key).S i 0=key (ns.S i 0):=by rw[Wj,Yo,Wj,Xv hi];rfl
 rw[e]at ht;exists t,u,?_;unfold kas_item;rw[YS,<-YO,ksk_zip,(List.getElem?_zip_eq_some (z:=(Value.int (key<|ns.S i 0) t,Value.int (ns.S i 0) u))).X ⟨ht,hu⟩];rfl
def xm(hv:IntsAre vs ns)(hk:IntsAre kA.m (ns.Q key)):∀l:A6 A5,(∀i∈l,i<ns.f)->IntsAre (l.Q λi=>(kas_item (kA.zip vs.E) i).2) (l.Q λi=>ns.S i 0)
 |[],_=>.nil
 |i::l,h=>by
  let(t,u,e):=GL hv hk (h i Yi);let r:=xm hv hk l λj hj=>h j (Yn _ hj)
  rw[QQ,QQ,e];show .cons _ u r
def fF(I:Inv X (pins++[(a,seqObj "list" #[] e1),(kS,seqObj "list" kA e)]) σ H s)(Fa:FpOk X pins H a)(Fk:FpOk X pins H kS)(Nn:a≠kS)(hv:IntsAre vs ns)(Nk:ns.f<64)(hk:IntsAre kA.m (ns.Q key))
  (h:∀s' m out ms,Inv X pins σ H s'->s'.C.G a=⇑(seqObj "list" out m)->IntsAre out.m ms->Rz key ns ms->P (.done<|.ret .none) s'):
  wpAny (model X.prog X.w) A (ksk_end a false vs.E e1 ↑kS kA) P E s:=by
 let xk:=hv.f;let hkl:=hk.f
 rw[YV,Yb]at hkl;let hzs:(kA.zip vs.E).o=ns.f:=by rw[Array.size_zip,show vs.E.o=vs.f from YK];ext
 unfold ksk_end;dsimp only;cases h2:vs.E.o<2
 .rw[Yk h2,Yk h2];rw[YK]at h2;show XU (Yg ?_);show XU (Yg ?_);show xn (out:=vs) I Fa Fk Nn (by ext) Z ?_ (by ext) λs' m o7 e=>h s' m vs.E ns o7 e pB ?_
  .grind
  .exists List.range ns.f,pO _,?_,?_
   .match ns.f,(show ns.f<2 by ext) with
    |0,_=>ext
    |1,_=>grind
   .match ns,(show ns.f<2 by ext) with
    |[],_=>rfl
    |[x],_=>rfl
 .rw[Yj h2,Yj h2];rw[YK]at h2;rw[ksk_kind hk (by ext)];show XU (Yg ?_);rw[Yj D];let(p,WB,VW,Sd):=My.LM (n:=ns.f) (key:=λi=>key<|ns.S i 0) J;let runs:=kas_runs (prog:=X.prog) (w:=X.w) (A:=A) (E:=E) (κ:=oneType') (it:=kA.zip vs.E) (n:=ns.f) (s:=s) (Q:=λ_ st s'=>s'=s/\failedOf st=A8/\arrOf st=p.Q (kas_item<|kA.zip vs.E))
   (G:=λq s'=>s'=s/\q=p) (by ext) Nk (λq st s' _ e2 e3 e4=>{e4.1,e3,by rw[e2,e4.2]})
   (My.goT_wp' (c:=λi j=>decide<|key (ns.S i 0)<key (ns.S j 0)) (o7:=λs'=>s'=s) (λi j C s' hi hj hs hC=>by let(t,u,e):=GL hv hk hi;let(t',u',e'):=GL hv hk hj;unfold kas_cmp;rw[e,e'];show kat_lt_int<|hC s' hs) _ s (My.Qm B) Z λs' hs=>⟨hs,WB⟩)
  unfold kasC kas_st at runs;rw[<-hzs,kas_range]at runs;show XU (TX runs ?_ λ_ _ z=>z);rintro⟨⟨⟩,st⟩ s' ⟨rfl,hf,ha⟩;dsimp only;let hb:∀i∈p.m,i<ns.f:=λi hi=>YR.Y (VW.mem_iff.Y hi)
  let UB:p.m.f=ns.f:=by rw[VW.length_eq,MZ]
  show xn (out:=p.m.Q λi=>(kas_item (kA.zip vs.E) i).2) I Fa Fk Nn (by ext) hf ?_ (by ext) λSj m o7 e=>h Sj m _ _ o7 e (by simpa using xm hv hk p.toList hb) ⟨p.m,VW,Sd,Z⟩;let ha:arrOf st=p.Q (kas_item<|kA.zip vs.E):=ha
  rw[ha,Array.map_map];show Array.toList_inj.Y AP
def fE(I:Inv X (pins++[(a,seqObj "list" #[] e1),(kS,seqObj "list" #[] 0)]) σ H s)(Fa:FpOk X pins H a)(Fk:FpOk X pins H kS)(Nn:a≠kS)(hv:IntsAre vs ns)(Nk:ns.f<64)
  (turn:∀pl z t s',z∈ns->Inv X (pins++pl) σ H s'->wpAny (model X.prog X.w) A (call f [.int z t]) (λv Sj=>∃t',v=.int (key z) t'/\Inv X (pins++pl) σ H Sj) (λ_ _=>False) s')
  (h:∀s' m out ms,Inv X pins σ H s'->s'.C.G a=⇑(seqObj "list" out m)->IntsAre out.m ms->Rz key ns ms->P (.done<|.ret .none) s'):
  wpAny (model X.prog X.w) A (ksk_rest a f false vs.E e1<|.ref kS) P E s:=by
 let Ek:sizeLine=16777216:=PN;let xk:=hv.f
 show XU (PM ?_);rw[<-Array.forIn_toList];show XU (ksk_fold (λi s'=>∃kA e,Inv X (pins++[(a,seqObj "list" #[] e1),(kS,seqObj "list" kA e)]) σ H s'/\IntsAre kA.m ((ns.R i).Q key)) vs 0 s {#[],0,I,by simpa using IntsAre.nil} ?step ?done)
 case step=>
  intro j x s' hx Ω;let⟨kA,e,o7,hk⟩:=Ω;rw[QN]at hk ⊢;let hj:j<ns.f:=by rw[<-xk];show(Xr.Y hx).1
  let(t,ht):=GN hv j hj;rw[hx]at ht;let rfl:=Yf ht;let hz:kA.o<=j:=by let h1:=hk.f;rw[YV,Yb,Yx]at h1;lia
  let eg:ns.S j 0=ns[j]:=by rw[Wj,Xv hj];rfl
  let Xh:ns.S j 0∈ns:=by rw[eg];show Jp hj
  show XU (Jj<|TX (turn _ _ t s' Xh o7) (λv Sj he=>?_) λ_ _ hF=>hF.elim);let(t2,rfl,J2):=he;let pk:=(J2.pin (kS,seqObj "list" kA e) AP).1
  obtain⟨c2,Vt⟩:∃c2,(Sj.C.update kS (Obj.mapSeq (·.push (.int (key<|ns.S j 0) t2)))).G kS=⇑(seqObj "list" (kA.push<|.int (key<|ns.S j 0) t2) c2):={_,Dh pk (·.push (.int (key<|ns.S j 0) t2))};show XU (Nz pk Z ?_ J<|by rw[Array.size_push];lia);show Yg {Z,kA.push<|.int (key<|ns.S j 0) t2,c2,?_,?_}
  .let J3:Inv X (pins++[(a,seqObj "list" #[] e1)]) σ H Sj:=J2.pins_of λp hp=>J2.pin p (Yc _ (by
    grind))
   let Fk2:FpOk X (pins++[(a,seqObj "list" #[] e1)]) H kS:=Fk.more λp hp=>by ext
   let J4:=(J3.changed (t':=Sj.toks) Fk2 λc o hc q=>(YL Sj.C (Obj.mapSeq (·.push (.int (key<|ns.S j 0) t2)))<|YX hc).l q).pin1 Fk2 Vt λv z=>by cases z
   rwa[QP]at J4
  .let ek:(ns.R<|j+1).Q key=(ns.R j).Q key++[key (ns.S j 0)]:=by rw[List.take_add_one,Xv hj,Yz,eg];rfl
   rw[Pa,ek];show ksk_snoc hk
 case done=>
  intro s' Ω;let⟨kA,e,o7,hk⟩:=Ω;rw[QN,xk,Ys]at hk;let pk:=(o7.pin (kS,seqObj "list" kA e) AP).1
  show XU (CV pk Z ?_);show fF o7 Fa Fk Nn hv Nk hk h
def fD(I:Inv X pins σ H s)(Fa:FpOk X pins H a)(ho:s.C.G a=⇑(seqObj "list" vs.E n))(hv:IntsAre vs ns)(Nk:ns.f<64)
  (turn:∀pl z t s',z∈ns->Inv X (pins++pl) σ H s'->wpAny (model X.prog X.w) A (call f [.int z t]) (λv Sj=>∃t',v=.int (key z) t'/\Inv X (pins++pl) σ H Sj) (λ_ _=>False) s')
  (h:∀s' m out ms,Inv X pins σ H s'->s'.C.G a=⇑(seqObj "list" out m)->IntsAre out.m ms->Rz key ns ms->P (.done<|.ret .none) s'):
  wpAny (model X.prog X.w) A (ksk_tree a f false) P E s:=by
 let Ek:sizeLine=16777216:=PN;let xk:=hv.f
 obtain⟨e1,xj⟩:∃e1,(s.C.update a<|Obj.mapSeq λ_=>(#[]:B3 B1)).G a=⇑(seqObj "list" #[] e1):={_,Dh ho λ_=>#[]};let I1:Inv X pins σ H {s with heap:=s.C.update a<|Obj.mapSeq λ_=>(#[]:B3 B1),toks:=s.toks}:=I.changed Fa λc o hc q=>(YL _ _<|YX hc).l q
 let I2:Inv X pins σ H {s with heap:=(s.C.update a<|Obj.mapSeq λ_=>(#[]:B3 B1)).push (seqObj "tuple" vs.E 0),toks:=s.toks}:=I1.kept λc o q=>Xs _ q;let Vd:((s.C.update a<|Obj.mapSeq λ_=>(#[]:B3 B1)).push (seqObj "tuple" vs.E 0)).G a=⇑(seqObj "list" #[] e1):=Xs _ xj
 show XU (CV ho Z ?_);show XU (Nz ho Z ?_ B<|XC _);show XU (seqEpoch_at xj Z ?_);show XU (wpAny_newTuple ?_ J);show XU (KZ ?_<|XC _);show Ro ?_;let Fk:FpOk X pins H ((s.C.update a<|Obj.mapSeq λ_=>(#[]:B3 B1)).push (seqObj "tuple" vs.E 0)).objs.o:=I2.fpOk (XI _) (I2.hok.fresh<|XI _)
 let Nn:a≠((s.C.update a<|Obj.mapSeq λ_=>(#[]:B3 B1)).push (seqObj "tuple" vs.E 0)).objs.o:=Yl (Yh Vd);let I3:Inv X pins σ H {s with heap:=((s.C.update a<|Obj.mapSeq λ_=>(#[]:B3 B1)).push (seqObj "tuple" vs.E 0)).push (seqObj "list" #[] 0),toks:=s.toks}:=I2.kept λc o q=>Xs _ q
 let I4:=(I3.pin1 Fa (Xs _ Vd) λv z=>by cases z).pin1 (Fk.more (pl:=[(a,seqObj "list" #[] e1)]) λp hp=>by rw[Xn.Y hp];show Nn) (Qd _ Z) λv z=>by cases z
 rw[QP]at I4;show fE I4 Fa Fk Nn hv Nk turn h
def Zn7{tp q:A7}{ot:Obj}{Q:Ae}(I:Inv X pins σ H s)(ht:s.C.G tp=⇑ot)(hc:ot.cls=.type "tuple")(hd:ot.data=.seq vs.E m)(hv:IntsAre vs ns)(Nk:ns.f<64)
  (turn:∀pl z t s',z∈ns->Inv X (pins++pl) σ H s'->wpAny (model X.prog X.w) A.in1.in1 (call ↑q [.int z t]) (λv Sj=>∃t',v=.int (key z) t'/\Inv X (pins++pl) σ H Sj) (λ_ _=>False) s')
  (h:∀s' a m out ms,FpOk X pins H a->Inv X pins σ H s'->s'.C.G a=⇑(seqObj "list" out m)->IntsAre out.m ms->Rz key ns ms->Q ↑a s'):
  wpAny (model X.prog X.w) A (call (.builtin "sorted") [.ref tp] [(Str.H "key",.ref q)]) Q E s:=by
 let Ek:sizeLine=16777216:=PN;let xk:=hv.f
 show call_function_entry_kw kind_sorted plain_sorted entry_sorted (ksk_s1 _ _) ?_;show XU (m:=checkCount "sorted" 1 1 _) (Yg ?_);show XU (ZV6 ht hc hd J ?_);show XU (KZ ?_ B);let hsz:((s.C.push<|seqObj "list" #[] 0).update (~~~s) (Obj.mapSeq (·++vs.E))).objs.o=(~~~s)+1:=by rw[Heap.size_update,size_push']
 let Jb:(((s.C.push<|seqObj "list" #[] 0).update (~~~s) (Obj.mapSeq (·++vs.E))).push (seqObj "list" vs.E 0)).G ((~~~s)+1)=⇑(seqObj "list" vs.E 0):=by rw[<-hsz];show Qd _ rfl
 let keep:∀b o,s.C.G b=⇑o->(((s.C.push<|seqObj "list" #[] 0).update (~~~s) (Obj.mapSeq (·++vs.E))).push (seqObj "list" vs.E 0)).G b=⇑o:=λb o q=>by let Xu:b<(~~~s):=Yh q;show Xs _ ((YL _ _<|Sa Xu).l (Xs _ q))
 rw[hsz];let Fa:FpOk X pins H ((~~~s)+1):=I.fpOk (Tz _) (I.hok.fresh<|Tz _)
 show XU (Ro<|wpAny_call_entry_kw slot_list_sort ⟨_,Jb,Z⟩ entry_list_sort ?body (ksk_l1 _ _));show fD (s:={s with heap:=((s.C.push<|seqObj "list" #[] 0).update (~~~s) (Obj.mapSeq (·++vs.E))).push (seqObj "list" vs.E 0),toks:=s.toks}) (I.kept keep) Fa Jb hv Nk turn λs' m out ms o7 e hi hs=>{_,Z,?_};show Yg {_,Z,h s' _ m out ms Fa o7 e hi hs}
end
def rp(c:A7)(qual:B8):(HO):=.ext λh=>h.CodeRec ↑c qual
def TabH(H:Hp)(Pt:A7)(pos:Pos)(qual:B8):(Prop):=∃ps:B3 B1,H Pt=⇑(.tbl ps)/\TriplesOk ps.m/\(codeAmong pos ps.m=A8\/∃c,codeAmong pos ps.m=some ↑c/\H c=⇑(rp c qual))
def SameX(Pt:A7)(H H':Hp):(Prop):=∀b o,b≠Pt->H b=⇑o->H' b=⇑o
def Zb3{c:A7}(h1 h2:Heap)(r:h1.CodeRec ↑c qual)(k:∀o,h1.G c=⇑o->h2.G c=⇑o):h2.CodeRec ↑c qual:=by let(c2,o,vs,t,e,g,r):=r;cases e;exists c,o,vs,t,Z,k _ g,r
section
variable{X:Cx}{pins:A6 (A7×Obj)}{σ:St}{H:Hp}{s:B5}{c Pt cc:A7}{x:B8}{params:Arguments}{body:B4}{scope:B9}{pos:Pos}{E:Ae}{Q:Ae}
def Inv.builtinsAt(I:Inv X pins σ H s)(hB:X.base.BuiltinsAt X.mg Pt):s.C.BuiltinsAt X.mg Pt:=by let(bm,o,h1,h2,h3,h4,h5,h6):=hB;exists bm,o,h1,h2,h3,h4,I.bk _ _ h5,h6
def fC(I:Inv X pins σ H s)(TH:X.env.code=.ref c)(hC:codeHdIn X.K c Pt=A9)(hB:X.base.BuiltinsAt X.mg Pt)(hT:TabH H Pt pos (X.env.qual++Str.H "<lambda>"))(TM:closureFor scope X.env=pure [(x,cc)])(GK:defaultsOf params X.env=([],[]))(xi:mainGlobals≠Pt)
  (h:∀f c' pm QW s' H',SameX Pt H H'->TabH H' Pt pos (X.env.qual++Str.H "<lambda>")->FpOk X pins H' f->Inv X pins σ H' s'->s'.C.G f=⇑(kla_obj (Str.H "<lambda>") (X.env.qual++Str.H "<lambda>") params body scope [(x,cc)] pm c' QW)->H' c'=⇑(rp c'<|X.env.qual++Str.H "<lambda>")->Q ↑f s'):
  wpAny (model X.prog X.w) X.A (eval (.Lambda params body scope pos) X.env) Q E s:=by
 let(ps,hP,LL,xh):=hT;let fB:s.C.G Pt=⇑(tabObj ps):=I.hok Pt _ hP
 let Nh:s.C.Ns mainGlobals X.mg:=I.mod.glob.keeps I.bk;let hHd:=codeHd_of_K I.kIn hC
 show kla_eval GK ?_;rcases xh with hnf|⟨c',hf,VV⟩
 .show kla_makeFunction TM I.ok.glob Nh TH hHd fB LL hnf xi (I.builtinsAt hB) λc' QW h' tk hx Sg Xu LK htb=>?_;let hPl:Pt<(~~~s):=Yh fB
  let hcn:H c'=A8:=I.hok.fresh Sg;let hcP:c'≠Pt:=Sa (Ye hPl Sg)
  let keep:∀b o,b≠Pt->s.C.G b=⇑o->(h'.push<|kla_obj (Str.H "<lambda>") (X.env.qual++Str.H "<lambda>") params body scope [(x,cc)] ((X.mg "__name__").S .none) c' QW).G b=⇑o:=λb o hb e=>Xs _ (hx b o hb e);let sx:SameX Pt H (upd (upd H Pt<|.tbl<|ps++#[rawInt pos.line,rawInt pos.col,.ref c']) c'<|rp c'<|X.env.qual++Str.H "<lambda>"):=λb o hb e=>by rwa[Za (Ze e hcn),Za hb]
  let tb:TabH (upd (upd H Pt<|.tbl<|ps++#[rawInt pos.line,rawInt pos.col,.ref c']) c'<|rp c'<|X.env.qual++Str.H "<lambda>") Pt pos (X.env.qual++Str.H "<lambda>"):=by let et:(ps++#[rawInt pos.line,rawInt pos.col,Value.ref c']).m=ps.m++[rawInt pos.line,rawInt pos.col,.ref c']:=AP;exists ps++#[rawInt pos.line,rawInt pos.col,.ref c'],by rw[Za (YX hcP),XS],by rw[et];show TriplesOk_snoc _ _ _ _ LL,.inr {c',by rw[et];show codeAmong_snoc _ LL hnf,XS}
  let GJ:∀b,H b=A8->b≠Pt:=λb n z=>J;show h h'.objs.o c' _ QW _ _ sx tb ?_ (I.un {λb o e n _ _=>keep b o (GJ b n) e,λb o e n _ _=>{o.slots,keep b o (GJ b n) e},λb o e n _=>?_,λb o e _=>?_,λb xs e=>?_,λb o u e=>?_,λb qs e=>?_} λb u e=>?_) (Qd _ Z) XS
  .let fw:(~~~s)<=h'.objs.o:=J;show I.fpOk fw ?_;rw[Za (Sa Xu),Za (Sa<|Ye hPl fw)];show I.hok.fresh fw
  .rw[Za (Yl<|Ye (Yh e) Sg),Za (GJ b n)];show n
  .cases hb:b=Pt
   .rw[hb];exists _,Xs _ htb
   .exists o,keep b o hb e
  .show sx b _ (λz=>by ext) e
  .show sx b _ (λz=>by ext) e
  .cases hb:b=Pt
   .subst hb;rw[hP]at e;let rfl:ps=qs:=J;exists #[rawInt pos.line,rawInt pos.col,.ref c'],by rw[Za (YX hcP),XS]
   .exists #[],by rw[sx b _ hb e];simp
  .cases hb:b=c'
   .subst hb;rw[XS]at e;cases e;exists Zb3 _ _ LK λo g=>Xs _ g,?_,Zb3;let(c2,o,_,_,e2,g,_):=LK;cases e2;exists o,Xs _ g
   .rw[Za hb]at e;cases SU:b=Pt
    .subst SU;rw[XS]at e;cases e;show Xs _ htb
    .rw[Za SU]at e;show(I.hok b u e).stay (λd o hd g=>keep d o (λz=>?_) g) (λd g=>sx d _ (λz=>by ext) g) λd xs g=>sx d _ (λz=>J) g;lia
 .show kla_makeFunctionHit TM I.ok.glob Nh TH hHd fB LL hf (I.builtinsAt hB) λQW h' tk hk hsz=>?_;show h h'.objs.o c' _ QW _ H (λ_ _ _ e=>e) {ps,hP,LL,.inr ⟨c',hf,VV⟩} (I.fpOk hsz<|I.hok.fresh hsz) (I.kept λb o e=>Xs _<|hk b o e) (Qd _ Z) VV
end
def fv(K:Ad)(Pt:A7)(TZ:Pos)(qual:B8)(i:A5)(te tb:TE):(TE):=λσ H Q=>te σ H λy H1=>∃p ns vx key,y=.ref p/\SqT K H1 p (ns.Q V.int)/\ns.f<64/\TabH H1 Pt TZ qual/\σ[i]?=⇑(⇑vx)/\
 (∀H2,SameX Pt H1 H2->∀z∈ns,tb [⇑(.int z),⇑vx] H2 λr H3=>r=.int (key z)/\H3=H2)/\
 ∀ms l H2,Rz key ns ms->SameX Pt H1 H2->TabH H2 Pt TZ qual->H2 l=A8->Q ↑l (upd H2 l<|.lst<|ms.Q V.int)
section
variable{X:Cx}{p kp pos TZ:Pos}{e body:B4}{params:Arguments}{scope:B9}{te tb:TE}{v x:B8}{i k:A5}{c Pt cc:A7}
def SqT.samex{K:Ad}{H H2:Hp}{a:A7}{xs:A6 V}{qual:B8}(h:SqT K H a xs)(t:TabH H Pt TZ qual)(sx:SameX Pt H H2):SqT K H2 a xs:=by
 let(ps,hP,_):=t;rcases h with (h|⟨o,h⟩)|h
 .show .inl (.inl<|sx _ _ (λz=>J) h)
 .show .inl (.inr {o,sx _ _ (λz=>by ext) h})
 .show .inr h
def ZB7(he:PE X e te)(hg:Gl X (Str.H "sorted"))(hm:X.mg (Str.H "sorted")=A8)(hr:Room (k+3) X.A)(hex:X.ex=[])(TH:X.env.code=.ref c)(hC:codeHdIn X.K c Pt=A9)(hB:X.base.BuiltinsAt X.mg Pt)(xi:mainGlobals≠Pt)
  (S:LamScope v x scope)(TM:closureFor scope X.env=pure [(x,cc)])(GK:defaultsOf params X.env=([],[]))(Sv:∀c' pm QW u,bindArgs (kla_fn (Str.H "<lambda>") (X.env.qual++Str.H "<lambda>") params body scope [(x,cc)] pm ↑c' QW) {[u],[]}=pure [(v,u)])
  (hi:X.N[i]?=⇑x)(hkx:X.env.kindOf x=some .cell)(Wz:X.env.cells.M x=⇑cc)
  (hb:∀f c' A outer s H,Room k (A.deeper<|envX (X.env.qual++Str.H "<lambda>") scope (~~~s) f ↑c' [(x,cc)])->PE (NU X.prog X.w X.K X.mg X.base [v,x] (X.env.qual++Str.H "<lambda>") scope f ↑c' [(x,cc)] A outer s H) body tb)(hs:starEach [e] X.env=[(false,eval e X.env)]:=by rfl):
  PE X (.Call (.Name (Str.H "sorted") p) [e] [{some<|Str.H "key",.Lambda params body scope TZ,kp}] pos) (fv X.K Pt TZ (X.env.qual++Str.H "<lambda>") i te tb):=by
 intro pins s σ H Q I h;show Nb (PL I hg hm Boot.«sorted» ?_ D D);let ha:PA X [e] (IE te MG):=XZ he XX hs
 show callWith_kw (thn (ha pos pins s σ H (λvs H1=>match vs with
  |[y]=>∃p ns vx key,y=.ref p/\SqT X.K H1 p (ns.Q V.int)/\ns.f<64/\TabH H1 Pt TZ (X.env.qual++Str.H "<lambda>")/\σ[i]?=⇑(⇑vx)/\
   (∀H2,SameX Pt H1 H2->∀z∈ns,tb [⇑(.int z),⇑vx] H2 λr H3=>r=.int (key z)/\H3=H2)/\
   ∀ms l H2,Rz key ns ms->SameX Pt H1 H2->TabH H2 Pt TZ (X.env.qual++Str.H "<lambda>")->H2 l=A8->Q ↑l (upd H2 l<|.lst<|ms.Q V.int)
  |_=>False) I h) λus s1 hh=>?_) (by rw[hs];rfl) (by rw[hs];rfl) Z rfl
 let(vs,H1,I1,r,q):=hh
 match vs,r,q with
 |[],_,q=>ext
 |_::_::_,_,q=>ext
 |[y],r,q=>
  let(p2,ns,vx,key,rfl,hq,Nk,hT,hσ,hk,q):=q;let(u,rfl,ru):=Ve r;let rfl:u=Value.ref p2:=ru;show kws_cons (fC I1 TH hC hB hT TM GK xi λf c' pm QW s2 H2 sx tab F I2 hf VV=>kws_nil ?_);let I3:=I2.pin1 F hf λv z=>by cases z
  let Sh:=SqT.samex hq hT sx;let(XW,rv,(ot,g1,g2,m,g3),hz):=I2.tuple Sh;let hv:=ZF rv
  show Zn7 I3 g1 g2 g3 hv Nk (key:=key) (λpl z t s3 Xh o7=>?_) λs3 a m out ms Fa o7 LJ GO Wo=>?_
  .-- the lambda called
   let yC:s3.C.G f=⇑(kla_obj (Str.H "<lambda>") (X.env.qual++Str.H "<lambda>") params body scope [(x,cc)] pm c' QW):=(o7.pin (f,_)<|Yc _<|Yy _<|Yc _ Yi).1;let(mm,_,ft):=o7.loc;let(ux,rx,xg):=ft i x vx hi hσ (.inr<|.inl hkx);let TV:s3.C.IsCell cc ⇑ux:=by
    rcases xg with ⟨kz,_⟩|⟨_,c2,e2,Vt⟩
    .ext
    .ext
   let LK:s3.C.CodeRec ↑c' (X.env.qual++Str.H "<lambda>"):=(o7.hok c' _ VV).1;let VS:Room (k+1) X.A.in1.in1:=(hr.in1).in1
   show CT (Ny (fJ (u:=.int z t) (vv:=.int z) S VS o7.env0.in1.in1 yC LK (Sv c' pm QW _) TV rx (o7.freeC x cc Wz) ⟨t,Z⟩ (hb f c' _ _ s3 H2<|VS.deeper _)<|hk H2 sx z Xh) λrr s4 hh=>?_);let(u',rfl,ce):=hh;let(v',H',J',kl,e1,e2):=o7.after ce;subst e1 e2;let(t',rfl):=kl;exists t',Z,J'
  .let J0:Inv X pins σ H2 s3:=o7.unpinned;let Fa0:FpOk X pins H2 a:=⟨Fa.1,Fa.2.1,Fa.2.2.1,Fa.2.2.2.1,Fa.2.2.2.2.1,λp hp=>Fa.2.2.2.2.2 p (by
    grind)⟩
   let sV:ms.f=ns.f:=by let(pp,h1,_,rfl):=Wo;rw[Yb,h1.length_eq,MZ]
   exists .ref a,_,J0.adopt hex Fa0 (u:=.lst<|ms.Q V.int) {?_,out.m,m,AX GO,by simpa using LJ},Z,q ms a H2 Wo sx tab Fa.1
   ext
end
def GI(Pt:A7)(H:Hp):(Prop):=H Pt=⇑(.tbl #[])/\∀b,b=Pt\/H b=A8\/∃o xs,H b=⇑(.frz o<|.lst xs)
def ZD9{P:Program}{w:World}{K:Ad}{mg mb:Af}{CX:PB}{k:A5}{fa a Pt c:A7}{fd:B7}{x:B8}{sp:Sp}{s₁:B5}{vs:Ag}{ns:Ac}
  (KX:K.In s₁.C)(Nh:s₁.C.Ns mainGlobals mg)(hb:s₁.C.Ns builtinsNs mb)(kq:∀x:B8,x≠"__name__"->mb x=bootBuiltins x)(fq:s₁.C.NoLimit)(hg:s₁.gens=#[])
  (hT:s₁.C.G Pt=⇑(tabObj #[]))(hC:codeHdIn K c Pt=A9)(fo:K.M Pt=A8)(hbm:∃bm ob,mg (Str.H "__builtins__")=some ↑bm/\bm≠builtinsNs/\s₁.C.G bm=⇑ob/\ob.cls=.type "module"/\ob.dict=⇑builtinsNs/\ob.data=.plain)
  (ha:s₁.C.G a=⇑{cls:=.type "list",data:=.seq vs.E})(hi:IntsAre vs ns)(hl:ns.f<=sizeLine)(hr:Room k callerA)
  (F:∀base:Heap,K.In base->base.Ns mainGlobals mg->base.BuiltinsAt mg Pt->FnOk P w K mg base CX k fa fd [x] sp)(Sv:∀s u,BindsTo s fd {[u],[]} [(x,u)])
  (SN:∀H:Hp,GI Pt H->SqL K H a (ns.Q V.int)->sp [.ref a] H (λv _=>v=.bl true) λ_ _ _=>False)
  (fk:∀H e s',CX [] H s₁ (λ_ _ _=>False) e s'->False):
  codeAny (model P w) callerA (.call ↑fa {[.ref a],[]}) (λr s'=>r=.ok (.ret<|.bool true)/\OldK s₁.C s'.C/\s'.os=s₁.os/\AllBare s'.gens) s₁:=by
 let rv:=ni hi;let fj:=hi.f
 let haP:a≠Pt:=λz=>by rw[z,hT]at ha;cases ha
 let core:∀H:Hp,GI Pt H->SqL K H a (ns.Q V.int)->HOk P w H s₁.C->(∀b,H b≠A8->b=a\/b=Pt)->(H a≠A8->K.M a=A8)->
   codeAny (model P w) callerA (.call ↑fa {[.ref a],[]}) (λr s'=>r=.ok (.ret<|.bool true)/\OldK s₁.C s'.C/\s'.os=s₁.os/\AllBare s'.gens) s₁:=by
  intro H hO hS hok hA hK;let base_of:∀{b:A7}{o:Obj},s₁.C.G b=⇑o->H b=A8->(Up s₁.C H).G b=⇑o:=λe n=>Zad e n
  let free:∀{b:A7}{o:Obj},s₁.C.G b=⇑o->(∀XW n,o.data≠.seq XW n)->(∀vs,o.data≠.fields vs)->H b=A8:=λ{b o} e d1 d2=>by
   cases q:H b with
   |none=>rfl
   |some u=>
    rcases hA b (by rw[q];simp) with e'|e'
    .subst e';rw[ha]at e;cases e;show absurd Z (d1 _ _)
    .subst e';rw[hT]at e;cases e;show absurd Z (d2 _)
  let rm:∀{b:A7}{m:Af},s₁.C.Ns b m->(Up s₁.C H).Ns b m:=λ{b m} ⟨o,es,ep,e,d,r⟩=>{o,es,ep,base_of e (free e (λ_ _ z=>by rw[d]at z;cases z) λ_ z=>by rw[d]at z;cases z),d,r};let hKb:K.In (Up s₁.C H):=λb o e=>base_of (KX b o e) (by
   cases q:H b with
   |none=>rfl
   |some u=>
    rcases hA b (by rw[q];simp) with e'|e'
    .subst e';rw[hK (by rw[q];simp)]at e;cases e
    .subst e';rw[fo]at e;cases e)
  let hM:Mod K mg (Up s₁.C H):={hKb,rm Nh,{mb,rm hb,kq},by let(mc,h1,h2):=fq;exists mc,rm h1,h2};let hB:(Up s₁.C H).BuiltinsAt mg Pt:=by
   let(bm,ob,b1,b2,b3,b4,b5,b6):=hbm;exists bm,ob,b1,b2,λz=>?_,λz=>?_,base_of b3 (free b3 (λ_ _ z=>by rw[b6]at z;cases z) λ_ z=>by rw[b6]at z;cases z),b4,b5,b6
   .let⟨o,es,ep,e,d,_⟩:=Nh;rw[z,e]at b3;cases b3;rw[d]at b6;cases b6
   .rw[z,hT]at b3;cases b3;cases b4
  let e0:Env0 P w K mg (Up s₁.C H) callerA [] s₁ H:={Z,hM,λb o e=>Zae e,Nat.le_of_eq<|ZK9 _ _,trivial,λb hb=>absurd (show b∈([]:A6 A7) from hb) AP,hok,.of_eq hg};show Ny ((F _ hKb (rm Nh) hB).run callerA [] s₁ H {[.ref a],[]} [.ref a] [.ref a] _ _ hr e0 (Sv s₁<|.ref a) (.cons Z .nil) (SN H hO hS)) λr s' h=>?_;cases r with
  |error e=>show(fk H e s' h).elim
  |ok fl=>
   cases fl with
   |next=>show False.elim h
   |brk=>show False.elim h
   |cont=>show False.elim h
   |ret u=>
    let(v,H',os,bare,un,xf,r',q):=h;let q':v=.bl true:=q
    subst q';let rfl:u=Value.bool true:=r';let(more,eP):=un.tbls Pt #[] hO.1;let hP':s'.C.G Pt=⇑{cls:=.none,data:=.fields (#[]++more)}:=xf Pt _ eP
    let kept:∀b o,b≠Pt->s₁.C.G b=⇑o->s'.C.G b=⇑o:=λb o Vx e=>by
     cases q:H b with
     |none=>show un.keep b o e q (by intro z;show absurd (show b∈([]:A6 A7) from z) AP) AP
     |some u=>
      rcases hO.2 b with z|z|⟨ob,xs,z⟩
      .show absurd z Vx
      .rw[q]at z;cases z
      .let z2:=un.frzs b ob _ z;let(e1,_):=hok b _ z;let(e2,_):=xf b _ z2;rw[e]at e1;cases e1;show e2
    exists Z,{λb o e=>?_,λb o e=>?_},os,bare
    .cases Vx:b=Pt
     .subst Vx;rw[hT]at e;let rfl:=Yf e;let(oc,vsc,_,_,_,_,_,_,_,c1,c2,c3,c4,_):=codeHd_of_K KX hC;show .inr (.inl {⟨c,oc,vsc,c1,c2,c3,c4⟩,Z,#[],more,Z,hP'})
     .show .inl (kept b o Vx e)
    .cases Vx:b=Pt
     .rw[Vx];exists _,hP'
     .exists o,kept b o Vx e
 cases hk:K.M a with
 |some o=>
  let e:=KX a o hk;rw[ha]at e;cases e;show core (λb=>if b=Pt then some (.tbl #[]) else none) {Yk Z,λb=>?_} (.inr {_,vs.E,_,hk,Z,Z,Z,by rw[YK,fj];show hl,by simpa using rv}) (λb u z=>?_) (λb z=>?_) λz=>absurd (Yj haP) z
  .cases Vx:b=Pt
   .show .inl Vx
   .show .inr (.inl<|Yj Vx)
  .cases Vx:b=Pt
   .let z':=(Yk Vx).symm.l z;cases z';subst Vx;show hT
   .let z':=(Yj Vx).symm.l z;cases z'
  .cases Vx:b=Pt
   .show .inr Vx
   .show absurd (Yj Vx) z
 |none=>
  show core (λb=>if b=Pt then some (.tbl #[]) else if b=a then some (.frz {cls:=.type "list",data:=.seq vs.E} (.lst<|ns.Q V.int)) else none) {Yk Z,λb=>?_} (.inl<|.inr {{cls:=.type "list",data:=.seq vs.E},(Yj haP).l (Yk Z)}) (λb u z=>?_) (λb z=>?_) λ_=>hk
  .cases Vx:b=Pt
   .show .inl Vx
   .cases hb:b=a
    .show .inr (.inr {_,_,(Yj Vx).l (Yk hb)})
    .show .inr (.inl<|(Yj Vx).l (Yj hb))
  .cases Vx:b=Pt
   .let z':=(Yk Vx).symm.l z;cases z';subst Vx;show hT
   .cases hb:b=a
    .let z':=((Yj Vx).l (Yk hb)).symm.l z;cases z';subst hb;exists ha,by rw[Yb];show hl,vs,_,rv,ha
    .let z':=((Yj Vx).l (Yj hb)).symm.l z;cases z'
  .cases Vx:b=Pt
   .show .inr Vx
   .cases hb:b=a
    .show .inl hb
    .show absurd ((Yj Vx).l (Yj hb)) z
def NT{l:PySem.W.OpenLaw}{n k:A5}{q:Program}{loose:A6 B8}{XP:Af->Heap->Prop}{YP:World->Heap->Prop}{d:DefRec}{K:Params->Ad}{CX:PB}{sp:Ad->Sp}{x:B8}{c Pt:A7}
  (hn:l.most=⇑n)(PD:n<=sizeLine)(nq:d.params.defaults=[])(hr:Room k callerA)
  (hY:∀(w:World)(h:Heap),YP w h->(K w.params).In h/\h.G Pt=⇑(tabObj #[]))(hC:∀w:World,codeHdIn (K w.params) c Pt=A9)(fo:∀w:World,(K w.params).M Pt=A8)
  (F:∀(w:World)(mg:Af)(fa:A7)(h:Heap),(K w.params).In h->h.Ns mainGlobals mg->mg d.name=some ↑fa->
   ∃fd:B7,(∀(s:B5)(u:B1),BindsTo s fd {[u],[]} [(x,u)])/\
    ∀base:Heap,(K w.params).In base->base.Ns mainGlobals mg->base.BuiltinsAt mg Pt->FnOk l.prog w (K w.params) mg base CX k fa fd [x] (sp<|K w.params))
  (SN:∀(w:World)(H:Hp)(a:A7)(ns:Ac),ns.f<=n->GI Pt H->SqL (K w.params) H a (ns.Q V.int)->sp (K w.params) [.ref a] H (λv _=>v=.bl true) λ_ _ _=>False)
  (fk:∀(H:Hp)(s:B5)(e:B1)(s':B5),CX [] H s (λ_ _ _=>False) e s'->False):
  PySem.W.WalkO q loose XP YP l.row.toRowW d [] (λf vs=>PySem.call f vs):=by show Att.SK hn nq λw s₀ s₁ mg mb fa o pm cd doc a vs ns G Y ho hd Sl BH Iv hints hlen hg=>?_;let(KX,hT):=hY w _ Y;let(fd,hb,hF):=F w mg fa _ KX G.T.g BH;show ZD9 KX G.T.g G.T.b G.T.builtins G.T.nolimit hg hT (hC w) (fo w) G.T.bmain Iv hints (Ym hlen PD) hr hF hb (λH hO hS=>SN w H a ns hlen hO hS) λH e s'=>fk H s₁ e s'
def Te(K:Ad)(mg:Af)(base:Heap)(fd:B7)(Pt:A7):(Prop):=∃c,fd.code=.ref c/\codeHdIn K c Pt=A9/\base.BuiltinsAt mg Pt/\mainGlobals≠Pt
def LamScope.of(h1:sc.kind=.function)(h2:sc.isCoroutine=B0)(h3:sc.isGenerator=B0)(h4:sc.names=[(v,.local),(x,.free)]\/sc.names=[(x,.free),(v,.local)])(hn:v≠x):LamScope v x sc:=by
 exists h1,h2,h3,λy hy=>?_,?_,?_,λy hy=>?_,hn
 .grind
 .grind
 .grind
 grind
section
variable{P:Program}{w:World}{K:Ad}{mg:Af}{base:Heap}
def Fun.okL{x qual:B8}{st:B6}{f c:A7}{fd:B7}{N ps:A6 B8}{k:A5}{sp:Sp}(F:Fun K x qual st f fd)(hc:fd.code=.ref c)(S:FnScope N ps (Zc st))(len:∀vs H Q E,sp vs H Q E->vs.f=ps.f)
  (VJ:∀A outer s H vs Q E,Room k (A.deeper<|envOfC qual (Zc st) (~~~s) f<|.ref c)->sp vs H Q E->
   ∃t,PSs (Tu Xx P w K mg base N qual (Zc st) f ↑c A outer s H E).nox (Rh st) t/\t {nx:=λ_ H'=>Q .non H',rt:=Q} (start N vs) H):FnOk P w K mg base Xx (k+1) f fd ps sp:=by let(oc,od,kV,doc,pm,an,XG,ct,UA,rfl,lk,Sl):=F.ex;let rfl:XG=.ref c:=hc;show KJ lk Sl S len λA outer s H vs Q E hr SN=>?_;let(t,h,q):=VJ A outer s H vs Q E hr SN;exists t,h.nox,q
end
end L2
namespace My
open PySem L2
def FXL(K:Ad)(mg:Af)(x qual:B8)(st:B6)(Pt:A7):(Prop):=∃f fd c,mg x=some ↑f/\Fun K x qual st f fd/\fd.code=.ref c/\PySem.W.codeHdIn K c Pt=A9
def GH{K:Ad}{h:Heap}{mg:Af}{x:B8}{st:B6}{f cA Pt:A7}{oc:B1}{od an:Option A7}{UA:B3 (Option B1)}{kV doc pm ct:B1}(X:K.In h)(G:h.Ns mainGlobals mg)
  (a:PySem.W.nsIn K mainGlobals x=⇑(some<|.ref f))(l:K.M f=⇑{oc,od,.func<|PySem.W.fnOf x x (Tt st) (Rh st) (Zc st) .none kV doc pm an ↑cA ct,UA})(c:PySem.W.codeIn K ↑cA x=A9)(k:PySem.W.keepIn K ↑f=A9)(z:PySem.W.codeHdIn K cA Pt=A9):FXL K mg x x st Pt:=
 {f,_,cA,Jl X G a,BF l c k,Z,z}
end My
namespace L2
open PySem PySem.Spec PyProof.Rows PySem.MeetsSeq
def fi(l:A7)(xs:B3 B1)(n:A5)(v:B1)(g:B1->B2)(j:A5)(hj:j<xs.o)(yes:g xs[j]=A9)(hz:xs.o<=sizeLine):∀k i,j-i=k->i<=j->(∀m (hm:m<xs.o),i<=m->m<j->g xs[m]=B0)->
  Meets (Builtin.«list.remove.loop» {[.ref l,v,rawInt i],[]}) (λA R s=>s.C.G l=⇑{cls:=.type "list",dict:=A8,data:=.seq xs n,slots:=#[]}/\(∀y,y∈xs->SeqAt.EqAt A.in1 s y v (g y))/\R (.ok<|.ret .none) {s with heap:=s.C.update l (Obj.mapSeq λys=>ys.eraseIdxIfInBounds j)}):=by
 intro k
 induction k with
 |zero=>
  intro i e1 e2 no prog w A R s h;let(ho,he,h):=h;let rfl:i=j:=B
  wp_walk using (Lc ho)
  let at_:xs[((i:A5):A0).j]?=⇑xs[i]:=by simp[hj]
  rw[at_];show XU (he _ (Array.getElem_mem hj) prog w _ _ ?_);let Po:(xs.eraseIdxIfInBounds i).o<=sizeLine+1:=Ym (size_erased xs _) (Nat.le_succ_of_le hz)
  wp_walk using (uC ho Z (hz:=hz) (_hz':=Po)),(Lc ho)
  ext
 |succ k ih=>
  intro i e1 e2 no prog w A R s h;let(ho,he,h):=h;let lt:i<xs.o:=J
  wp_walk using (Lc ho)
  let at_:xs[((i:A5):A0).j]?=⇑xs[i]:=by simp[lt]
  rw[at_];show XU (he _ (Array.getElem_mem lt) prog w _ _ ?_);rw[no i lt (XI _) B]
  wp_walk
  exists MW plain_remove_loop _,Sn entry_remove_loop ?_;show ih (i+1) J B (λm hm a b=>no m hm J b) prog w A R _ ⟨ho,he,h⟩
def Zk9(l:A7)(xs:B3 B1)(n:A5)(v:B1)(g:B1->B2)(j:A5)(hj:j<xs.o)(yes:g xs[j]=A9)(no:∀m (hm:m<xs.o),m<j->g xs[m]=B0)(hz:xs.o<=sizeLine):
  Meets (Builtin.«list.remove» {[.ref l,v],[]}) (λA R s=>s.C.G l=⇑{cls:=.type "list",dict:=A8,data:=.seq xs n,slots:=#[]}/\(∀y,y∈xs->SeqAt.EqAt A.in1 s y v (g y))/\R (.ok<|.ret .none) {s with heap:=s.C.update l (Obj.mapSeq λys=>ys.eraseIdxIfInBounds j)}):=by
 intro prog w A R s h;let(ho,he,h):=h
 wp_walk using (Lc ho)
 exists MW plain_remove_loop _,Sn entry_remove_loop ?_;show fi l xs n v g j hj yes hz _ 0 Z (XC _) (λm hm _ b=>no m hm b) prog w A R _ ⟨ho,he,h⟩
section
variable{X:Cx}
def fh(K:Ad):(V->A6 V->Hp->VK->Prop):=λx vs H Q=>∃(n:A5)(l:A7)(xs:A6 V)(y:V)(e:A7->B2)(j:A5)(a:A7),x=.ref l/\vs=[y]/\H l=⇑(.lst xs)/\n<=6/\(∀v∈xs,∃a,v=.ref a/\EqD K H n v y (e a))/\xs[j]?=some ↑a/\e a=A9/\(∀m b,m<j->xs[m]?=some ↑b->e b=B0)/\Q .non (upd H l<|.lst<|xs.eraseIdx j)
def Vals.erase(r:Vals xs us)(j:A5):Vals (xs.eraseIdx j) (us.eraseIdx j):=by rw[Dg,Dg];show(r.R _).append (r.drop _)
def ZL7(K:Ad)(hu:X.A.units+8<cLine)(hk:X.K=K:=by rfl):Nu X "list.remove" (fh K):=by
 subst hk;intro pins s σ H x vs v us Q I rx rv h;let(n,l,xs,y,e,j,a,rfl,rfl,hH,hn,he,hj,hy,Ue,q):=h;cases rx;let(u,rfl,ru):=rv.one;let(z,XW,m,r,hl,ho):=I.lstM hH;let Pu:j<xs.f:=(Xr.Y hj).1
 let at_:∀(i:A5)(hi:i<XW.E.o),∃b,xs[i]?=some ↑b/\XW.E[i]=.ref b:=λi hi=>by
  let Wq:i<XW.f:=by simpa using hi
  let(w,ew,MD):=r.at Wq;let(b,rfl,_):=he w (Xo ew);let e3:XW[i]=Value.ref b:=MD
  exists b,ew,by simpa using e3
 let hjs:j<XW.E.o:=by rw[YK];ext
 show Nw F.slot_list_remove {_,ho,Z} F.entry_list_remove (F.args_list_remove_2 _ _) (Zk9 l XW.E m u (λw=>match w with | .ref b=>e b|_=>false) j hjs ?_ ?_<|by ext) ⟨ho,λw hw=>?_,?_⟩
 .grind
 .intro i hi WH;let(b,e1,e2):=at_ i hi;rw[e2];show Ue i b WH e1
 .show AQ I J ru r he w (by simpa using hw)
 .exists .non,_,I.lset (its':=XW.eraseIdx j) hH ho ?_ (r.erase j) ?_,Z,q
  .ext
  grind
end
end L2
namespace My
open PySem L2
def Td(n:A0)(ps:Aa)(I O W:Ac):(Prop):=Zj n ps W/\(∀z∈I,z∈W)/\∀z∈O,z∉W
def pl(ls T U:Ac):(Prop):=HT.Vv (XQ ls T,T) (XQ ls U,U)=A9
def Tc:pl ls T U↔XQ ls T<XQ ls U\/(XQ ls T=XQ ls U/\HT.lexLt T U=A9):=HT.We
def pl.trans{ls T U W:Ac}(h1:pl ls T U)(h2:pl ls U W):pl ls T W:=HT.Vm h1 h2
def fg:¬pl ls T T:=λh=>by
 have:=HT.VR (XQ ls T,T)
 unfold pl at h;lia
def NS(ls:Ac)(m:A5)(os:Ac):(Prop):=os.Perm (Wx m)/\os.U λx y=>Xw ls x<Xw ls y\/(Xw ls x=Xw ls y/\x<y)
def Zh7(g:Zz n ps)(hT:Zj n ps T)(hW:Zj n ps W)(h:∀z∈T,z∈W):T=W:=
 sH (Zi7 hT) (Zi7 hW) λz=>(Zg7 g hT hW h).mem_iff
section
variable{n:A0}{ps:Aa}{ls os I O ms:Ac}(g:Zz n ps)(ho:NS ls ps.f os)
include g ho
def xc{z:A0}:z∈os↔0<=z/\z<ps⁻¹:=by rw[ho.1.mem_iff,Xy]
def rj(hI:∀z∈I,0<=z/\z<ps⁻¹):∀z∈I++os.filter λz=>decide (z∉O),0<=z/\z<ps⁻¹:=λz hz=>by
 rcases Xi.Y hz with hz|hz
 .show hI z hz
 .show(xc g ho).Y (Yq.Y hz).1
def ff(hW:Td n ps I O W):∀z∈W,z∈I++os.filter λz=>decide (z∉O):=λz hz=>
 Yc _ (Yq.X {(xc g ho).X (hW.1.1.all z hz),YU λh=>hW.2.2 z h hz})
def xb(hI:∀z∈I,0<=z/\z<ps⁻¹)(hn:I.Nodup)(h:¬((Xb n.j ps (I++os.filter λz=>decide (z∉O))).R I.f=I/\¬((Xb n.j ps (I++os.filter λz=>decide (z∉O))).f:A0)<n-1))(W:Ac):¬Td n ps I O W:=λhW=>
 h (ko g hW.1 hn hW.2.1 (ff g ho hW)<|rj g ho hI)
def xa(hI:∀z∈I,0<=z/\z<ps⁻¹)(LX:∀z∈I,z∉O)(h1:(Xb n.j ps (I++os.filter λz=>decide (z∉O))).R I.f=I)(h2:¬((Xb n.j ps (I++os.filter λz=>decide (z∉O))).f:A0)<n-1)
  (hp:ms.Perm (Xb n.j ps<|I++os.filter λz=>decide<|z∉O))(hs:ms.U (·<=·)):Td n ps I O ms/\∀W,Td n ps I O W->W=ms\/pl ls ms W:=by
 let hb:=rj (O:=O) g ho hI;let hT:=ZS6 g hb h2 hp hs
 let VP:∀z∈ms,z∈I++os.filter λz=>decide (z∉O):=λz hz=>(AI _ _ _).subset (hp.mem_iff.Y hz);let hIm:∀z∈I,z∈ms:=λz hz=>hp.mem_iff.X (Pd<|h1.symm▸hz)
 let hOm:∀z∈O,z∉ms:=λz hz hm=>by grind
 let before:∀z y,z∉I->y∉ms->y∉O->exg n ps ms z y->Xw ls z<Xw ls y\/(Xw ls z=Xw ls y/\z<y):=λz y wZ GG hyO hx=>by
  let(hzm,_,y0,y1,_):=(sO g hT).Y hx;let hyd:y∈os.filter λz=>decide (z∉O):=Yq.X {(xc g ho).X ⟨y0,y1⟩,YU hyO}
  let(as,bs,ed):=List.append_of_mem hyd;let Uz:∀z∈I++as,0<=z/\z<ps⁻¹:=λz hz=>hb z ((Xi.Y hz).elim (λh=>Yy _ h) λh=>Yc _ B)
  let hyG:y∉Xb n.j ps ((I++as)++y::bs):=by rw[QP,<-ed];show λh=>GG (hp.mem_iff.X h)
  let c:=kC g Uz y0 y1 hyG;let Po:z∈Xb n.j ps (I++as):=Yr λUe=>(Ou g hT y0 y1).Y hx.2.2 (c.mono (ZG λx hxx=>WZ.X ⟨hp.mem_iff.X (by
   have:=kB (bs:=y::bs) hxx
   rwa[QP,<-ed]at this),λe=>Ue<|by ext⟩))
  let hza:z∈as:=(Xi.Y<|(AI _ _ _).subset Po).resolve_left wZ;let pw:=ho.2.sublist (MQ (p:=λz=>decide<|z∉O))
  rw[ed]at pw;show(YI.Y pw).2.2 z hza y Yi
 exists ⟨hT,hIm,hOm⟩,?_;let main:∀k W,Td n ps I O W->(W.filter λz=>decide<|z∉ms).f=k->W=ms\/pl ls ms W:=by
  intro k
  induction k with
  |zero=>
   intro W hW hk;let Qy:∀z∈W,z∈ms:=λz hz=>Yr λhn=>by
    ext
   show .inl (Zh7 g hW.1 hT Qy)
  |succ k ih=>
   intro W hW hk;obtain⟨y,hy⟩:∃y,y∈W.filter λz=>decide (z∉ms):=List.exists_mem_of_length_pos (by ext);let(Hy,GG):=Yq.Y hy;let GG:=YJ GG
   let(z,e1,e2):=Zl4 g hW.1 hT Hy GG;let sG:z∉W:=((sO g hW.1).Y e1).2.1
   let hzm:z∈ms:=e2.1;let RD:=before z y (λh=>sG<|hW.2.1 z h) GG (λh=>hW.2.2 y h Hy) e2
   let(M,Nj,Eh):=kD (wo W y++[z]);let tM:=lN g hW.1 e1 Nj Eh
   let sM:=gJ (ls:=ls) hW.1.1.nodup Hy Nj;let mem:∀x,x∈M↔(x∈W/\x≠y)\/x=z:=λx=>lK g hW.1 e1 Nj Eh
   let cM:Td n ps I O M:=⟨tM,λx hx=>(mem x).X (.inl {hW.2.1 x hx,λe=>GG<|e▸hIm x hx}),λx hx h=>by
    rcases(mem x).Y h with h|h
    .show hW.2.2 x hx h.1
    ext⟩
   let lM:pl ls M W:=by
    rw[Tc];rcases RD with h|⟨h,h'⟩
    .lia
    .show .inr {by ext,(rQ (XY.Y tM.1).2 (XY.Y hW.1.1).2 (by have:=tM.2.1;have:=hW.1.2.1;lia)).X ⟨z,(mem z).X (.inr Z),sG,λs hs=>?_⟩};rw[mem];lia
   let hk2:(M.filter λz=>decide<|z∉ms).f=k:=by
    let hx:∀x,x∈y::(M.filter λz=>decide<|z∉ms)↔x∈W.filter λz=>decide (z∉ms):=λx=>by rw[Yu,Yq,Yq,mem];lia
    let nd:(y::(M.filter λz=>decide<|z∉ms)).Nodup:=Rp.X ⟨λh=>by
     grind,tM.1.nodup.filter _⟩
    let l1:=Hz nd λx h=>(hx x).Y h;let l2:=Hz (hW.1.1.nodup.filter λz=>decide<|z∉ms) λx h=>(hx x).X h
    rw[YM]at l1 l2;lia
   rcases ih M cM hk2 with q|q
   .lia
   .show .inr (q.l lM)
 show λW hW=>main _ W hW rfl
end
structure Ent where
 T:Ac
 I:Ac
 O:Ac
deriving DecidableEq
def Ql(n:A0)(ps:Aa)(E:Ent)(W:Ac):(Prop):=Td n ps E.I E.O W
structure EOk(n:A0)(ps:Aa)(ls:Ac)(E:Ent):Prop where
 own:Ql n ps E E.T
 min:∀W,Ql n ps E W->W=E.T\/pl ls E.T W
 iN:E.I.Nodup
 oN:E.O.Nodup
 oR:∀z∈E.O,0<=z/\z<ps⁻¹
def Dsj(n:A0)(ps:Aa)(E F:Ent):(Prop):=∀W,Ql n ps E W->¬Ql n ps F W
def Dsj.symm(h:Dsj n ps E F):Dsj n ps F E:=λW a b=>h W b a
def EOk.iL(h:EOk n ps ls E):E.I.f<=E.T.f:=Hz h.iN h.own.2.1
def EOk.oL(h:EOk n ps ls E):E.O.f<=ps.f:=by
 have:=Hz (m:=Wx ps.f) h.oN λz hz=>Xy.X (h.oR z hz)
 rwa[ZW]at this
structure FB(n:A0)(ps:Aa)(ls:Ac)(E:Ent)(l:Ac)(Es:A6 Ent):Prop where
 ok:∀F∈Es,EOk n ps ls F
 sub:∀F∈Es,∀W,Ql n ps F W->Ql n ps E W
 cov:∀W,Ql n ps E W->((∃t∈l,t∉W)↔∃F∈Es,Ql n ps F W)
 dsj:Es.U (Dsj n ps)
section
variable{n:A0}{ps:Aa}{ls os:Ac}{E:Ent}{l:Ac}{Es:A6 Ent}{t:A0}
def FB.nil:FB n ps ls E [] []:={λ_ h=>(by cases h),λ_ h=>(by cases h),λ_ _=>{λzz=>by let(_,h,_):=zz;show(by cases h),λzz=>by let(_,h,_):=zz;show(by cases h)},.nil}
def FB.skip(h:FB n ps ls E l Es)(ht:t∈E.I):FB n ps ls E (l++[t]) Es:=⟨h.ok,h.sub,λW hW=>(by
 rw[<-h.cov W hW];constructor
 .rintro⟨z,hz,hn⟩;rcases Xi.Y hz with hz|hz
  .exists z,hz,hn
  .rw[Xn.Y hz]at hn;show absurd (hW.2.1 t ht) hn
 grind),h.dsj⟩
def Xc(E:Ent)(l:Ac):(Ac):=E.I++l.filter λz=>decide (z∉E.I)
def WJ{z:A0}:z∈Xc E l↔z∈E.I\/z∈l:=by unfold Xc;grind
def Wf:Td n ps (Xc E l) (E.O++[t]) W↔Ql n ps E W/\(∀z∈l,z∈W)/\t∉W:=by
 constructor
 .rintro⟨h1,h2,h3⟩;exists {h1,λz hz=>h2 z<|WJ.X<|.inl hz,λz hz=>h3 z<|Yy _ hz},λz hz=>h2 z<|WJ.X<|.inr hz,h3 t<|Yc _<|Xn.X Z
 .rintro⟨⟨h1,h2,h3⟩,h4,h5⟩;exists h1,λz hz=>(WJ.Y hz).elim (h2 z) (h4 z),λz hz=>?_;grind
def FB.none(h:FB n ps ls E l Es)(Ue:∀W,¬Td n ps (Xc E l) (E.O++[t]) W):FB n ps ls E (l++[t]) Es:=⟨h.ok,h.sub,λW hW=>(by
 rw[<-h.cov W hW];constructor
 .rintro⟨z,hz,hn⟩;show Yr λno=>Ue W (Wf.X {hW,λy hy=>Yr λq=>no ⟨y,hy,q⟩,?_});grind
 grind),h.dsj⟩
def FB.more{ms:Ac}(h:FB n ps ls E l Es)(hF:EOk n ps ls {ms,Xc E l,E.O++[t]}):FB n ps ls E (l++[t]) (Es++[{ms,Xc E l,E.O++[t]}]) where
 ok:=λF Qk=>by
  rcases Xi.Y Qk with q|q
  .show h.ok F q
  ext
 sub:=λF Qk W hW=>by
  rcases Xi.Y Qk with q|q
  .show h.sub F q W hW
  .rw[Xn.Y q]at hW;show(Wf.Y hW).1
 cov:=λW hW=>by
  constructor
  .rintro⟨z,hz,hn⟩;cases c:∃y∈l,y∉W
   .let⟨F,hF1,hF2⟩:=(h.cov W hW).Y c;grind
   .exists _,Yc _<|Xn.X Z,Wf.X {hW,λy hy=>Yr λq=>c ⟨y,hy,q⟩,?_};grind
  .rintro⟨F,Qk,fe⟩;rcases Xi.Y Qk with q|q
   .let⟨z,hz,hn⟩:=(h.cov W hW).X ⟨F,q,fe⟩;grind
   .rw[Xn.Y q]at fe;exists t,Yc _<|Xn.X Z,(Wf.Y fe).2.2
 dsj:=YI.X {h.dsj,UQ _ _,λG hG F Qk W a b=>by rw[Xn.Y Qk]at b;let(b1,b2,_):=Wf.Y b;let(z,hz,hn):=(h.cov W b1).X ⟨G,hG,a⟩;show hn<|b2 z hz}
def FB.all(g:Zz n ps)(hE:EOk n ps ls E)(h:FB n ps ls E E.T Es)(W:Ac)(hW:Ql n ps E W):W≠E.T↔∃F∈Es,Ql n ps F W:=by
 rw[<-h.cov W hW];constructor
 .intro hn;show Yr λno=>hn (Zh7 g hE.own.1 hW.1 λz hz=>Yr λq=>no ⟨z,hz,q⟩).symm
 lia
def wY{ms:Ac}(g:Zz n ps)(ho:NS ls ps.f os)(hE:EOk n ps ls E)(hl:l.Nodup)(hlT:∀z∈l,z∈E.T)(ht:t∈E.T)(hti:t∉Xc E l)
  (h1:(Xb n.j ps<|Xc E l++os.filter λz=>decide<|z∉E.O++[t]).R (Xc E l).f=Xc E l)(h2:¬((Xb n.j ps<|Xc E l++os.filter λz=>decide<|z∉E.O++[t]).f:A0)<n-1)
  (hp:ms.Perm (Xb n.j ps<|Xc E l++os.filter λz=>decide<|z∉E.O++[t]))(hs:ms.U (·<=·)):EOk n ps ls {ms,Xc E l,E.O++[t]}:=by
 let VP:∀z∈Xc E l,z∈E.T:=λz hz=>(WJ.Y hz).elim (hE.own.2.1 z) (hlT z);let(c1,c2):=xa g ho (λz hz=>hE.own.1.1.all z<|VP z hz) (λz hz hO=>by
  rcases Xi.Y hO with q|q
  .show hE.own.2.2 z q (VP z hz)
  grind) h1 h2 hp hs
 exists c1,c2,?_,?_,λz hz=>?_
 .show Pb.X {hE.iN,hl.filter _,λa ha b hb e=>YJ (Yq.Y hb).2 (e▸ha)}
 .show Pb.X {hE.oN,UQ _ _,λa ha b hb e=>hE.own.2.2 a ha<|by ext}
 .rcases Xi.Y hz with q|q
  .show hE.oR z q
  .rw[Xn.Y q];show hE.own.1.1.all t ht
end
structure RI(n:A0)(ps:Aa)(ls:Ac)(L:Ab)(Es:A6 Ent):Prop where
 tr:∀T∈L,Zj n ps T
 asc:L.U (pl ls)
 ok:∀E∈Es,EOk n ps ls E
 cov:∀W,Zj n ps W->W∈L\/∃E∈Es,Ql n ps E W
 beh:∀E∈Es,∀W,Ql n ps E W->∀T∈L,pl ls T W
 dsj:Es.U (Dsj n ps)
def fc:∀a b:Ac,a.f=b.f->a≠b->HT.lexLt a b=A9\/HT.lexLt b a=A9
 |[],[],_,h=>absurd Z h
 |[],_::_,h,_=>by cases h
 |_::_,[],h,_=>by cases h
 |x::a,y::b,hl,h=>by
  rw[HT.Xz,HT.Xz];cases c:x=y
  .rw[Yk c,Yk c.symm];show fc a b (by simpa using hl) λe=>h (by rw[c,e])
  lia
def wX(hT:Zj n ps T)(hU:Zj n ps U)(h:T≠U):pl ls T U\/pl ls U T:=by
 rw[Tc,Tc];rcases uN (XQ ls T) (XQ ls U) with c|c|c
 .show .inl (.inl c)
 .rcases fc T U (by have:=hT.2.1;have:=hU.2.1;lia) h with q|q
  .show .inl (.inr ⟨c,q⟩)
  .show .inr (.inr ⟨c.symm,q⟩)
 .show .inr (.inl c)
section
variable{n:A0}{ps:Aa}{ls:Ac}{L:Ab}{Es Fs:A6 Ent}
def RI.apart(h:RI n ps ls L Es){i j:A5}{E F:Ent}(hE:Es[i]?=⇑E)(hF:Es[j]?=⇑F)(XH:i≠j):Dsj n ps E F:=by
 let(hi,ei):=Xr.Y hE;let(hj,ej):=Xr.Y hF;let pw:=YQ.Y h.dsj
 cases c:i<j
 .have:=pw i j hi hj c
  rwa[ei,ej]at this
 .have:=pw j i hj hi J
  rw[ei,ej]at this;show this.symm
def RI.unlike(h:RI n ps ls L Es){i j:A5}{E F:Ent}(hE:Es[i]?=⇑E)(hF:Es[j]?=⇑F)(XH:i≠j):E.T≠F.T:=λe=>
 h.apart hE hF XH E.T (h.ok E<|Xo hE).own (e▸(h.ok F<|Xo hF).own)
def RI.step(g:Zz n ps)(h:RI n ps ls L Es){j:A5}{E:Ent}(hE:Es[j]?=⇑E)(hm:∀F∈Es,¬pl ls F.T E.T)(hF:FB n ps ls E E.T Fs):RI n ps ls (L++[E.T]) (Es.eraseIdx j++Fs):=by
 let GF:=h.ok E (Xo hE);let er:∀F∈Es.eraseIdx j,∃i,i≠j/\Es[i]?=⇑F:=λF hF=>by let(i,hi,e):=Df.Y hF;exists i,hi,e
 let all:=hF.all g GF;exists λT hT=>?_,?_,λF Qk=>?_,λW hW=>?_,λF Qk W hW T hT=>?_,?_
 .rcases Xi.Y hT with q|q
  .show h.tr T q
  .rw[Xn.Y q];show GF.own.1
 .show YI.X {h.asc,UQ _ _,λT hT U hU=>?_};rw[Xn.Y hU];show h.beh E (Xo hE) E.T GF.own T hT
 .rcases Xi.Y Qk with q|q
  .let⟨i,_,e⟩:=er F q;show h.ok F (Xo e)
  .show hF.ok F q
 .rcases h.cov W hW with q|⟨F,q1,q2⟩
  .show .inl (Yy _ q)
  .let⟨i,hi⟩:=YA q1;cases c:i=j
   .grind
   .show .inr {F,Yy _<|Df.X ⟨i,c,hi⟩,q2}
 .rcases Xi.Y Qk with q|q
  .let⟨i,hi,e⟩:=er F q;let okF:=h.ok F (Xo e)
   rcases Xi.Y hT with qT|qT
   .show h.beh F (Xo e) W hW T qT
   .rw[Xn.Y qT];let less:=(wX (ls:=ls) okF.own.1 GF.own.1<|h.unlike e hE hi).resolve_left (hm F<|Xo e)
    rcases okF.min W hW with c|c
    .lia
    .show less.l c
  .let fb:=hF.sub F q W hW;rcases Xi.Y hT with qT|qT
   .show h.beh E (Xo hE) W fb T qT
   .rw[Xn.Y qT];show(GF.min W fb).resolve_left ((all W fb).X ⟨F,q,hW⟩)
 .show YI.X {h.dsj.sublist<|List.eraseIdx_sublist _ _,hF.dsj,λF q G q2 W a b=>?_};let(i,hi,e):=er F q;show h.apart e hE hi W a (hF.sub G q2 W b)
end
structure Rkd(n:A0)(ps:Aa)(ls:Ac)(most:A5)(L:Ab):Prop where
 tr:∀T∈L,Zj n ps T
 asc:L.U (pl ls)
 few:L.f<=most
 all:∀W,Zj n ps W->W∈L\/(L.f=most/\∀T∈L,pl ls T W)
end My
namespace L2
open PySem PySem.Spec PyProof.Rows PySem.W My
def SameX.same(s:Same H H'):SameX Pt H H':=λb o _ e=>s b o e
def SameX.trans{Pt:A7}{H H1 H2:Hp}(a:SameX Pt H H1)(b:SameX Pt H1 H2):SameX Pt H H2:=λc o hc e=>b c o hc (a c o hc e)
def TabH.same(t:TabH H Pt pos qual)(s:Same H H'):TabH H' Pt pos qual:=by
 let(ps,h1,h2,h3):=t;exists ps,s _ _ h1,h2,?_;rcases h3 with h|⟨c,h,h'⟩
 .show .inl h
 .show .inr {c,h,s _ _ h'}
def TabH.ne{Pt a:A7}{o:HO}(t:TabH H Pt pos qual)(h:H a=⇑o)(hn:∀ps,o≠.tbl ps):a≠Pt:=λe=>by let(ps,h1,_):=t;grind
end L2
namespace My
open PySem L2
def e9{m i:A5}(h:i<m):(Wx m).S i 0=(i:A0):=by unfold Wx;rw[Wj,Yo,qb h];rfl
def e8(h:Rz (λz=>Xw ls z) (Wx m) ms):NS ls m ms:=by
 let(p,hp,hw,rfl):=h;rw[ZW]at hp;let hb:∀i∈p,i<m:=λi hi=>YR.Y (hp.mem_iff.Y hi)
 let e:(p.Q λi=>(Wx m).S i 0)=p.Q λ(i:A5)=>(i:A0):=YZ λi hi=>e9 (hb i hi);rw[e];exists hp.Q _,?_;rw[Na];show hw.imp_of_mem λ{i j} hi hj h=>?_;let h:Xw ls ((Wx m).S i 0)<Xw ls ((Wx m).S j 0)\/(Xw ls ((Wx m).S i 0)=Xw ls ((Wx m).S j 0)/\i<j):=h
 ext
def SqK.samex(h:SqK kd K H a xs)(t:TabH H Pt pos qual)(sx:SameX Pt H H2):SqK kd K H2 a xs:=by
 cases kd with
 |true=>show SqT.samex (show SqT K H a xs from h) t sx
 |false=>
  rcases(show SqL K H a xs from h) with (h|⟨o,h⟩)|h
  .show .inl (.inl<|sx _ _ (t.ne h AP) h)
  .show .inl (.inr {o,sx _ _ (t.ne h AP) h})
  .show .inr h
def WebAt.samex(h:WebAt C H w n ps)(t:TabH H Pt pos qual)(sx:SameX Pt H H2):WebAt C H2 w n ps:=by let(dx,tl,xs,h1,h2,h3):=h;exists dx,tl,xs,sx _ _ (t.ne h1 AP) h1,sx _ _ (t.ne h2 AP) h2,h3.1,λi p hp=>?_;let(x,hx,q,e,hq):=h3.2 i p hp;exists x,hx,q,e,sx _ _ (t.ne hq AP) hq
end My
namespace L2
open PySem PySem.Spec PyProof.Rows My
def JL:(KeyOrd) where
 α:=A0×Ac
 blt:=HT.Vv
 irrefl:=HT.VR
 trans a b c:=HT.Vm
 negTrans a b c h:=by
  rw[HT.We]at h;rw[HT.We,HT.We];let lx:=Me.negTrans a.2 b.2 c.2
  rcases h with h|⟨h,h'⟩
  .omega
  .rcases uN a.1 b.1 with q|q|q
   .show .inl (.inl q)
   .rcases lx h' with z|z
    .show .inl (.inr ⟨q,z⟩)
    .show .inr (.inr ⟨J,z⟩)
   ext
 total a b h1 h2:=by
  let k1:¬HT.Vv a b=A9:=by rw[h1];simp
  let k2:¬HT.Vv b a=A9:=by rw[h2];simp
  rw[HT.We]at k1 k2;let e:a.1=b.1:=J
  show Prod.ext e (Me.total a.2 b.2 ?_ ?_)
  .cases q:Me.blt a.2 b.2 with
   |false=>rfl
   |true=>show absurd (.inr ⟨e,q⟩) k1
  .cases q:Me.blt b.2 a.2 with
   |false=>rfl
   |true=>show absurd (.inr ⟨e.symm,q⟩) k2
section
variable{prog:Program}{w:World}{A:Around}{s:B5}
def eZ{a c:A0}{t u:Tok}{Q:B2->B5->Prop}(hp:IsTup s.C p xs)(hq:IsTup s.C q ys)(hi:IntsAre xs.m ns)(hj:IntsAre ys.m ms)(hu:A.units+2<cLine)(h:Q (HT.Vv (a,ns) (c,ms)) s):W.KatLex prog w A b false Q [(.int a t,.int c u),(.ref p,.ref q)] 0 s:=by
 let u1:A.units<cLine:=J;show W.kat_cons (wpAny_eqBool_int<|W.kat_go (λe=>?_) λe=>?_)
 .let e:a=c:=eq_of_beq e;subst e;let el:HT.Vv (a,ns) (a,ms)=HT.lexLt ns ms:=by
   change(decide (a<a)||(decide (a=a)&&HT.lexLt ns ms))=_
   simp
  rw[el]at h;show W.kat_yes (W.kat_cons<|HT.Vn hp hq hi hj u1 prog w _ _<|W.kat_go (λe2=>?_) λe2=>?_)
  .let e2:ns=ms:=YJ e2;subst e2;rw[My.Xm]at h;show W.kat_yes (W.kat_nil h)
  .show W.kat_no ?_;rw[show(b&&(0+1 == 0))=B0 by simp];show W.kat_one _ _ (HT.UK hp hq hi hj u1 h)
 .let XH:a≠c:=λz=>J;let el:HT.Vv (a,ns) (c,ms)=decide (a<c):=by
   change(decide (a<c)||(decide (a=c)&&HT.lexLt ns ms))=_
   simp[XH]
  rw[el]at h;show W.kat_no ?_;cases (b&&0 == 0) with
  |true=>show oneLt_int h
  |false=>show W.kat_one _ _ (lt_int h)
end
end L2
namespace My
open PySem L2
def Zt7{L R:Ab}{M:A6 (A0×Ac)}(hL:∀T,T∈L↔Zj n ps T)(hn:L.Nodup)(hM:M.Perm (L.Q λT=>(XQ ls T,T)))(hs:M.U λa b=>HT.Vv b a=B0)(h:Rkd n ps ls k R):(R.Q λT=>(XQ ls T,T))=M.R k:=by
 let rn:R.Nodup:=h.asc.imp λq e=>by rw[e]at q;show fg q
 let mem:∀x,x∈M↔∃T,Zj n ps T/\x=(XQ ls T,T):=λx=>by grind
 let mn:M.Nodup:=hM.nodup_iff.X (by
  grind)
 let e:M=(R.Q λT=>(XQ ls T,T))++M.filter λx=>decide (x.2∉R):=by
  show List.Perm.eq_of_pairwise (le:=λa b=>HT.Vv b a=B0) ?_ hs ?_ ?_
  .intro a b _ _ h1 h2;show JL.total a b h2 h1
  .show YI.X {?_,hs.sublist MQ,λx hx y hy=>?_}
   .rw[Na];show h.asc.imp λ{a b} q=>?_;cases c:HT.Vv (XQ ls b,b) (XQ ls a,a) with
    |false=>rfl
    |true=>show absurd (q.l c) fg
   .let⟨T,hT,rfl⟩:=Yp.Y hx;let(hy1,hy2):=Yq.Y hy;let(W,hW,rfl):=(mem y).Y hy1;let q:=((h.all W hW).resolve_left (YJ hy2)).2 T hT
    cases c:HT.Vv (XQ ls W,W) (XQ ls T,T) with
    |false=>rfl
    |true=>show absurd (q.l c) fg
  .show(Jv mn ?_).X λx=>?_
   .grind
   .rw[Xi,Yp,Yq];constructor
    .grind
    .rintro(⟨T,hT,rfl⟩|q)
     .show(mem _).X {T,h.tr T hT,Z}
     .show q.1
 cases c:R.f=k
 .grind
 .let e0:(M.filter λx=>decide<|x.2∉R)=[]:=Y3X.X λx hx=>by
   let(T,hT,rfl):=(mem x).Y hx;rcases h.all T hT with q|q
   .simp[q]
   lia
  rw[e0,Wc]at e;rw[<-e,YG];rw[e,Yb];show h.few
def GD(n:A0)(ps:Aa)(ls T:Ac):(Prop):=Zj n ps T/\∀W,Zj n ps W->W=T\/pl ls T W
def eY(t1:Zj n ps U)(t2:∀W,Zj n ps W->XQ ls U<=XQ ls W)(t3:∀W,Zj n ps W->XQ ls U=XQ ls W->HT.lexLt W U=B0):GD n ps ls U:=by
 exists t1,λW hW=>?_;cases e:W=U
 .show .inl e
 .show .inr (Tc.X ?_);let h:=t2 W hW
  cases c:XQ ls U<XQ ls W
  .show .inl c
  .show .inr {J,?_};rcases fc U W (by have:=t1.2.1;have:=hW.2.1;lia) (λh=>e h.symm) with q|q
   .show q
   grind
def wW(g:Zz n ps)(hl:ls.f=ps.f)(hU:Zj n (VO n.j ps ls) U)(hm:∀W,Zj n (VO n.j ps ls) W->HT.lexLt W U=B0):GD n ps ls U:=by let(t1,t2):=(QX g hl).Y hU;show eY t1 t2 λW hW e=>hm W ((QX g hl).X {hW,λV hV=>by ext})
end My
namespace My
def eX{α:Type}{P:A6 α->Prop}(h:∀a,P [a])(l:A6 α)(e:l.f=1):P l:=by let(a,rfl):=Ah e;show h a
def Ip{α:Type}{P:A6 α->Prop}(h:∀a b,P [a,b])(l:A6 α)(e:l.f=2):P l:=by let(a,b,rfl):=z9 e;show h a b
def eW{α:Type}{P:A6 α->Prop}(h:∀a b c,P [a,b,c])(l:A6 α)(e:l.f=3):P l:=by let(a,b,c,rfl):=z8 e;show h a b c
def un4{α:Type}{P:A6 α->Prop}(h:∀a b c d,P [a,b,c,d])(l:A6 α)(e:l.f=4):P l:=by let(a,b,c,d,rfl):=z7 e;show h a b c d
def un5{α:Type}{P:A6 α->Prop}(h:∀a b c d e,P [a,b,c,d,e])(l:A6 α)(e:l.f=5):P l:=by
 cases l with
 |nil=>cases e
 |cons x r=>
  let(a,b,c,d,rfl):=z7 (MV e);show h x a b c d
end My
namespace L2
open PySem PySem.Spec PyProof.Rows PySem.W
section
variable{TZ:Pos}{Pt:A7}
def SqL.samexT{K:Ad}{H H2:Hp}{a:A7}{xs:A6 V}{qual:B8}(h:SqL K H a xs)(t:TabH H Pt TZ qual)(sx:SameX Pt H H2):SqL K H2 a xs:=by
 let(ps,hP,_):=t;rcases h with (h|⟨o,h⟩)|h
 .show .inl (.inl<|sx _ _ (λz=>by ext) h)
 .show .inl (.inr {o,sx _ _ (λz=>by ext) h})
 .show .inr h
end
end L2
namespace L2
open PySem PySem.Spec PyProof.Rows
def TF{N P:A6 B8}{sc:B9}(h:sc.kind=.function/\sc.isCoroutine=B0/\sc.isGenerator=B0/\N.Nodup/\N.R P.f=P/\(∀x∈P,sc.names.M x=some .local\/sc.names.M x=some .cell)/\∀y∈sc.names,y.2≠.free):FnScope N P sc:=⟨h.1,h.2.1,h.2.2.1,h.2.2.2.1,h.2.2.2.2.1,h.2.2.2.2.2.1,h.2.2.2.2.2.2⟩
structure DfA(K:Ad)(mg:Af)(x:B8)(st:B6)(f:A7)(fd:B7)(ps:A6 B8):Prop where
 fn:Fun K x x st f fd
 bi:Binds K fd ps []
 mm:mg x=some ↑f
def XD{X:Cx}{CX:PB}{k m:A5}{f:A7}{fd:B7}{ps:A6 B8}{sp:Sp}{x:B8}{st:B6}{e:B4}{es:A6 B4}{t:TA}{p pos:Pos}{E:XK}(F:FnOk X.prog X.w X.K X.mg X.base CX k f fd ps sp)(hr:Room m X.A)(d:DfA X.K X.mg x st f fd ps)(hx:KL CX X E)(ha:PA X (e::es) t)(hk:k<=m:=by decide)(hg:Gl X x:=by show Z)(RP:(x == ("__debug__":B8))=B0:=by decide)(he:starEach (e::es) X.env=(false,eval e X.env)::starEach es X.env:=by rfl)(UB:(backTo pos<|starEach es X.env).any (·.1)=B0:=by rfl):PE X (.Call (.Name x p) (e::es) [] pos) (Cb sp [] E t):=
 BY F (hr.mono hk) hg d.mm d.fn.kp d.bi .nil hx ha RP he UB
def rh(N P:A6 B8)(sc:B9):(Prop):=sc.kind=.function/\sc.isCoroutine=B0/\sc.isGenerator=B0/\N.Nodup/\N.R P.f=P/\(∀x∈P,sc.names.M x=some .local\/sc.names.M x=some .cell)/\∀y∈sc.names,y.2≠.free
instance (N P:A6 B8) (sc:B9):Decidable (rh N P sc):=by unfold rh;infer_instance
section
variable{P:Program}{w:World}{K:Ad}{mg:Af}{base:Heap}{x:B8}{st:B6}{f:A7}{fd:B7}{ps:A6 B8}{k:A5}{sp:Sp}
abbrev Xp(P:Program)(w:World)(base:Heap)(CX:PB)(_:DfA K mg x st f fd ps)(k:A5)(sp:Sp):Prop:=FnOk P w K mg base CX k f fd ps sp
def DfA.okI(q:DfA K mg x st f fd ps)(N:A6 B8)(S:rh N ps (Zc st))
  (VJ:∀XG A outer s H vs Q E,Room k (A.deeper<|envOfC x (Zc st) (~~~s) f XG)->sp vs H Q E->
   ∃t,PSs (Tu Xx P w K mg base N x (Zc st) f XG A outer s H E).nox (Rh st) t/\t {nx:=λ_ H'=>Q .non H',rt:=Q} (start N vs) H) (len:∀vs H Q E,sp vs H Q E->vs.f=ps.f:=by intro _ _ _ _ h;cases h;subst_vars;rfl):Xp P w base Xx q (k+1) sp:=q.fn.ok (TF S) len VJ
def DfA.ok(q:DfA K mg x st f fd ps)(N:A6 B8)(S:rh N ps (Zc st))(len:∀vs H Q E,sp vs H Q E->vs.f=ps.f)
  (VJ:∀XG A outer s H vs Q E,Room k (A.deeper<|envOfC x (Zc st) (~~~s) f XG)->sp vs H Q E->
   ∃t,PSs (Tu Xx P w K mg base N x (Zc st) f XG A outer s H E).nox (Rh st) t/\t {nx:=λ_ H'=>Q .non H',rt:=Q} (start N vs) H):Xp P w base Xx q (k+1) sp:=q.fn.ok (TF S) len VJ
end
end L2
namespace My
open PySem L2
def FQ(K:Ad)(mg:Af)(x:B8)(st:B6)(ps:A6 B8):(Prop):=∃f fd,DfA K mg x st f fd ps
def wV{K:Ad}{h:Heap}{mg:Af}{x:B8}{st:B6}{ps:A6 B8}{f:A7}{oc:B1}{od an:Option A7}{UA:B3 (Option B1)}{kV doc pm XG ct:B1}(X:K.In h)(G:h.Ns mainGlobals mg)
  (a:PySem.W.nsIn K mainGlobals x=⇑(some<|.ref f))(l:K.M f=⇑{oc,od,.func<|PySem.W.fnOf x x (Tt st) (Rh st) (Zc st) .none kV doc pm an XG ct,UA})(c:PySem.W.codeIn K XG x=A9)(k:PySem.W.keepIn K ↑f=A9)
  (b:∀kV doc pm an XG ct us,us.f=ps.f->bindArgs (PySem.W.fnOf x x (Tt st) (Rh st) (Zc st) .none kV doc pm an XG ct) {us,[]}=pure (ps.zip us)):FQ K mg x st ps:=
 {f,_,BF l c k,(BF l c k).binds b,Jl X G a}
def TupC(K:Ad)(a:A7)(xs:A6 V):(Prop):=∃o XW n,K.M a=⇑o/\o.cls=.type "tuple"/\o.data=.seq XW n/\XW.o<=sizeLine/\Vals xs XW.m
def TupC.sq(h:TupC K a xs)(H:Hp):SqT K H a xs:=.inr h
def Vl{mg:Af}{xs:A6 V}{p:A7}{od:Option A7}{XW:B3 B1}{n:A5}{UA:B3 (Option B1)}(X:K.In h)(G:h.Ns mainGlobals mg)(a:PySem.W.nsIn K mainGlobals x=⇑(some ↑p))(l:K.M p=⇑{.type "tuple",od,.seq XW n,UA})(z:XW.o<=sizeLine)(r:Vals xs XW.m):∃a,mg x=some ↑a/\TupC K a xs:=
 {p,Jl X G a,_,XW,n,l,Z,Z,z,r}
def Wt:(A6 B8):=["count","cheapest"]
def WI:(A6 B8):=["tree","row","rank"]
def WV:(A6 B8):=["number","place","next","share"]
def isN(w:B8):(B2):=JN w.cps.m
def JK(x0:B8)(r:A6 B8):(Prop):=(x0∈Wt/\r.f+1=1)\/(x0∈WI/\r.f+1=2/\r.all isN=A9)\/(x0∈WV/\1<r.f+1/\(r=[("-":B8)]\/r.all isN=A9))
instance:Decidable (JK x0 r):=by unfold JK;infer_instance
def GC{A o8:TT}{t u:TS}{tB:Ends}{σ:L2.St}{H:Hp}(c1 c2:Prop)[Decidable c1][Decidable c2](hA:∀Q:B2->Hp->Prop,Q (decide c1) H->A σ H Q)(hB:∀Q:B2->Hp->Prop,Q (decide c2) H->o8 σ H Q)(h1:c1->c2->t tB σ H)(h2:¬(c1/\c2)->u tB σ H):Cz (CB A o8) t u tB σ H:=by
 show hA _ ?_
 ext
def GB{x:B8}{l:A6 B8}:KD (.str x) (l.Q V.str)=decide (x∈l):=by
 unfold KD;rw[List.any_map,OX,Fo,YY];constructor
 .rintro⟨y,hy,e⟩;let e:(y == x)=A9:=e
  ext
 .intro h;exists x,h,Dr x
end My
namespace PyProof.Rows
open PySem
section
variable{lt:Keyed->Keyed->B2}{x y:Keyed}{L o8:A6 Keyed}
def mg(lt:Keyed->Keyed->B2)(L o8:A6 Keyed):(A6 Keyed):=L.merge o8 λx y=>!lt y x
def GA:∀{X:A6 Keyed},(∀x∈X,lt y x=B0)->mg lt (X++L) (y::o8)=X++mg lt L (y::o8)
 |[],_=>rfl
 |x::X,h=>by unfold mg;rw[Jo,List.cons_merge_cons_pos _ _ _ B];show YF (x :: ·) (GA λz hz=>h z<|Yn _ hz)
def LI:∀{Y:A6 Keyed},(∀y∈Y,lt y x=A9)->mg lt (x::L) (Y++o8)=Y++mg lt (x::L) o8
 |[],_=>rfl
 |y::Y,h=>by unfold mg;rw[Jo,List.cons_merge_cons_neg _ _ _ B];show YF (y :: ·) (LI λz hz=>h z<|Yn _ hz)
def wU(h:L=[]\/o8=[]):mg lt L o8=L++o8:=by unfold mg;rcases h with rfl|rfl<;>simp
def wR(h:∀y∈o8,lt y x=A9):mg lt [x] o8=o8++[x]:=by
 let e:=LI (lt:=lt) (x:=x) (L:=[]) (o8:=[]) h;rw[Wc]at e;rw[e];unfold mg
 ext
def ZX5(tr:∀a b c,lt b a=B0->lt c b=B0->lt c a=B0)(tt:∀a b,lt b a=A9->lt a b=B0)(h1:L.U λx y=>lt y x=B0)(h2:o8.U λx y=>lt y x=B0):(mg lt L o8).U λx y=>lt y x=B0:=by
 show(List.pairwise_merge (le:=λx y=>!lt y x) (λa b c p q=>?_) (λa b=>?_) L o8 (h1.imp λh=>J)<|h2.imp λh=>J).imp λh=>J
 .grind
 grind
end
section
variable{M:Model}{A:Around}{E:Ae}{s:B5}{O:KeyOrd}{key:Keyed->O.α}{kd:SortKind}{S:Keyed->Prop}{a b:B3 Keyed}{R:A6 Keyed}
def NR(O:KeyOrd)(key:Keyed->O.α)(y x:Keyed):(B2):=O.blt (key y) (key x)
def eV(h:i<a.o):a.m.drop i=a[i]::a.m.drop (i+1):=DC (by simpa using h)
def Qj(h:i<a.o):ke key a i=key a[i]:=VY (QO a i h)
def ML(O:KeyOrd)(key:Keyed->O.α)(a b:B3 Keyed)(R out:A6 Keyed)(i j:A5):(Prop):=out++mg (NR O key) (a.m.drop i) (b.m.drop j)=R
section
variable{out:A6 Keyed}{i j:A5}
def ML.fst(h:ML O key a b R out i j)(k:A5)(hj:j<b.o)(hx:∀n,n<k->O.blt (ke key b j) (ke key a (i+n))=B0):ML O key a b R (out++(a.m.drop i).R k) (i+k) j:=by
 unfold ML at *;rw[<-h,eV hj,QP,<-GA (lt:=NR O key) λx Uj=>?_,<-uD (i:=k),Fw];let(n,hn,e):=Ay Uj
 have:=hx n hn
 rwa[Qj hj,VY e]at this
def ML.snd(h:ML O key a b R out i j)(k:A5)(hi:i<a.o)(hx:∀n,n<k->O.blt (ke key b (j+n)) (ke key a i)=A9):ML O key a b R (out++(b.m.drop j).R k) i (j+k):=by
 unfold ML at *;rw[<-h,eV hi,QP,<-LI (lt:=NR O key) λx Uj=>?_,<-uD (i:=k),Fw];let(n,hn,e):=Ay Uj
 have:=hx n hn
 rwa[Qj hi,VY e]at this
def ML.done(h:ML O key a b R out i j)(hz:a.o<=i\/b.o<=j):out++a.m.drop i++b.m.drop j=R:=by rwa[QP,<-wU (lt:=NR O key) (hz.imp (λh=>uQ<|by simpa using h) λh=>uQ<|by simpa using h)]
def ML.last(h:ML O key a b R out i j)(hi:i+1=a.o)(hx:∀n,n<b.o->O.blt (ke key b n) (ke key a (a.o-1))=A9):out++b.m.drop j++a.m.drop i=R:=by
 let e:a.m.drop i=[a[i]]:=by rw[eV pB,uQ (by simp;ext)]
 rw[<-h,e,wR λy hy=>?_,QP];let(n,_,hn,ey):=lC hy
 have:=hx n hn
 rwa[VY ey,show a.o-1=i by lia,Qj J]at this
end
structure MC(M:Model)(A:Around)(E:Ae)(s:B5)(O:KeyOrd)(key:Keyed->O.α)(kd:SortKind)(S:Keyed->Prop)(a b:B3 Keyed):Prop where
 L:UG M A E s O key kd S
 sa:∀i,i<a.o->∃p,a[i]?=⇑p/\S p
 sb:∀i,i<b.o->∃p,b[i]?=⇑p/\S p
 ma:∀i j,i<=j->j<a.o->O.kle (ke key a i) (ke key a j)
 mb:∀i j,i<=j->j<b.o->O.kle (ke key b i) (ke key b j)
 ha:∀i,i<a.o->O.blt (ke key b 0) (ke key a i)=A9
 hb:∀n,n<b.o->O.blt (ke key b n) (ke key a<|a.o-1)=A9
def Yd{β:Type}(P:Option (B3 Keyed)×β->Prop)(st:SortSt)(r:ForInStep (Option (B3 Keyed)×β))(XT:SortSt):(Prop):=UE st XT/\∃c,P c/\(r=.done c\/r=.yield c/\c.1=A8)
def OkL(O:KeyOrd)(key:Keyed->O.α)(a b:B3 Keyed)(R:A6 Keyed)(m:A5){γ:Type}(c:Option (B3 Keyed)×B3 Keyed×A5×A5×γ):(Prop):=
 (∃r,c.1=⇑r/\r.m=R)\/(c.1=A8/\ML O key a b R c.2.1.m c.2.2.1 c.2.2.2.1/\c.2.2.1+1<a.o/\c.2.2.2.1<b.o/\m<=c.2.2.1+c.2.2.2.1)
def TB{β:Type}{P:Option (B3 Keyed)×β->Prop}{st XT:SortSt}{c:Option (B3 Keyed)×β}(k:UE st XT)(h:P c):wpS M A E s (pure (.done c)) (Yd P st) XT:=YT {k,c,h,.inl Z}
section
variable{out:B3 Keyed}{i j m g ac bc:A5}{st XT:SortSt}
def wQ(C:MC M A E s O key kd S a b)(k:UE st XT)(hi:i+1<a.o)(hj:j<b.o)(h:ML O key a b R out.m i j)(hx:O.blt (ke key b j) (ke key a i)=B0)(hm:m<=i+j):wpS M A E s (HM a b out i j g ac bc) (Yd (OkL O key a b R m) st) XT:=by
 let e:=QO a i J;let h2:=h.fst 1 hj λn hn=>by ext
 rw[Ot e,<-Pa]at h2;show Yv (Zy e ?_);cases c:i+1+1=a.o
 .show ZN (by simpa using c) (TB k<|.inl {_,Z,by rw[Yt,Yt,SX,SX];show h2.last c C.hb})
 .show UT (by simpa using c) ?_;let z:∀g ac bc,OkL O key a b R m ((none,out.push a[i],i+1,j,g,ac,bc):Kj):=λ_ _ _=>.inr ⟨Z,h2,J,hj,J⟩
  split
  .show TB k (z _ _ _)
  .show YT {k,_,z _ _ _,.inr ⟨Z,Z⟩}
def wO(C:MC M A E s O key kd S a b)(k:UE st XT)(hk:kindOf XT=kd)(hi:i+1<a.o)(hj:j<b.o)(h:ML O key a b R out.m i j)(hx:O.blt (ke key b j) (ke key a i)=A9)(hm:m<=i+j):wpS M A E s (HL a b out i j g ac bc) (Yd (OkL O key a b R m) st) XT:=by
 let e:=QO b j hj;let h2:=h.snd 1 J λn hn=>by ext
 rw[Ot e,<-Pa]at h2;show Yv (Zy e ?_);cases c:j+1=b.o
 .show ZN (by simpa using c) (TB k<|.inl {_,Z,by rw[Yt,Yt,SX,SX];show h2.done<|.inr<|by ext})
 show UT (by simpa using c) ?_;let(p,ep,hp):=C.sa i J;show Yv (Zy ep<|Yv<|EA C.L hk hp (λn hn=>C.sb _ B) B (λn l DZ hl=>C.mb _ _ (by ext) B) λq hq lo Wu=>?_);let lo:∀n,n<q->O.blt (ke key b<|j+1+n) (ke key a i)=A9:=λn hn=>by rw[VY ep];show lo n hn
 let Wu:j+1+q<b.o->O.blt (ke key b<|j+1+q) (ke key a i)=B0:=λhn=>by rw[VY ep];show Wu q (XI _) B
 let h3:=h2.snd q J lo;rw[<-Az,<-Yt]at h3;cases c0:q>0
 .show ZN c0 ?_;cases c1:j+1+q=b.o
  .show ZN (by simpa using c1) (TB k<|.inl {_,Z,by rw[Yt,Yt,SX,SX];show h3.done<|.inr<|by ext})
  .show UT (by simpa using c1) (wQ C k hi B h3 (Wu B) J)
 .let rfl:q=0:=by ext
  show UT c0 (wQ C k hi J h2 (Wu J) J)
def eQ(C:MC M A E s O key kd S a b)(k:UE st XT)(hk:kindOf st=kd)(hi:i+1<a.o)(hj:j<b.o)(h:ML O key a b R out.m i j)(hm:m<=i+j):wpS M A E s (HK a b out i j g ac bc) (Yd (OkL O key a b R m) st) XT:=by
 show Yv (sI ?_);let(p,ep,hp):=C.sb j hj;let VX:=k.1.l hk
 show Yv (Zy ep<|Yv<|EA C.L VX hp (λn hn=>C.sa _ B) B (λn l DZ hl=>C.ma _ _ (by ext) B) λq hq lo Wu=>?_);let lo:∀n,n<q->O.blt (ke key b j) (ke key a<|i+n)=B0:=λn hn=>by rw[VY ep];simpa[beyB] using lo n hn
 let Wu:i+q<a.o->O.blt (ke key b j) (ke key a<|i+q)=A9:=λhn=>by rw[VY ep];simpa[beyB] using Wu q (XI _) J
 let h3:=h.fst q hj lo;rw[<-Az,<-Yt]at h3;cases c0:q>0
 .show ZN c0 ?_;cases c1:i+q+1=a.o
  .show ZN (by simpa using c1) (TB k<|.inl {_,Z,by rw[Yt,Yt,SX,SX];show h3.last c1 C.hb})
  show UT (by simpa using c1) ?_;cases c2:i+q=a.o
  .show ZN (by simpa using c2) (TB k<|.inl {_,Z,by rw[Yt,Yt,SX,SX];show h3.done<|.inl<|by ext})
  .show UT (by simpa using c2) (wO C k VX B hj h3 (Wu J) J)
 .let rfl:q=0:=by ext
  show UT c0 (wO C k VX hi hj h (Wu J) hm)
def eO(C:MC M A E s O key kd S a b)(k:UE st XT)(hk:kindOf st=kd)(hi:i+1<a.o)(hj:j<b.o)(h:ML O key a b R out.m i j)(hm:m<=i+j):wpS M A E s (loB1 a b g (none,out,i,j,ac,bc)) (Yd (OkL O key a b R (m+1)) st) XT:=by
 let(p,ep,hp):=C.sa i J;let(q,eq,hq):=C.sb j hj;show Yv (Zy eq<|Yv<|Zy ep<|Yv<|C.L _ _ _ _ hq hp (k.1.l hk) ?_);cases hc:O.blt (key q) (key p) with
 |true=>
  let h2:=h.snd 1 J λn hn=>by rwa[show j+n=j by ext,VY eq,VY ep]
  rw[Ot eq,<-Pa]at h2;show ZN Z (Yv<|Zy eq ?_);cases c:j+1=b.o
  .show ZN (by simpa using c) (TB k<|.inl {_,Z,by rw[Yt,Yt,SX,SX];show h2.done<|.inr<|by ext})
  show UT (by simpa using c) ?_;let z:∀ac bc,OkL O key a b R (m+1) ((none,out.push q,i,j+1,ac,bc):Ez):=λ_ _=>.inr {Z,h2,hi,by change j+1<b.o;lia,J}
  split
  .show TB k (z _ _)
  .show YT {k,_,z _ _,.inr ⟨Z,Z⟩}
 |false=>
  let h2:=h.fst 1 hj λn hn=>by rwa[show i+n=i by ext,VY eq,VY ep]
  rw[Ot ep,<-Pa]at h2;show UT AP (Yv<|Zy ep ?_);cases c:i+1+1=a.o
  .show ZN (by simpa using c) (TB k<|.inl {_,Z,by rw[Yt,Yt,SX,SX];show h2.last c C.hb})
  show UT (by simpa using c) ?_;let z:∀ac bc,OkL O key a b R (m+1) ((none,out.push p,i+1,j,ac,bc):Ez):=λ_ _=>.inr ⟨Z,h2,J,hj,J⟩
  split
  .show TB k (z _ _)
  .show YT {k,_,z _ _,.inr ⟨Z,Z⟩}
end
def rg{β:Type}{n m d:A5}{f:Option (B3 Keyed)×β->StateT SortSt Sem (ForInStep (Option (B3 Keyed)×β))}{st XT:SortSt}{c:Option (B3 Keyed)×β}(P:A5->Option (B3 Keyed)×β->Prop)(hn:0<n)(up:∀c,P (m+d) c->P m c)(hs:∀c XT,UE st XT->P m c->c.1=A8->wpS M A E s (f c) (Yd (P (m+d)) st) XT)(k:UE st XT)(h0:P m c)(h1:c.1=A8):wpS M A E s (forIn [0:n] c λ_ c=>f c) (λc XT=>UE st XT/\P (m+d) c) XT:=by
 show Vu (I:=λx c XT=>UE st XT/\P m c/\c.1=A8/\(0<x->P (m+d) c)) (λx c XT _ _ ⟨k,p,q,_⟩=>RT (hs c XT k p q) ?_) (λc XT zz=>by let(k,p,q,z):=zz;show{k,z<|by ext}) ⟨k,h0,h1,λh=>absurd h<|by ext⟩;rintro r WN ⟨k2,c2,p2,rfl|⟨rfl,q2⟩⟩
 .exists k2,p2
 .exists k2,up _ p2,q2,λ_=>p2
def OkL.up{γ:Type}{c:Option (B3 Keyed)×B3 Keyed×A5×A5×γ}(h:OkL O key a b R (m+d) c):OkL O key a b R m c:=h.imp id λzz=>by let(h1,h2,h3,h4,h5):=zz;exists h1,h2,h3,h4,J
def OkL.go{γ:Type}{c1:Option (B3 Keyed)}{out:B3 Keyed}{i j:A5}{z:γ}(h:OkL O key a b R m (c1,out,i,j,z))(e:c1=A8):ML O key a b R out.m i j/\i+1<a.o/\j<b.o/\m<=i+j:=by
 rcases h with ⟨r,q,_⟩|⟨_,h⟩
 .ext
 .show h
def ZU4(C:MC M A E s O key kd S a b){st:SortSt}{Q:B3 Keyed->SortSt->Prop}(hk:kindOf st=kd)(ha:0<a.o)(hb:0<b.o)(h:∀r XT,UE st XT->r.m=mg (NR O key) a.m b.m->Q r XT):wpS M A E s (ZN7 a b) Q st:=by
 let k0:UE st st:=⟨Z,Z,Z,Z⟩;let e0:=QO b 0 hb
 let m0:ML O key a b (mg (NR O key) a.m b.m) [] 0 0:=rfl;let m1:=m0.snd 1 ha λn hn=>by rw[show 0+n=0 by ext];show C.ha 0 ha
 rw[Ot e0]at m1;rw[lj];show Yv (wpS_lift<|PM ⟨Z,?_⟩);show Yv (Zy e0 ?_);cases c1:1=b.o
 .show ZN (by simpa using c1) (YT<|h _ _ k0<|by rw[Yt,Yt,SX,SX];show m1.done<|.inr<|by ext)
 show UT (by simpa using c1) ?_;cases c2:0+1=a.o
 .show ZN (by simpa using c2) (YT<|h _ _ k0<|by rw[Yt,Yt,SX,SX];show m1.last c2 C.hb)
 show UT (by simpa using c2) (Yv<|UO ?_);generalize mg (NR O key) a.m b.m=R at *;show Yv (RT (Vu
  (I:=λx c XT=>UE st XT/\c.1=A8/\OkL O key a b R x c)
  (Q:=λc XT=>UE st XT/\∃r,c.1=⇑r/\r.m=R) ?_ ?_ {k0,Z,.inr {Z,m1,J,J,XC _}}) ?_)
 .rintro x ⟨c1,out,i,j,g⟩ UX _ hx ⟨k1,e1,p1⟩;show Yv (RT (rg (m:=x) (d:=1) (λm c=>OkL O key a b R m c) J (λ_ h=>h.up) (λc WN k2 p2 e2=>?_) k1 (.inr {Z,(p1.go e1)}) Z) ?_)
  .let⟨c1,out,i,j,ac,bc⟩:=c;let rfl:c1=A8:=e2;let(h1,h2,h3,h4):=p2.go rfl;show eO C k2 hk h2 h3 h1 h4
  rintro⟨c1,out,i,j,ac,bc⟩ WN ⟨k2,p2⟩;cases c1 with
  |some r=>show YT {k2,r,rfl,by rcases p2 with ⟨r,e,q⟩|⟨e,_⟩<;>cases e;show q}
  |none=>
   show Yv (wpS_lift<|PM ⟨Z,?_⟩);show Yv (RT (rg (m:=x+1) (d:=0) (λm c=>OkL O key a b R m c) J (λ_ h=>h) (λc VU k3 p3 e3=>?_) k2 (.inr {Z,(p2.go Z)}) Z) ?_)
   .let⟨c1,out,i,j,g,ac,bc⟩:=c;let rfl:c1=A8:=e3;let(h1,h2,h3,h4):=p3.go rfl;unfold Ax;split<;>show eQ C k3 hk h2 h3 h1 h4
   rintro⟨c1,out,i,j,g,ac,bc⟩ VU ⟨k3,p3⟩;cases c1 with
   |some r=>show YT {k3,r,rfl,by rcases p3 with ⟨r,e,q⟩|⟨e,_⟩<;>cases e;show q}
   |none=>show Yv (sI<|YT ⟨k3,Z,.inr {Z,(p3.go Z)}⟩)
 .rintro⟨c1,out,i,j,g⟩ UX ⟨k1,e1,p1⟩;let(_,h2,h3,h4):=p1.go e1;lia
 .rintro⟨c1,c2⟩ UX ⟨k1,r,hc,hr⟩;cases hc;show YT (h r UX k1 hr)
def MH2(O:KeyOrd)(key:Keyed->O.α)(a b:B3 Keyed)(R out:A6 Keyed)(i j:A5):(Prop):=out++mg (λy x=>NR O key x y) (b.m.R j).reverse (a.m.R i).reverse=R
def Gz(h:0<i)(hi:i<=a.o):(a.m.R i).reverse=a[i-1]::(a.m.R (i-1)).reverse:=by let e:=YF List.reverse (Aw (la:=a.m)<|Nat.sub_le i 1);rwa[qc,Qz J (QO a (i-1) pB)]at e
section
variable{out:A6 Keyed}{i j:A5}
def MH2.fst(h:MH2 O key a b R out i j)(e:A5)(he:e<=j)(hi:0<i)(Wq:i<=a.o)(hx:∀n,e<=n->n<j->O.blt (ke key b n) (ke key a (i-1))=B0):MH2 O key a b R (out++((b.m.R j).drop e).reverse) i e:=by
 unfold MH2 at *;rw[<-h,Gz hi Wq,QP,Aw (la:=b.m) he,qc,GA λx Uj=>?_]
 .rw[<-Aw he]
 let(n,h1,h2,_,e):=Au (pW.Y Uj)
 have:=hx n h1 h2
 rwa[VY e,Qj B]at this
def MH2.snd(h:MH2 O key a b R out i j)(e:A5)(he:e<=i)(hj:0<j)(Qt:j<=b.o)(hx:∀n,e<=n->n<i->O.blt (ke key b (j-1)) (ke key a n)=A9):MH2 O key a b R (out++((a.m.R i).drop e).reverse) e j:=by
 unfold MH2 at *;rw[<-h,Gz hj Qt,QP,Aw (la:=a.m) he,qc,LI λx Uj=>?_]
 .rw[<-Aw he]
 let(n,h1,h2,_,e):=Au (pW.Y Uj)
 have:=hx n h1 h2
 rwa[Qj B,VY e]at this
def MH2.done(h:MH2 O key a b R out i j)(hz:i=0\/j=0):a.m.R i++b.m.R j++out.reverse=R.reverse:=by rw[<-h,wU (hz.symm.imp (λh=>by rw[h];rfl) λh=>by rw[h];rfl)];simp
def MH2.last(h:MH2 O key a b R out i j)(hj:j=1)(hb:0<b.o)(hx:∀n,n<a.o->O.blt (ke key b 0) (ke key a n)=A9):b.m.R j++a.m.R i++out.reverse=R.reverse:=by
 subst hj;let e:(b.m.R 1).reverse=[b[0]]:=Gz (by ext) hb
 rw[<-h,e,wR λy hy=>?_]
 .ext
 let(n,_,hn,ey):=lh (pW.Y hy)
 have:=hx n hn
 rwa[VY ey,Qj hb]at this
end
def OkH(O:KeyOrd)(key:Keyed->O.α)(a b:B3 Keyed)(R:A6 Keyed)(m:A5){γ:Type}(c:Option (B3 Keyed)×A5×A5×B3 Keyed×γ):(Prop):=
 (∃r,c.1=⇑r/\r.m=R.reverse)\/(c.1=A8/\MH2 O key a b R c.2.2.2.1.m c.2.1 c.2.2.1/\(1<=c.2.1/\c.2.1<=a.o)/\(2<=c.2.2.1/\c.2.2.1<=b.o)/\c.2.1+c.2.2.1+m<=a.o+b.o)
def OkH.up{γ:Type}{c:Option (B3 Keyed)×A5×A5×B3 Keyed×γ}(h:OkH O key a b R (m+d) c):OkH O key a b R m c:=h.imp id λzz=>by let(h1,h2,h3,h4,h5):=zz;exists h1,h2,h3,h4,J
def OkH.go{γ:Type}{c1:Option (B3 Keyed)}{out:B3 Keyed}{i j:A5}{z:γ}(h:OkH O key a b R m (c1,i,j,out,z))(e:c1=A8):MH2 O key a b R out.m i j/\(1<=i/\i<=a.o)/\(2<=j/\j<=b.o)/\i+j+m<=a.o+b.o:=by
 rcases h with ⟨r,q,_⟩|⟨_,h⟩
 .ext
 .show h
def wN{out:B3 Keyed}(h:MH2 O key a b R out.m i j)(hz:i=0\/j=0):(a.extract 0 i++b.extract 0 j++out.reverse).m=R.reverse:=by rw[Yt,Yt,Mg,Mg,qg];show h.done hz
def LH(C:MC M A E s O key kd S a b){out:B3 Keyed}(h:MH2 O key a b R out.m i j)(hj:j=1)(hb:0<b.o):(b.extract 0 j++a.extract 0 i++out.reverse).m=R.reverse:=by rw[Yt,Yt,Mg,Mg,qg];show h.last hj hb C.ha
section
variable{out:B3 Keyed}{i j m g ac bc:A5}{st XT:SortSt}
def wM(k:UE st XT)(hi:1<=i/\i<=a.o)(hj:2<=j/\j<=b.o)(h:MH2 O key a b R out.m i j)(hx:O.blt (ke key b (j-1)) (ke key a (i-1))=A9)(hm:i+j+m<=a.o+b.o):wpS M A E s (HJ a b out i j g ac bc) (Yd (OkH O key a b R m) st) XT:=by
 let e:=QO a (i-1) B;let h2:=h.snd (i-1) (by ext) J hj.2 λn h1 h2=>B
 rw[Qz (by ext) e,<-Pa]at h2;show Yv (Zy e ?_);cases c:i-1=0
 .show ZN (by simpa using c) (TB k<|.inl {_,Z,wN h2<|.inl c})
 .show UT (by simpa using c) ?_;let z:∀g ac bc,OkH O key a b R m ((none,i-1,j,out.push a[i-1],g,ac,bc):Ki):=λ_ _ _=>.inr ⟨Z,h2,B,hj,J⟩
  split
  .show TB k (z _ _ _)
  .show YT {k,_,z _ _ _,.inr ⟨Z,Z⟩}
def wL(C:MC M A E s O key kd S a b)(k:UE st XT)(hk:kindOf XT=kd)(hi:1<=i/\i<=a.o)(hj:2<=j/\j<=b.o)(h:MH2 O key a b R out.m i j)(hx:O.blt (ke key b (j-1)) (ke key a (i-1))=B0)(hm:i+j+m<=a.o+b.o):wpS M A E s (HI a b out i j g ac bc) (Yd (OkH O key a b R m) st) XT:=by
 let e:=QO b (j-1) B;let h2:=h.fst (j-1) (by ext) J hi.2 λn h1 h2=>B
 rw[Qz J e,<-Pa]at h2;show Yv (Zy e ?_);cases c:j-1=1
 .show ZN (by ext) (TB k<|.inl {_,Z,LH C h2 c J})
 show UT (by simpa using c) ?_;let(p,ep,hp):=C.sa (i-1) J;show Yv (Zy ep<|Yv<|EA C.L hk hp (λn hn=>C.sb _ B) B (λn l DZ hl=>C.mb _ _ (by ext) B) λq hq lo Wu=>?_);simp only[QN]at lo Wu;let h3:=h2.fst q hq J hi.2 λn h1 h2=>by rw[VY ep];show Wu n h1 h2
 rw[<-Av,<-Yt]at h3;let lo:0<q->O.blt (ke key b<|q-1) (ke key a<|i-1)=A9:=λh=>by rw[VY ep];show lo (q-1) J
 cases c0:j-1-q>0
 .show ZN c0 ?_;cases c1:q=1
  .show ZN (by simpa using c1) (TB k<|.inl {_,Z,LH C h3 c1 J})
  show UT (by simpa using c1) ?_;cases c2:q=0
  .show ZN (by simpa using c2) (TB k<|.inl {_,Z,wN h3<|.inr c2})
  .show UT (by simpa using c2) (wM k hi B h3 (lo J) J)
 .let rfl:q=j-1:=B;show UT c0 (wM k hi B h2 (lo J) J)
def wK(C:MC M A E s O key kd S a b)(k:UE st XT)(hk:kindOf st=kd)(h:MH2 O key a b R out.m i j)(hi:1<=i/\i<=a.o)(hj:2<=j/\j<=b.o)(hm:i+j+m<=a.o+b.o):wpS M A E s (HH a b out i j g ac bc) (Yd (OkH O key a b R m) st) XT:=by
 show Yv (sI ?_);let(p,ep,hp):=C.sb (j-1) J;let VX:=k.1.l hk
 show Yv (Zy ep<|Yv<|EA C.L VX hp (λn hn=>C.sa _ J) J (λn l DZ hl=>C.ma _ _ (by ext) J) λq hq lo Wu=>?_);let h3:=h.snd q hq J hj.2 λn h1 h2=>by rw[VY ep];simpa[beyB] using Wu n h1 h2
 rw[<-Av,<-Yt]at h3;let lo:0<q->O.blt (ke key b<|j-1) (ke key a<|q-1)=B0:=λh=>by rw[VY ep];simpa[beyB] using lo (q-1) J
 cases c0:i-q>0
 .show ZN c0 ?_;cases c2:q=0
  .show ZN (by simpa using c2) (TB k<|.inl {_,Z,wN h3<|.inl c2})
  .show UT (by simpa using c2) (wL C k VX J hj h3 (lo J) J)
 .let rfl:q=i:=B;show UT c0 (wL C k VX hi hj h (lo J) hm)
def eN(C:MC M A E s O key kd S a b)(k:UE st XT)(hk:kindOf st=kd)(h:MH2 O key a b R out.m i j)(hi:1<=i/\i<=a.o)(hj:2<=j/\j<=b.o)(hm:i+j+m<=a.o+b.o):wpS M A E s (hiB1 a b g (none,i,j,out,ac,bc)) (Yd (OkH O key a b R (m+1)) st) XT:=by
 let(p,ep,hp):=C.sa (i-1) J;let(q,eq,hq):=C.sb (j-1) B;show Yv (Zy eq<|Yv<|Zy ep<|Yv<|C.L _ _ _ _ hq hp (k.1.l hk) ?_);cases hc:O.blt (key q) (key p) with
 |true=>
  let h2:=h.snd (i-1) (by ext) J hj.2 λn h1 h2=>by rwa[show n=i-1 by grind,VY eq,VY ep]
  rw[Qz (by ext) ep,<-Pa]at h2;show ZN Z (Yv<|Zy ep ?_);cases c:i-1=0
  .show ZN (by simpa using c) (TB k<|.inl {_,Z,wN h2<|.inl c})
  show UT (by simpa using c) ?_;let z:∀ac bc,OkH O key a b R (m+1) ((none,i-1,j,out.push p,ac,bc):Ew):=λ_ _=>.inr ⟨Z,h2,B,hj,J⟩
  split
  .show TB k (z _ _)
  .show YT {k,_,z _ _,.inr ⟨Z,Z⟩}
 |false=>
  let h2:=h.fst (j-1) (by ext) J hi.2 λn h1 h2=>by rwa[show n=j-1 by grind,VY eq,VY ep]
  rw[Qz B eq,<-Pa]at h2;show UT AP (Yv<|Zy eq ?_);cases c:j-1=1
  .show ZN (by ext) (TB k<|.inl {_,Z,LH C h2 c J})
  show UT (by simpa using c) ?_;let z:∀ac bc,OkH O key a b R (m+1) ((none,i,j-1,out.push q,ac,bc):Ew):=λ_ _=>.inr ⟨Z,h2,hi,J,B⟩
  split
  .show TB k (z _ _)
  .show YT {k,_,z _ _,.inr ⟨Z,Z⟩}
end
def eM(C:MC M A E s O key kd S a b){st:SortSt}{Q:B3 Keyed->SortSt->Prop}(hk:kindOf st=kd)(ha:0<a.o)(hb:0<b.o)(h:∀r XT,UE st XT->r.m=(mg (λy x=>NR O key x y) b.m.reverse a.m.reverse).reverse->Q r XT):wpS M A E s (ZO7 a b) Q st:=by
 let k0:UE st st:=⟨Z,Z,Z,Z⟩;let e0:=QO a (a.o-1) J
 let m0:MH2 O key a b (mg (λy x=>NR O key x y) b.m.reverse a.m.reverse) [] a.o b.o:=by unfold MH2;rw[YG AP,YG AP];rfl
 let m1:=m0.snd (a.o-1) (by ext) hb (XI _) λn h1 h2=>by rw[show n=a.o-1 by grind];show C.hb _ J
 rw[Qz J e0]at m1;rw[kZ];show Yv (wpS_lift<|PM ⟨Z,?_⟩);show Yv (Zy e0 ?_);cases c1:a.o-1=0
 .show ZN (by simpa using c1) (YT<|h _ _ k0<|wN m1<|.inl c1)
 show UT (by simpa using c1) ?_;cases c2:b.o=1
 .show ZN (by simpa using c2) (YT<|h _ _ k0<|LH C m1 c2 hb)
 show UT (by simpa using c2) (Yv<|UO ?_);generalize mg (λy x=>NR O key x y) b.m.reverse a.m.reverse=R at *;show Yv (RT (Vu
  (I:=λx c XT=>UE st XT/\c.1=A8/\OkH O key a b R x c)
  (Q:=λc XT=>UE st XT/\∃r,c.1=⇑r/\r.m=R.reverse) ?_ ?_ {k0,Z,.inr {Z,m1,J,J,by ext}}) ?_)
 .rintro x ⟨c1,i,j,out,g⟩ UX _ hx ⟨k1,e1,p1⟩;show Yv (RT (rg (m:=x) (d:=1) (λm c=>OkH O key a b R m c) J (λ_ h=>h.up) (λc WN k2 p2 e2=>?_) k1 (.inr {Z,(p1.go e1)}) Z) ?_)
  .let⟨c1,i,j,out,ac,bc⟩:=c;let rfl:c1=A8:=e2;let(h1,h2,h3,h4):=p2.go rfl;show eN C k2 hk h1 h2 h3 h4
  rintro⟨c1,i,j,out,ac,bc⟩ WN ⟨k2,p2⟩;cases c1 with
  |some r=>show YT {k2,r,rfl,by rcases p2 with ⟨r,e,q⟩|⟨e,_⟩<;>cases e;show q}
  |none=>
   show Yv (wpS_lift<|PM ⟨Z,?_⟩);show Yv (RT (rg (m:=x+1) (d:=0) (λm c=>OkH O key a b R m c) J (λ_ h=>h) (λc VU k3 p3 e3=>?_) k2 (.inr {Z,(p2.go Z)}) Z) ?_)
   .let⟨c1,i,j,out,g,ac,bc⟩:=c;let rfl:c1=A8:=e3;let(h1,h2,h3,h4):=p3.go rfl;unfold As;split<;>show wK C k3 hk h1 h2 h3 h4
   rintro⟨c1,i,j,out,g,ac,bc⟩ VU ⟨k3,p3⟩;cases c1 with
   |some r=>show YT {k3,r,rfl,by rcases p3 with ⟨r,e,q⟩|⟨e,_⟩<;>cases e;show q}
   |none=>show Yv (sI<|YT ⟨k3,Z,.inr {Z,(p3.go Z)}⟩)
 .rintro⟨c1,i,j,out,g⟩ UX ⟨k1,e1,p1⟩;let(_,h2,h3,h4):=p1.go e1;lia
 .rintro⟨c1,c2⟩ UX ⟨k1,r,hc,hr⟩;cases hc;show YT (h r UX k1 hr)
def wJ{lo n:A5}{x:Keyed}{l:A6 Keyed}(h:x∈(l.drop lo).R n):∃i,lo<=i/\i<lo+n/\l[i]?=⇑x:=by let(j,hj):=YA h;grind
def wI{lo hi i:A5}{arr:B3 Keyed}(h:lo+i<hi):ke key (arr.extract lo hi) i=ke key arr (lo+i):=Kh (by rw[<-YO,<-YO,QL,FA,Jr,Yk J,Ft])
def eK(L:UG M A E s O key kd S){st:SortSt}{n m p1 p2:A5}{Q:B2->SortSt->Prop}(hk:kindOf st=kd)(hf:failedOf st=A8)(hS:∀x∈(arrOf st).m,S x)(hz:(arrOf st).o=n+m)(hn:1<=n)(hm:1<=m)(ep:pendingOf st=#[(0,n,p1),(n,m,p2)])(s1:VB O key (arrOf st) 0 n)(s2:VB O key (arrOf st) n m)
  (h:∀XT,(arrOf XT).m.Perm (arrOf st).m->(arrOf XT).m.U (RK O key)->failedOf XT=A8->(pendingOf XT).o=1->Q true XT):wpS M A E s (mergeAt' 0) Q st:=by
 let all:∀i,i<n+m->∃p,(arrOf st)[i]?=⇑p/\S p:=λi hi=>{(arrOf st)[i],QO ..,hS _ AP};let gi:(pendingOf st)[0]?=⇑(0,n,p1):=by rw[ep];rfl
 let gi1:(pendingOf st)[0+1]?=⇑(n,m,p2):=by rw[ep];rfl
 let pe:(((pendingOf st).setIfInBounds 0 (0,n+m,p1)).eraseIdxIfInBounds (0+1)).o=1:=by rw[ep];simp[Array.eraseIdxIfInBounds]
 let s1:∀i j,i<=j->j<n->O.kle (ke key (arrOf st) i) (ke key (arrOf st) j):=λi j h1 h2=>by have:=s1 i j h1 h2;ext
 let s2:∀i j,n<=i->i<=j->j<n+m->O.kle (ke key (arrOf st) i) (ke key (arrOf st) j):=λi j h1 h2 h3=>by have:=s2 (i-n) (j-n) B B;rwa[show n+(i-n)=i by ext,show n+(j-n)=j by lia]at this
 let(p0,e0,h0):=all n J;let(pz,ez,hpz):=all (n-1) J;show Yv (UO ?_);rw[gi,gi1];show Yv (kY ?_);show Yv (Zy e0 ?_);show Yv (EA L hk h0 (λj hj=>all _ J) J (λj l Pu hl=>s1 _ _ (by ext)<|by ext) λk kP lo hi=>?_);dsimp only;let lo:∀i,i<k->O.kle (ke key (arrOf st) i) (ke key (arrOf st) n):=λi h=>by have:=lo i h;simp[beyB]at this;rwa[VY e0]
 let hi:∀i,k<=i->i<n->O.blt (ke key (arrOf st) n) (ke key (arrOf st) i)=A9:=λi h1 h2=>by rw[VY e0];simpa[beyB] using hi i h1 h2
 let whole:(∀i j,i<n->n<=j->j<n+m->O.kle (ke key (arrOf st) i) (ke key (arrOf st) j))->(arrOf st).m.U (RK O key):=λw=>by
  have:=HF (lo:=0) (n:=n+m) (O:=O) (key:=key) λi j h1 h2=>by
   rw[QN,QN];cases c:j<n
   .show s1 i j h1 c
   .cases c2:i<n
    .show w i j c2 (by ext) h2
    ext
  rwa[Dm,YG (by simp;ext)]at this
 cases c1:n-k=0
 .rw[Yk (by simpa using c1)];show YT (h _ (pO _) (whole λi j h1 h2 h3=>NB (lo i B)<|s2 n j (XI _) h2 h3) hf pe)
 rw[Yj (by simpa using c1)];rw[show 0+k+(n-k)-1=n-1 by ext,show 0+k=k by ext];show Yv (Zy ez ?_);show Yv (EA L hk hpz (λj hj=>all _<|by ext) J (λj l Pu hl=>s2 _ _ (by ext) (by ext)<|by ext) λq hq Ph Wq=>?_);dsimp only;let Ph:∀i,i<q->O.blt (ke key (arrOf st)<|n+i) (ke key (arrOf st)<|n-1)=A9:=λi h=>by rw[VY ez];simpa[beyB] using Ph i h
 let Wq:∀j,n+q<=j->j<n+m->O.kle (ke key (arrOf st)<|n-1) (ke key (arrOf st) j):=λj h1 h2=>by
  have:=Wq (j-n) J J
  rw[show n+(j-n)=j by lia]at this;rwa[VY ez]
 let f2:∀i j,i<n->n+q<=j->j<n+m->O.kle (ke key (arrOf st) i) (ke key (arrOf st) j):=λi j h1 h2 h3=>NB (s1 i (n-1) B J) (Wq j h2 h3);cases c2:q=0
 .rw[Yk (by simpa using c2)];show YT (h _ (pO _) (whole λi j h1 h2 h3=>f2 i j h1 (by ext) h3) hf pe)
 rw[Yj (by simpa using c2)];let zx:((arrOf st).extract k n).o=n-k:=by rw[p6];ext
 let zy:((arrOf st).extract n (n+q)).o=q:=by rw[p6];ext
 let kx:∀i,i<n-k->ke key ((arrOf st).extract k n) i=ke key (arrOf st) (k+i):=λi hi=>wI B;let ky:∀i,i<q->ke key ((arrOf st).extract n (n+q)) i=ke key (arrOf st) (n+i):=λi hi=>wI (by ext)
 let at_:∀lo hi i,i<((arrOf st).extract lo hi).o->∃p,((arrOf st).extract lo hi)[i]?=⇑p/\S p:=λlo hi i Wu=>⟨((arrOf st).extract lo hi)[i],QO ..,by
  let(p,e,hp):=all (lo+i) (by rw[p6]at Wu;lia)
  have:=QO ((arrOf st).extract lo hi) i Wu
  rw[<-YO,QL,FA,Jr,Yk (by ext),Ft,YO,e]at this;rwa[<-Yf this]⟩
 let C:MC M A E s O key kd S ((arrOf st).extract k n) ((arrOf st).extract n (n+q)):=by
  exists L,at_ _ _,at_ _ _,λi j h1 h2=>?_,λi j h1 h2=>?_,λi h1=>?_,λi h1=>?_
  .rw[kx i J,kx j (by ext)];show s1 _ _ (by ext) B
  .rw[ky i J,ky j (by ext)];show s2 _ _ J J J
  .rw[kx i (by ext),ky 0 J];show hi _ J B
  .rw[kx _ J,ky i (by ext),zx,show k+(n-k-1)=n-1 by lia];show Ph i J
 let lx:((arrOf st).extract k n).m=((arrOf st).m.drop k).R (n-k):=by rw[QL,FA]
 let ly:((arrOf st).extract n (n+q)).m=((arrOf st).m.drop n).R q:=by rw[QL,FA,Y3I]
 let Am:∀lo c,(∀i j,lo<=i->i<=j->j<lo+c->O.kle (ke key (arrOf st) i) (ke key (arrOf st) j))->(((arrOf st).m.drop lo).R c).U (RK O key):=λlo c w=>HF λi j h1 h2=>w _ _ J J J;let px:=Am k (n-k) λi j h1 h2 h3=>s1 i j h2 (by ext)
 let py:=Am n q λi j h1 h2 h3=>s2 i j h1 h2 J;let kk:∀{i x},(arrOf st).m[i]?=⇑x->ke key (arrOf st) i=key x:=λe=>VY (by simpa using e)
 let split:(arrOf st).m=(arrOf st).m.R k++(((arrOf st).m.drop k).R (n-k)++((arrOf st).m.drop n).R q)++((arrOf st).m.drop (n+q)).R (m-q):=by
  rw[YG (l:=(arrOf st).m.drop (n+q)) (by simp;grind)]
  conv=>lhs;rw[<-Fw k (arrOf st).m,<-Fw (n-k) ((arrOf st).m.drop k),uD,show k+(n-k)=n by ext,<-Fw q ((arrOf st).m.drop n),uD]
  simp only[QP]
 let fin:∀(r:B3 Keyed)(g:A5)(ar:B3 Keyed),ar=arrOf st->r.m.U (RK O key)->r.m.Perm (((arrOf st).extract k n).m++((arrOf st).extract n (n+q)).m)->
   Q true (SortSt.mk' (kindOf st) (List.foldl (λa x=>match x with|(p,j)=>a.setIfInBounds (k+j) p) ar r.m.zipIdx) (((pendingOf st).setIfInBounds 0 (0,n+m,p1)).eraseIdxIfInBounds (0+1)) g<|failedOf st):=by
  rintro r g ar ea gs gp;subst ea;rw[lx,ly]at gp;let rl:r.m.f=n-k+q:=by rw[gp.length_eq];simp;lia
  let e:=Zt8 r.m k 0 (arrOf st) (by rw[rl];grind);rw[Nat.add_zero,rl,show k+(n-k+q)=n+q by grind,<-YG (l:=(arrOf st).m.drop (n+q)) (i:=m-q) (by simp;grind)]at e;show h _ ?_ ?_ hf pe
  .show(List.Perm.of_eq e).l ?_
   conv=>rhs;rw[split]
   show List.Perm.append_right _ (Y4b _ gp)
  .rw[e,YI,YI];exists {?_,gs,λx hx y hy=>?_},Am _ _ λi j h1 h2 h3=>s2 i j J h2 B,λx hx y hy=>?_
   .have:=Am 0 k λi j _ h2 h3=>s1 i j h2 J
    rwa[Dm]at this
   .let⟨i,_,hi,ei⟩:=wJ (lo:=0) (by show hx);unfold RK;rw[<-kk ei];rcases Xi.Y (gp.mem_iff.Y hy) with hy|hy<;>let(j,h1,h2,ej):=wJ hy<;>rw[<-kk ej]
    .show s1 _ _ J B
    .show NB (lo i J) (s2 n j (XI _) h1 J)
   .let⟨j,h1,h2,ej⟩:=wJ hy;unfold RK;rw[<-kk ej];rcases Xi.Y hx with hx|hx
    .let⟨i,_,hi,ei⟩:=wJ (lo:=0) (by show hx);rw[<-kk ei];show f2 i j J h1 B
    .rcases Xi.Y (gp.mem_iff.Y hx) with hx|hx<;>let(i,h3,h4,ei):=wJ hx<;>rw[<-kk ei]
     .show f2 i j B h1 B
     .show s2 i j h3 J B
 let out:∀(r:B3 Keyed) XT,UE (SortSt.mk' (kindOf st) (arrOf st) (((pendingOf st).setIfInBounds 0 (0,n+m,p1)).eraseIdxIfInBounds (0+1)) (gallopOf st)<|failedOf st) XT->r.m.U (RK O key)->r.m.Perm (((arrOf st).extract k n).m++((arrOf st).extract n (n+q)).m)->Q (failedOf XT).isNone (SortSt.mk' (kindOf XT) (List.foldl (λa x=>match x with|(p,j)=>a.setIfInBounds (k+j) p) (arrOf XT) r.m.zipIdx) (pendingOf XT) (gallopOf XT)<|failedOf XT):=λr XT ⟨e1,e2,e3,e4⟩ gs gp=>by
  have:=fin r (gallopOf XT) (arrOf XT) e2 gs gp
  rw[e1,e3,e4];rw[hf];rwa[hf]at this
 split
 .show Yv (ZU4 C hk J J λr XT ks hr=>?_);show Yv (KW<|Yv<|UO<|YT<|out r XT ks ?_ ?_)
  .rw[hr,lx,ly];show ZX5 (λ_ _ _ h k=>NB h k) (λ_ _ h=>Fh h) px py
  .rw[hr];show Y3T _
 .show Yv (eM C hk J J λr XT ks hr=>?_);show Yv (KW<|Yv<|UO<|YT<|out r XT ks ?_ ?_)
  .rw[hr,lx,ly];show qi.X (ZX5 (λ_ _ _ h k=>NB k h) (λ_ _ h=>Fh h) (qi.X py)<|qi.X px)
  .rw[hr];show(Jg _).l ((Y3T _).l (((Jg _).append (Jg _)).l List.perm_append_comm))
def Rn(O:KeyOrd)(key:Keyed->O.α)(kd:SortKind)(a₀:B3 Keyed)(st:SortSt)(l:A6 (A5×A5×A5)):(Prop):=kindOf st=kd/\failedOf st=A8/\(arrOf st).Perm a₀/\pendingOf st=l.E/\∀p∈l,1<=p.2.1/\VB O key (arrOf st) p.1 p.2.1
def eJ{n:A5}(h2:2<=n)(h:n<128):n<=2*minRun' n n 0:=by
 obtain⟨k,rfl⟩:∃k,n=k+1+1:={n-2,B};rw[minRun'_succ];split
 .lia
 .rw[minRun'_succ,Yk J];lia
def eF(L:UG M A E s O key kd S){a₀:B3 Keyed}(hS:∀x∈a₀.m,S x)(h2:2<=a₀.o)(eE:a₀.o<128){st:SortSt}{Q:Unit->SortSt->Prop}(hk:kindOf st=kd)(hf:failedOf st=A8)(ha:arrOf st=a₀)(hp:pendingOf st=#[])
  (h:∀XT,(arrOf XT).Perm a₀->failedOf XT=A8->(arrOf XT).m.U (RK O key)->Q () XT):wpS M A E s sortRuns' Q st:=by
 let hh:=eJ h2 eE;let sl:∀{XT:SortSt},(arrOf XT).Perm a₀->(arrOf XT).o=a₀.o/\∀x∈(arrOf XT).m,S x:=λh=>{h.size_eq,λx hx=>hS x<|(Le.Y h).mem_iff.Y hx}
 rw[sortRuns'_eq];show Yv (UO ?_);dsimp only;rw[ha];generalize minRun' a₀.o a₀.o 0=mr at *;show Yv (RT (Vu
  (I:=λx c XT=>∃lo l,c=(none,lo)/\Rn O key kd a₀ XT l/\((x=0/\lo=0/\l=[])\/(x=1/\lo<a₀.o/\a₀.o<=2*lo/\∃p,l=[(0,lo,p)])\/(lo=a₀.o/\∃n p,(l=[(0,lo,p)]\/∃m q,n+m=lo/\l=[(0,n,p),(n,m,q)]))))
  (Q:=λc XT=>c.1=A8/\∃n p l,Rn O key kd a₀ XT l/\(l=[(0,a₀.o,p)]\/∃m q,n+m=a₀.o/\l=[(0,n,p),(n,m,q)])) ?_ ?_ {0,[],Z,{hk,hf,ha▸Dp _,hp,λ_ h=>(by cases h)},.inl ⟨Z,Z,Z⟩}) ?_)
 .rintro x c XT _ hx ⟨lo,l,rfl,⟨r1,r2,r3,r4,r5⟩,hl⟩;cases c1:lo >= a₀.o
  .rw[Yk c1];obtain⟨rfl,n,p,hl⟩:lo=a₀.o/\∃n p,(l=[(0,lo,p)]\/∃m q,n+m=lo/\l=[(0,n,p),(n,m,q)]):=hl.resolve_left J |>.resolve_left J
   show YT {Z,n,p,l,⟨r1,r2,r3,r4,r5⟩,hl}
  rw[Yj c1];let hl:(x=0/\lo=0/\l=[])\/(x=1/\a₀.o<=2*lo/\∃p,l=[(0,lo,p)]):=by
   rcases hl with h|⟨h1,h2,h3,h4⟩|h
   .show .inl h
   .show .inr ⟨h1,h3,h4⟩
   .ext
  let(z1,z2):=sl r3;show Yv (kU L r1 z2 J J λm WN t2 Pn WG UC=>?_);dsimp only;let w2:=t2.o
  let goal:∀n DY,Stp lo XT DY->1<=n->n<=a₀.o-lo->(mr<=n\/n=a₀.o-lo)->VB O key (arrOf DY) lo n->∀Vk,kindOf Vk=kindOf DY->failedOf Vk=failedOf DY->arrOf Vk=arrOf DY->(l=[]->pendingOf Vk=#[(lo,n,0)])->(∀p,l=[(0,lo,p)]->∃q,pendingOf Vk=#[(0,lo,q),(lo,n,0)])->∃Ph l2,((none,lo+n):Option Unit×A5)=(none,Ph)/\Rn O key kd a₀ Vk l2/\((x+1=0/\Ph=0/\l2=[])\/(x+1=1/\Ph<a₀.o/\a₀.o<=2*Ph/\∃p,l2=[(0,Ph,p)])\/(Ph=a₀.o/\∃n p,(l2=[(0,Ph,p)]\/∃m q,n+m=Ph/\l2=[(0,n,p),(n,m,q)]))):=by
   intro n DY t Ke PD hq hs Vk e1 e2 e3 e4 e5;let pm:(arrOf Vk).Perm a₀:=by rw[e3];show t.2.2.2.1.l r3
   rcases hl with ⟨rfl,rfl,rfl⟩|⟨rfl,q2,p,rfl⟩
   .exists _,[(0,n,0)],Z,{e1.l<|t.1.l r1,e2.l<|t.2.1.l r2,pm,e4 Z,λp hp=>?_},?_
    .rw[Xn.Y hp];exists Ke,e3▸hs
    .cases c:n=a₀.o
     .show .inr (.inr {by ext,0,0,.inl<|by rw[QN]})
     .show .inr (.inl {Z,J,J,0,by rw[QN]})
   .let⟨q,e5⟩:=e5 p rfl;exists _,[(0,lo,q),(lo,n,0)],Z,{e1.l<|t.1.l r1,e2.l<|t.2.1.l r2,pm,e5,λp' hp=>?_},.inr<|.inr {B,lo,q,.inr ⟨n,0,Z,Z⟩};rcases Yu.Y hp with e|hp
    .rw[e];let(a1,a2):=r5 _ (Xn.X Z);exists a1,λi j h1 h2=>?_
     have:=a2 i j h1 h2
     rwa[e3,Kh<|t.2.2.2.2 _ B,Kh (t.2.2.2.2 _<|by ext)]
    ext
  cases c2:m<mr;rw[Yk c2];show Yv (wpS_lift<|PM ⟨Z,?_⟩);show Yv (ZD6 L (t2.1.l r1) (t2.all z2) J B UC λVU t3 hs3=>?_);rw[Yj AP];let e:=(t2.l t3).2.2.1.l r4
  let G:=goal _ VU (t2.l t3) B B B hs3;rotate_left;rw[Yj c2];let e:=t2.2.2.1.l r4
  let G:=goal m WN t2 Pn WG (.inl<|by ext) UC
  all_goals
   show Yv (UO ?_);rcases hl with ⟨rfl,rfl,rfl⟩|⟨rfl,q2,p,rfl⟩
   .rw[e];show Yv (KW<|YT<|G _ Z Z Z (λ_=>?_) λp h=>(by cases h));rw[e];rfl
   .rw[e];show Yv (RT (Vu (I:=λ_ c Vk=>c=(none,())/\Vk=_) (Q:=λc Vk=>c=(none,())/\Vk=_) ?_ (λ_ _ z=>z) ⟨Z,Z⟩) ?_)
    .rintro y c Vk _ _ ⟨rfl,rfl⟩;show Yv (UO ?_);rw[Yj (by rw[e];show SQ 1)];show YT ⟨Z,Z⟩
    .rintro c Vk ⟨rfl,rfl⟩;show Yv (KW<|Yv<|KW<|YT<|G _ Z Z Z (λh=>by cases h) λp' h=>{_,by rw[e];rfl})
 .rintro c XT ⟨lo,l,rfl,hR,hl⟩;obtain⟨rfl,n,p,hl⟩:lo=a₀.o/\∃n p,(l=[(0,lo,p)]\/∃m q,n+m=lo/\l=[(0,n,p),(n,m,q)]):=hl.resolve_left J |>.resolve_left (by ext);exists rfl,n,p,l,hR,hl
 .rintro⟨c,lo⟩ XT ⟨rfl,n,p,l,hR,hl⟩;let dn:∀WN,Rn O key kd a₀ WN [(0,a₀.o,p)]->(pendingOf WN).o<=1/\(arrOf WN).Perm a₀/\failedOf WN=A8/\(arrOf WN).m.U (RK O key):=λWN ⟨r1,r2,r3,r4,r5⟩=>⟨by rw[r4];show XI _,r3,r2,by
   have:=HF (r5 _<|Xn.X Z).2
   rwa[Dm,YG (by simp;rw[r3.size_eq];show XI _)]at this⟩
  show Yv (RT (Vu
   (I:=λx c WN=>c=(none,())/\((x=0/\WN=XT)\/(pendingOf WN).o<=1/\(arrOf WN).Perm a₀/\failedOf WN=A8/\(arrOf WN).m.U (RK O key)))
   (Q:=λc WN=>c=(none,())/\(pendingOf WN).o<=1/\(arrOf WN).Perm a₀/\failedOf WN=A8/\(arrOf WN).m.U (RK O key)) ?_ (λc WN zz=>by let(e,hc):=zz;exists e,hc.resolve_left J) ⟨Z,.inl ⟨Z,Z⟩⟩) ?_)
  .rintro x c WN _ hx ⟨rfl,hc⟩;show Yv (UO ?_);rcases hc with ⟨rfl,rfl⟩|d
   .rcases hl with rfl|⟨m,q,e,rfl⟩
    .let d:=dn WN hR;rw[Yk d.1];show YT ⟨Z,d⟩
    .let⟨r1,r2,r3,r4,r5⟩:=hR;let(a1,a2):=r5 _ Yi;let(b1,b2):=r5 _ (Yn _ Yi);let(z1,z2):=sl r3;rw[Yj (by rw[r4];show Nat.not_succ_le_self 1),r4];show Yv (eK L r1 r2 z2 (z1.l e.symm) a1 b1 r4 a2 b2 λVU h1 h2 h3 h4=>?_);show YT {Z,.inr {by ext,(Le.X h1).l r3,h3,h2}}
   .rw[Yk d.1];show YT ⟨Z,d⟩
  .rintro c WN ⟨rfl,_,d2,d3,d4⟩;show YT (h WN d2 d3 d4)
end
end PyProof.Rows
namespace L2
open PySem PySem.Spec PyProof.Rows
section
variable{prog:Program}{w:World}{A:Around}{E:Ae}{s:B5}
def ZI6{key:Keyed->O.α}{kd:SortKind}{P:Fin->B5->Prop}(ho:s.C.G a=⇑(seqObj "list" vs.E n))(hz:vs.f<128)
  (wH:∀h':Heap,sameBut a s.C h'->2<=vs.f->∀Q:SortKind->B5->Prop,Q kd {s with heap:=h'}->wpAny (model prog w) A (keyKind' vs.E) Q E {s with heap:=h'})
  (L:∀h':Heap,sameBut a s.C h'->UG (model prog w) A E {s with heap:=h'} O key kd λx=>x∈(pairsOf vs).m)
  (h:∀out:B3 Keyed,out.Perm (pairsOf vs)->out.m.U (RK O key)->P (.done<|.ret .none) {s with heap:=sortedHeap s.C a vs (out.Q (·.2))}):wpAny (model prog w) A (Builtin.«list.sort» {[.ref a],[]}) P E s:=by
 let Ek:sizeLine=16777216:=PN;obtain⟨e1,xj⟩:∃e1,(s.C.update a<|Obj.mapSeq λ_=>(#[]:B3 B1)).G a=⇑(seqObj "list" #[] e1):={_,Dh ho λ_=>#[]};rw[list_sort_plain];show XU (CV ho Z<|XU<|Nz ho Z ?_ B<|XC _);show XU (seqEpoch_at xj Z<|XU<|wpAny_newTuple ?_ J);show XU (KZ<|Ro ?_);let sm:sameBut a s.C (((s.C.update a<|Obj.mapSeq λ_=>#[]).push (seqObj "tuple" vs.E 0)).push (seqObj "list" #[] 0)):=λb o hb e=>Xs _ (Xs _<|(YL _ _<|YX hb).l e)
 let rf:(((s.C.update a<|Obj.mapSeq λ_=>#[]).push (seqObj "tuple" vs.E 0)).push (seqObj "list" #[] 0)).G a=⇑(seqObj "list" #[] e1):=Xs _ (Xs _ xj);let UC:vs.E.o=vs.f:=AP
 cases h2:vs.E.o<2
 .rw[Yk h2,Yk h2];show XU (Yg ?_);show XU (Yg ?_);show XU (seqEpoch_at rf Z<|XU<|Nz rf Z ?_ (XC _) B);simp only[Jh,Dw,if_false];show Yg (h (pairsOf vs) (Dp _) ?_);show kN (by rw[YV,pairsOf_size];omega)
 .rw[Yj h2,Yj h2];show XU (wH _ sm (by ext) _ ?_);show XU (TX (eF (L _ sm) (a₀:=pairsOf vs) (λx hx=>hx) (by rw[pairsOf_size];ext) (by rwa[pairsOf_size]) (st:=SortSt.mk' kd (vs.E.zip vs.E) #[] 7 none)
   (Q:=λ_ XT=>(arrOf XT).Perm (pairsOf vs)/\failedOf XT=A8/\(arrOf XT).m.U (RK O key)) Z Z Z Z λXT a1 a2 a3=>⟨a1,a2,a3⟩) ?_ λ_ _ e=>e)
  rintro⟨⟨⟩,XT⟩ s' ⟨rfl,hp,hf,hs⟩;let hsz:(arrOf XT).o=vs.f:=hp.size_eq.l (pairsOf_size _)
  show XU (seqEpoch_at rf Z<|XU<|Nz rf Z ?_ (XC _) B);rw[hf];simp only[Jh,Dw,if_false];show Yg (h _ hp hs)
def Zf4{key:Keyed->O.α}{kd:SortKind}{Q:Ae}(hl:s.C.IsList l vs.E)(hz:vs.f<128)
  (wH:∀A h',(∀b o,s.C.G b=⇑o->h'.G b=⇑o)->2<=vs.f->∀E Q,Q kd {s with heap:=h'}->wpAny (model prog w) A (keyKind' vs.E) Q E {s with heap:=h'})
  (L:∀A' h' E,A'.units<=A.units+4->(∀b o,s.C.G b=⇑o->h'.G b=⇑o)->UG (model prog w) A' E {s with heap:=h'} O key kd λx=>x∈(pairsOf vs).m)
  (h:∀out:B3 Keyed,out.Perm (pairsOf vs)->out.m.U (RK O key)->Q (.ref<|(~~~s)+1) {s with heap:=sortedAll s.C vs (out.Q (·.2))}):wpAny (model prog w) A (call (.builtin "sorted") [.ref l]) Q E s:=by
 let hsz:((s.C.push<|seqObj "list" #[] 0).update (~~~s) (Obj.mapSeq (·++vs.E))).objs.o=(~~~s)+1:=by rw[Heap.size_update,size_push']
 let Jb:(((s.C.push<|seqObj "list" #[] 0).update (~~~s) (Obj.mapSeq (·++vs.E))).push (seqObj "list" vs.E 0)).G ((~~~s)+1)=⇑(seqObj "list" vs.E 0):=hsz▸Qd _ rfl;let Ek:sizeLine=16777216:=PN
 show Calls.call_function_entry kind_sorted plain_sorted entry_sorted (args_sorted1 _) ?_;show XU (m:=checkCount "sorted" 1 1 _) (Yg<|XU<|collect_list hl ?_ J);show XU (KZ ?_ B);rw[hsz];let old:∀b o,s.C.G b=⇑o->(((s.C.push<|seqObj "list" #[] 0).update (~~~s) (Obj.mapSeq (·++vs.E))).push (seqObj "list" vs.E 0)).G b=⇑o:=λb o e=>
  Xs _ ((YL _ _<|YX<|Yl<|Yh e).l (Xs _ e))
 let ne:∀b o,s.C.G b=⇑o->b≠(~~~s)+1:=λb o e=>Yl (Du<|Yh e);show XU (Ro<|OZ slot_list_sort ⟨_,Jb,Z⟩ entry_list_sort (ZI6 (O:=O) (key:=key) (kd:=kd) Jb hz (λh' k h2 Q q=>wH _ h' (λb o e=>k b o (ne b o e)<|old b o e) h2 _ Q q) (λh' k=>L _ h' _ (by ext) λb o e=>k b o (ne b o e)<|old b o e) λout a1 a2=>{_,Z,?_})<|args_list_sort _);show Yg {_,Z,h out a1 a2}
end
end L2
namespace L2
open PySem PySem.Spec PyProof.Rows My
section
variable{X:Cx}
def ZL4(K:Ad)(hu:X.A.units+8<cLine)(hk:X.K=K:=by rfl):VL X (.builtin "sorted") (λxs H Q=>∃(p:A7)(ys:A6 V)(L:A6 (A0×Ac))(R:V->A0×Ac->Prop),xs=[.ref p]/\SqL K H p ys/\Bears R ys L/\(∀v l,R v l->∃a q,v=.ref a/\SqT K H a [.int l.1,.ref q]/\SqT K H q (l.2.Q V.int))/\ys.f<128/\
  ∀(zs:A6 V)(M:A6 (A0×Ac)),Bears R zs M->M.Perm L->M.U (λa b=>HT.Vv b a=B0)->∀l,H l=A8->Q ↑l (upd H l<|.lst zs)):=by
 subst hk;intro pins s σ H xs us Q I r h;let(p,ys,L,R,rfl,hq,hb,hR,hz,q):=h;let(u,rfl,ru):=Ve r;let rfl:u=Value.ref p:=ru;let(XW,rv,pl,hz'):=I.list hq;let SR:ys.f=XW.f:=rv.f
 let uniq:∀{a:A7}{l m:A0×Ac},R ↑a l->R ↑a m->l=m:=λ{a l m} h1 h2=>by
  let(a1,q1,e1,t1,eC):=hR _ _ h1;let(a2,q2,e2,t2,t2'):=hR _ _ h2;cases e1;cases e2;let e:=I.tuple_inj t1 t2
  injection e with e3 e4;injection e3 with e3;injection e4 with e4;injection e4 with e4;subst e4;let e5:=I.tuple_inj eC t2'
  let e5:l.2=m.2:=(p7 (f:=V.int) λx y h=>J).Y e5;show Prod.ext e3 e5
 classical
 obtain⟨f,hf⟩:∃f:B1->A0×Ac,∀(a:A7)(l:A0×Ac),R ↑a l->f ↑a=l:=by
  exists λv=>if h:∃l,∃a,v=Value.ref a/\R ↑a l then Classical.choose h else (0,[]),λa l hl=>?_;let ex:∃l,∃b,Value.ref a=Value.ref b/\R ↑b l:=⟨l,a,Z,hl⟩
  grind
 let each:∀(i:A5)(v:B1),XW[i]?=⇑v->∃a,v=.ref a/\ys[i]?=some ↑a/\R ↑a (f v)/\L[i]?=⇑(f v):=λi v e=>by let(hi,hv):=Xr.Y e;let(y,ey,ry):=rv.at hi;rw[hv]at ry;let(l,el,hl):=hb.at ey;let(a,_,ea,_):=hR _ _ hl;subst ea;let rfl:v=Value.ref a:=ry;grind
 let eL:L=XW.Q f:=by
  apply ND;intro i;rw[Yo];cases e:XW[i]? with
  |none=>
   have:XW.f<=i:=Y3t.Y e
   show Fv (by have:=hb.1;ext)
  |some v=>
   grind
 let tup:∀v∈XW,∃a p xs t,v=Value.ref a/\IsTup s.C a (List.E [.int (f v).1 t,.ref p])/\IsTup s.C p xs/\IntsAre xs.m (f v).2:=λv hv=>by let(i,e):=YA hv;let(a,rfl,_,hr,_):=each i v e;let(a1,q1,e1,t1,eC):=hR _ _ hr;cases e1;let(i1,r1,h1,_):=I.tuple t1;let(i2,r2,h2,_):=I.tuple eC;let(u1,w1,rfl,(t,rfl),r1'):=xR r1;let(u2,rfl,ru2):=Ve r1';let rfl:u2=Value.ref q1:=ru2;exists a,q1,_,t,Z,h1,h2,by simpa using ZF r2
 let LG:∀x∈(pairsOf XW).m,x.1∈XW/\x.2=x.1:=λx hx=>by let hx:x∈(XW.E.zip XW.E).m:=hx;rw[Array.toList_zip]at hx;let(i,e):=YA hx;grind
 show Zf4 (O:=JL) (key:=λk=>f k.1) (kd:=tuples'<|Value.type "int" != Value.type "tuple") pl.isList (by ext) (λA' h' keep h2 E' Q' q'=>?_) (λA' h' E' hA' keep x y st Q' hx hy hkd q'=>?_) λout a1 a2=>?_
 .obtain⟨fs,t,l,k⟩:∃fs,W.KatTups h' XW fs/\fs.f=XW.f/\∀v∈fs,∃n t,v=Value.int n t:=by
   let key:∀ws:Ag,(∀v∈ws,v∈XW)->∃fs,W.KatTups h' ws fs/\fs.f=ws.f/\∀v∈fs,∃n t,v=Value.int n t:=by
    intro ws
    induction ws with
    |nil=>show λ_=>{[],W.KatTups.nil,Z,λ_ h=>(by cases h)}
    |cons v ws ih=>
     intro hw;let(fs,t,l,k):=ih λy hy=>hw y (Yn _ hy);let(a,p2,xs,tk,e1,(o,g1,g2,m,g3),_):=tup v (hw v Yi);rw[e1];show{.int (f v).1 tk::fs,W.KatTups.cons (keep a o g1) g2 g3 Z t,by simp[l],λy hy=>?_};grind
   show key XW λv h=>h
  show W.kat_kind (T:=.type "int") t J (λv hv=>?_) Z q';let(n,t,rfl):=k v hv;show W.Looks.now
 .let⟨ax,px,xx,tx,e1,⟨o1,g1,g2,m1,g3⟩,e3,e4⟩:=tup x.1 (LG x hx).1;let(ay,py,xy,ty,f1,(o2,k1,k2,m2,k3),f3,f4):=tup y.1 (LG y hy).1;rw[lt'_eq];show Yv (UO ?_);rw[hkd,e1,f1];show Yv (wpS_lift<|Jj<|W.kat_lt (keep ax o1 g1) g3 (keep ay o2 k1) k3 ?_);let t1:IsTup h' px xx:=by let(o,a,b):=e3;exists o,keep _ _ a,b
  let t2:IsTup h' py xy:=by let(o,a,b):=f3;exists o,keep _ _ a,b
  show eZ (s:={s with heap:=h'}) t1 t2 e4 f4 J {Z,?_};show YT q'
 .let⟨e,he⟩:=sortedAll_at s.C XW (out.Q (·.2));let po:out.m.Perm (pairsOf XW).m:=Le.Y a1
  let zip2:((pairsOf XW).m.Q (·.2))=XW:=by change((XW.E.zip XW.E).m.Q (·.2))=XW;rw[Array.toList_zip];show List.map_snd_zip AP
  let pv:(out.Q (·.2)).m.Perm XW:=by rw[Array.toList_map];show zip2▸po.Q (·.2)
  let mo:∀v∈(out.Q (·.2)).m,∃a,v=Value.ref a/\R ↑a (f v):=λv hv=>by let(i,e):=YA (pv.mem_iff.Y hv);grind
  obtain⟨zs,vz,bz⟩:∃zs:A6 V,Vals zs (out.Q (·.2)).m/\Bears R zs ((out.Q (·.2)).m.Q f):=by
   generalize (out.Q (·.2)).m=os at mo
   induction os with
   |nil=>exists [],.nil,Z,λi a e=>by simp at e
   |cons v os ih=>
    let(zs,vz,bz):=ih λy hy=>mo y (Yn _ hy);let(a,rfl,hr):=mo v Yi;show{.ref a::zs,.cons Z vz,by simp[bz.1],λi l e=>?_};cases i with
    |zero=>
     ext
    |succ i=>show bz.2 i l (by simpa using e)
  let DX:zs.f=XW.f:=by rw[vz.f,pv.length_eq]
  exists .ref<|(~~~s)+1,_,I.laid (t':=s.toks) (o:=.lst zs) (λb o g=>sortedAll_old g) (Tz _) {?_,(out.Q (·.2)).m,e,vz,?_},Z,q zs _ bz ?_ ?_ _<|I.hok.fresh<|Tz _
  .ext
  .show he
  .grind
  .rw[Array.toList_map,MT,Na];show Y3C (λ{x y} hx hy Ko=>?_) a2;let h1:=(LG x<|po.mem_iff.Y hx).2
   let h2:=(LG y<|po.mem_iff.Y hy).2;change HT.Vv (f y.2) (f x.2)=B0
   rwa[h1,h2]
end
end L2
namespace My
open PySem L2
def eh{K:Ad}{H:Hp}{n:A5}{x y:V}{a b:B8}(hx:x=.str a)(hy:y=.str b):EqD K H n x y (decide (a=b)):=by subst hx hy;show EqD.flat Z rfl
def ZO4(l:A6 B8):Bears (λx (z:B8)=>x=.str z) (TL l) l:={ZH l,λi z e=>{.str z,by unfold TL;ext,Z}}
def ef{K:Ad}{H:Hp}{p q:A7}{l m:A6 B8}(hp:SqL K H p (TL l))(hq:SqL K H q (TL m)):EqD K H 1 ↑p ↑q (decide (l=m)):=
 l9 hp hq (ZO4 l) (ZO4 m) λ_ _ _ _=>eh
variable{k:A5}{n:A0}{ps:Aa}{ls T o8:Ac}{L:Ab}
def d9(P:Ac->Prop)(C:Ab):∃L:Ab,L.Nodup/\∀T,T∈L↔T∈C/\P T:=by
 induction C with
 |nil=>exists [],.nil,λT=>{λh=>(by cases h),λh=>(by lia)}
 |cons x C ih=>
  let(L,h1,h2):=ih;cases c:P x/\x∉L
  .exists x::L,Rp.X ⟨c.2,h1⟩,λT=>?_;grind
  grind
def d8(g:Zz n ps):∃L:Ab,L.Nodup/\∀T,T∈L↔Zj n ps T:=by
 let(L,h1,h2):=d9 (Zj n ps) (Uc ps⁻¹ (n-1).j);exists L,h1,λT=>(h2 T).l {λh=>h.2,λh=>{WY.X {?_,h.1},h}}
 have:=h.2.1
 lia
inductive Ask where
 |count
 |cheap
 |tree (z:A0)
 |rank (z:A0)
 |number (U:Ac)
 |share (U:Ac)
def tieW(U:Ac):(A6 B8):=if U=[] then [Str.H "-"] else U.Q nT
def Vg:(Ask->B8)
 | .count=>Str.H "count"
 | .cheap=>Str.H "cheapest"
 | .tree _=>Str.H "tree"
 | .rank _=>Str.H "rank"
 | .number _=>Str.H "number"
 | .share _=>Str.H "share"
def Vf:(Ask->A6 B8)
 | .count=>[]
 | .cheap=>[]
 | .tree z=>[nT z]
 | .rank z=>[nT z]
 | .number U=>tieW U
 | .share U=>tieW U
def NQ(q:Ask):(B8):=Str.join TK (Vg q::Vf q)
def LF(n:A0)(ps:Aa):(Ask->Prop)
 | .count=>True
 | .cheap=>Kk n ps
 | .tree z=>0<=z/\∃c:A5,TC n ps c/\z<(c:A0)
 | .rank z=>0<=z/\z<=60
 | .number U=>Zj n ps U
 | .share U=>IsSet ps.f U/\Kk n ps
def Qi(n:A0)(ps:Aa)(ls:Ac):(Ask->B8->Prop)
 | .count,s=>∃c:A5,TC n ps c/\s=nT (c:A0)
 | .cheap,s=>∃U,Zj n (VO n.j ps ls) U/\(∀W,Zj n (VO n.j ps ls) W->HT.lexLt W U=B0)/\s=TJ U
 | .tree z,s=>∃U,Zj n ps U/\Rk n ps U z.j/\s=TJ U
 | .rank z,s=>∃L,Rkd n ps ls z.j L/\s=Str.join Ec (L.Q λT=>lenT (XQ ls T) T)
 | .number U,s=>∃r:A5,Rk n ps U r/\s=nT (r:A0)
 | .share U,s=>∃(c d:A5)(p q:A0),PC n ps U [] c/\TC n ps d/\0<d/\Tf c d p q/\s=GS p q
def wG(U:Ac):tieW U≠[]:=by
 unfold tieW;split
 .simp
 ext
def d7(U:Ac):Str.join TK (tieW U)=TJ U:=by unfold tieW TJ;split<;>rfl
def ZG5{U:Ac}:∀w∈tieW U,32∉w.cps.m:=λw hw=>by
 unfold tieW at hw;split at hw
 .rw[Xn.Y hw];decide
 .let⟨z,_,rfl⟩:=Yp.Y hw;show xE D (.inl D)
def ZV7(nm:B8)(U:Ac):nm++TK++TJ U=Str.join TK (nm::tieW U):=by rw[<-d7];let(a,l,e):=Y3n (wG U);rw[e];rfl
def ZL9(q:Ask):32∉(Vg q).cps.m:=by cases q<;>(simp only[Vg];decide)
def ZP6(q:Ask):Txt.split (NQ q) TK=Vg q::Vf q:=by
 show fV AP λp hp=>?_;rcases Yu.Y hp with rfl|hp
 .show ZL9 q
 .cases q with
  |count=>cases hp
  |cheap=>cases hp
  |tree z=>rw[Xn.Y hp];show xE D (.inl D)
  |rank z=>rw[Xn.Y hp];show xE D (.inl D)
  |number U=>show ZG5 p hp
  |share U=>show ZG5 p hp
def wF:∀q:Ask,Vg q∈Wt->q=.count\/q=.cheap
 | .count,_=>.inl rfl
 | .cheap,_=>.inr rfl
 | .tree _,h=>absurd h (show ¬Str.H "tree"∈Wt by decide +kernel)
 | .rank _,h=>absurd h (show ¬Str.H "rank"∈Wt by decide +kernel)
 | .number _,h=>absurd h (show ¬Str.H "number"∈Wt by decide +kernel)
 | .share _,h=>absurd h (show ¬Str.H "share"∈Wt by decide +kernel)
def d6:∀q:Ask,Vg q∈WI->∃z,q=.tree z\/q=.rank z
 | .count,h=>absurd h (show ¬Str.H "count"∈WI by decide +kernel)
 | .cheap,h=>absurd h (show ¬Str.H "cheapest"∈WI by decide +kernel)
 | .tree z,_=>{z,.inl Z}
 | .rank z,_=>{z,.inr Z}
 | .number _,h=>absurd h (show ¬Str.H "number"∈WI by decide +kernel)
 | .share _,h=>absurd h (show ¬Str.H "share"∈WI by decide +kernel)
def wD:∀q:Ask,Vg q∈WV->∃U,q=.number U\/q=.share U
 | .count,h=>absurd h (show ¬Str.H "count"∈WV by decide +kernel)
 | .cheap,h=>absurd h (show ¬Str.H "cheapest"∈WV by decide +kernel)
 | .tree _,h=>absurd h (show ¬Str.H "tree"∈WV by decide +kernel)
 | .rank _,h=>absurd h (show ¬Str.H "rank"∈WV by decide +kernel)
 | .number U,_=>{U,.inl Z}
 | .share U,_=>{U,.inr Z}
def d5(q:Ask):(Vg q∈Wt/\(Vf q).f+1=1)\/(Vg q∈WI/\(Vf q).f+1=2)\/(Vg q∈WV/\1<(Vf q).f+1):=by
 let pos:∀U,1<(tieW U).f+1:=λU=>pY (Dx.X<|wG U);cases q with
 |count=>show .inl ⟨CC,Z⟩
 |cheap=>show .inl ⟨CC,Z⟩
 |tree z=>show .inr (.inl {show Str.H "tree"∈WI by decide +kernel,Z})
 |rank z=>show .inr (.inl {show Str.H "rank"∈WI by decide +kernel,Z})
 |number U=>show .inr (.inr {show Str.H "number"∈WV by decide +kernel,pos U})
 |share U=>show .inr (.inr {show Str.H "share"∈WV by decide +kernel,pos U})
def DW{n:A0}{ps:Aa}{U:Ac}(g:Zz n ps)(h:Zj n ps U):U.f<=1000/\Told U:=by
 have:=g.2.1
 have:=g.2.2.1
 exists by have:=h.2.1;lia,λz hz=>?_
 have:=h.1.all z hz
 lia
def Zk7{ls:Ac}(h:Told ls):∀U:Ac,(XQ ls U).natAbs<=U.f*10^60
 |[]=>XI 0
 |z::U=>by
  let ih:=Zk7 h U;let hz:(Xw ls z).natAbs<=10^60:=by
   unfold Xw;rw[Wj];cases e:ls[z.j]? with
   |none=>show XC _
   |some y=>
    have:=h y (Xo e)
    grind
  let e:XQ ls (z::U)=Xw ls z+XQ ls U:=rfl
  have:=Je (Xw ls z) (XQ ls U)
  rw[e,YM,Nat.succ_mul];lia
def dZ{ls U:Ac}(h:Told ls)(hl:U.f<=1000):-(10^65)<XQ ls U/\XQ ls U<10^65:=by
 have:=Zk7 h U
 grind
def ZY7{z:A0}{l:Ac}(h1:-(10^65)<z)(h2:z<10^65)(hl:l.f<=1000)(ht:Told l):(lenT z l).f<=70000:=by
 let a:=Se (k:=65) D h1 h2;let b:=xt hl ht
 let e:(lenT z l).f=(nT z).f+2+(TJ l).f:=by unfold lenT;rw[show(nT z++Str.H ": "++TJ l).f=_ from Fe ..,show(nT z++Str.H ": ").f=_ from Fe ..];rfl
 lia
def dY{n:A0}{ps:Aa}{U:Ac}{r c:A5}(hc:TC n ps c)(h:Rk n ps U r):r<=c:=by let(L,l1,l2,rfl):=h;let(M,m1,m2,rfl):=hc;show l1.length_le_of_subset λT hT=>(m2 T).X ((l2 T).Y hT).1
def Gy{n z:A0}{ps:Aa}{q:Ask}(g:Zz n ps)(hq:q=.tree z\/q=.rank z)(h:LF n ps q):-(10^60)<z/\z<10^60:=by
 rcases hq with rfl|rfl
 .let⟨z0,c,hc,h⟩:=h
  have:=Ej g hc
  lia
 .let h1:0<=z:=h.1;let h2:z<=60:=h.2
  omega
def wC{n:A0}{ps:Aa}{U:Ac}{q:Ask}(g:Zz n ps)(hq:q=.number U\/q=.share U)(h:LF n ps q):U.f<=30/\Told U:=by
 let hs:IsSet ps.f U:=by
  rcases hq with rfl|rfl
  .show h.1
  .show h.1
 have:=g.2.2.1
 exists Ym hs.len this,λz hz=>?_
 have:=hs.all z hz
 lia
def wB{n:A0}{ps:Aa}(g:Zz n ps)(q:Ask)(h:LF n ps q):(Vf q).f<=31/\∀w∈Vg q::Vf q,w.f<=61:=by
 let one:∀{z:A0},q=.tree z\/q=.rank z->(nT z).f<=61:=λhq=>Se (k:=60) D (Gy g hq h).1 (Gy g hq h).2;let two:∀{U:Ac},q=.number U\/q=.share U->(tieW U).f<=31/\∀w∈tieW U,w.f<=61:=λ{U} hq=>by
  let(a,b):=wC g hq h;unfold tieW;split
  .exists D,λw hw=>by rw[Xn.Y hw];decide
  .exists by rw[Yb];lia,GW b
 let hd:(Vg q).f<=61:=by cases q<;>(simp only[Vg];decide)
 let key:(Vf q).f<=31/\∀w∈Vf q,w.f<=61:=by
  cases q with
  |count=>exists D,λw hw=>by cases hw
  |cheap=>exists D,λw hw=>by cases hw
  |tree z=>exists pX<|XC _,λw hw=>by rw[Xn.Y hw];show one<|.inl Z
  |rank z=>exists pX<|XC _,λw hw=>by rw[Xn.Y hw];show one<|.inr Z
  |number U=>show two (.inl Z)
  |share U=>show two (.inr Z)
 ext
def ZA9{n:A0}{ps:Aa}(g:Zz n ps)(q:Ask)(h:LF n ps q):(NQ q).f<=90000:=by let(a,b):=wB g q h;show Ym (NX (o8:=61) b) B
def top(i:A5):(B6):=PySem.Challenge.pw_spanrow_k86_answers_by_trial.main.body.S i (.Pass ⟨0,0,0,0⟩)
abbrev sZa:B6:=BG (top 24) 0
abbrev sZB:B6:=top 63
abbrev sZU:B6:=BG (top 106) 0
abbrev sZV:B6:=BG (top 106) 1
abbrev sZW:B6:=BG (top 106) 2
abbrev sZX:B6:=BG (top 106) 11
abbrev sZc1:B6:=top 122
set_option genInjectivity false in
structure Adr where
 (a:A5->A7)
 (d:A5->B7)
 (A_Web A_Desk:A7)
def Txt(K:Ad)(mg:Af)(t:Adr):(Prop):=(((((((DfA K mg "refuse_not_square" (top 13) (t.a 6) (t.d 6) ["table"]/\DfA K mg "row_taken_off" (top 14) (t.a 7) (t.d 7) ["row","pivot","last"])/\(DfA K mg "first_with_some" (top 15) (t.a 8) (t.d 8) ["rows"]/\DfA K mg "determinant" (top 16) (t.a 9) (t.d 9) ["table"]))/\((DfA K mg "row_without" (top 17) (t.a 10) (t.d 10) ["row","number"]/\DfA K mg "table_without" (top 18) (t.a 11) (t.d 11) ["table","number"])/\(DfA K mg "common_divisor" (top 19) (t.a 12) (t.d 12) ["one","other"]/\DfA K mg "fraction" (top 20) (t.a 13) (t.d 13) ["top","bottom"])))/\(((DfA K mg "is_tie" (top 26) (t.a 14) (t.d 14) ["web","number"]/\DfA K mg "refuse_bad_web" (top 25) (t.a 15) (t.d 15) ["places","ties"])/\(Fun K "__init__" "Web.__init__" sZa (t.a 0) (t.d 0)/\Binds K (t.d 0) ["self","places","ties"] []))/\((DfA K mg "refuse_bad_row" (top 27) (t.a 16) (t.d 16) ["web","numbers"]/\DfA K mg "all_ties" (top 28) (t.a 17) (t.d 17) ["web"])/\DfA K mg "ties_beside" (top 29) (t.a 18) (t.d 18) ["web","ties"])))/\((((DfA K mg "is_set" (top 31) (t.a 19) (t.d 19) ["web","ties"]/\DfA K mg "made_set" (top 32) (t.a 20) (t.d 20) ["web","ties"])/\(DfA K mg "merged_marks" (top 33) (t.a 21) (t.d 21) ["web","marks","ties"]/\DfA K mg "piece_marks" (top 34) (t.a 22) (t.d 22) ["web","ties"]))/\((DfA K mg "pieces_of" (top 35) (t.a 23) (t.d 23) ["web","ties"]/\DfA K mg "is_joined" (top 36) (t.a 24) (t.d 24) ["web","ties"])/\DfA K mg "refuse_parted" (top 37) (t.a 25) (t.d 25) ["web"]))/\(((DfA K mg "weighted_table" (top 39) (t.a 26) (t.d 26) ["web","weights"]/\DfA K mg "pull_table" (top 40) (t.a 27) (t.d 27) ["web"])/\(DfA K mg "tree_count" (top 41) (t.a 28) (t.d 28) ["web"]/\DfA K mg "part_count" (top 42) (t.a 29) (t.d 29) ["web","inside","outside"]))/\((DfA K mg "is_tree" (top 44) (t.a 30) (t.d 30) ["web","ties"]/\DfA K mg "refuse_no_tree" (top 45) (t.a 31) (t.d 31) ["web","tree"])/\DfA K mg "grown_tree" (top 46) (t.a 32) (t.d 32) ["web","inside","order"]))))/\(((((DfA K mg "least_tree" (top 47) (t.a 33) (t.d 33) ["web"]/\DfA K mg "tree_at" (top 52) (t.a 34) (t.d 34) ["web","number"])/\(DfA K mg "lesser_ties" (top 53) (t.a 35) (t.d 35) ["ties","bound"]/\DfA K mg "number_of" (top 54) (t.a 36) (t.d 36) ["web","tree"]))/\((DfA K mg "length_of" (top 57) (t.a 37) (t.d 37) ["web","lengths","ties"]/\DfA K mg "cheapest_web" (top 58) (t.a 38) (t.d 38) ["web","lengths"])/\(DfA K mg "cheapest_tree" (top 59) (t.a 39) (t.d 39) ["web","lengths"]/\DfA K mg "first_of" (top 61) (t.a 40) (t.d 40) ["web","lengths","order","inside","outside"])))/\(((DfA K mg "firsts_behind" (top 62) (t.a 41) (t.d 41) ["web","lengths","order","taken"]/\DfA K mg "ranked" sZB (t.a 1) (t.d 1) ["web","lengths","most"])/\(DfA K mg "share_of" (top 81) (t.a 42) (t.d 42) ["web","ties"]/\DfA K mg "is_number" (top 85) (t.a 43) (t.d 43) ["word"]))/\((DfA K mg "read_number" (top 86) (t.a 44) (t.d 44) ["word"]/\DfA K mg "read_line" (top 87) (t.a 45) (t.d 45) ["line","name","many"])/\DfA K mg "read_web" (top 88) (t.a 46) (t.d 46) ["text"])))/\((((DfA K mg "numbers_text" (top 89) (t.a 47) (t.d 47) ["numbers"]/\DfA K mg "ties_text" (top 91) (t.a 48) (t.d 48) ["ties"])/\(DfA K mg "fraction_text" (top 92) (t.a 49) (t.d 49) ["pair"]/\DfA K mg "length_text" (top 93) (t.a 50) (t.d 50) ["length","tree"]))/\((DfA K mg "answer_alone" (top 98) (t.a 51) (t.d 51) ["web","lengths","name"]/\DfA K mg "rank_text" (top 99) (t.a 52) (t.d 52) ["web","lengths","most"])/\DfA K mg "row_at" (top 77) (t.a 53) (t.d 53) ["web","number"]))/\(((DfA K mg "answer_of_number" (top 100) (t.a 54) (t.d 54) ["web","lengths","name","number"]/\DfA K mg "row_number" (top 78) (t.a 55) (t.d 55) ["web","tree"])/\(DfA K mg "next_text" (top 101) (t.a 56) (t.d 56) ["web","tree"]/\DfA K mg "answer_of_ties" (top 102) (t.a 57) (t.d 57) ["web","name","ties"]))/\((DfA K mg "read_ties" (top 103) (t.a 58) (t.d 58) ["words"]/\DfA K mg "answer_to" (top 104) (t.a 59) (t.d 59) ["web","lengths","line"])/\Fun K "__init__" "Desk.__init__" sZU (t.a 2) (t.d 2))))))/\((((((Binds K (t.d 2) ["self","text"] []/\Fun K "web_now" "Desk.web_now" sZV (t.a 3) (t.d 3))/\(Binds K (t.d 3) ["self"] []/\Fun K "lengths_now" "Desk.lengths_now" sZW (t.a 4) (t.d 4)))/\((Binds K (t.d 4) ["self"] []/\Fun K "asked" "Desk.asked" sZX (t.a 5) (t.d 5))/\(Binds K (t.d 5) ["self","line"] []/\DfA K mg "_law_cell" (top 108) (t.a 60) (t.d 60) ["script","k"])))/\(((DfA K mg "_law_mixed" (top 109) (t.a 61) (t.d 61) ["cell","k"]/\DfA K mg "_law_draws" (top 110) (t.a 62) (t.d 62) ["script","start","count","way"])/\(DfA K mg "_law_ties" (top 111) (t.a 63) (t.d 63) ["draws","places","hang"]/\DfA K mg "_law_web" (top 112) (t.a 64) (t.d 64) ["script","most","count"]))/\((DfA K mg "_law_some" (top 113) (t.a 65) (t.d 65) ["cell","count"]/\DfA K mg "_law_marks" (top 114) (t.a 66) (t.d 66) ["places","ties","some"])/\DfA K mg "_law_all" (top 115) (t.a 67) (t.d 67) ["places","ties"])))/\((((DfA K mg "_law_lengths" (top 116) (t.a 68) (t.d 68) ["script","count"]/\DfA K mg "_law_text" (top 117) (t.a 69) (t.d 69) ["places","ties","lengths"])/\(DfA K mg "_law_tree_text" (top 118) (t.a 70) (t.d 70) ["tree"]/\DfA K mg "_law_share_text" (top 119) (t.a 71) (t.d 71) ["top","bottom"]))/\((DfA K mg "_law_ranked" (top 120) (t.a 72) (t.d 72) ["trees","lengths"]/\DfA K mg "_law_shares_good" (top 121) (t.a 73) (t.d 73) ["script","desk","ties","trees"])/\DfA K mg "law" sZc1 (t.a 74) (t.d 74) ["script"]))/\(((mg "Web"=⇑(.ref t.A_Web)/\Cls K t.A_Web)/\(Mk K t.A_Web (t.a 0)/\NoAttr K t.A_Web "places"))/\((NoAttr K t.A_Web "ties"/\mg "Desk"=⇑(.ref t.A_Desk))/\Cls K t.A_Desk))))/\(((((Mk K t.A_Desk (t.a 2)/\NoAttr K t.A_Desk "stages")/\(Meth K t.A_Desk "web_now" (t.a 3)/\Meth K t.A_Desk "lengths_now" (t.a 4)))/\((Meth K t.A_Desk "asked" (t.a 5)/\(∃a,mg "ALONE"=some ↑a/\TupC K a [L2.V.str "count",L2.V.str "cheapest"]))/\(∃a,mg "OF_A_NUMBER"=some ↑a/\TupC K a [L2.V.str "tree",L2.V.str "row",L2.V.str "rank"])))/\((((∃a,mg "OF_TIES"=some ↑a/\TupC K a [L2.V.str "number",L2.V.str "place",L2.V.str "next",L2.V.str "share"])/\(∃tk,mg "MOST_PLACES"=⇑(.int 14 tk)))/\((∃tk,mg "MOST_TIES"=⇑(.int 30 tk))/\(∃tk,mg "FIGURES"=⇑(.str "0123456789" tk))))/\(((∃tk,mg "MOST_FIGURES"=⇑(.int 60 tk))/\mg "abs"=A8)/\mg "all"=A8)))/\((((mg "any"=A8/\mg "enumerate"=A8)/\(mg "int"=A8/\mg "len"=A8))/\((mg "list"=A8/\mg "max"=A8)/\mg "min"=A8))/\(((mg "range"=A8/\mg "set"=A8)/\(mg "sorted"=A8/\mg "str"=A8))/\((mg "sum"=A8/\mg "tuple"=A8)/\mg "zip"=A8))))))
section
variable(T:Txt K mg t)
def Txt.qZ0:=T.1.1.1.1.1.1.1
def Txt.qZ1:=T.1.1.1.1.1.1.2
def Txt.qZ2:=T.1.1.1.1.1.2.1
def Txt.qZ3:=T.1.1.1.1.1.2.2
def Txt.qZ4:=T.1.1.1.1.2.1.1
def Txt.qZ5:=T.1.1.1.1.2.1.2
def Txt.qZ6:=T.1.1.1.1.2.2.1
def Txt.qZ7:=T.1.1.1.1.2.2.2
def Txt.qZ8:=T.1.1.1.2.1.1.1
def Txt.qZ9:=T.1.1.1.2.1.1.2
def Txt.fZa:=T.1.1.1.2.1.2.1
def Txt.bZa:=T.1.1.1.2.1.2.2
def Txt.qZb:=T.1.1.1.2.2.1.1
def Txt.qZc:=T.1.1.1.2.2.1.2
def Txt.qZd:=T.1.1.1.2.2.2
def Txt.qZe:=T.1.1.2.1.1.1.1
def Txt.qZf:=T.1.1.2.1.1.1.2
def Txt.qZg:=T.1.1.2.1.1.2.1
def Txt.qZh:=T.1.1.2.1.1.2.2
def Txt.qZi:=T.1.1.2.1.2.1.1
def Txt.qZj:=T.1.1.2.1.2.1.2
def Txt.qZk:=T.1.1.2.1.2.2
def Txt.qZl:=T.1.1.2.2.1.1.1
def Txt.qZm:=T.1.1.2.2.1.1.2
def Txt.qZn:=T.1.1.2.2.1.2.1
def Txt.qZo:=T.1.1.2.2.1.2.2
def Txt.qZp:=T.1.1.2.2.2.1.1
def Txt.qZq:=T.1.1.2.2.2.1.2
def Txt.qZr:=T.1.1.2.2.2.2
def Txt.qZs:=T.1.2.1.1.1.1.1
def Txt.qZt:=T.1.2.1.1.1.1.2
def Txt.qZu:=T.1.2.1.1.1.2.1
def Txt.qZv:=T.1.2.1.1.1.2.2
def Txt.qZw:=T.1.2.1.1.2.1.1
def Txt.qZx:=T.1.2.1.1.2.1.2
def Txt.qZy:=T.1.2.1.1.2.2.1
def Txt.qZz:=T.1.2.1.1.2.2.2
def Txt.qZA:=T.1.2.1.2.1.1.1
def Txt.qZB:=T.1.2.1.2.1.1.2
def Txt.qZC:=T.1.2.1.2.1.2.1
def Txt.qZD:=T.1.2.1.2.1.2.2
def Txt.qZE:=T.1.2.1.2.2.1.1
def Txt.qZF:=T.1.2.1.2.2.1.2
def Txt.qZG:=T.1.2.1.2.2.2
def Txt.qZH:=T.1.2.2.1.1.1.1
def Txt.qZI:=T.1.2.2.1.1.1.2
def Txt.qZJ:=T.1.2.2.1.1.2.1
def Txt.qZK:=T.1.2.2.1.1.2.2
def Txt.qZL:=T.1.2.2.1.2.1.1
def Txt.qZM:=T.1.2.2.1.2.1.2
def Txt.qZN:=T.1.2.2.1.2.2
def Txt.qZO:=T.1.2.2.2.1.1.1
def Txt.qZP:=T.1.2.2.2.1.1.2
def Txt.qZQ:=T.1.2.2.2.1.2.1
def Txt.qZR:=T.1.2.2.2.1.2.2
def Txt.qZS:=T.1.2.2.2.2.1.1
def Txt.qZT:=T.1.2.2.2.2.1.2
def Txt.fZU:=T.1.2.2.2.2.2
def Txt.bZU:=T.2.1.1.1.1.1.1
def Txt.fZV:=T.2.1.1.1.1.1.2
def Txt.bZV:=T.2.1.1.1.1.2.1
def Txt.fZW:=T.2.1.1.1.1.2.2
def Txt.bZW:=T.2.1.1.1.2.1.1
def Txt.fZX:=T.2.1.1.1.2.1.2
def Txt.bZX:=T.2.1.1.1.2.2.1
def Txt.qZY:=T.2.1.1.1.2.2.2
def Txt.qZZ:=T.2.1.1.2.1.1.1
def Txt.qZ01:=T.2.1.1.2.1.1.2
def Txt.qZ11:=T.2.1.1.2.1.2.1
def Txt.qZ21:=T.2.1.1.2.1.2.2
def Txt.qZ31:=T.2.1.1.2.2.1.1
def Txt.qZ41:=T.2.1.1.2.2.1.2
def Txt.qZ51:=T.2.1.1.2.2.2
def Txt.qZ61:=T.2.1.2.1.1.1.1
def Txt.qZ71:=T.2.1.2.1.1.1.2
def Txt.qZ81:=T.2.1.2.1.1.2.1
def Txt.qZ91:=T.2.1.2.1.1.2.2
def Txt.qZa1:=T.2.1.2.1.2.1.1
def Txt.qZb1:=T.2.1.2.1.2.1.2
def Txt.qZc1:=T.2.1.2.1.2.2
def Txt.c_Web:=T.2.1.2.2.1.1.1
def Txt.cl_Web:=T.2.1.2.2.1.1.2
def Txt.k_Web:=T.2.1.2.2.1.2.1
def Txt.n_Web_places:=T.2.1.2.2.1.2.2
def Txt.n_Web_ties:=T.2.1.2.2.2.1.1
def Txt.c_Desk:=T.2.1.2.2.2.1.2
def Txt.cl_Desk:=T.2.1.2.2.2.2
def Txt.k_Desk:=T.2.2.1.1.1.1.1
def Txt.n_Desk_stages:=T.2.2.1.1.1.1.2
def Txt.me_Desk_web_now:=T.2.2.1.1.1.2.1
def Txt.me_Desk_lengths_now:=T.2.2.1.1.1.2.2
def Txt.me_Desk_asked:=T.2.2.1.1.2.1.1
def Txt.g_ALONE:=T.2.2.1.1.2.1.2
def Txt.g_OF_A_NUMBER:=T.2.2.1.1.2.2
def Txt.g_OF_TIES:=T.2.2.1.2.1.1.1
def Txt.g_MOST_PLACES:=T.2.2.1.2.1.1.2
def Txt.g_MOST_TIES:=T.2.2.1.2.1.2.1
def Txt.g_FIGURES:=T.2.2.1.2.1.2.2
def Txt.g_MOST_FIGURES:=T.2.2.1.2.2.1.1
def Txt.n_abs:=T.2.2.1.2.2.1.2
def Txt.n_all:=T.2.2.1.2.2.2
def Txt.n_any:=T.2.2.2.1.1.1.1
def Txt.n_enumerate:=T.2.2.2.1.1.1.2
def Txt.n_int:=T.2.2.2.1.1.2.1
def Txt.n_len:=T.2.2.2.1.1.2.2
def Txt.n_list:=T.2.2.2.1.2.1.1
def Txt.n_max:=T.2.2.2.1.2.1.2
def Txt.n_min:=T.2.2.2.1.2.2
def Txt.n_range:=T.2.2.2.2.1.1.1
def Txt.n_set:=T.2.2.2.2.1.1.2
def Txt.n_sorted:=T.2.2.2.2.1.2.1
def Txt.n_str:=T.2.2.2.2.1.2.2
def Txt.n_sum:=T.2.2.2.2.2.1.1
def Txt.n_tuple:=T.2.2.2.2.2.1.2
def Txt.n_zip:=T.2.2.2.2.2.2
end
end My
namespace My
open PySem L2 PyProof.Rows
set_option maxHeartbeats 4000000
def dX(st:B6):(Pos):=match (Rh st).S 1 (.Pass ⟨0,0,0,0⟩) with
 | .Assign _ (.Call _ _ [k] _) _=>(match k.value with
  | .Lambda _ _ _ p=>p
  |_=>⟨0,0,0,0⟩)
 |_=>⟨0,0,0,0⟩
def dW:(B8):=Str.H "ranked"++Str.H ".<locals>."++Str.H "<lambda>"
abbrev Ws(H:Hp)(Pt:A7):Prop:=TabH H Pt (dX sZB) dW
inductive spZc1(K:Ad)(Pt:A7):_
 |mk (a:A7) (ns:Ac) (_:vs=[.ref a]) (_:SqL K H a (IL ns)) (_:ns.f<=63) (_:Ws H Pt) (_:∀H',Q (.bl true) H')
structure Hk where
 (P:Program)(w:World)(K:Ad)(mg:Af)(base:Heap)(t:Adr)(Pt:A7)
def Hk.is(c:Hk):(Prop):=∀(T:Txt c.K c.mg c.t)(hB:Te c.K c.mg c.base (c.t.d 1) c.Pt),Xp c.P c.w c.base Xx T.qZc1 14 (spZc1 c.K c.Pt)
def JJ:∃c:Hk,c.is->∀d:Hk,d.is:=(Classical.em (∀d:Hk,d.is)).elim (λh=>{{default,W.aWorld 0,[],λ_=>none,default,by constructor<;>show default,default},λ_=>h}) λh=>by let(c,h):=Classical.not_forall.Y h;exists c,λk=>absurd k h
def hk:=JJ.choose
def P:=hk.P
def w:=hk.w
def K:=hk.K
def mg:=hk.mg
def base:=hk.base
def t:=hk.t
def Pt:=hk.Pt
inductive spZ0(K:Ad):_
 |mk (a kd xs L:_) (_:vs=[.ref a]) (_:SqK kd K H a xs) (_:Bears (zg K H) xs L) (_:((∀l∈L,l.f=L.f)->Q .non H)) (_:(¬(∀l∈L,l.f=L.f)->False))
def dU(T:Txt K mg t):Xp P w base Xx T.qZ0 1 (spZ0 K):=by
 show T.qZ0.okI ["table","row"] CC ⋯
 .let⟨a,kd,xs,L,rfl,hS,hB,q,qe⟩:=h;show⟨_,(XJ (WU YD Z (Tp K<|pv 0) (Zb 1)
   (XJ (WO (Zk Sk (Zf (Zh K) pq T.n_len Boot.«len»<|XZ (pv 1) XX) (Zf (Zh K) pq T.n_len Boot.«len»<|XZ (pv 0) XX)<|Zq _)
   (XJ PK)
   Zn)))),?_⟩
  let wA:=hB.1;exists _,Z,a,Z,Bo (K:=K) (k:=kd) (a:=a) (xs:=xs) (λi σ H2=>∃v1,σ=[some ↑a,v1]/\H2=H/\∀l∈L.R i,l.f=L.f) {none,Z,Z,λl h=>(by cases h)} (λi σ H2 _ zz=>by let(_,_,e,_):=zz;show e▸hS) ?_ ?_
  .rintro i v σ H2 hi ⟨v1,rfl,rfl,hall⟩;let(l,hl,r,k,rfl,hr):=hB.at hi;show nm ?_;exists _,Z,r,_,Z,hr.or,_,Z,a,xs,Z,hS.or,Z,_,Z,?_;rw[Xd,Wn];show Wa (λe=>?_) (λe=>?_)
   .exists _,Z,Z,λm hm=>?_;grind
   .show qe λh=>e (by rw[h l (Xo hl),wA])
  grind
inductive spZ1(K:Ad):_
 |mk (r p x y last l q:_) (_:vs=[.ref r,.ref p,.int last]) (_:SqL K H r (IL<|x::l)) (_:SqL K H p (IL<|y::q)) (_:l.f=q.f) (_:l.f<=1000) (_:last≠0) (_:last.natAbs<2^9000) (_:(∀z∈x::l,z.natAbs<2^9000)) (_:(∀z∈y::q,z.natAbs<2^9000)) (_:∀c H',Same H H'->H c=A8->H' c=⇑(.lst<|IL<|Oe y q last<|x::l)->Q ↑c H')
def dS(T:Txt K mg t):Xp P w base Xx T.qZ1 1 (spZ1 K):=by
 show T.qZ1.okI ["row","pivot","last"] CC ⋯
 .let⟨r,p,x,y,last,l,q',rfl,hR,hP,hlq,hl,l0,l1,hx,hy,q⟩:=h;exists _,(XJ<|Zm<|UW Z (sc0:=Zc<|top 14) (N0:=["row","pivot","last"]) (N':=["own","other","pivot","row","last"]) (o:=2) (fr:=[1,0,2]) ⟨Z,CC,CC,CC,Z,CC⟩ (Hw K Z T.n_zip<|XZ (VH (Vr K) (pv 0) (RO XN) QF)<|XZ (VH (Vr K) (pv 1) (RO XN) QF) XX) (Ir<|VG D<|VG D RM) (λ_ _ _ _=>(Pw (n:=2) K Z<|Zw (Zb 0)<|Zw (Zb 1) PJ)) (λ_ _ _ _=>ZI) λ_ _ _ _=>(Zp jS (Zp PF (Zp jT (ZB (Zg K) (pv 2) XN λ_ _=>rfl)<|pv 0)<|Zp jT (ZB (Zg K) (pv 3) XN λ_ _=>rfl)<|pv 1)<|pv 4)),?_;exists _,Z,_,Z,r,_,Z,hR,λp1 WB=>?_;rw[ZH8];let s1:=XM (o:=.lst<|IL l) WB
  exists _,Z,_,Z,p,_,Z,s1.seq hP,λp2 VW=>?_;rw[ZH8];let s2:=XM (o:=.lst<|IL q') VW
  let LD:=s1.l s2;let h1:=s2 _ _ (XS (H:=H) (a:=p1) (o:=.lst<|IL l))
  let h2:(upd (upd H p1<|.lst<|IL l) p2<|.lst<|IL q') p2=⇑(.lst<|IL q'):=XS;generalize upd (upd H p1<|.lst<|IL l) p2 (.lst<|IL q')=H2 at *;show⟨p1,p2,Z,{_,_,SqL.of h1,SqL.of h2},z4 (K:=K) (a:=p1) (b:=p2) (xs:=IL l) (ys:=IL q') (λi zs H3=>Same H2 H3/\i<=l.f/\zs=IL ((Oe y q' last<|x::l).R i)) {Same.refl _,XC _,Z} (by ext) (Zl<|by rw[Xd];lia)
   (λi zs H3 hi zz=>by let(e,Wq,ez):=zz;show{SqL.of<|e _ _ h1,SqL.of<|e _ _ h2,by rw[ez,Xd,Yx];lia}) ?_ ?_⟩
  .rintro i u v zs H3 pt Ry hu hv ⟨s3,TN,rfl⟩ S Xt;let(own,rfl,ho):=Vj hu;let(dR,rfl,ht):=Vj hv;let Wr:=(Xr.Y ho).1
   let s4:=XM (o:=.tup [.int own,.int dR]) Ry;exists pt,_,Z,SqT.of XS,Z,_,_,Z,_,_,Z,Z,?_;let wz:=LD.l (s3.l s4)
   let a1:=hy y Yi;let a2:=hx own (Yn _<|Xo ho)
   let a3:=hx x Yi;let a4:=hy dR (Yn _<|Xo ht)
   exists _,Z,p,_,0,.int y,Z,Z,wz.seq hP,Zv (n:=0) Z Z,_,Z,_,_,Z,Z,⟨a1,a2⟩,_,Z,r,_,0,.int x,Z,Z,wz.seq hR,Zv (n:=0) Z Z,_,Z,_,_,Z,Z,⟨a3,a4⟩,_,_,Z,Z,_,Z,_,_,Z,Z,⟨l0,l1⟩,?_;show Xt _ _ {s3.l s4,Wr,?_};let e:(Oe y q' last<|x::l)[i]?=⇑((y*own-x*dR).fdiv last):=by change(List.zipWith _ l q')[i]?=_;rw[Jt,ho,ht];rfl
   rw[Yw,e];show(RL _ _).symm
  .rintro zs H3 ⟨s3,_,rfl⟩ c hc;rw[Xd,YG (by rw[zh (by ext)];ext)];show q c _ (LD.l<|s3.l<|XM hc) ((LD.l s3).free hc) XS
inductive spZ2(K:Ad):_
 |mk (a ys R:_) (_:vs=[.ref a]) (_:SqL K H a ys) (_:Bears (Vq H) ys R) (_:(∀l∈R,0<l.f)) (_:(∀H':Hp,Same H H'->(∀i,i<R.f->fnL R i 0=0)->Q .non H')) (_:(∀t H',Same H H'->t<R.f->fnL R t 0≠0->Q (.int t) H'))
def dQ(T:Txt K mg t):Xp P w base Xx T.qZ2 1 (spZ2 K):=by
 show T.qZ2.okI ["rows","at","row"] CC ⋯
 .let⟨a,ys,R,rfl,hS,hB,hp,q0,q1⟩:=h;show⟨_,(XR (WU YD Z (tu K Z T.n_enumerate<|XZ (pv 0) XX) (Pw (n:=2) K Z<|Zw (Zb 1)<|Zw (Zb 2) PJ)
   (XJ (WO (Zk Sk (ZB (Zg K) (pv 2) XN λ_ _=>rfl) XN<|Zq _)
   (XJ<|Zm<|pv 1)
   Zn)))
   (XJ<|Zm ud)),?_⟩
  let SR:=hB.1;exists _,Z,a,Z,{_,hS},Zs8 (K:=K) (a:=a) (xs:=ys) (λi σ H2=>∃v1 v2,σ=[some ↑a,v1,v2]/\Same H H2/\∀j,j<i->fnL R j 0=0) {none,none,Z,Same.refl _,λj h=>absurd h<|QR _} (λi σ H2 _ zz=>by let(_,_,_,e,_):=zz;show e.seq hS) ?_ ?_
  .rintro i v σ H2 pt Ry hi ⟨v1,v2,rfl,s2,hz⟩;let(l,hl,r,rfl,hr):=hB.at hi;let DV:=hp l (Xo hl)
   obtain⟨x,l',rfl⟩:∃x l',l=x::l':=by
    cases l with
    |nil=>show absurd DV (SQ 0)
    |cons x l'=>lia
   let e0:fnL R i 0=x:=Nl hl rfl;let s3:=s2.l (XM (o:=.tup [.int i,.ref r]) Ry)
   exists pt,_,Z,SqT.of XS,Z,_,_,Z,_,_,Z,Z,?_;generalize upd H2 pt (.tup [.int i,.ref r])=H3 at *;exists _,Z,r,_,0,.int x,Z,Z,SqL.of<|s3 _ _ hr,Zv (n:=0) Z Z,Z,_,Z,?_;show Wa (λe=>?_) (λe=>?_)
   .exists _,_,Z,s3,λj hj=>?_;grind
   .exists _,Z,q1 i H3 s3 B<|by ext
  .rintro σ H2 ⟨v1,v2,rfl,s2,hz⟩;show q0 H2 s2 λi hi=>hz i (by ext)
inductive spZ3(K:Ad):_
 |mk (a kd xs L:_) (_:vs=[.ref a]) (_:SqK kd K H a xs) (_:Bears (zg K H) xs L) (_:L.f<=16) (_:(∀i j,i<L.f->j<L.f->(fnL L i j).natAbs<=2^400)) (_:((∀l∈L,l.f=L.f)->∀H':Hp,Same H H'->Q (.int<|det L.f<|fnL L) H')) (_:(¬(∀l∈L,l.f=L.f)->∀H':Hp,Same H H'->False))
def dP{s rest:TS}{tB:Ends}{σ:L2.St}{H:Hp}(P:L2.St->Hp->Prop)(h1:∀σ' H',P σ' H'->rest tB σ' H')(h2:∀K:L2.St->Hp->Prop,(∀σ' H',P σ' H'->K σ' H')->s {tB with nx:=K} σ H):IX s rest tB σ H:=h2 _ h1
def NP:FnScope ["table","rows","sign","last","at","pivot"] ["table"] (Zc (top 16)):=TF CC
def dO(T:Txt K mg t):Xp P w base Xx T.qZ3 2 (spZ3 K):=by
 show T.qZ3.okI ["table","rows","sign","last","at","pivot"] CC ⋯
 .let⟨a,kd,xs,L,rfl,hS,hB,wy,hA0,q,qe⟩:=h;show⟨_,(XR (ZV<|XD (dU T) hr T.qZ0 Zt<|XZ (pv 0) XX)
   (XR (Uh (i:=1) Z NP.nd Z Z (sc0:=Zc<|top 16) (N0:=["table","rows","sign","last","at","pivot"]) (N':=["row"]) (o:=1) (fr:=[]) ⟨Z,CC,CC,CC,Z,CC⟩ (Tp K<|pv 0) (Zu D) (λ_ _ _ _=>(Zb 0)) (λ_ _ _ _=>ZI) λ_ _ _ _=>(Zi (Ia K) pq T.n_list Boot.«list»<|XZ (pv 0) XX))
   (XR (Zd 2 XN)
   (XR (PH (i:=3) NP.nd Z (Or.inr Z) XN)
   (XR (tX YD (Zk QG (Zf (Zh K) pq T.n_len Boot.«len»<|XZ (pv 1) XX) XN<|Zq _)
   (XR (Zd 4<|XD (dQ T) hr T.qZ2 Zt<|XZ (pv 1) XX)
   (XR (WO (Zk KP (pv 4) ud<|Zq _)
   (XJ<|Zm XN)
   Zn)
   (XR (WO (Zk TU (Zp ZR (pv 4) XN) XN<|Zq _)
   (XJ<|Zd 2<|OL IP<|pv 2)
   Zn)
   (XR (PH (i:=5) NP.nd Z (Or.inr Z)<|WT K YH PySem.F.slot_list_pop PySem.F.type_list_pop BJ (pv 1)<|XZ (pv 4) XX)
   (XR (Uh (i:=1) Z NP.nd Z Z (sc0:=Zc<|top 16) (N0:=["table","rows","sign","last","at","pivot"]) (N':=["row","pivot","last"]) (o:=1) (fr:=[5,3]) ⟨Z,CC,CC,CC,Z,CC⟩ (ZE K<|pv 1) (Zu D) (λ_ _ _ _=>(Zb 0)) (λ_ _ _ _=>ZI) λ_ _ _ _=>(XD (dS T) hr T.qZ1 Zt<|XZ (pv 0)<|XZ (pv 1)<|XZ (pv 2) XX))
   (XJ<|PH (i:=3) NP.nd Z (Or.inr Z)<|ZB (Zg K) (pv 5) XN λ_ _=>rfl)))))))
   (XJ<|Zm<|Zp jT (pv 2)<|pv 3)))))),?_⟩
  let wA:=hB.1;exists _,Z,a,kd,xs,L,Z,hS,hB,λOl=>?_,λh=>qe h H<|Same.refl H;let q:=q Ol
  obtain⟨n,hn⟩:∃n,n=L.f:={_,Z};rw[<-hn]at q Ol hA0 wy;exists _,Z,a,Z,tE (K:=K) (k:=kd) (a:=a) (xs:=xs) (λi zs H2=>Same H H2/\i<=xs.f/\Bears (Vq H2) zs (L.R i)) {Same.refl _,XC _,{Z,λi l e=>by simp at e}} (Zl J) (λi zs H2 hi zz=>by let(e,Wq,ez):=zz;show{hS.same e,by rw[ez.1,Yx];ext}) ?_ ?_
  .rintro i v zs H2 hi ⟨s2,TN,hZ⟩ S Xt;let(l,hl,r,k,rfl,hr):=hB.at hi;let Wr:=(Xr.Y hi).1
   show nm ?_;exists _,Z,r,_,Z,(hr.same s2).or,λc hc=>Xt _ _ {s2.l<|XM hc,Wr,?_};rw[Yw,hl];show(hZ.imp λ_ _ zz=>by let(r',e,h):=zz;exists r',e,XM hc _ _ h).snoc ⟨c,Z,XS⟩
  rintro zs H2 ⟨s2,_,hZ⟩ rA LC;rw[wA,Ys]at hZ;let s3:=s2.l (XM (o:=.lst zs) LC)
  exists λm σ H4=>∃A k rA ys R sgn last v4 v5,σ=[some ↑a,some<|.ref rA,some<|.int sgn,some<|.int last,v4,v5]/\Same H H4/\H rA=A8/\H4 rA=⇑(.lst ys)/\Bears (LiV rA H4) ys R/\R.f=m/\(∀l∈R,l.f=m)/\k+m=n/\Ra A k m (fnL R) last/\det n (fnL L)=sgn*det n A/\(∀i j,i<n->j<n->(A i j).natAbs<=2^400)/\(m=0->last=det n A)/\(sgn=1\/sgn=-1)/\last.natAbs<2^9000,{n,fnL L,0,rA,zs,L,1,1,none,none,Z,s3,s2.free LC,XS,?_,hn.symm,Ol,by ext,zt _ _,B,hA0,λe=>by rw[e];rfl,.inl Z,Nat.one_lt_two_pow D},?_
  .show hZ.imp λv l zz=>by let(r,e,h):=zz;exists r,e,XM LC _ _ h,Ze h LC
  intro m σ H4 Ω;let⟨A,k,rA,ys,R,sgn,last,v4,v5,rfl,s4,UR,dN,hR,hRm,hRl,rd,LB,wx,hAb,LR,hsg,hlb⟩:=Ω;let SR:=hR.1
  exists _,Z,rA,ys,Z,.inl<|SqL.of dN,_,_,Z,Z,_,Z,?_;show Xk (λGx=>?_) (λGx=>?_)
  .obtain⟨M,rfl⟩:∃M,m=M+1:={m-1,J};exists _,λσ' H' h=>{M,RV M,h},?_;let dM:∀l∈R,∀z∈l,z.natAbs<2^9000:=λl hl z hz=>by
    let(i,hi):=YA hl;let(j,hj):=YA hz;let h1:=(Xr.Y hi).1
    let h2:=(Xr.Y hj).1
    have:=zi LB rd wy hAb (i:=i) (j:=j) (by ext) (by ext)
    rwa[Nl hi hj]at this
   exists _,Z,rA,ys,R,Z,SqL.of dN,hR.imp λ_ _ h=>h.list,λl hl=>by ext,λH5 s5 h0=>?_,λt H5 s5 ht XH=>?_
   .exists _,Z,Z,_,Z,?_;show Ky (c:=V.non=V.non) Z ?_;let z:det n A=0:=by
     have:=jW LB λi hi=>h0 i (by ext)
     rwa[show k+M+1=n by omega]at this
    rw[wx,z,Rm]at q;show q H5 (s4.l s5)
   exists _,Z,Z,_,Z,?_;show Tq (c:=V.int (t:A0)=V.non) (λz=>nomatch z) ?_;show nm ?_;dsimp only;show dP (λσ H6=>∃LA:A0,H6=H5/\σ=[some ↑a,some<|.ref rA,some<|.int LA,some<|.int last,some<|.int t,v5]/\LA=sgn*sg t) ?_ ?_
   .rintro σ H6 ⟨LA,rfl,rfl,dJ⟩;let hr6:=s5 _ _ dN
    let hR6:=hR.imp λ_ _ h=>h.same s5;obtain⟨l,hl⟩:∃l,R[t]?=⇑l:={_,Xv ht};let WE:=hRl l (Xo hl)
    obtain⟨y,p',rfl⟩:∃y p',l=y::p':=by
     cases l with
     |nil=>cases WE
     |cons y p'=>lia
    let UB:p'.f=M:=by rw[YM]at WE;ext
    let(v,hv,pA,rfl,dI,hpn):=hR6.2 t _ hl;let hy0:y≠0:=by rwa[Nl hl Z]at XH
    show{_,Z,.inl {Z,_,SqL.of hr6},_,Z,rA,ys,(t:A0),t,.ref pA,Z,Z,hr6,by ext,J,by rw[lR (by ext) J,VN],hv,?_};let wu:(upd H6 rA<|.lst<|ys.eraseIdx t) pA=⇑(.lst<|IL<|y::p'):=by rwa[Za hpn]
    let s7:Same H (upd H6 rA<|.lst<|ys.eraseIdx t):=Zr UR (s4.l s5);let hR7:Bears (LiV rA<|upd H6 rA<|.lst<|ys.eraseIdx t) (ys.eraseIdx t) (R.eraseIdx t):=(hR6.erase t).imp λ_ _ h=>h.mut
    let wq:(upd H6 rA<|.lst<|ys.eraseIdx t) rA=⇑(.lst<|ys.eraseIdx t):=XS;generalize upd H6 rA (.lst<|ys.eraseIdx t)=H7 at *;let eRl:(R.eraseIdx t).f=M:=by rw[MS,Yk ht];ext
    let Gw:∀l∈R.eraseIdx t,l.f=M+1:=λl h=>hRl l (Y3A h);let dH:=hR7.1
    exists _,Z,rA,Z,{_,SqL.of wq},SG (K:=K) (a:=rA) (xs:=ys.eraseIdx t) (λi zs H8=>Same H7 H8/\i<=(ys.eraseIdx t).f/\Bears (Vq H8) zs (((R.eraseIdx t).R i).Q (Oe y p' last))) {Same.refl _,XC _,{Z,λi l e=>by simp at e}} (Zl J) (λi zs H8 hi zz=>by let(e,Wq,ez):=zz;show{SqL.of<|e _ _ wq,by rw[ez.1,Yb,Yx];ext}) ?_ ?_
    .rintro i v zs H8 hi ⟨s8,TN,Lz⟩ S Xt;let(l,JY,r,rfl,hr,_):=hR7.at hi;let Wr:=(Xr.Y hi).1
     let Ri:=Gw l (Xo JY);obtain⟨x,l',rfl⟩:∃x l',l=x::l':=by
      cases l with
      |nil=>cases Ri
      |cons x l'=>lia
     let CI:l'.f=M:=by rw[YM]at Ri;ext
     show nm ?_;exists _,Z,_,Z,_,Z,r,pA,x,y,last,l',p',Z,SqL.of<|s8 _ _ hr,SqL.of<|s8 _ _ wu,J,J,LB.1,hlb,dM _<|Y3A<|Xo JY,dM _<|Xo hl,λc H9 s9 Gv hc=>Xt _ _ {s8.l s9,Wr,?_};rw[Yw,JY,Yz];show(Lz.imp λ_ _ zz=>by let(r',e,h):=zz;exists r',e,s9 _ _ h).snoc ⟨c,Z,hc⟩
    rintro zs H8 ⟨s8,_,Lz⟩ cA dG;rw[dH,Ys]at Lz;let s9:=XM (o:=.lst zs) dG
    exists _,Z,pA,_,0,.int y,Z,Z,SqL.of<|s9 _ _<|s8 _ _ wu,Zv (n:=0) Z Z,?_;let Eo:Ra (λi=>A<|rotN k t i) k (M+1) (fnL<|(y::p')::R.eraseIdx t) last:=by rw[jP hl];show jX LB (by ext)
    let SU:Ra (λi=>A<|rotN k t i) (k+1) M (fnL<|(R.eraseIdx t).Q (Oe y p' last)) y:=zq Eo hy0 λi j hi hj=>jO UB eRl Gw hi hj;let hdr:=j4 (n:=n) (k:=k) (t:=t) (A:=A) J
    exists λi=>A<|rotN k t i,k+1,cA,zs,(R.eraseIdx t).Q (Oe y p' last),LA,y,_,_,Z,s7.l<|s8.l s9,(s7.l s8).free dG,XS,?_,by ext,λl h=>?_,J,SU,?_,λi j hi hj=>hAb _ _ ?_ hj,λe0=>?_,?_,dM _ (Xo hl) y Yi
    .show Lz.imp λv l zz=>by let(r,e,h):=zz;exists r,e,s9 _ _ h,Ze h dG
    .let⟨l0,h0,rfl⟩:=Yp.Y h;rw[zh (by rw[Gw l0 h0,UB]),UB]
    .rw[hdr,wx,dJ,WA,<-WA (sg t),jN,RZ]
    .unfold rotN;split
     .omega
     .split
      .lia
      .lia
    .subst e0
     have:=jV Eo
     rwa[show k+1=n by omega]at this
    .let Wo:sg t=1\/sg t=-1:=by
      unfold sg;split
      .show .inl rfl
      .show .inr rfl
     lia
   .intro Kn hK;exists _,Z,_,_,Z,Z,(by ext),Z,_,Z,?_;rw[Wn];show Xk (λh1=>?_) (λh1=>?_)
    .exists _,Z,_,Z,hK _ _ {-sgn,Z,Z,?_};let e:sg t=-1:=by unfold sg;rw[Yj J]
     ext
    .show hK _ _ {sgn,Z,Z,?_};let e:sg t=1:=by unfold sg;rw[Yk J]
     ext
  .let Qh:m=0:=by ext
   exists _,Z,_,Z,_,_,Z,Z,{?_,hlb},?_
   .rcases hsg with e|e<;>rw[e]<;>show Nat.one_lt_two_pow D
   grind
inductive spZ4(K:Ad):_
 |mk (a:A7) (l:Ac) (i:A5) (_:vs=[.ref a,.int i]) (_:SqL K H a (IL l)) (_:l.f<=1000) (_:∀r H',Same H H'->H r=A8->H' r=⇑(.lst<|IL<|cutz l i)->Q ↑r H')
def dF(l:Ac)(z:A0):cutz (IL l) z=IL (cutz l z):=by
 unfold cutz
 ext
def dE(T:Txt K mg t):Xp P w base Xx T.qZ4 1 (spZ4 K):=by
 show T.qZ4.okI ["row","number"] CC ⋯
 .let⟨a,l,i,rfl,hA,hl,q⟩:=h;exists _,(XJ<|Zm<|Zp tJ (Zi (Ia K) pq T.n_list Boot.«list»<|XZ (VH (Vr K) (pv 0) QF<|RO<|pv 1) XX)<|Zi (Ia K) pq T.n_list Boot.«list»<|XZ (VH (Vr K) (pv 0) (RO<|Zp Tv (pv 1) XN) QF) XX),?_;exists _,Z,_,Z,(i:A0),Z,a,_,Z,hA,λp1 WB=>?_;let u1:=XM (o:=.lst<|Xl (IL l) none<|some (i:A0)) WB
  exists p1,_,Z,.inl<|SqL.of XS,λp2 VW=>?_;let u2:=XM (o:=.lst<|Xl (IL l) none<|some (i:A0)) VW
  exists _,Z,_,Z,_,_,Z,Z,_,Z,a,_,Z,(u1.l u2).seq hA,λp3 Sd=>?_;let u3:=XM (o:=.lst<|Xl (IL l) (some<|(i:A0)+1) none) Sd
  exists p3,_,Z,.inl<|SqL.of XS,λp4 Gu=>?_;let u4:=XM (o:=.lst<|Xl (IL l) (some<|(i:A0)+1) none) Gu
  let c1:=n8 (IL l) none ⇑(i:A0);let c2:=n8 (IL l) (some<|(i:A0)+1) none
  rw[Xd]at c1 c2;exists p2,p4,_,_,Z,Z,(u3.l u4) _ _ XS,XS,Mr J,λp5 hp5=>?_;let u14:=u1.l (u2.l<|u3.l u4)
  show q p5 _ (u14.l<|XM hp5) (u14.free hp5) ?_;rw[XS,kI (by ext),dF]
inductive spZ5(K:Ad):_
 |mk (a:A7) (ys:A6 V) (L:Ab) (i:A5) (_:vs=[.ref a,.int i]) (_:SqL K H a ys) (_:Bears (Vq H) ys L) (_:L.f<=1000) (_:(∀l∈L,l.f<=1000)) (_:i<L.f) (_:∀r zs H',Same H H'->H' r=⇑(.lst zs)->Bears (Vq H') zs ((cutz L i).Q λl=>cutz l (i:A0))->Q ↑r H')
def Zk6{α:Type}{l:A6 α}{i j:A5}{x:α}(hx:l[j]?=⇑x):cutz (l.R (j+1)) (i:A0)=cutz (l.R j) (i:A0)++(if j=i then [] else [x]):=by
 let hj:=(Xr.Y hx).1;let e:l.R (j+1)=l.R j++[x]:=by rw[Yw,hx];rfl
 let hl:(l.R j).f=j:=by rw[Yx];lia
 let short:∀m:A6 α,m.f<=i->cutz m (i:A0)=m:=λm hm=>by unfold cutz;rw[VN,YG hm,uQ J,Wc]
 cases c:j=i
 .subst c;rw[Yk Z,Wc,short (l.R j) (by ext)];unfold cutz
  ext
 .rw[Yj c];cases d:j<i
  .grind
  .unfold cutz;grind
def dD(T:Txt K mg t):Xp P w base Xx T.qZ5 2 (spZ5 K):=by
 show T.qZ5.okI ["table","number"] CC ⋯
 .let⟨a,ys,L,i,rfl,hA,hB,hL,q9,hi,q⟩:=h;exists _,(XJ<|Zm<|UW Z (sc0:=Zc<|top 18) (N0:=["table","number"]) (N':=["at","row","number"]) (o:=2) (fr:=[1]) ⟨Z,CC,CC,CC,Z,CC⟩ (tu K Z T.n_enumerate<|XZ (pv 0) XX) (Ir<|VG D<|VG D RM) (λ_ _ _ _=>(Pw (n:=2) K Z<|Zw (Zb 0)<|Zw (Zb 1) PJ)) (λ_ _ _ _=>(KA<|Zk Sk (pv 0) (pv 2)<|Zq _)) λ_ _ _ _=>(XD (dE T) hr T.qZ4 Zt<|XZ (pv 1)<|XZ (pv 2) XX)),?_;let SR:=hB.1
  show⟨_,Z,a,Z,{_,hA},HR (K:=K) (a:=a) (xs:=ys) (λj zs H2=>Same H H2/\j<=ys.f/\Bears (Vq H2) zs ((cutz (L.R j) (i:A0)).Q λl=>cutz l (i:A0))) {Same.refl _,XC _,by rw[show(cutz (L.R 0) (i:A0)).Q (λl=>cutz l (i:A0))=[] by unfold cutz;simp];show{Z,λi l e=>by simp at e}} (Zl J) (λj zs H2 hj ⟨e,Qt,ez⟩=>⟨e.seq hA,by
   rw[ez.1,Yb];show Ym (kH _ _) ?_
   ext⟩) ?_ ?_⟩
  .rintro j v zs H2 pt Ry hj ⟨s2,Pu,hZ⟩ S Xt;let(l,hl,r,rfl,hr):=hB.at hj;let Su:=(Xr.Y hj).1
   let s3:=XM (o:=.tup [.int j,.ref r]) Ry;exists pt,_,Z,SqT.of XS,Z,_,_,Z,_,_,Z,Z,?_;let hZ3:Bears (Vq<|upd H2 pt<|.tup [.int j,.ref r]) zs ((cutz (L.R j) (i:A0)).Q λl=>cutz l (i:A0)):=hZ.imp λ_ _ zz=>by let(r',e,h):=zz;exists r',e,s3 _ _ h
   let QV:=s2.l s3;exists _,Z,_,Z,Z,_,Z,?_;show Wa (λe=>?_) (λe=>?_)
   .show Xt _ _ {QV,Su,?_};rwa[Zk6 hl,Yk J,Wc]
   .exists _,Z,_,Z,r,l,i,Z,SqL.of<|QV _ _ hr,q9 l<|Xo hl,λc H4 s4 _ hc=>Xt _ _ {QV.l s4,Su,?_};rw[Zk6 hl,Yj J,Yz];show(hZ3.imp λ_ _ zz=>by let(r',e,h):=zz;exists r',e,s4 _ _ h).snoc ⟨c,Z,hc⟩
  .rintro zs H2 ⟨s2,_,hZ⟩ p hp;rw[SR,Ys]at hZ;show q p zs _ (s2.l<|XM hp) XS (hZ.imp λ_ _ zz=>by let(r',e,h):=zz;exists r',e,XM hp _ _ h)
inductive spZ6:_
 |mk (x y:A0) (_:vs=[.int x,.int y]) (_:Q (.int<|Int.gcd x y) H)
def JI(z:A0):(if z<0 then -z else z)=(z.natAbs:A0):=by grind
def dC(a b:A5):Nat.gcd b (a%b)=Nat.gcd a b:=by rw[Ff b,<-Nat.gcd_rec,Ff]
def dB(T:Txt K mg t):Xp P w base Xx T.qZ6 1 spZ6:=by
 show T.qZ6.okI ["one","other","rest"] CC ⋯
 .let⟨x,y,rfl,q⟩:=h;show⟨_,(XR (Zd 0<|Zf Zt6 pq T.n_abs Boot.«abs»<|XZ (pv 0) XX)
   (XR (Zd 1<|Zf Zt6 pq T.n_abs Boot.«abs»<|XZ (pv 1) XX)
   (XR (tX YD (Zk Sk (pv 1) XN<|Zq _)
   (XR (Zd 2<|Zp ZR (pv 0)<|pv 1)
   (XR (Zd 0<|pv 1)
   (XJ<|Zd 1<|pv 2))))
   (XJ<|Zm<|pv 0)))),?_⟩
  exists _,Z,x,Z,?_;rw[JI];show nm ?_;exists _,Z,y,Z,?_;rw[JI];show nm ?_;exists λm σ H2=>H2=H/\∃(a b:A5)(v3:Option V),σ=[⇑(.int a),some<|.int b,v3]/\b=m/\Nat.gcd a b=Int.gcd x y,⟨y.natAbs,Z,x.natAbs,y.natAbs,none,Z,Z,Z⟩,?_;intro m σ H2 Ω;let⟨rfl,a,b,v3,rfl,rfl,hg⟩:=Ω;exists _,Z,Z,_,Z,?_;rw[Wn];show Wa (λhb=>?_) (λhb=>?_)
  .let b0:b=0:=by ext
   subst b0;rw[Nat.gcd_zero_right]at hg;exists _,Z,?_
   ext
  .let bp:0<b:=B;exists _,λσ' H' h=>h,?_;exists _,Z,_,Z,_,_,Z,Z,(by simp_all:(0:A0)<(b:A0)),?_;exists _,Z,?_;exists _,Z,?_;exists a%b,Dc _ bp,Z,b,a%b,_,Z,Z,by rwa[dC]
inductive spZ7:_
 |mk (x y:A0) (_:vs=[.int x,.int y]) (_:y≠0) (_:x.natAbs<2^9000) (_:y.natAbs<2^9000) (_:∀p q:A0,Tf x y p q->∀r,H r=A8->Q ↑r (upd H r<|.tup [.int p,.int q]))
def dA(T:Txt K mg t):Xp P w base Xx T.qZ7 2 spZ7:=by
 show T.qZ7.okI ["top","bottom","divisor"] CC ⋯
 .let⟨x,y,rfl,hy,bx,by',q⟩:=h;show⟨_,(XR (Zd 2<|XD (dB T) hr T.qZ6 Zt<|XZ (pv 0)<|XZ (pv 1) XX)
   (XR (WO (Zk OK (pv 1) XN<|Zq _)
   (XJ<|Zd 2<|OL IP<|pv 2)
   Zn)
   (XJ<|Zm<|ZZ<|XZ (Zp jS (pv 0)<|pv 2)<|XZ (Zp jS (pv 1)<|pv 2) XX))),?_⟩
  let gb:Int.gcd x y<2^9000:=Fu (Nat.gcd_le_right _<|by ext) by';let low:=λd hd=>xY (x:=x) (y:=y) (d:=d) hy hd
  let fin:∀d:A0,d=(if y<0 then -(Int.gcd x y:A0) else (Int.gcd x y:A0))->Hr x d/\Hr y d:=λd hd=>by
   let h0:=(low d hd).1;let h1:d.natAbs<2^9000:=by
    rw[hd];split
    .ext
    .ext
   exists ⟨h0,h1⟩,⟨h0,h1⟩
  exists _,Z,_,Z,x,y,Z,?_;show nm ?_;dsimp only;show LW (λσ H2=>∃d:A0,d=(if y<0 then -(Int.gcd x y:A0) else (Int.gcd x y:A0))/\σ=[⇑(.int x),some<|.int y,⇑(.int d)]/\H2=H) ?_ ?_;rotate_left
  .intro Kn hK;exists _,Z,_,_,Z,Z,_,Z,?_;show Xk (λh=>?_) (λh=>?_)
   .exists _,Z,_,Z,?_;show hK _ _ {_,(Yk h).symm,Z,Z}
   .show hK _ _ {_,(Yj h).symm,Z,Z}
  intro σ H2 Ω;let⟨d,hd,rfl,rfl⟩:=Ω;let(f1,f2):=fin d hd;exists _,Z,_,Z,_,_,Z,Z,f1,_,Z,_,Z,_,_,Z,Z,f2,(by change 2<=sizeLine;decide),λr hr=>?_;show q _ _ (low d hd).2 r hr
inductive spZ8(C:A7):_
 |mk (w n ps k:_) (_:vs=[.ref w,.int k]) (_:WebAt C H w n ps) (_:Q (.bl<|decide<|0<=k/\k<ps⁻¹) H)
def dz(T:Txt K mg t):Xp P w base Xx T.qZ8 1 (spZ8 t.A_Web):=by
 show T.qZ8.okI ["web","number"] CC ⋯
 .let⟨w,n,ps,k,rfl,⟨dx,tl,xs,h1,h2,h3⟩,q⟩:=h;exists _,(XJ<|Zm<|oH SO OK XN (pv 1)<|Zf (Zh K) pq T.n_len Boot.«len»<|XZ (ZQ K (pv 0) Z) XX),?_;exists _,Z,_,_,Z,Z,_,Z,?_;show BE (λhc=>?_) (λhc=>?_)
  .exists _,Z,w,_,dx,_,_,Z,h1,T.cl_Web,T.n_Web_ties,OC _ _,tl,xs,Z,.inl<|SqL.of h2,_,_,Z,Z,?_;change Q (.bl<|decide<|k<xs⁻¹) H
   rwa[h3.1,show decide (k<ps⁻¹)=decide (0<=k/\k<ps⁻¹) from by simp[hc]]
  ext
inductive spZ9(K:Ad):_
 |mk (n a kd xs ps:_) (_:vs=[.int n,.ref a]) (_:SqK kd K H a xs) (_:PairsV H xs ps) (_:Zz n ps) (_:Q .non H)
def dy(T:Txt K mg t):Xp P w base Xx T.qZ9 1 (spZ9 K):=by
 show T.qZ9.okI ["places","ties","ends","end"] CC ⋯
 .let⟨n,a,kd,xs,ps,rfl,hS,hp,⟨g1,g2,g3,g4⟩,q⟩:=h;show⟨_,(XR (WO (MI<|tS SO SO XN (pv 0)<|Ja (v:=V.int 14) Z T.g_MOST_PLACES.choose_spec {_,Z})
   (XJ PK)
   Zn)
   (XR (WO (Zk QG (Zf (Zh K) pq T.n_len Boot.«len»<|XZ (pv 1) XX) (Ja (v:=V.int 30) Z T.g_MOST_TIES.choose_spec {_,Z})<|Zq _)
   (XJ PK)
   Zn)
   (XJ (WU YD Z (Tp K<|pv 1) (Zb 2)
   (XJ (WU YD Z (HZ K<|pv 2) (Zb 3)
   (XJ (WO (MI<|tS SO OK XN (pv 3)<|pv 0)
   (XJ PK)
   Zn)))))))),?_⟩
  exists _,Z,_,_,Z,Z,_,Z,?_;show Ky g1 ?_;exists _,_,Z,Z,_,Z,?_;show Kx g2 ?_;exists _,Z,a,xs,Z,hS.or,_,_,Z,Z,_,Z,?_;show Tq (by rw[hp.1];lia) ?_;exists _,Z,a,Z,Bo (k:=kd) (K:=K) (xs:=xs) (λi σ H2=>∃v v2,σ=[⇑(.int n),some<|.ref a,v,v2]/\H2=H) ⟨none,none,Z,Z⟩ (λi σ H2 _ zz=>by let(_,_,_,e):=zz;show e▸hS) ?_ ?_
  .rintro i x σ H2 hi ⟨v,v2,rfl,rfl⟩;let(p,AY,tt,rfl,ht):=hp.at hi;let(e1,e2,e3,e4):=g4 p (Xo AY);exists _,Z,tt,Z,{_,SqT.of ht},tV (K:=K) (a:=tt) (xs:=[.int p.1,.int p.2]) (λj σ H3=>∃v v2,σ=[⇑(.int n),some<|.ref a,v,v2]/\H3=H2) {_,_,Z,Z} (λj σ H3 _ zz=>by let(_,_,_,e):=zz;show e▸SqT.of ht) ?_ ?_
   .rintro j y σ H3 hj ⟨v,v2,rfl,rfl⟩;let hy:∃z:A0,y=.int z/\0<=z/\z<n:=by
     match j,hj with
     |0,hj=>exists p.1,(Yf hj).symm,e1,e2
     |1,hj=>exists p.2,(Yf hj).symm,e3,e4
    let(z,rfl,z1,z2):=hy;exists _,Z,_,_,Z,Z,_,Z,?_;show Ky z1 ?_;exists _,Z,_,_,Z,Z,_,Z,?_;show Kx z2 ?_;exists _,_,Z,Z
   ext
  ext
inductive sp_Web_init(K:Ad)(C:A7):_
 |mk (w dx n a kd xs ps:_) (_:vs=[.ref w,.int n,.ref a]) (_:H w=⇑(.ins C dx [])) (_:(∀o,SqK kd K (upd H w o) a xs)) (_:PairsV H xs ps) (_:Zz n ps) (_:∀H':Hp,WebAt C H' w n ps->(∀b o,H b=⇑o->b≠w->H' b=⇑o)->Q .non H')
def dv:FnScope ["self","places","ties"] ["self","places","ties"] (Zc sZa):=TF CC
def Gs(T:Txt K mg t):FnOk P w K mg base Xx 2 (t.a 0) (t.d 0) ["self","places","ties"] (sp_Web_init K t.A_Web):=by
 show T.fZa.ok dv (λvs H Q E h=>?_) (λXG A outer s H vs Q E hr h=>?_)
 .let⟨w,dx,n,a,kd,xs,ps,rfl,_⟩:=h;rfl
 .let⟨w,dx,n,a,kd,xs,ps,rfl,hw,hS,hp,g,q⟩:=h;let eH:upd H w (.ins t.A_Web dx [])=H:=by
   funext b
   cases hb:b=w
   .subst hb;rw[XS,hw]
   .rw[Za hb]
  let hS0:SqK kd K H a xs:=by let z:=hS (.ins t.A_Web dx []);rwa[eH]at z
  show⟨_,(XR (ZV<|XD (dy T) hr T.qZ9 Zt<|XZ (pv 1)<|XZ (pv 2) XX)
   (XR (IF (pv 0) (pv 1) Z)
   (XJ<|IF (pv 0) (UW Z (sc0:=Zc sZa) (N0:=["self","places","ties"]) (N':=["ends"]) (o:=1) (fr:=[]) ⟨Z,CC,CC,CC,Z,CC⟩ (Tp K<|pv 2) (Zu D) (λ_ _ _ _=>(Zb 0)) (λ_ _ _ _=>ZI) λ_ _ _ _=>(ZZ<|XZ (ZB (ZA K) (pv 0) XN λ_ _=>rfl)<|XZ (ZB (ZA K) (pv 0) XN λ_ _=>rfl) XX)) Z))),?_⟩
  exists _,Z,_,Z,n,a,kd,xs,ps,Z,hS0,hp,g,?_;exists _,Z,_,Z,w,_,dx,[],Z,hw,T.cl_Web,T.n_Web_places,(by ext),?_;let WB:PairsV (upd H w<|.ins t.A_Web dx<|WC "places" (.int n) []) xs ps:={hp.1,λi p e=>by let(v,e1,tt,e2,e3):=hp.2 i p e;show{v,e1,tt,e2,by rwa[Za (RS e3 hw (λz=>nomatch z))]}}
  let sx:xs.f<sizeLine:=Zl (by rw[hp.1];have:=g.2.2.1;lia);show⟨_,Z,a,Z,tE (k:=kd) (K:=K) (xs:=xs) (λi ys H2=>i<=xs.f/\ys.f=i/\Same (upd H w<|.ins t.A_Web dx<|WC "places" (.int n) []) H2/\PairsV H2 ys (ps.R i)) {XC _,Z,Same.refl _,PairsV.nil} sx
   (λi ys H2 _ zz=>by let(_,hl,s2,_):=zz;exists (hS _).same s2,Nat.le_of_eq hl) ?_ ?_⟩
  .rintro i x ys H2 hi ⟨h1,hl,s2,hy⟩ S Xt;let(p,AY,tt,rfl,ht):=WB.at hi;let NO:=s2 _ _ ht
   show QC ?_;exists _,Z,tt,_,0,.int p.1,Z,Z,SqT.of NO,Z,_,Z,tt,_,1,.int p.2,Z,Z,SqT.of NO,Z,(by change 2<=sizeLine;decide),λq hq=>?_;let TN:i<xs.f:=(Xr.Y hi).1
   show Xt _ _ {TN,by ext,ZD s2 hq,?_};rw[Yw,AY];show(hy.same<|XM hq).snoc ⟨q,Z,XS⟩
  .rintro ys H2 ⟨_,hl,s2,hy⟩ tl du;let dt:=s2 w _ XS
   let DU:w≠tl:=Ze dt du;exists _,Z,w,_,dx,_,Z,(by rwa[Za DU]),T.cl_Web,T.n_Web_ties,(by change 1<1000;decide),?_;show q _ {dx,tl,ys,XS,by rw[Za (YX DU),XS],?_} λb ob e hb=>?_
   .let e1:ps.R xs.f=ps:=YG (by rw[hp.1];ext);rw[e1]at hy;exists hy.1,λi p e=>?_;let(v,e2,tt,e3,e4):=hy.2 i p e;exists v,e2,tt,e3,by rwa[Za (RS e4 dt (λz=>nomatch z)),Za (Ze e4 du)]
   .let e2:=s2 b ob (by rwa[Za hb]);rwa[Za hb,Za (Ze e2 du)]
inductive spZb(K:Ad)(C:A7):_
 |mk (w a:A7) (n:A0) (ps:Aa) (kd:B2) (ws:Ac) (_:vs=[.ref w,.ref a]) (_:WebAt C H w n ps) (_:SqK kd K H a (IL ws)) (_:(ws.f=ps.f->Q .non H)) (_:(ws.f≠ps.f->False))
def Gr(T:Txt K mg t):Xp P w base Xx T.qZb 1 (spZb K t.A_Web):=by
 show T.qZb.okI ["web","numbers"] CC ⋯
 .let⟨w,a,n,ps,kd,ws,rfl,⟨dx,tl,xs,h1,h2,h3⟩,hS,q,qe⟩:=h;show⟨_,(XJ (WO (Zk Sk (Zf (Zh K) pq T.n_len Boot.«len»<|XZ (pv 1) XX) (Zf (Zh K) pq T.n_len Boot.«len»<|XZ (ZQ K (pv 0) Z) XX)<|Zq _)
   (XJ PK)
   Zn)),?_⟩
  let hl:=h3.1;exists _,Z,a,_,Z,hS.or,_,Z,w,_,dx,_,_,Z,h1,T.cl_Web,T.n_Web_ties,OC _ _,tl,xs,Z,.inl<|SqL.of h2,Z,_,Z,?_;show Wa (λhc=>?_) (λhc=>?_)
  .show q B
  ext
inductive spZc(K:Ad)(C:A7):_
 |mk (w n ps:_) (_:vs=[.ref w]) (_:WebAt C H w n ps) (_:ps.f<=1000) (_:∀r H',Same H H'->H r=A8->H' r=⇑(.tup<|IL<|Wx ps.f)->Q ↑r H')
def Ly(T:Txt K mg t):Xp P w base Xx T.qZc 1 (spZc K t.A_Web):=by
 show T.qZc.okI ["web"] CC ⋯
 .let⟨w,n,ps,rfl,⟨dx,tl,xs,h1,h2,h3⟩,hl,q⟩:=h;exists _,(XJ<|Zm<|Zi (ZY3 Z) pq T.n_tuple Boot.«tuple»<|XZ (Zi mV pq T.n_range Boot.«range»<|XZ (Zf (Zh K) pq T.n_len Boot.«len»<|XZ (ZQ K (pv 0) Z) XX) XX) XX),?_;let hx:=h3.1
  exists _,Z,w,_,dx,_,_,Z,h1,T.cl_Web,T.n_Web_ties,OC _ _,tl,xs,Z,.inl<|SqL.of h2,_,Z,λr hr=>{r,0,_,Z,XS,{D,D,by ext,J},J,λl hl=>?_};show q l _ (ZD (XM hr) hl) ((XM hr).free hl) ?_;rw[XS,hx,lD]
inductive spZd(K:Ad)(C:A7):_
 |mk (w a n ps kd T:_) (_:vs=[.ref w,.ref a]) (_:WebAt C H w n ps) (_:ps.f<=1000) (_:SqK kd K H a (IL T)) (_:∀tB,tB.U (·<·)->(∀z,z∈tB↔(0<=z/\z<ps⁻¹)/\z∉T)->∀r H',Same H H'->H' r=⇑(.tup<|IL tB)->Q ↑r H')
def dr(T:Txt K mg t):Xp P w base Xx T.qZd 1 (spZd K t.A_Web):=by
 show T.qZd.okI ["web","ties"] CC ⋯
 .let⟨w,a,n,ps,kd,T',rfl,hW,hl,hA,q⟩:=h;exists _,(XJ<|Zm<|Zi (Bm K) pq T.n_tuple Boot.«tuple»<|XZ (UW Z (sc0:=Zc<|top 29) (N0:=["web","ties"]) (N':=["tie","ties"]) (o:=1) (fr:=[1]) ⟨Z,CC,CC,CC,Z,CC⟩ (ZO Z T.n_range<|XZ (Zf (Zh K) pq T.n_len Boot.«len»<|XZ (ZQ K (pv 0) Z) XX) XX) (Zu D) (λ_ _ _ _=>(Zb 0)) (λ_ _ _ _=>(KA<|Zk (tw K) (pv 0) (pv 1) Z)) λ_ _ _ _=>(pv 0)) XX),?_;let(dx,tl,xs,h1,h2,h3):=hW;let JH:=h3.1
  exists _,Z,w,_,dx,_,_,Z,h1,T.cl_Web,T.n_Web_ties,OC _ _,tl,xs,Z,.inl<|SqL.of h2,_,Z,by ext,J,EI (lo:=0) (n:=(xs.f:A0).j) (λj ys H3=>H3=H/\∃tB:Ac,ys=IL tB/\tB.f<=j/\tB.U (·<·)/\∀z,z∈tB↔(0<=z/\z<(j:A0))/\z∉T') {Z,[],Z,XI _,.nil,λz=>{λh=>(by cases h),λh=>(by lia)}} (Zl J) (λj ys H3 _ zz=>by let(_,tB,e,hl,_):=zz;ext) ?_ ?_
  .rintro j ys H3 hj ⟨rfl,tB,rfl,hDl,hp,hm⟩ S Xt;let lt:∀z∈tB,z<(j:A0):=λz hz=>((hm z).Y hz).1.2
   show nm ?_;exists _,Z,_,Z,a,_,Z,hA.or,Z,Oy _,_,Z,?_;rw[Oz,KY];show Wa (λVP=>?_) (λVP=>?_)
   .grind
   .exists _,Z,Xt _ _ {Z,tB++[(j:A0)],?_,by ext,?_,λz=>?_}
    .rw[RL]
    .show YI.X {hp,UQ _ _,λa ha b hb=>by rw[Xn.Y hb];show lt a ha}
    grind
  rintro ys H3 ⟨rfl,tB,rfl,hDl,hp,hm⟩ la dq;rw[show(((xs.f:A0).j:A5):A0)=ps⁻¹ by ext]at hm;exists la,_,Z,.inl {SqL.of XS,λtp QU=>?_};show q tB hp hm tp _ ((XM dq).l (XM QU)) XS
inductive spZe(K:Ad)(C:A7):_
 |mk (w a n ps kd ns:_) (_:vs=[.ref w,.ref a]) (_:WebAt C H w n ps) (_:SqK kd K H a (IL ns)) (_:∀b:B2,(b=A9↔IsSet ps.f ns)->Q (.bl b) H)
def wm(T:Txt K mg t):Xp P w base Xx T.qZe 2 (spZe K t.A_Web):=by
 show T.qZe.okI ["web","ties","last","tie"] CC ⋯
 .let⟨w,a,n,ps,kd,ns,rfl,hW,hS,q⟩:=h;show⟨_,(XR (Zd 2<|OL IP XN)
   (XR (WU YD Z (Tp K<|pv 1) (Zb 3)
   (XR (WO (PW.pt<|MJ (Zk SO (pv 3) (pv 2)<|Zq _)<|t9<|MI<|MK<|XD (dz T) hr T.qZ8 Zt<|XZ (pv 0)<|XZ (pv 3) XX)
   (XJ<|Zm Uo)
   Zn)
   (XJ<|Zd 2<|pv 3)))
   (XJ<|Zm Uo))),?_⟩
  exists _,Z,?_;show⟨_,Z,a,Z,Bo (k:=kd) (K:=K) (xs:=IL ns) (λi σ H2=>∃l v,σ=[some ↑w,some<|.ref a,some<|.int l,v]/\H2=H/\(i=0->l=-1)/\(i≠0->ns[i-1]?=⇑l)/\∀j z,j<i->ns[j]?=⇑z->0<=z/\z<ps⁻¹/\∀y,j≠0->ns[j-1]?=⇑y->y<z)
   {-1,none,Z,Z,λ_=>rfl,λz=>absurd Z z,λj z hj=>absurd hj<|QR j} (λi σ H2 _ zz=>by let(_,_,_,e,_):=zz;show e▸hS) ?_ ?_⟩
  .rintro i x σ H2 hi ⟨l,v,rfl,rfl,Pk,Qg,hp⟩;let(z,rfl,hz):=Vj hi;exists _,Z,_,Z,_,_,Z,Z,_,Z,?_;show Xk (λhc=>?_) (λhc=>?_)
   .-- tie<=last
    show SJ ?_;show q false {λz=>(nomatch z),λhs=>?_};let(b1,b2,b3):=hs i z hz;cases h0:i=0
    .lia
    .have:=b3 l h0 (Qg h0);lia
   .exists _,Z,_,Z,w,n,ps,z,Z,hW,_,Z,?_;show Wa (λVt=>?_) (λVt=>?_)
    .exists _,Z,?_;show{z,_,Z,Z,λe=>(nomatch e),λ_=>by simpa using hz,λj y hj ey=>?_};cases rN:j<i
     .show hp j y rN ey
     grind
    .show q false {λz=>(nomatch z),λhs=>?_};let(b1,b2,b3):=hs i z hz;show absurd ⟨b1,b2⟩ Vt
  .rintro σ H2 ⟨l,v,rfl,rfl,Pk,Qg,hp⟩;show q true {λ_ i z hz=>?_,λ_=>rfl};let hi:i<(IL ns).f:=by rw[Xd];show(Xr.Y hz).1
   show hp i z hi hz
inductive spZf(K:Ad)(C:A7):_
 |mk (w a n ps kd ns:_) (_:vs=[.ref w,.ref a]) (_:WebAt C H w n ps) (_:SqK kd K H a (IL ns)) (_:IsSet ps.f ns) (_:∀r H',Same H H'->SqT K H' r (IL ns)->Q ↑r H')
def Gq(T:Txt K mg t):Xp P w base Xx T.qZf 3 (spZf K t.A_Web):=by
 show T.qZf.okI ["web","ties"] CC ⋯
 .let⟨w,a,n,ps,kd,ns,rfl,hW,hS,hI,q⟩:=h;show⟨_,(XR (WO (MI<|MK<|XD (wm T) hr T.qZe Zt<|XZ (pv 0)<|XZ (pv 1) XX)
   (XJ PK)
   Zn)
   (XJ<|Zm<|Zi (Bm K) pq T.n_tuple Boot.«tuple»<|XZ (pv 1) XX)),?_⟩
  exists _,Z,_,Z,w,a,n,ps,kd,ns,Z,hW,hS,λb hb=>{_,Z,?_};show Ic (λ_=>?_) (λz=>?_)
  .exists _,Z,a,IL ns,Z,?_;cases kd with
   |false=>show .inl {hS,λl hl=>q l _ (XM hl)<|SqT.of XS}
   |true=>show .inr {hS,q a H (Same.refl H) hS}
  ext
inductive spZg(K:Ad)(C:A7):_
 |mk (w m a n ps M kd ns:_) (_:vs=[.ref w,.ref m,.ref a]) (_:WebAt C H w n ps) (_:Zz n ps) (_:H m=⇑(.lst<|IL M)) (_:M.f=n.j) (_:SqK kd K H a (IL ns)) (_:(∀z∈ns,0<=z/\z<ps⁻¹)) (_:∀m' H',Same H H'->(m'=m\/H m'=A8)->H' m'=⇑(.lst<|IL<|Pp M<|XO ps ns)->Q ↑m' H')
def Gp:FnScope ["web","marks","ties","tie","ends","low","high"] ["web","marks","ties"] (Zc (top 33)):=TF CC
def Gn(T:Txt K mg t):Xp P w base Xx T.qZg 1 (spZg K t.A_Web):=by
 show T.qZg.okI ["web","marks","ties","tie","ends","low","high"] CC ⋯
 .let⟨w,m0,a,n,ps,M0,kd,ns,rfl,⟨dx,tl,xs,h1,h2,h3⟩,⟨g1,g2,g3,g4⟩,hm,hlM,hS,hI,q⟩:=h;show⟨_,(XR (WU YD Z (Tp K<|pv 2) (Zb 3)
   (XR (Zd 4<|ZB (Zg K) (ZQ K (pv 0) Z) (pv 3) λ_ _=>rfl)
   (XR (PH (i:=5) Gp.nd Z (Or.inr Z)<|Zf (II Z) pq T.n_min Boot.«min»<|XZ (ZB (Zg K) (pv 1) (ZB (ZA K) (pv 4) XN λ_ _=>rfl) λ_ _=>rfl)<|XZ (ZB (Zg K) (pv 1) (ZB (ZA K) (pv 4) XN λ_ _=>rfl) λ_ _=>rfl) XX)
   (XR (PH (i:=6) Gp.nd Z (Or.inr Z)<|Zf (tR Z) pq T.n_max Boot.«max»<|XZ (ZB (Zg K) (pv 1) (ZB (ZA K) (pv 4) XN λ_ _=>rfl) λ_ _=>rfl)<|XZ (ZB (Zg K) (pv 1) (ZB (ZA K) (pv 4) XN λ_ _=>rfl) λ_ _=>rfl) XX)
   (XJ (WO (Zk OK (pv 5) (pv 6)<|Zq _)
   (XJ<|Uh (i:=1) Z Gp.nd Z Z (sc0:=Zc<|top 33) (N0:=["web","marks","ties","tie","ends","low","high"]) (N':=["mark","high","low"]) (o:=1) (fr:=[6,5]) ⟨Z,CC,CC,CC,Z,CC⟩ (ZE K<|pv 1) (Zu D) (λ_ _ _ _=>(Zb 0)) (λ_ _ _ _=>ZI) λ_ _ _ _=>(t8 (Zk TU (pv 0) (pv 1)<|Zq _) (pv 2)<|pv 0))
   Zn))))))
   (XJ<|Zm<|pv 1)),?_⟩
  show⟨_,Z,a,Z,Bo (k:=kd) (K:=K) (a:=a) (xs:=IL ns) (λi σ H2=>∃m v3 v4 v5 v6,σ=[some ↑w,some<|.ref m,some<|.ref a,v3,v4,v5,v6]/\Same H H2/\(m=m0\/H m=A8)/\H2 m=⇑(.lst<|IL<|Pp M0<|XO ps<|ns.R i))
   {m0,none,none,none,none,Z,Same.refl _,.inl Z,hm} (λi σ H2 _ zz=>by let(_,_,_,_,_,_,s2,_):=zz;show hS.same s2) ?_ ?_⟩
  .rintro i x σ H2 hi ⟨m,v3,v4,v5,v6,rfl,s2,Qh,WG⟩;let(z,rfl,hz):=Vj hi;let(z0,z1):=hI z (Xo hz);obtain⟨p,hp⟩:∃p,ps[z.j]?=⇑p:={_,Xv<|by ext};let(v,hv,tt,rfl,TY):=h3.2 z.j p hp;let(e1,e2,e3,e4):=g4 p (Xo hp);let ed:ps.S z.j (0,0)=p:=XF hp
   exists _,Z,w,_,dx,_,_,Z,s2 _ _ h1,T.cl_Web,T.n_Web_ties,OC _ _,_,Z,tl,xs,z,.ref tt,Z,Z,SqL.of<|s2 _ _ h2,Zv (n:=z.j) J hv,?_;let NO:=s2 _ _ TY
   let hl:(Pp M0<|XO ps<|ns.R i).f=n.j:=(ZA7 _ _).l hlM;generalize hM:Pp M0 (XO ps<|ns.R i)=M at *;let ha:M[p.1.j]?=⇑(mk M p.1.j):=To J
   let hb:M[p.2.j]?=⇑(mk M p.2.j):=To J;let iA:VQ (IL M) p.1=⇑(.int<|mk M p.1.j):=Zv (n:=p.1.j) J (by rw[Yo,ha];rfl)
   let iB:VQ (IL M) p.2=⇑(.int<|mk M p.2.j):=Zv (n:=p.2.j) J (by rw[Yo,hb];rfl);let t0:VQ ([.int p.1,.int p.2]:A6 V) 0=⇑(.int p.1):=rfl
   let t1:VQ ([.int p.1,.int p.2]:A6 V) 1=⇑(.int p.2):=rfl;exists _,rfl,_,rfl,tt,_,0,_,rfl,rfl,SqT.of NO,t0,m,_,p.1,_,rfl,rfl,SqL.of WG,iA,_,rfl,_,rfl,tt,_,1,_,rfl,rfl,SqT.of NO,t1,m,_,p.2,_,rfl,rfl,SqL.of WG,iB,_,_,rfl,?_;exists _,rfl,_,rfl,tt,_,0,_,rfl,rfl,SqT.of NO,t0,m,_,p.1,_,rfl,rfl,SqL.of WG,iA,_,rfl,_,rfl,tt,_,1,_,rfl,rfl,SqT.of NO,t1,m,_,p.2,_,rfl,rfl,SqL.of WG,iB,_,_,rfl,?_;let eL:(if mk M p.2.j<mk M p.1.j then mk M p.2.j else mk M p.1.j)=min (mk M p.1.j) (mk M p.2.j):=by rw[Int.min_def];split<;>split<;>lia
   let eH:(if mk M p.2.j>mk M p.1.j then mk M p.2.j else mk M p.1.j)=max (mk M p.1.j) (mk M p.2.j):=by rw[Int.max_def];split<;>split<;>lia
   exists _,Z,_,Z,_,_,Z,Z,_,Z,?_;rw[eL,eH];let step:Pp M0 (XO ps<|ns.R<|i+1)=pm M p.1.j p.2.j:=by rw[Zs3 hz,lG,hM,ed]
   show Xk (λhc=>?_) (λhc=>?_)
   .show⟨_,Z,m,Z,{_,SqL.of WG},SG (K:=K) (a:=m) (xs:=IL M) (λj ys H3=>H3=H2/\j<=M.f/\ys=IL ((M.R j).Q λk=>if k=max (mk M p.1.j) (mk M p.2.j) then min (mk M p.1.j) (mk M p.2.j) else k)) {Z,XC _,Z} (Zl B)
     (λj ys H3 hj zz=>by let(e,Pu,ey):=zz;exists e▸SqL.of WG,B) ?_ ?_⟩
    .rintro j y ys H3 hj ⟨rfl,Pu,rfl⟩ S Xt;let(k,rfl,hk):=Vj hj;show QC ?_;exists _,Z,_,Z,Z,_,Z,?_;let Su:j<M.f:=(Xr.Y hk).1
     let app:∀r:A0,r=(if k=max (mk M p.1.j) (mk M p.2.j) then min (mk M p.1.j) (mk M p.2.j) else k)->
       IL ((M.R j).Q λk=>if k=max (mk M p.1.j) (mk M p.2.j) then min (mk M p.1.j) (mk M p.2.j) else k)++[.int r]=IL ((M.R<|j+1).Q λk=>if k=max (mk M p.1.j) (mk M p.2.j) then min (mk M p.1.j) (mk M p.2.j) else k):=by intro r er;rw[Yw,hk,er];simp
     show Xk (λhe=>?_) (λhe=>?_)
     .exists _,Z,Xt _ _ {Z,Su,app _ ?_};lia
     .exists _,Z,Xt _ _ {Z,Su,app _ ?_};lia
    .rintro ys H3 ⟨rfl,_,rfl⟩ p' Gm;exists p',_,_,_,_,Z,ZD s2 Gm,.inr<|s2.free Gm,?_;rw[XS,step,Xd,Ys];unfold pm;rw[Yk hc]
   .exists m,_,_,_,_,Z,s2,Qh,?_;rw[WG,step];unfold pm;rw[Yj hc]
  .rintro σ H2 ⟨m,v3,v4,v5,v6,rfl,s2,Qh,WG⟩;rw[Xd,Ys]at WG;exists _,Z,q m H2 s2 Qh WG
inductive spZh(K:Ad)(C:A7):_
 |mk (w a n ps ns:_) (_:vs=[.ref w,.ref a]) (_:WebAt C H w n ps) (_:Zz n ps) (_:SqT K H a (IL ns)) (_:(∀z∈ns,0<=z/\z<ps⁻¹)) (_:∀m H',Same H H'->H m=A8->H' m=⇑(.lst<|IL<|Xj n.j<|XO ps ns)->Q ↑m H')
def Lx(T:Txt K mg t):Xp P w base Xx T.qZh 2 (spZh K t.A_Web):=by
 show T.qZh.okI ["web","ties"] CC ⋯
 .let⟨w,a,n,ps,ns,rfl,hW,hG,hS,hI,q⟩:=h;exists _,(XJ<|Zm<|XD (Gn T) hr T.qZg Zt<|XZ (pv 0)<|XZ (Zi (Zv2 Z) pq T.n_list Boot.«list»<|XZ (Zi mV pq T.n_range Boot.«range»<|XZ (ZQ K (pv 0) Z) XX) XX)<|XZ (pv 1) XX),?_;let(dx,tl,xs,h1,h2,h3):=id hW;let(g1,g2,g3,g4):=id hG;exists _,Z,_,Z,w,_,dx,_,_,Z,h1,T.cl_Web,T.n_Web_places,Kw _ _,n,Z,λr UR=>{r,0,n,Z,XS,⟨D,D,J,J⟩,J,λm hm=>?_};let sm:Same H (upd (upd H r<|.rng 0 n) m<|.lst<|(Wb 0 n).Q V.int):=ZD (XM UR) hm
  exists _,Z,w,m,a,n,ps,(List.range n.j).Q λ(i:A5)=>(i:A0),true,ns,Z,hW.same sm,hG,?_,AP,VE sm hS,hI,λm' H' s' hf Kt=>?_
  .rw[XS,ZN5]
  .show q m' H' (sm.l s') ?_ Kt;rcases hf with rfl|hf
   .show(XM UR).free hm
   .show sm.free hf
inductive spZi(K:Ad)(C:A7):_
 |mk (w a n ps kd ns:_) (_:vs=[.ref w,.ref a]) (_:WebAt C H w n ps) (_:Zz n ps) (_:SqK kd K H a (IL ns)) (_:IsSet ps.f ns) (_:∀r as H',Same H H'->H r=A8->H' r=⇑(.lst<|as.Q V.ref)->r∉as->GrpAt H H' (HV<|Xj n.j<|XO ps ns) as->Q ↑r H')
def dk(T:Txt K mg t):Xp P w base Xx T.qZi 4 (spZi K t.A_Web):=by
 show T.qZi.okI ["web","ties","pieces","place","mark"] CC ⋯
 .let⟨w,a,n,ps,kd,ns,rfl,hW,hG,hS,hI,q⟩:=h;show⟨_,(XR (Zd 2 nr)
   (XR (WU YD Z (tu K Z T.n_enumerate<|XZ (XD (Lx T) hr T.qZh Zt<|XZ (pv 0)<|XZ (XD (Gq T) hr T.qZf Zt<|XZ (pv 0)<|XZ (pv 1) XX) XX) XX) (Pw (n:=2) K Z<|Zw (Zb 3)<|Zw (Zb 4) PJ)
   (XJ<|ZV<|WT K YH Us Ut Ul (WT K Y3G De PySem.F.type_dict_setdefault Zp4 (pv 2)<|XZ (pv 4)<|XZ (UL XX) XX)<|XZ (pv 3) XX))
   (XJ<|Zm<|Zi (mN Z) pq T.n_list Boot.«list»<|XZ (Bk K Y3G Y3z PySem.F.type_dict_values Zt9<|pv 2) XX))),?_⟩
  intro d hd;let s0:Same H (upd H d<|.dK []):=XM hd
  exists _,Z,_,Z,_,Z,w,a,n,ps,kd,ns,Z,hW.same s0,hS.same s0,hI,λr H1 s1 Uu=>?_;exists w,r,n,ps,ns,Z,(hW.same s0).same s1,hG,Uu,hI.all,λm H2 s2 Pn WG=>?_;let Qf:Same H H2:=(s0.l s1).l s2
  let hd2:H2 d=⇑(.dK []):=s2 _ _ (s1 _ _ XS);let hl:(Xj n.j<|XO ps ns).f=n.j:=Zs _ _
  generalize hM:Xj n.j (XO ps ns)=M at *;let n14:M.f<=14:=by have:=hG.2.1;ext
  exists m,Z,{_,SqL.of WG},?_;show Zs8 (K:=K) (a:=m) (xs:=IL M) (λi σ H3=>∃as v3 v4,σ=[some ↑w,some<|.ref a,some<|.ref d,v3,v4]/\i<=M.f/\Same H H3/\H3 m=⇑(.lst<|IL M)/\H3 d=⇑(.dK<|Ug (Xq M i) as)/\d∉as/\m∉as/\GrpAt H H3 (Xq M i) as/\as.f<=i)
   {[],none,none,Z,XC _,Qf,WG,hd2,AP,AP,{Z,List.nodup_nil,λi kv a e=>B,λa ha=>by simp at ha},XI _} (λi σ H3 _ zz=>by let(_,_,_,_,_,_,h,_):=zz;show SqL.of h) ?_ ?_
  .rintro i x σ H3 pt Ry hi ⟨as,v3,v4,rfl,TN,s3,NN,Ng,di,dh,gA,hal⟩;let(k,rfl,hk):=Vj hi;let VX:mk M i=k:=XF hk
   let Wr:i<M.f:=(Xr.Y hk).1;let s4:Same H3 (upd H3 pt<|.tup [.int i,.int k]):=XM Ry
   exists pt,_,Z,SqT.of XS,Z,_,_,Z,_,_,Z,Z,?_;exists _,Z,.inr<|.inr<|.inl {Z,.inl {_,s4 _ _ Ng}},_,Z,(by ext),λl Pk=>?_;let s5:Same H3 (upd (upd H3 pt<|.tup [.int i,.int k]) l<|.lst []):=ZD s4 Pk
   let df:=s5 _ _ Ng;let NM:H3 l=A8:=s4.free Pk
   let ndl:d≠l:=Ze Ng NM;let gl:=gA.len
   exists d,Ug (Xq M i) as,Sum.inl k,.ref l,Z,Z,df,?_,λv hv=>?_,λhv=>?_
   .rw[Zl8 gl];show Zl J
   .-- the mark has XW list
    rcases mj (g:=Xq M i) (as:=as) (k:=k) gl with ⟨h1,_⟩|⟨j,kv,b,e1,e2,e3,e4⟩
    .ext
    .rw[e4]at hv;cases hv;let wk:=s5 _ _ (gA.at_ j kv b e1 e2)
     let rd:k∈(Xq M i).Q (·.1):=Yp.X {kv,Xo e1,e3};let hlen:kv.2.f<=i:=mv (Xo e1)
     exists .inl {Z,_,SqL.of wk},_,Z,b,_,.int i,Z,Z,wk,?_,?_
     .rw[Xd];show Zl J
     .let Gk:b∈as:=Xo e2;let RP:d≠b:=λz=>di (z▸Gk)
      let hmb:m≠b:=λz=>dh (z▸Gk);let SD:=gA.new b Gk
      let JG:(Xq M<|i+1).Q (·.1)=(Xq M i).Q (·.1):=by change(VD (Xq M i) (i:A0)<|mk M i).Q (·.1)=_;rw[Mq,VX,Yk rd]
      exists as,_,_,Z,Wr,Zr SD<|s3.l s5,by rw[Za hmb];show s5 _ _ NN,by rw[Za RP,df,Zm8 JG],di,dh,{?_,gA.nd,?_,gA.new},J
      .have:=YF List.f JG
       grind
      .intro i2 q8 a2 f1 f2;let f1:(VD (Xq M i) (i:A0)<|mk M i)[i2]?=⇑q8:=f1
       unfold VD at f1;rw[VX,Yk rd,Yo]at f1;cases f3:(Xq M i)[i2]? with
       |none=>rw[f3]at f1;cases f1
       |some DT=>
        rw[f3]at f1;let f1:(if DT.1=k then (DT.1,DT.2++[(i:A0)]) else DT)=q8:=Yf f1
        cases hj:i2=j
        .subst hj;rw[e1]at f3;cases f3;rw[e2]at f2;cases f2;rw[Yk e3]at f1;subst f1;rw[XS];simp
        .let UU:a2≠b:=λz=>by subst z;show hj (Xf gA.nd f2 e2)
         let wH:¬DT.1=k:=λz=>hj (Xf (HU M i) (by rw[Yo,f3];show YF some z)<|by ext);rw[Yj wH]at f1;subst f1;rw[Za UU];show s5 _ _ (gA.at_ i2 DT a2 f3 f2)
   .-- a new list
    rcases mj (g:=Xq M i) (as:=as) (k:=k) gl with ⟨h1,kP⟩|⟨j,kv,b,e1,e2,e3,e4⟩
    .let DS:(upd (upd (upd H3 pt<|.tup [.int i,.int k]) l<|.lst []) d<|.dK<|Ug (Xq M i) as++[(Sum.inl k,.ref l)]) l=⇑(.lst []):=by rw[Za (YX ndl),XS]
     exists .inl {Z,_,SqL.of DS},_,Z,l,[],.int i,Z,Z,DS,D,?_;let de:H l=A8:=s3.free NM
     let dc:l∉as:=λz=>by let(_,e):=gA.mem z;lia
     let sV:m≠l:=Ze NN NM;let qZ:m≠d:=RS NN Ng (λz=>nomatch z)
     let egr:Xq M (i+1)=Xq M i++[(k,[(i:A0)])]:=by change VD (Xq M i) (i:A0) (mk M i)=_;unfold VD;rw[VX,Yj kP]
     let hdH:H d=A8:=hd;exists as++[l],_,_,Z,Wr,Zr de<|Zr hdH<|s3.l s5,by rw[Za sV,Za qZ];show s5 _ _ NN,?_,?_,?_,{?_,?_,?_,?_},?_
     .rw[Za ndl,XS,egr,Zk8 gl]
     .ext
     .ext
     .ext
     .show mD gA.nd dc
     .intro i2 q8 a2 f1 f2;rw[egr]at f1;cases Wq:i2<(Xq M i).f
      .rw[YB Wq]at f1;rw[YB (by ext)]at f2;let e:=gA.at_ i2 q8 a2 f1 f2
       let n1:a2≠l:=Ze e NM;let n2:a2≠d:=RS e Ng (λz=>nomatch z)
       rw[Za n1,Za n2];show s5 _ _ e
      .let h2:i2=(Xq M i).f:=by
        have:=(Xr.Y f1).1
        rw[Ya,YW]at this;lia
       subst h2;rw[YE (XI _),MU]at f1;rw[YE (by ext),gl,MU]at f2;cases f1;cases f2;rw[XS];rfl
     .intro a2 ha2;rcases Xi.Y ha2 with z|z
      .show gA.new a2 z
      ext
     ext
    ext
  .rintro σ H3 ⟨as,v3,v4,rfl,TN,s3,NN,Ng,di,dh,gA,hal⟩;rw[Xd]at Ng gA;exists _,Z,.inr<|.inr<|.inl {Z,.inl {_,Ng}},d,_,Z,Z,Ng,λp hp=>?_;let s6:Same H3 (upd H3 p<|QD p d):=XM hp
   exists p,d,_,Z,XS,s6 _ _ Ng,λr UR=>?_;let s7:Same H3 (upd (upd H3 p<|QD p d) r (.lst ((Ug (Xq M M.f) as).Q (·.2)))):=ZD s6 UR
   show q r as _ (s3.l s7) ((s3.l s6).free UR) (by rw[XS,Bc gA.len]) (λz=>?_) (gA.same s7);let(_,e):=gA.mem z;rw[s6.free UR]at e;cases e
inductive spZj(K:Ad)(C:A7):_
 |mk (w a n ps kd ns:_) (_:vs=[.ref w,.ref a]) (_:WebAt C H w n ps) (_:Zz n ps) (_:SqK kd K H a (IL ns)) (_:IsSet ps.f ns) (_:∀b H',Same H H'->(b=A9↔(HV<|Xj n.j<|XO ps ns).f=1)->Q (.bl b) H')
def wj(T:Txt K mg t):Xp P w base Xx T.qZj 5 (spZj K t.A_Web):=by
 show T.qZj.okI ["web","ties"] CC ⋯
 .let⟨w,a,n,ps,kd,ns,rfl,hW,hG,hS,hI,q⟩:=h;exists _,(XJ<|Zm<|KO TU (Zf (Zh K) pq T.n_len Boot.«len»<|XZ (XD (dk T) hr T.qZi Zt<|XZ (pv 0)<|XZ (pv 1) XX) XX) XN<|Zq _),?_;exists _,Z,_,Z,w,a,n,ps,kd,ns,Z,hW,hG,hS,hI,λr as H' s1 UR Uu hnr gA=>?_;exists r,_,Z,.inl<|SqL.of Uu,Z,?_;rw[Yb,gA.len,Wn];grind
inductive spZk(K:Ad)(C:A7):_
 |mk (w n ps:_) (_:vs=[.ref w]) (_:WebAt C H w n ps) (_:Zz n ps) (_:(Kk n ps->∀H':Hp,Same H H'->Q .non H')) (_:(¬Kk n ps->∀H':Hp,Same H H'->False))
def wg(T:Txt K mg t):Xp P w base Xx T.qZk 6 (spZk K t.A_Web):=by
 show T.qZk.okI ["web"] CC ⋯
 .let⟨w,n,ps,rfl,hW,hG,q,qe⟩:=h;show⟨_,(XJ (WO (MI<|MK<|XD (wj T) hr T.qZj Zt<|XZ (pv 0)<|XZ (XD (Ly T) hr T.qZc Zt<|XZ (pv 0) XX) XX)
   (XJ PK)
   Zn)),?_⟩
  show{_,Z,_,Z,w,n,ps,Z,hW,by have:=hG.2.2.1;lia,λr H1 s1 UR Uu=>?_};exists w,r,n,ps,true,Wx ps.f,Z,hW.same s1,hG,SqT.of Uu,Kl _,λb H2 s2 hb=>{_,Z,?_};rw[Zd8 (by have:=hG.1;lia) (ZY hG (Kl _).all)]at hb;show Ic (λz=>?_) (λz=>?_)
  .show q (hb.Y z) H2 (s1.l s2)
  .show qe (λg=>by rw[hb.X g]at z;cases z) H2 (s1.l s2)
inductive spZl(K:Ad)(C:A7):_
 |mk (w b n ps ws:_) (_:vs=[.ref w,.ref b]) (_:WebAt C H w n ps) (_:Zz n ps) (_:SqL K H b (IL ws)) (_:ws.f=ps.f) (_:∀r ys L H',Same H H'->H r=A8->TabAt H r n.j H' ys L->(∀i j,i<n.j->j<n.j->fnL L i j=lapE (Vi ps ws) i j)->Q ↑r H')
def Zv7(x:V)(k:A5):(List.replicate k [x]).flatten=List.replicate k x:=by
 ext
def c9(n i j:A5):fnL (List.replicate n (List.replicate n 0)) i j=0:=by unfold fnL;grind
def TabAt.get{H0 H:Hp}{r:A7}{n:A5}{ys:A6 V}{L:Ab}(h:TabAt H0 r n H ys L){i j:A5}(hi:i<n)(hj:j<n):∃A l x,ys[i]?=some ↑A/\H A=⇑(.lst (IL l))/\l[j]?=⇑x/\l.f=n/\x=fnL L i j/\H0 A=A8/\∀y:A0,∃L':Ab,TabAt H0 r n (upd H A (.lst ((IL l).set j (.int y)))) ys L'/\∀a b,fnL L' a b=if a=i/\b=j then y else fnL L a b:=by
 let(A,l,y1,z1,hA,hl,hn,hr):=h.at hi;obtain⟨x,hx⟩:∃x,l[j]?=⇑x:={_,Xv<|by ext};exists A,l,x,y1,hA,hx,hl,(Nl z1 hx).symm,hn,λy=>{L.set i<|l.set j y,?_,ju z1<|by ext};let e:(IL l).set j (.int y)=IL (l.set j y):=(List.map_set ..).symm
 rw[e];show h.put y1 z1 hr (by ext)
def qY{xs:A6 V}{i:A0}(h0:0<=i)(h1:i<xs⁻¹):QE xs.f i=⇑i.j:=by
 unfold QE
 ext
def c8:FnScope ["web","weights","table","ends","weight","one","other"] ["web","weights"] (Zc (top 39)):=TF CC
def c7(T:Txt K mg t):Xp P w base Xx T.qZl 1 (spZl K t.A_Web):=by
 show T.qZl.okI ["web","weights","table","ends","weight","one","other"] CC ⋯
 .let⟨w,b,n,ps,ws,rfl,hW,hG,hS,EL,q⟩:=h;show⟨_,(XR (Uh (i:=2) Z c8.nd Z Z (sc0:=Zc<|top 39) (N0:=["web","weights","table","ends","weight","one","other"]) (N':=["place","web"]) (o:=1) (fr:=[0]) ⟨Z,CC,CC,CC,Z,CC⟩ (ZO Z T.n_range<|XZ (ZQ K (pv 0) Z) XX) (Zu D) (λ_ _ _ _=>(Zb 0)) (λ_ _ _ _=>ZI) λ_ _ _ _=>(Zp KC (UL<|XZ XN XX)<|ZQ K (pv 1) Z))
   (XR (WU YD Z (Hw K Z T.n_zip<|XZ (ZQ K (pv 0) Z)<|XZ (pv 1) XX) (Pw (n:=2) K Z<|Zw (Zb 3)<|Zw (Zb 4) PJ)
   (XR (Zd 5<|ZB (ZA K) (pv 3) XN λ_ _=>rfl)
   (XR (Zd 6<|ZB (ZA K) (pv 3) XN λ_ _=>rfl)
   (XJ (WO (Zk Sk (pv 5) (pv 6)<|Zq _)
   (XR (tY (ZB (Zg K) (pv 2) (pv 5) λ_ _=>rfl) (pv 5) (sf K) (pv 4) Ct KH)
   (XR (tY (ZB (Zg K) (pv 2) (pv 6) λ_ _=>rfl) (pv 6) (sf K) (pv 4) Ct KH)
   (XR (tY (ZB (Zg K) (pv 2) (pv 5) λ_ _=>rfl) (pv 6) (sf K) (pv 4) IU KH)
   (XJ<|tY (ZB (Zg K) (pv 2) (pv 6) λ_ _=>rfl) (pv 5) (sf K) (pv 4) IU KH))))
   Zn)))))
   (XJ<|Zm<|pv 2))),?_⟩
  let(dx,tl,xs,h1,h2,h3):=id hW;let hl:=h3.1
  let(g1,g2,g3,g4):=id hG;let one:1<=sizeLine:=D
  exists _,Z,w,_,dx,_,_,Z,h1,T.cl_Web,T.n_Web_places,Kw _ _,n,Z,J,J,EI (lo:=0) (n:=n.j) (λi zs H2=>Same H H2/\Bears (Vq H2) zs (List.replicate i<|List.replicate n.j 0)/\zs.Nodup/\∀A,V.ref A∈zs->H A=A8/\∃o,H2 A=⇑o) {Same.refl _,{Z,λi l e=>by simp at e},.nil,λA h=>(by cases h)} (Zl J) (λi zs H2 _ zz=>by let(_,e,_):=zz;rw[e.1,YN];lia) ?_ ?_
  .rintro i zs H2 hi ⟨s2,hZ,QZ,OG⟩ S Xt;show nm ?_;exists one,λp1 WB=>?_;let u1:=XM (o:=.lst [.int 0]) WB
   exists _,Z,w,_,dx,_,_,Z,u1 _ _<|s2 _ _ h1,T.cl_Web,T.n_Web_places,Kw _ _,p1,n,_,Z,Z,XS,J,J,Mr (by change 1*n.j<=_;lia),λp2 VW=>?_;let e0:(List.replicate n.j [V.int 0]).flatten=IL (List.replicate n.j 0):=by rw[Zv7];change _=(List.replicate n.j 0).Q V.int;rw[List.map_replicate]
   rw[e0];let u2:=u1.l (XM (o:=.lst<|IL<|List.replicate n.j 0) VW)
   let c6:H2 p2=A8:=(XM WB).free VW;show Xt _ _ {s2.l u2,?_,?_,λA hA=>?_}
   .rw[List.replicate_succ'];show(hZ.imp λ_ _ zz=>by let(r',e,h):=zz;exists r',e,u2 _ _ h).snoc ⟨p2,Z,XS⟩
   .grind
   .rcases Xi.Y hA with e|e
    .let⟨a1,o,a2⟩:=OG A e;exists a1,o,u2 _ _ a2
    .let e':A=p2:=by simpa using e
     rw[e'];exists s2.free c6,_,XS
  rintro zs H2 ⟨s2,hZ,QZ,OG⟩ tA Rx;let s3:=s2.l (XM (o:=.lst zs) Rx)
  let c5:H tA=A8:=s2.free Rx;let hT:TabAt H tA n.j (upd H2 tA<|.lst zs) zs (List.replicate n.j<|List.replicate n.j 0):={XS,hZ.imp λ_ _ zz=>by let(r',e,h):=zz;show{r',e,XM Rx _ _ h,Ze h Rx},YN,λl h=>B,QZ,λA h=>(OG A h).1}
  let hzero:∀i j,fnL (List.replicate n.j<|List.replicate n.j 0) i j=0:=λi j=>by
   have:=c9 n.j i j
   show this
  generalize List.replicate n.j (List.replicate n.j (0:A0))=L0 at *;exists _,Z,w,_,dx,_,_,Z,s3 _ _ h1,T.cl_Web,T.n_Web_ties,OC _ _,_,Z,tl,b,Z,{_,_,SqL.of<|s3 _ _ h2,s3.seq hS},jv (K:=K) (a:=tl) (b:=b) (xs:=xs) (ys:=IL ws) (by ext) (λi σ H4=>∃L v3 v4 v5 v6,σ=[some ↑w,some<|.ref b,some<|.ref tA,v3,v4,v5,v6]/\Same H H4/\TabAt H tA n.j H4 zs L/\∀x y,x<n.j->y<n.j->fnL L x y=lapE (Vi (ps.R i)<|ws.R i) x y) {L0,none,none,none,none,Z,s3,hT,λx y _ _=>hzero x y} (λi σ H4 _ zz=>by let(_,_,_,_,_,_,e,_):=zz;exists SqL.of<|e _ _ h2,e.seq hS) ?_ ?_
  .rintro i v v' σ H4 pt Ry hi Wu ⟨L,v3,v4,v5,v6,rfl,s4,cZ,NL⟩;let(p,hp,tt,rfl,TY):=h3.at hi;let(wt,rfl,hwt):=Vj Wu;let(e1,e2,e3,e4):=g4 p (Xo hp);let u1:=XM (o:=.tup [.ref tt,.int wt]) Ry
   exists pt,_,Z,SqT.of XS,Z,_,_,Z,_,_,Z,Z,?_;let cY:=cZ.same u1
   let s5:=s4.l u1;generalize upd H4 pt (.tup [.ref tt,.int wt])=H5 at *;exists _,Z,tt,_,0,.int p.1,Z,Z,SqT.of<|s5 _ _ TY,Z,?_;exists _,Z,tt,_,1,.int p.2,Z,Z,SqT.of<|s5 _ _ TY,Z,?_;exists _,Z,_,Z,Z,_,Z,?_;rw[Wn];let esn:=jt hp hwt
   show Wa (λheq=>?_) (λXH=>?_)
   .exists L,_,_,_,_,Z,s5,cY,λx y hx hy=>?_;rw[esn,yQ J];show NL x y hx hy
   let HS:p.1.j≠p.2.j:=λe=>XH J;let(A1,l1,x1,y1,Ow,hx1,Qg,jY,Ke,cX):=cY.get (i:=p.1.j) (j:=p.1.j) B J;exists _,Z,_,Z,tA,zs,p.1,.ref A1,Z,Z,SqL.of cY.tab,Zv (n:=p.1.j) J y1,_,Z,A1,_,p.1,.int x1,Z,Z,SqL.of Ow,pB,SH hx1,_,Z,_,_,Z,Z,A1,_,p.1,p.1.j,Z,Z,Ow,qY pB B,?_;let(L1,hT6,hf1):=cX (x1+wt);let s6:Same H (upd H5 A1<|.lst<|(IL l1).set p.1.j (.int<|x1+wt)):=Zr Ke s5
   generalize upd H5 A1 (.lst<|(IL l1).set p.1.j (.int<|x1+wt))=H6 at *;rw[jY]at hf1;let(A2,l2,x2,y2,Mn,qX,Ri,ex2,PD,put2):=hT6.get (i:=p.2.j) (j:=p.2.j) J J;exists _,Z,_,Z,tA,zs,p.2,.ref A2,Z,Z,SqL.of hT6.tab,Zv (n:=p.2.j) J y2,_,Z,A2,_,p.2,.int x2,Z,Z,SqL.of Mn,pB,SH qX,_,Z,_,_,Z,Z,A2,_,p.2,p.2.j,Z,Z,Mn,qY pB B,?_;let(L2,hT7,Gj):=put2 (x2+wt);let s7:Same H (upd H6 A2<|.lst<|(IL l2).set p.2.j (.int<|x2+wt)):=Zr PD s6
   generalize upd H6 A2 (.lst<|(IL l2).set p.2.j (.int<|x2+wt))=H7 at *;rw[ex2]at Gj;let(A3,l3,x3,y3,Kr,hx3,NM,ex3,hn3,put3):=hT7.get (i:=p.1.j) (j:=p.2.j) J J;exists _,Z,_,Z,tA,zs,p.1,.ref A3,Z,Z,SqL.of hT7.tab,Zv (n:=p.1.j) J y3,_,Z,A3,_,p.2,.int x3,Z,Z,SqL.of Kr,J,SH hx3,_,Z,_,_,Z,Z,A3,_,p.2,p.2.j,Z,Z,Kr,qY J B,?_;let(L3,hT8,hf3):=put3 (x3-wt);let s8:Same H (upd H7 A3<|.lst<|(IL l3).set p.2.j (.int<|x3-wt)):=Zr hn3 s7
   generalize upd H7 A3 (.lst<|(IL l3).set p.2.j (.int<|x3-wt))=H8 at *;rw[ex3]at hf3;let(A4,l4,x4,y4,qW,hx4,JF,ex4,cW,cV):=hT8.get (i:=p.2.j) (j:=p.1.j) J J;exists _,Z,_,Z,tA,zs,p.2,.ref A4,Z,Z,SqL.of hT8.tab,Zv (n:=p.2.j) J y4,_,Z,A4,_,p.1,.int x4,Z,Z,SqL.of qW,J,SH hx4,_,Z,_,_,Z,Z,A4,_,p.1,p.1.j,Z,Z,qW,qY J (by rw[Xd];grind),?_;let(L4,hT9,qV):=cV (x4-wt);let s9:Same H (upd H8 A4<|.lst<|(IL l4).set p.1.j (.int<|x4-wt)):=Zr cW s8
   rw[ex4]at qV;exists L4,_,_,_,_,Z,s9,hT9,λx y hx hy=>?_;rw[esn,jJ,<-NL x y hx hy];show four HS x y hf1 Gj hf3 qV
  .rintro σ H4 ⟨L,v3,v4,v5,v6,rfl,s4,cZ,NL⟩;rw[hl,Ys,<-EL,Ys]at NL;exists _,Z,q tA zs L H4 s4 c5 cZ NL
inductive spZm(K:Ad)(C:A7):_
 |mk (w n ps:_) (_:vs=[.ref w]) (_:WebAt C H w n ps) (_:Zz n ps) (_:∀r ys L H',Same H H'->H r=A8->TabAt H r n.j H' ys L->(∀i j,i<n.j->j<n.j->fnL L i j=lapE (Vi ps<|List.replicate ps.f 1) i j)->Q ↑r H')
def cU(T:Txt K mg t):Xp P w base Xx T.qZm 2 (spZm K t.A_Web):=by
 show T.qZm.okI ["web"] CC ⋯
 .let⟨w,n,ps,rfl,hW,hG,q⟩:=h;exists _,(XJ<|Zm<|XD (c7 T) hr T.qZl Zt<|XZ (pv 0)<|XZ (Zp KC (UL<|XZ XN XX)<|Zf (Zh K) pq T.n_len Boot.«len»<|XZ (ZQ K (pv 0) Z) XX) XX),?_;let(dx,tl,xs,h1,h2,h3):=id hW;let hl:=h3.1
  let g3:=hG.2.2.1;exists _,Z,D,λp1 WB=>?_;let u1:=XM (o:=.lst [.int 1]) WB
  show{_,Z,w,_,dx,_,_,Z,u1 _ _ h1,T.cl_Web,T.n_Web_ties,OC _ _,tl,xs,Z,.inl<|SqL.of<|u1 _ _ h2,p1,xs⁻¹,_,Z,Z,XS,by ext,J,Mr (by change 1*_<=_;lia),λp2 VW=>?_};let e0:(List.replicate (xs.f:A0).j [V.int 1]).flatten=IL (List.replicate ps.f 1):=by
   rw[VN,hl,Zv7];change _=(List.replicate ps.f 1).Q V.int
   rw[List.map_replicate]
  rw[e0];let u2:=u1.l (XM (o:=.lst<|IL<|List.replicate ps.f 1) VW)
  exists w,p2,n,ps,List.replicate ps.f 1,Z,hW.same u2,hG,SqL.of XS,YN,λr ys L H' s hr hT hf=>?_;show q r ys L H' (u2.l s) (u2.free hr) {hT.tab,hT.rows,hT.len,hT.all,hT.nd,λA h=>u2.free<|hT.new A h} hf
inductive spZn(K:Ad)(C:A7):_
 |mk (w n ps:_) (_:vs=[.ref w]) (_:WebAt C H w n ps) (_:Zz n ps) (_:∀c H',TC n ps c->Same H H'->Q (.int c) H')
def we(u v i:A5):(ind u v i).natAbs<=1:=by unfold ind;split<;>split<;>decide
def wd:∀{E:A6 Ed},(∀e∈E,e.2.2=1)->∀i j,(lapE E i j).natAbs<=E.f
 |[],_,i,j=>XI 0
 |e::E,h,i,j=>by
  let ih:=wd (λf hf=>h f<|Yn _ hf) i j;let h1:=we e.1 e.2.1 i
  let h2:=we e.1 e.2.1 j;let h3:(ind e.1 e.2.1 i*ind e.1 e.2.1 j).natAbs<=1:=by rw[Fg];show Lb h1 h2
  change(e.2.2*(ind e.1 e.2.1 i*ind e.1 e.2.1 j)+lapE E i j).natAbs<=(e::E).f;rw[h e Yi,RZ,YM]
  have:=Je (ind e.1 e.2.1 i*ind e.1 e.2.1 j) (lapE E i j)
  lia
def ZG8{α:Type}{l:A6 α}{i:A5}(hi:l.f=i+1):cutz l (i:A0)=l.R i:=by
 unfold cutz
 ext
def Lw(T:Txt K mg t):Xp P w base Xx T.qZn 3 (spZn K t.A_Web):=by
 show T.qZn.okI ["web"] CC ⋯
 .let⟨w,n,ps,rfl,hW,hG,q⟩:=h;exists _,(XJ<|Zm<|XD (dO T) hr T.qZ3 Zt<|XZ (XD (dD T) hr T.qZ5 Zt<|XZ (XD (cU T) hr T.qZm Zt<|XZ (pv 0) XX)<|XZ (Zp PF (ZQ K (pv 0) Z) XN) XX) XX),?_;let(g1,g2,g3,g4):=id hG;exists _,Z,w,n,ps,Z,hW,hG,λr ys L H1 s1 hr hT hf=>?_;let(dx,tl,xs,h1,h2,h3):=id hW;exists _,Z,w,_,dx,_,_,Z,s1 _ _ h1,T.cl_Web,T.n_Web_places,Kw _ _,_,_,Z,Z,?_;obtain⟨k,hk⟩:∃k:A5,n-1=(k:A0):={(n-1).j,J};let hnk:n.j=k+1:=B
  let q9:=hT.len;let hTB:Bears (Vq H1) ys L:=hT.rows.imp λ_ _ h=>h.list
  exists r,ys,L,k,?_,SqL.of hT.tab,hTB,B,λl h=>by rw[hT.all l h];grind,by ext,λr2 zs H2 s2 VS hZ=>?_
  .ext
  let w1:∀e∈Vi ps (List.replicate ps.f (1:A0)),e.2.2=1:=λe he=>by unfold Vi at he;let(i,hi):=YA he;grind
  let el:(Vi ps<|List.replicate ps.f (1:A0)).f<=30:=by
   unfold Vi;rw[QK,YN]
   ext
  let hM:(cutz L (k:A0)).Q (λl=>cutz l (k:A0))=(L.R k).Q λl=>l.R k:=by rw[ZG8 (by ext)];show YZ λl hl=>ZG8 (by rw[hT.all l (Pd hl)];omega)
  rw[hM]at hZ;let qU:((L.R k).Q λl=>l.R k).f=k:=by rw[Yb,Yx];ext
  let Fb:∀i j,i<k->j<k->fnL ((L.R k).Q λl=>l.R k) i j=lapE (Vi ps<|List.replicate ps.f 1) i j:=λi j hi hj=>by
   rw[<-hf i j B B];obtain⟨l,hl⟩:∃l,L[i]?=⇑l:={_,Xv B};let WE:=hT.all l (Xo hl)
   obtain⟨x,hx⟩:∃x,l[j]?=⇑x:={_,Xv B};rw[Nl hl hx];show Nl (l:=l.R k) (by rw[Yo,Jr,Yk hi,hl];rfl) B
  exists r2,false,zs,(L.R k).Q λl=>l.R k,Z,SqL.of VS,hZ.imp (λ_ _ zz=>by let(r',e,h):=zz;exists r',false,e,SqL.of h),by rw[qU];lia,λi j hi hj=>?_,λ_ H3 s3=>?_,λh=>absurd (λl hl=>?_) h
  .rw[qU]at hi hj;rw[Fb i j hi hj];show Ym (wd w1 i j) (Ym el<|Ym (by decide:30<=2^5)<|DA D D)
  .let hd:det ((L.R k).Q λl=>l.R k).f (fnL<|(L.R k).Q λl=>l.R k)=det (n-1).j (lapE<|Vi ps<|List.replicate ps.f 1):=by rw[qU,show(n-1).j=k by ext];show Zo λi j hi hj=>Fb i j hi hj
   obtain⟨c,M,a1,a2,a3⟩:∃c,TC n ps c:=by let(M,a1,a2,_):=si _ (n-1).j (Vi ps<|List.replicate ps.f 1) Z (yN hG _);exists M.f,M,a1,λl=>by rw[a2,yP g1 YN],Z
   rw[hd,jx hG a1 a2,a3];show q c H3 ⟨M,a1,a2,a3⟩ (s1.l<|s2.l s3)
  .let⟨l0,h0,rfl⟩:=Yp.Y hl;rw[qU,Yx,hT.all l0 (Pd h0)]
   ext
inductive spZo(K:Ad)(C:A7):_
 |mk (w a b:A7) (n:A0) (ps:Aa) (Is Os:Ac) (_:vs=[.ref w,.ref a,.ref b]) (_:WebAt C H w n ps) (_:Zz n ps) (_:SqT K H a (IL Is)) (_:SqT K H b (IL Os)) (_:IsSet ps.f Is) (_:Os.f<=30) (_:(∀z∈Is,z∉Os)) (_:∀(c:A5)(H':Hp),PC n ps Is Os c->Same H H'->Q (.int c) H')
def qS{K:Ad}{H:Hp}{a b:A7}{l m:Ac}{Q:VK}(ha:SqT K H a (IL l))(hb:SqT K H b (IL m))(hl:l.f+m.f<=1000)(k:∀(r:A7)(H':Hp),Same H H'->SqT K H' r (IL (l++m))->Q ↑r H'):Ov K ↑a ↑b H Q:=by
 exists a,b,_,_,Z,Z,ha,hb,by rw[Xd,Xd];show Ym hl D,λe=>?_,λ_ e=>?_,λ_ _ p hp=>?_
 .let el:l=[]:=MR.Y e;rw[el,Fj]at k;show k b H (Same.refl _) hb
 .let em:m=[]:=MR.Y e;rw[em,Wc]at k;show k a H (Same.refl _) ha
 .show k p _ (XM hp) (SqT.of ?_);rw[XS,mJ]
def Zq8{gone:Ac}(j:A5):XA (j+1) gone=XA j gone++(if ((j:A0)∈gone) then [] else [(j:A0)]):=by unfold XA;rw[kF,Pc];grind
def Lv:FnScope ["web","inside","outside","marks","firsts","numbers","gone","free"] ["web","inside","outside"] (Zc (top 42)):=TF CC
def Gi(T:Txt K mg t):Xp P w base Xx T.qZo 4 (spZo K t.A_Web):=by
 show T.qZo.okI ["web","inside","outside","marks","firsts","numbers","gone","free"] CC ⋯
 .let⟨w,a,b,n,ps,Is,Os,rfl,hW,hG,hA,hB,hI,hO,LX,q⟩:=h;show⟨_,(XR (Zd 3<|XD (Lx T) hr T.qZh Zt<|XZ (pv 0)<|XZ (pv 1) XX)
   (XR (PH (i:=4) Lv.nd Z (Or.inr Z)<|iQ K Z Z T.n_sorted Z T.n_set<|XZ (pv 3) XX)
   (XR (WO (Zk QG (Zp Tv (Zf (Zh K) pq T.n_len Boot.«len»<|XZ (pv 4) XX)<|Zf (Zh K) pq T.n_len Boot.«len»<|XZ (pv 1) XX) (ZQ K (pv 0) Z)<|Zq _)
   (XJ<|Zm XN)
   Zn)
   (XR (PH (i:=5) Lv.nd Z (Or.inr Z)<|UW Z (sc0:=Zc<|top 42) (N0:=["web","inside","outside","marks","firsts","numbers","gone","free"]) (N':=["mark","firsts"]) (o:=1) (fr:=[4]) ⟨Z,CC,CC,CC,Z,CC⟩ (ZE K<|pv 3) (Zu D) (λ_ _ _ _=>(Zb 0)) (λ_ _ _ _=>ZI) λ_ _ _ _=>(WT K YH PySem.F.slot_list_index PySem.F.type_list_index (Zv9 K) (pv 1)<|XZ (pv 0) XX))
   (XR (PH (i:=6) Lv.nd Z (Or.inr Z)<|Zp (Kq K) (pv 1)<|pv 2)
   (XR (Uh (i:=7) Z Lv.nd Z Z (sc0:=Zc<|top 42) (N0:=["web","inside","outside","marks","firsts","numbers","gone","free"]) (N':=["tie","ends","gone"]) (o:=2) (fr:=[6]) ⟨Z,CC,CC,CC,Z,CC⟩ (tu K Z T.n_enumerate<|XZ (ZQ K (pv 0) Z) XX) (Ir<|VG D<|VG D RM) (λ_ _ _ _=>(Pw (n:=2) K Z<|Zw (Zb 0)<|Zw (Zb 1) PJ)) (λ_ _ _ _=>(KA<|Zk (tw K) (pv 0) (pv 2) Z)) λ_ _ _ _=>(pv 1))
   (XJ<|Zm<|XD (Lw T) hr T.qZn Zt<|XZ (tQ T.k_Web (Gs T) (hr.mono D) Z T.c_Web T.bZa .nil Zt<|XZ (Zf (Zh K) pq T.n_len Boot.«len»<|XZ (pv 4) XX)<|XZ (UW Z (sc0:=Zc<|top 42) (N0:=["web","inside","outside","marks","firsts","numbers","gone","free"]) (N':=["ends","numbers"]) (o:=1) (fr:=[5]) ⟨Z,CC,CC,CC,Z,CC⟩ (ZE K<|pv 7) (Zu D) (λ_ _ _ _=>(Zb 0)) (λ_ _ _ _=>ZI) λ_ _ _ _=>(ZZ<|XZ (ZB (Zg K) (pv 1) (ZB (ZA K) (pv 0) XN λ_ _=>rfl) λ_ _=>rfl)<|XZ (ZB (Zg K) (pv 1) (ZB (ZA K) (pv 0) XN λ_ _=>rfl) λ_ _=>rfl) XX)) XX) XX))))))),?_⟩
  let(g1,g2,g3,g4):=id hG;exists _,Z,_,Z,w,a,n,ps,Is,Z,hW,hG,hA,hI.all,λmA H1 s1 Qh Pn=>?_;let UB:=Zs n.j (XO ps Is)
  let VP:=ZY (ns:=Is) hG hI.all;let hel:(XO ps Is).f=Is.f:=Yb ..
  show nm ?_;exists _,Z,mA,_,Z,SqL.of Pn,B,λF hF DR fA hfA=>?_;let s2:=XM (o:=.lst<|IL F) hfA
  let Gj:(upd H1 fA<|.lst<|IL F) fA=⇑(.lst<|IL F):=XS;let WG:=s2 _ _ Pn
  let Qf:=s1.l s2;show nm ?_;generalize upd H1 fA (.lst<|IL F)=H2 at *;let(g,hfg,cS,hgg):=iE VP hF DR;let(k1,kn,nk):=Zm5 VP J hF DR;let Mn:=VE Qf hA
  let AV:=VE Qf hB;let(dx,tl,xs,h1,h2,h3):=hW.same Qf;exists _,Z,fA,_,Z,.inl<|SqL.of Gj,_,Z,a,_,Z,.inr Mn,_,_,Z,Z,_,Z,w,_,dx,_,_,Z,h1,T.cl_Web,T.n_Web_places,Kw _ _,_,_,Z,Z,_,Z,?_;rw[Xd,Xd];show Xk (λhc=>?_) (λhc=>?_)
  .show q 0 H2 (yx hG hI hfg cS hgg k1 kn pB) Qf
  exists _,Z,mA,Z,{_,SqL.of WG},SG (K:=K) (a:=mA) (xs:=IL<|Xj n.j<|XO ps Is) (λi zs H3=>H3=H2/\i<=n.j/\zs=IL (((Xj n.j<|XO ps Is).R i).Q λz=>(Uw F z:A0))) {Z,XC _,Z} (Zl B) (λi zs H3 _ zz=>by let(e,hi,ez):=zz;show{e▸SqL.of WG,by ext}) ?_ ?_
  .rintro i v zs H3 hi ⟨rfl,hin3,rfl⟩ S Xt;let(z,rfl,hz):=Vj hi;let hzF:z∈F:=(DR z).X (Xo hz)
   let Xu:=(Xr.Y hz).1;show nm ?_;show{_,Z,.inl {Z,_,SqL.of Gj},_,Z,fA,F,z,Uw F z,Z,Z,SqL.of Gj,RC hzF,λi hi e=>by have:=Xf (Mo hF) e (RC hzF);ext,Xt _ _ {Z,J,?_}};rw[Yw,hz,Yz];show(RL _ _).symm
  rintro zs H3 ⟨rfl,_,rfl⟩ nA hnA;rw[Xd,Ys];let s3:=XM (o:=.lst<|IL<|(Xj n.j<|XO ps Is).Q λz=>(Uw F z:A0)) hnA
  let cW:(upd H3 nA<|.lst<|IL<|(Xj n.j<|XO ps Is).Q λz=>(Uw F z:A0)) nA=⇑(.lst<|IL<|(Xj n.j<|XO ps Is).Q λz=>(Uw F z:A0)):=XS;let qV:=s3 _ _ Gj
  let qW:=VE s3 Mn;let hB4:=VE s3 AV
  let wc:=Qf.l s3;let nAt:∀x:A0,0<=x->x<n->((Xj n.j<|XO ps Is).Q λz=>(Uw F z:A0))[x.j]?=⇑(Uw F (mk (Xj n.j<|XO ps Is) x.j):A0):=λx x0 x1=>by rw[Yo,Xv B];unfold mk;rw[Wj,Xv J];rfl
  show nm ?_;exists _,Z,_,Z,qS qW hB4 J λgA H5 s5 hg5=>?_;let wb:=wc.l s5
  let(dx,tl,xs,h1,h2,h3):=hW.same wb;let JH:=h3.1
  show nm ?_;show⟨_,Z,w,_,dx,_,_,Z,h1,T.cl_Web,T.n_Web_ties,OC _ _,tl,Z,{_,SqL.of h2},HR (K:=K) (a:=tl) (xs:=xs) (λj zs H6=>Same H5 H6/\j<=ps.f/\PairsV H6 zs ((XA j<|Is++Os).Q λz=>ps.S z.j (0,0))) {Same.refl _,XC _,PairsV.nil} (Zl J) (λj zs H6 hj ⟨e,Qt,ez⟩=>⟨e.seq<|SqL.of h2,by
   rw[ez.1,Yb];show Ym (Nd ..) ?_;rw[ZW]
   lia⟩) ?_ ?_⟩
  .rintro j v zs H6 pt Ry hj ⟨s6,Pu,hZ⟩ S Xt;let(p,hp,tt,rfl,ht):=h3.at hj;let Su:=(Xr.Y hp).1
   let s7:=XM (o:=.tup [.int j,.ref tt]) Ry;exists pt,_,Z,SqT.of XS,Z,_,_,Z,_,_,Z,Z,?_;let JE:=hZ.same s7
   let Ss:=s6.l s7;generalize upd H6 pt (.tup [.int j,.ref tt])=H7 at *;exists _,Z,_,Z,gA,_,Z,.inr<|VE Ss hg5,Z,Oy _,_,Z,?_;rw[Oz];show Wa (λGh=>?_) (λGh=>?_)
   .show Xt _ _ {Ss,Su,?_};rwa[Zq8,Yk Gh,Wc]
   .exists _,Z,Xt _ _ {Ss,Su,?_};rw[Zq8,Yj Gh,Yz];show JE.app ?_;change PairsV H7 [V.ref tt] [ps.S ((j:A5):A0).j (0,0)]
    rw[VN,XF hp];show PairsV.nil.snoc {tt,Z,Ss _ _ ht}
  rintro zs H6 ⟨s6,_,hZ⟩ rA LC;rw[JH]at hZ;let s7:=XM (o:=.lst zs) LC
  let wq:(upd H6 rA<|.lst zs) rA=⇑(.lst zs):=XS;let JE:=hZ.same s7
  let Ss:=s6.l s7;generalize upd H6 rA (.lst zs)=H7 at *;let hf7:=Ss _ _ (s5 _ _ qV)
  let hn7:=Ss _ _ (s5 _ _ cW);let DX:=JE.1
  let Ui:(XA ps.f<|Is++Os).f<=30:=by show Ym (Nd ..) ?_;rw[ZW];omega
  rw[Yb]at DX;show nm ?_;show⟨_,Z,fA,_,Z,.inl<|SqL.of hf7,_,Z,rA,Z,{_,SqL.of wq},SG (K:=K) (a:=rA) (xs:=zs) (λi ws H8=>Same H7 H8/\i<=(XA ps.f<|Is++Os).f/\PairsV H8 ws (((XA ps.f<|Is++Os).R i).Q λz=>((Uw F (mk (Xj n.j<|XO ps Is) (ZK ps z).1):A0),(Uw F (mk (Xj n.j<|XO ps Is) (ZK ps z).2):A0)))) {Same.refl _,XC _,PairsV.nil} (Zl J)
   (λi ws H8 hi zz=>by let(e,Wq,ew):=zz;show{e.seq<|SqL.of wq,by rw[ew.1,Yb,Yx];ext}) ?_ ?_⟩
  .rintro i v ws H8 hi ⟨s8,TN,qR⟩ S Xt;let(p,hp,tt,rfl,ht):=JE.at hi;rw[Yo]at hp;obtain⟨z,hz,ez⟩:∃z,(XA ps.f<|Is++Os)[i]?=⇑z/\ps.S z.j (0,0)=p:=by
    ext
   let rR:=(WQ.Y<|Xo hz).1;obtain⟨p',Gm⟩:∃p,ps[z.j]?=⇑p:={_,Xv<|by ext};let epp:p'=p:=by rw[<-ez,XF Gm]
   rw[epp]at Gm;let(e1,e2,e3,e4):=g4 p (Xo Gm);let ee:ZK ps z=(p.1.j,p.2.j):=by unfold ZK;rw[XF Gm]
   let JD:=s8 _ _ ht;let hn8:=s8 _ _ hn7
   show nm ?_;exists _,Z,_,Z,tt,_,0,.int p.1,Z,Z,SqT.of JD,Z,nA,_,_,_,Z,Z,SqL.of hn8,Zv (n:=p.1.j) J<|SH<|nAt p.1 e1 e2,?_;exists _,Z,_,Z,tt,_,1,.int p.2,Z,Z,SqT.of JD,Z,nA,_,_,_,Z,Z,SqL.of hn8,Zv (n:=p.2.j) J<|SH<|nAt p.2 e3 e4,(by change 2<=sizeLine;decide),λpp Pg=>?_;show Xt _ _ {s8.l<|XM Pg,B,?_};rw[Yw,hz,Yz];show(qR.same<|XM Pg).snoc {pp,Z,?_};dsimp only;rw[ee];show XS
  rintro ws H8 ⟨s8,_,qR⟩ la dq;rw[DX,Ys]at qR;let s9:=XM (o:=.lst ws) dq
  let Lu:(upd H8 la<|.lst ws) la=⇑(.lst ws):=XS;let hP9:=qR.same s9
  let s79:=s8.l s9;generalize upd H8 la (.lst ws)=H9 at *;let hGc:=ZN8 (f:=λi=>Uw F<|mk (Xj n.j<|XO ps Is) i) hG (Is++Os) cS k1 kn
  intro x Gg nx DQ wa;let t1:Same H9 (upd (upd H9 Gg<|.own x) x<|.ins t.A_Web Gg []):=ZD (XM DQ) (by rwa[Za (YX wa)])
  exists x,Gg,F⁻¹,la,false,ws,_,by rw[Xd];rfl,XS,λo=>?_,hP9.same t1,hGc,λLr hV k10=>{Z,?_}
  .show SqL.of (by rwa[Za (Ze Lu nx),Za<|Ze Lu nx,Za (Ze Lu DQ)])
  let Sr:Same H9 Lr:=λb o e=>k10 b o (t1 b o e) (Ze e nx);exists x,_,_,Z,hV,hGc,λc NK hc s11=>q c NK (iI hG hI LX hfg cS hgg B hc)<|wb.l<|Ss.l<|s79.l<|Sr.l s11
inductive spZp(K:Ad)(C:A7):_
 |mk (w a n ps kd ns:_) (_:vs=[.ref w,.ref a]) (_:WebAt C H w n ps) (_:Zz n ps) (_:SqK kd K H a (IL ns)) (_:∀b H',Same H H'->(b=A9↔Zj n ps ns)->Q (.bl b) H')
def cR(T:Txt K mg t):Xp P w base Xx T.qZp 6 (spZp K t.A_Web):=by
 show T.qZp.okI ["web","ties"] CC ⋯
 .let⟨w,a,n,ps,kd,ns,rfl,hW,hG,hS,q⟩:=h;exists _,(XJ<|Zm<|IY (XD (wm T) hr T.qZe Zt<|XZ (pv 0)<|XZ (pv 1) XX)<|IY (KO TU (Zf (Zh K) pq T.n_len Boot.«len»<|XZ (pv 1) XX) (Zp PF (ZQ K (pv 0) Z) XN)<|Zq _)<|IZ<|XD (wj T) hr T.qZj Zt<|XZ (pv 0)<|XZ (pv 1) XX),?_;exists _,Z,_,Z,w,a,n,ps,kd,ns,Z,hW,hS,λb hb=>{b,Z,?_};show mG (λe=>?_) (λe=>?_)
  .let hI:=hb.Y e;let(dx,tl,xs,h1,h2,h3):=id hW;exists _,Z,a,_,Z,hS.or,_,Z,w,_,dx,_,_,Z,h1,T.cl_Web,T.n_Web_places,Kw _ _,_,_,Z,Z,Z,_,Z,?_;rw[Xd,Wn];show Xk (λhl=>?_) (λhl=>?_)
   .exists _,Z,_,Z,w,a,n,ps,kd,ns,Z,hW,hG,hS,hI,λb2 H' s SU=>q b2 H' s ?_;rw[SU,Zd8 J (ZY hG hI.all)];exists λz=>⟨hI,hl,z⟩,λz=>z.2.2
   .show q false H (Same.refl H) {λz=>(nomatch z),λz=>absurd z.2.1 hl}
  .show q false H (Same.refl H) {λz=>(nomatch z),λz=>by rw[hb.X z.1]at e;cases e}
inductive spZq(K:Ad)(C:A7):_
 |mk (w a:A7) (n:A0) (ps:Aa) (kd:B2) (ns:Ac) (_:vs=[.ref w,.ref a]) (_:WebAt C H w n ps) (_:Zz n ps) (_:SqK kd K H a (IL ns)) (_:Zj n ps ns) (_:∀H':Hp,Same H H'->Q .non H')
def cQ(T:Txt K mg t):Xp P w base Xx T.qZq 7 (spZq K t.A_Web):=by
 show T.qZq.okI ["web","tree"] CC ⋯
 .let⟨w,a,n,ps,kd,ns,rfl,hW,hG,hS,hT,q⟩:=h;show⟨_,(XJ (WO (MI<|MK<|XD (cR T) hr T.qZp Zt<|XZ (pv 0)<|XZ (pv 1) XX)
   (XJ PK)
   Zn)),?_⟩
  exists _,Z,_,Z,w,a,n,ps,kd,ns,Z,hW,hG,hS,λb H' s hb=>{_,Z,?_};show Ic (λz=>q H' s) (λz=>?_)
  ext
inductive spZr(K:Ad)(C:A7):_
 |mk (w a b n ps ka kb ns os:_) (_:vs=[.ref w,.ref a,.ref b]) (_:WebAt C H w n ps) (_:Zz n ps) (_:SqK ka K H a (IL ns)) (_:SqK kb K H b (IL os)) (_:ns.f<=1000) (_:os.f<=1000) (_:(∀z∈ns++os,0<=z/\z<ps⁻¹)) (_:(((Xb n.j ps<|ns++os).R ns.f≠ns\/((Xb n.j ps<|ns++os).f:A0)<n-1)->∀H':Hp,Same H H'->Q .non H')) (_:((Xb n.j ps<|ns++os).R ns.f=ns->¬((Xb n.j ps<|ns++os).f:A0)<n-1->∀r ms H',ms.Perm (Xb n.j ps<|ns++os)->ms.U (·<=·)->Same H H'->H r=A8->H' r=⇑(.tup<|IL ms)->Q ↑r H'))
def vZ(T:Txt K mg t):Xp P w base Xx T.qZr 3 (spZr K t.A_Web):=by
 show T.qZr.okI ["web","inside","order","marks","grown","tie","ends"] CC ⋯
 .let⟨w,a,b,n,ps,ka,kb,ns,os,rfl,hW,hG,hS,jj,DZ,OE,hI,q0,q1⟩:=h;show⟨_,(XR (Zd 3<|XD (Lx T) hr T.qZh Zt<|XZ (pv 0)<|XZ (ZZ XX) XX)
   (XR (Zd 4<|UL XX)
   (XR (WU YD Z (ZE K<|Zp tJ (Zi (Ia K) pq T.n_list Boot.«list»<|XZ (pv 1) XX)<|Zi (Ia K) pq T.n_list Boot.«list»<|XZ (pv 2) XX) (Zb 5)
   (XR (Zd 6<|ZB (Zg K) (ZQ K (pv 0) Z) (pv 5) λ_ _=>rfl)
   (XJ (WO (Zk Sk (ZB (Zg K) (pv 3) (ZB (ZA K) (pv 6) XN λ_ _=>rfl) λ_ _=>rfl) (ZB (Zg K) (pv 3) (ZB (ZA K) (pv 6) XN λ_ _=>rfl) λ_ _=>rfl)<|Zq _)
   (XR (Zd 3<|XD (Gn T) hr T.qZg Zt<|XZ (pv 0)<|XZ (pv 3)<|XZ (ZZ<|XZ (pv 5) XX) XX)
   (XJ<|ZV<|WT K YH Us Ut Ul (pv 4)<|XZ (pv 5) XX))
   Zn))))
   (XR (WO (PW.pt<|MJ (Zk (Bn K<|Ie hr) (VH (Vr K) (pv 4) QF<|RO<|Zf (Zh K) pq T.n_len Boot.«len»<|XZ (pv 1) XX) (Zi (Ia K) pq T.n_list Boot.«list»<|XZ (pv 1) XX)<|Zq _)<|t9<|Zk OK (Zf (Zh K) pq T.n_len Boot.«len»<|XZ (pv 4) XX) (Zp PF (ZQ K (pv 0) Z) XN)<|Zq _)
   (XJ<|Zm ud)
   Zn)
   (XJ<|Zm<|Zi (Bm K) pq T.n_tuple Boot.«tuple»<|XZ (Zf (Zv5 K) pq T.n_sorted Boot.«sorted»<|XZ (pv 4) XX) XX))))),?_⟩
  let(g1,g2,g3,g4):=id hG;let one:1<=sizeLine:=D
  exists _,Z,XC _,λr0 UR=>?_;let s0:=XM (o:=.tup []) UR
  exists w,r0,n,ps,[],Z,hW.same s0,hG,SqT.of XS,λ_ e=>(nomatch e),λm H1 s1 Qh Pn=>?_;let s01:=s0.l s1
  exists XC _,λgl hgl=>?_;let s2:=XM (o:=.lst []) hgl
  let Qf:=s01.l s2;let hgf:=s01.free hgl
  exists _,Z,a,_,Z,(hS.same Qf).or,λl1 Qg=>?_;let s3:=XM (o:=.lst<|IL ns) Qg
  let JC:=Qf.l s3;exists _,Z,b,_,Z,(jj.same JC).or,λl2 Ri=>?_;let s4:=XM (o:=.lst<|IL os) Ri
  let wc:=JC.l s4;exists l1,l2,_,_,Z,Z,s4 _ _ XS,XS,Mr B,λcl TM=>?_;let s5:=XM (o:=.lst<|IL ns++IL os) TM
  let wb:=wc.l s5;let eI:IL ns++IL os=IL (ns++os):=(mJ _ _).symm
  let vY:=s5 _ _ (s4 _ _<|s3 _ _<|XS (H:=H1) (a:=gl) (o:=.lst []));let DP:=s5 _ _ (s4 _ _<|s3 _ _<|s2 _ _ Pn)
  let Gf:=XS (H:=upd (upd (upd H1 gl<|.lst []) l1<|.lst<|IL ns) l2<|.lst<|IL os) (a:=cl) (o:=.lst<|IL ns++IL os);let ncg:cl≠gl:=λe=>by rw[e]at TM;show absurd ((s4 _ _<|s3 _ _<|XS (H:=H1) (a:=gl) (o:=.lst [])).symm.l TM) AP
  let nmg:m≠gl:=λe=>by ext
  rw[eI]at s5 wb vY DP Gf ⊢;show⟨cl,Z,{_,SqL.of Gf},ET (K:=K) (a:=cl) (xs:=IL<|ns++os) (λi σ H2=>∃mc v5 v6,σ=[some ↑w,some<|.ref a,some<|.ref b,some<|.ref mc,some<|.ref gl,v5,v6]/\Same H H2/\mc≠gl/\
    H2 cl=⇑(.lst<|IL<|ns++os)/\H2 mc=⇑(.lst<|IL<|Xj n.j<|XO ps<|Xb n.j ps<|(ns++os).R i)/\H2 gl=⇑(.lst<|IL<|Xb n.j ps<|(ns++os).R i))
   ⟨m,none,none,Z,wb,nmg,Gf,DP,vY⟩ (λi σ H2 _ zz=>by let(_,_,_,_,_,_,e,_):=zz;show SqL.of e) ?_ ?_⟩
  .rintro i x σ H2 hi ⟨mc,v5,v6,rfl,s2,XH,Vt,WG,LJ⟩;let(z,rfl,hz):=Vj hi;let(z0,z1):=hI z (Xo hz);let hIt:∀y∈(ns++os).R i,0<=y/\y<ps⁻¹:=λy hy=>hI y (Pd hy)
   let est:(ns++os).R (i+1)=(ns++os).R i++[z]:=by rw[Yw,hz];rfl
   let eG:Xb n.j ps ((ns++os).R (i+1))=QB n.j ps (Xb n.j ps<|(ns++os).R i) z:=by rw[est,Mi]
   let VP:=HN hG hIt;let vX:=AE hG hIt
   generalize Xb n.j ps ((ns++os).R i)=G at *;let(dx,tl,xs,h1,h2,h3):=hW.same s2;obtain⟨p,hp⟩:∃p,ps[z.j]?=⇑p:={_,Xv J};let(v,hv,tt,rfl,TY):=h3.2 z.j p hp;let(e1,e2,e3,e4):=g4 p (Xo hp);let ed:ZK ps z=(p.1.j,p.2.j):=by unfold ZK;rw[XF hp]
   let hl:(Xj n.j<|XO ps G).f=n.j:=Zs _ _;let iA:VQ (IL<|Xj n.j<|XO ps G) p.1=⇑(.int<|mk (Xj n.j<|XO ps G) p.1.j):=Zv (n:=p.1.j) J (SH<|To J)
   let iB:VQ (IL<|Xj n.j<|XO ps G) p.2=⇑(.int<|mk (Xj n.j<|XO ps G) p.2.j):=Zv (n:=p.2.j) J (SH<|To B);let t0:VQ ([.int p.1,.int p.2]:A6 V) 0=⇑(.int p.1):=rfl
   let t1:VQ ([.int p.1,.int p.2]:A6 V) 1=⇑(.int p.2):=rfl;let key:mk (Xj n.j<|XO ps G) p.1.j=mk (Xj n.j<|XO ps G) p.2.j↔mk (Xa n.j<|XO ps G) (ZK ps z).1=mk (Xa n.j<|XO ps G) (ZK ps z).2:=by rw[ed,EF VP J B,Wh VP B B]
   exists _,Z,w,_,dx,_,_,Z,h1,T.cl_Web,T.n_Web_ties,OC _ _,_,Z,tl,xs,z,.ref tt,Z,Z,SqL.of h2,Zv (n:=z.j) J hv,?_;exists _,Z,_,Z,tt,_,0,_,Z,Z,SqT.of TY,t0,mc,_,p.1,_,Z,Z,SqL.of WG,iA,_,Z,_,Z,tt,_,1,_,Z,Z,SqT.of TY,t1,mc,_,p.2,_,Z,Z,SqL.of WG,iB,Z,_,Z,?_;rw[Wn];show Wa (λhe=>?_) (λhe=>?_)
   .exists mc,_,_,Z,s2,XH,Vt,?_,?_
    .rw[eG];unfold QB;rwa[Yk (key.Y he)]
    .rw[eG];unfold QB;rwa[Yk (key.Y he)]
   .let eG2:Xb n.j ps ((ns++os).R (i+1))=G++[z]:=by rw[eG];unfold QB;rw[Yj λe=>he (key.X e)]
    exists _,Z,_,Z,_,Z,one,λp2 VW=>?_;let s6:=XM (o:=.tup [.int z]) VW
    show{w,mc,p2,n,ps,_,true,[z],Z,(hW.same s2).same s6,hG,s6 _ _ WG,hl,SqT.of XS,λy hy=>by rw[Xn.Y hy];show⟨z0,z1⟩,λm' H7 s7 hf cP=>?_};let Pf:=s6.l s7
    let hg7:=Pf _ _ LJ;let hc7:=Pf _ _ Vt
    let nm':m'≠gl:=by
     rcases hf with rfl|hf
     .show XH
     .show λe=>absurd ((s6 _ _ LJ).symm.l (e▸hf)) AP
    exists _,Z,.inl {Z,_,SqL.of hg7},_,Z,gl,_,_,Z,Z,hg7,Zl (by rw[Xd];lia),?_;exists m',_,_,Z,Zr hgf<|s2.l Pf,nm',?_,?_,?_
    .rw[Za ncg];show hc7
    .rw[Za nm',cP,eG2,Kp,Yz7];rfl
    .rw[XS,eG2,RL]
  .rintro σ H2 ⟨mc,v5,v6,rfl,s2,XH,Vt,WG,LJ⟩;rw[Xd,Ys]at LJ;let vX:=AE hG hI
   generalize Xb n.j ps (ns++os)=G at *;exists _,Z,_,Z,a,_,Z,(hS.same s2).or,_,Z,gl,_,Z,SqL.of LJ,λr1 Uu=>?_;let ec:Xl (IL G) none ⇑((IL ns).f:A0)=IL (G.R ns.f):=by rw[lF J,VN,Xd,mH]
   rw[ec];let s3:=XM (o:=.lst<|IL<|G.R ns.f) Uu
   exists _,Z,a,_,Z,(hS.same<|s2.l s3).or,λr2 VS=>?_;let s4:=XM (o:=.lst<|IL ns) VS
   exists 1,_,r1,r2,Z,Z,D,l6 (SqL.of<|s4 _ _ XS)<|SqL.of XS,_,Z,?_;let vW:=s2.l (s3.l s4)
   show Wa (λhe=>?_) (λhe=>?_)
   .let⟨dx,tl,xs,h1,h2,h3⟩:=hW.same vW;let hg4:=s4 _ _ (s3 _ _ LJ)
    exists _,Z,gl,_,Z,.inl<|SqL.of hg4,_,Z,w,_,dx,_,_,Z,h1,T.cl_Web,T.n_Web_places,Kw _ _,_,_,Z,Z,_,_,Z,Z,_,Z,?_;rw[Xd];show Xk (λhc=>?_) (λhc=>?_)
    .show q0 (.inr hc) _ vW
    .exists _,Z,gl,G,Z,SqL.of hg4,J,λms WB VW l hl=>?_;let s5:=XM (o:=.lst<|IL ms) hl
     exists l,_,Z,.inl {SqL.of XS,λr hr=>?_};show q1 he hc r ms _ WB VW ((vW.l s5).l (XM hr)) ((vW.l s5).free hr) XS
   .show SJ ?_;show q0 (.inl he) _ vW
inductive spZs(K:Ad)(C:A7):_
 |mk (w n ps:_) (_:vs=[.ref w]) (_:WebAt C H w n ps) (_:Zz n ps) (_:(¬((Wy n.j ps ps.f).f:A0)<n-1->∀r H',Same H H'->H' r=⇑(.tup<|IL<|Wy n.j ps ps.f)->Q ↑r H')) (_:(((Wy n.j ps ps.f).f:A0)<n-1->∀H':Hp,Same H H'->False))
def cO(T:Txt K mg t):Xp P w base Xx T.qZs 7 (spZs K t.A_Web):=by
 show T.qZs.okI ["web"] CC ⋯
 .let⟨w,n,ps,rfl,hW,hG,q,q1⟩:=h;show⟨_,(XR (ZV<|XD (wg T) hr T.qZk Zt<|XZ (pv 0) XX)
   (XJ<|Zm<|XD (vZ T) hr T.qZr Zt<|XZ (pv 0)<|XZ (ZZ XX)<|XZ (XD (Ly T) hr T.qZc Zt<|XZ (pv 0) XX) XX)),?_⟩
  let hall:∀z∈Wx ps.f,0<=z/\z<ps⁻¹:=λz hz=>Xy.Y hz;let eg:Xb n.j ps (Wx ps.f)=Wy n.j ps ps.f:=AH _ _ _
  let hj:=Zg8 hG;exists _,Z,w,n,ps,Z,hW,hG,λhJ H1 s1=>?_,λhJ H1 s1=>q1 (by ext) H1 s1;let hf:=hj.Y hJ
  exists _,Z,XC _,λr0 UR=>?_;let s0:=XM (o:=.tup []) UR
  let Sr:=s1.l s0;show{_,Z,w,n,ps,Z,hW.same Sr,by have:=hG.2.2.1;lia,λr2 H2 s2 hr20 VS=>?_};exists w,r0,r2,n,ps,true,true,[],Wx ps.f,Z,(hW.same Sr).same s2,hG,SqT.of<|s2 _ _ XS,SqT.of VS,XC _,by rw[ZW];have:=hG.2.2.1;lia,hall,λhx H3 s3=>?_,λ_ _ r3 ms H3 WB VW s3 vV Qe=>?_
  .rw[Fj,eg]at hx;rcases hx with hx|hx
   .ext
   .show absurd hx hf
  .rw[Fj,eg]at WB;let e:ms=Wy n.j ps ps.f:=ZH6 WB VW ((AN _).imp λh=>J)
   rw[e]at Qe;show q hf r3 H3 (Sr.l<|s2.l s3) Qe
inductive spZt(K:Ad)(C:A7):_
 |mk (w:A7) (n:A0) (ps:Aa) (z:A0) (_:vs=[.ref w,.int z]) (_:WebAt C H w n ps) (_:Zz n ps) (_:-(10^70)<z) (_:z<10^70) (_:(∀c:A5,TC n ps c->0<=z->z<(c:A0)->∀(U:Ac)(r:A7)(H':Hp),Zj n ps U->Rk n ps U z.j->Same H H'->H' r=⇑(.tup<|IL U)->Q ↑r H')) (_:((z<0\/∃c:A5,TC n ps c/\(c:A0)<=z)->∀H':Hp,Same H H'->False))
def cN{K:Ad}{H:Hp}{a b:A7}{l m:Ac}{Q:VK}(ha:H a=⇑(.tup (IL l)))(hb:H b=⇑(.tup (IL m)))(hl:l.f+m.f<=1000)(k:∀(r:A7)(H':Hp),Same H H'->H' r=⇑(.tup (IL (l++m)))->Q ↑r H'):Ov K ↑a ↑b H Q:=by
 exists a,b,_,_,Z,Z,SqT.of ha,SqT.of hb,by rw[Xd,Xd];show Ym hl D,λe=>?_,λ_ e=>?_,λ_ _ p hp=>?_
 .let el:l=[]:=MR.Y e;rw[el,Fj]at k;show k b H (Same.refl _) hb
 .let em:m=[]:=MR.Y e;rw[em,Wc]at k;show k a H (Same.refl _) ha
 .show k p _ (XM hp) ?_;rw[XS,mJ]
def cL:FnScope ["web","number","inside","outside","tie","size"] ["web","number"] (Zc (top 52)):=TF CC
def cK(T:Txt K mg t):Xp P w base Xx T.qZt 9 (spZt K t.A_Web):=by
 show T.qZt.okI ["web","number","inside","outside","tie","size"] CC ⋯
 .let⟨w,n,ps,z,rfl,hW,hG,z0,z1,q,qe⟩:=h;show⟨_,(XR (WO (MI<|tS SO OK XN (pv 1)<|XD (Lw T) hr T.qZn Zt<|XZ (pv 0) XX)
   (XJ PK)
   Zn)
   (XR (Zd 2<|ZZ XX)
   (XR (Zd 3<|ZZ XX)
   (XR (WU YD Z (HZ K<|XD (Ly T) hr T.qZc Zt<|XZ (pv 0) XX) (Zb 4)
   (XR (Zd 5<|XD (Gi T) hr T.qZo Zt<|XZ (pv 0)<|XZ (Zp (Kq K) (pv 2)<|ZZ<|XZ (pv 4) XX)<|XZ (pv 3) XX)
   (XJ (WO (Zk OK (pv 1) (pv 5)<|Zq _)
   (XJ<|Zd 2<|Zp (Kq K) (pv 2)<|ZZ<|XZ (pv 4) XX)
   (XR (Cv (i:=1) cL.nd Z (Or.inl Z) (pv 5) IU)
   (XJ<|Zd 3<|Zp (Kq K) (pv 3)<|ZZ<|XZ (pv 4) XX))))))
   (XJ<|Zm<|pv 2))))),?_⟩
  let(g1,g2,g3,g4):=id hG;let one:1<=sizeLine:=D
  exists _,Z,_,_,Z,Z,_,Z,?_;show Xk (λzp=>?_) λzn=>?_;rotate_left
  .exists _,Z,?_;show SJ ?_;show qe (.inl<|by ext) H (Same.refl _)
  exists _,Z,w,n,ps,Z,hW,hG,λc H1 hc s1=>{_,_,Z,Z,_,Z,?_};show Wa (λzc=>?_) λzc=>?_;rotate_left
  .show qe (.inr {c,hc,by ext}) H1 s1
  exists XC _,λiA DO=>{XC _,λoA hoA=>?_};let u1:=XM (o:=.tup<|IL []) DO
  let u2:=XM (o:=.tup<|IL []) hoA;let s2:=s1.l (u1.l u2)
  let Wq:=u2 _ _ (XS (H:=H1) (a:=iA) (o:=.tup<|IL []));let Vd:=XS (H:=upd H1 iA<|.tup<|IL []) (a:=oA) (o:=.tup<|IL [])
  show nm ?_;exists _,Z,w,n,ps,Z,hW.same s2,J,λtA H3 s3 _ Rx=>?_;let JC:=s2.l s3
  exists tA,Z,{_,SqT.of Rx},tV (K:=K) (a:=tA) (xs:=IL<|Wx ps.f) (λi σ H4=>∃(Is Os:Ac)(iA oA:A7)(r d b:A5)(v4 v5:Option V),σ=[some ↑w,some<|.int r,some<|.ref iA,some<|.ref oA,v4,v5]/\Same H3 H4/\H4 iA=⇑(.tup<|IL Is)/\SqT K H4 oA (IL Os)/\IsSet i Is/\IsSet i Os/\(∀y,y∈Os↔(0<=y/\y<(i:A0))/\y∉Is)/\PC n ps Is Os d/\r<d/\BL n ps Is (i:A0) b/\b+r=z.j) ?_ ?_ ?_ ?_
  .exists [],[],iA,oA,z.j,c,0,none,none,by rw[Int.toNat_of_nonneg zp];rfl,Same.refl _,s3 _ _ Wq,SqT.of<|s3 _ _ Vd,IsSet.nil _,IsSet.nil _,λy=>{λh=>(by cases h),λh=>(by lia)},hc.pc,by ext,iu Z,by ext
  .intro i σ H4 _ h;let(_,_,_,_,_,_,_,_,_,_,s4,_):=h;show SqT.of (s4 _ _ Rx)
  .rintro i v σ H4 hi ⟨Is,Os,iA,oA,r,d,b,v4,v5,rfl,s4,vU,qQ,Pe,vT,LX,cJ,nj,vS,hbr⟩;let(y,rfl,hy):=Vj hi;let hi3:i<ps.f:=by have:=(Xr.Y hi).1;rwa[Xd,ZW]at this
   let ey:y=(i:A0):=by rw[kG hi3]at hy;show(Yf hy).symm
   subst ey;let l1:=Pe.len
   let l2:=vT.len;let wc:=JC.l s4
   show nm ?_;exists _,Z,_,Z,_,Z,one,λtp QU=>?_;let v1:=XM (o:=.tup<|IL [(i:A0)]) QU
   show qS (l:=Is) (m:=[(i:A0)]) (SqT.of<|v1 _ _ vU) (SqT.of XS) B λjA H5 s5 hj5=>?_;let Ge:=v1.l s5
   let hIi:IsSet ps.f (Is++[(i:A0)]):=by
    have:=Pe.snoc
    show XY.X {λy hy=>by have:=this.all y hy;lia,(XY.Y this).2}
   exists _,Z,w,jA,oA,n,ps,Is++[(i:A0)],Os,Z,hW.same<|wc.l Ge,hG,hj5,VE Ge qQ,hIi,J,λy h1 h2=>?_,λc1 H6 cI s6=>?_
   .ext
   let vR:=Ge.l s6;show nm ?_;exists _,Z,_,Z,_,_,Z,Z,_,Z,?_;let(c2,Vt):=ix (Is:=Is) (Os:=(i:A0)::Os) hc;let hs:=cJ.uniq (iy (cI.congr (λy=>B) λy=>Iff.rfl) Vt)
   let s36:=s4.l vR;show Xk (λXu=>?_) (λSg=>?_)
   .exists _,Z,_,Z,one,λtq cH=>?_;let x1:=XM (o:=.tup<|IL [(i:A0)]) cH
    show cN (l:=Is) (m:=[(i:A0)]) (x1 _ _<|vR _ _ vU) XS B λkA H7 s7 cG=>?_;let Pf:=x1.l s7
    show{Is++[(i:A0)],Os,kA,oA,r,c1,b,_,_,Z,s36.l Pf,cG,VE (vR.l Pf) qQ,Pe.snoc,vT.up,λy=>?_,cI,by ext,ir Pe vS,hbr};grind
   .exists _,Z,_,Z,r,c1,Z,Z,?_;exists _,Z,_,Z,one,λtq cH=>?_;let x1:=XM (o:=.tup<|IL [(i:A0)]) cH
    show qS (l:=Os) (m:=[(i:A0)]) (VE x1<|VE vR qQ) (SqT.of XS) B λkA H7 s7 cG=>?_;let Pf:=x1.l s7
    let hIn:(i:A0)∉Is:=λq=>by have:=Pe.all _ q;ext
    exists Is,Os++[(i:A0)],iA,kA,r-c1,c2,b+c1,some<|.int (i:A0),some<|.int (c1:A0),?_,s36.l Pf,(vR.l Pf) _ _ vU,cG,Pe.up,vT.snoc,λy=>?_,Vt.congr (λy=>Iff.rfl) λy=>B,J,iq hi3 Pe LX vS cI,J
    .grind
    grind
  .rintro σ H4 ⟨Is,Os,iA,oA,r,d,b,v4,v5,rfl,s4,vU,qQ,Pe,vT,LX,cJ,nj,vS,hbr⟩;rw[Xd,ZW]at Pe vT LX vS;let(e1,e2,e3):=ip Pe LX vS cJ nj;exists _,Z,q c hc zp zc Is iA H4 e1 ?_ (JC.l s4) vU
   ext
inductive spZu(K:Ad):_
 |mk (a:A7) (b:A0) (kd:B2) (l:Ac) (_:vs=[.ref a,.int b]) (_:SqK kd K H a (IL l)) (_:l.f<=1000) (_:∀(r:A7)(H':Hp),Same H H'->H' r=⇑(.tup<|IL<|Rb l b)->Q ↑r H')
def vQ(T:Txt K mg t):Xp P w base Xx T.qZu 1 (spZu K):=by
 show T.qZu.okI ["ties","bound"] CC ⋯
 .let⟨a,b,kd,l,rfl,hA,hl,q⟩:=h;exists _,(XJ<|Zm<|Zi (Bm K) pq T.n_tuple Boot.«tuple»<|XZ (UW Z (sc0:=Zc<|top 53) (N0:=["ties","bound"]) (N':=["tie","bound"]) (o:=1) (fr:=[1]) ⟨Z,CC,CC,CC,Z,CC⟩ (Tp K<|pv 0) (Zu D) (λ_ _ _ _=>(Zb 0)) (λ_ _ _ _=>(KA<|Zk OK (pv 0) (pv 1)<|Zq _)) λ_ _ _ _=>(pv 0)) XX),?_;show⟨_,Z,a,Z,tE (K:=K) (k:=kd) (a:=a) (xs:=IL l) (λi us H2=>H2=H/\i<=l.f/\us=IL (Rb (l.R i) b)) {Z,XC _,Z} (Zl B) (λi us H2 hi ⟨e,Wq,ey⟩=>⟨e▸hA,by
   rw[ey,Xd];show Ym (Nd ..) ?_
   ext⟩) ?_ ?_⟩
  .rintro i v us H2 hi ⟨rfl,TN,rfl⟩ S Xt;let(z,rfl,hz):=Vj hi;let Wr:=(Xr.Y hz).1
   show nm ?_;exists _,Z,_,Z,_,_,Z,Z,_,Z,?_;let e:Rb (l.R<|i+1) b=Rb (l.R i) b++(if z<b then [z] else []):=by
    unfold Rb;rw[Yw,hz,Pc];show YF _ ?_;change List.filter _ [z]=_
    rw[OS];cases h:z<b
    .ext
    .ext
   show Xk (λh=>?_) (λh=>?_)
   .exists _,Z,Xt _ _ {Z,Wr,?_}
    ext
   .show Xt _ _ {Z,Wr,?_}
    ext
  .rintro us H2 ⟨rfl,_,rfl⟩ p hp;rw[Xd,Ys];exists p,_,Z,.inl {SqL.of XS,λl hl=>q l _ (ZD (XM hp) hl) XS}
inductive spZv(K:Ad)(C:A7):_
 |mk (w a:A7) (n:A0) (ps:Aa) (kd:B2) (U:Ac) (_:vs=[.ref w,.ref a]) (_:WebAt C H w n ps) (_:Zz n ps) (_:SqK kd K H a (IL U)) (_:Zj n ps U) (_:∀(r:A5)(H':Hp),Rk n ps U r->Same H H'->Q (.int r) H')
def cF(cs:A6 A5):(cs.Q λ(c:A5)=>(c:A0)).sum=((cs.sum:A5):A0):=by
 induction cs with
 |nil=>rfl
 |cons x l ih=>ext
def Zm7{K:Ad}{kd:B2}{H H':Hp}{a:A7}{xs:A6 V}(s:Same H H')(h:SqK kd K H a xs):SqK kd K H' a xs:=by
 cases kd with
 |false=>show s.seq h
 |true=>show VE s h
def cE:FnScope ["web","tree","beside"] ["web","tree"] (Zc (top 54)):=TF CC
def cD(T:Txt K mg t):Xp P w base Xx T.qZv 9 (spZv K t.A_Web):=by
 show T.qZv.okI ["web","tree","beside"] CC ⋯
 .let⟨w,a,n,ps,kd,U,rfl,hW,hG,hA,hT,q⟩:=h;show⟨_,(XR (ZV<|XD (cQ T) hr T.qZq Zt<|XZ (pv 0)<|XZ (pv 1) XX)
   (XR (PH (i:=2) cE.nd Z (Or.inr Z)<|XD (dr T) hr T.qZd Zt<|XZ (pv 0)<|XZ (pv 1) XX)
   (XJ<|Zm<|Zf (OA K Z) pq T.n_sum Boot.«sum»<|XZ (UW Z (sc0:=Zc<|top 54) (N0:=["web","tree","beside"]) (N':=["tie","web","tree","beside"]) (o:=1) (fr:=[0,1,2]) ⟨Z,CC,CC,CC,Z,CC⟩ (HZ K<|pv 2) (Zu D) (λ_ _ _ _=>(Zb 0)) (λ_ _ _ _=>ZI) λ_ _ _ _=>(XD (Gi T) hr T.qZo Zt<|XZ (pv 1)<|XZ (Zp (Kq K) (XD (vQ T) hr T.qZu Zt<|XZ (pv 2)<|XZ (pv 0) XX)<|ZZ<|XZ (pv 0) XX)<|XZ (XD (vQ T) hr T.qZu Zt<|XZ (pv 3)<|XZ (pv 0) XX) XX)) XX))),?_⟩
  let(g1,g2,g3,g4):=id hG;let one:1<=sizeLine:=D
  let hUl:=hT.1.len;exists _,Z,_,Z,w,a,n,ps,kd,U,Z,hW,hG,hA,hT,λH1 s1=>?_;exists _,Z,_,Z,w,a,n,ps,kd,U,Z,hW.same s1,J,Zm7 s1 hA,λtB hD qP bA H2 s2 SU=>?_;let Qf:=s1.l s2
  let hDs:IsSet ps.f tB:=XY.X {λz hz=>((qP z).Y hz).1,hD};let hDl:=hDs.len
  show nm ?_;show⟨_,Z,bA,Z,{_,SqT.of SU},OB (K:=K) (a:=bA) (xs:=IL tB) (λj zs H3=>Same H2 H3/\∃cs:A6 A5,zs=IL (cs.Q λ(c:A5)=>(c:A0))/\cs.f=j/\∀(i:A5)(t:A0)(c:A5),tB[i]?=⇑t->cs[i]?=⇑c->∃I O,PC n ps I O c/\(∀z,z∈I↔(z∈U/\z<t)\/z=t)/\∀z,z∈O↔(0<=z/\z<ps⁻¹)/\z∉U/\z<t)
   {Same.refl _,[],Z,Z,λi t c _ h=>(by simp at h)} (Zl B) (λj zs H3 _ zz=>by let(e,cs,ez,el,_):=zz;show{SqT.of<|e _ _ SU,by ext}) ?_ ?_⟩
  .rintro j v zs H3 hj ⟨s3,cs,rfl,el,rC⟩ S Xt;let(z,rfl,hz):=Vj hj;let hzD:=Xo hz
   let(rR,Po):=(qP z).Y hzD;let JC:=Qf.l s3
   show nm ?_;exists _,Z,_,Z,_,Z,a,z,kd,U,Z,Zm7 JC hA,J,λl1 H4 s4 JF=>?_;exists _,Z,one,λtp QU=>?_;let u1:=XM (o:=.tup<|IL [z]) QU
   let ll:(Rb U z).f<=30:=Ym (Nd ..) J;show qS (l:=Rb U z) (m:=[z]) (SqT.of<|u1 _ _ JF) (SqT.of XS) B λiA H5 s5 hi5=>?_;let Ge:=s4.l (u1.l s5)
   let s35:=JC.l Ge;exists _,Z,_,Z,bA,z,true,tB,Z,SqT.of<|Ge _ _<|s3 _ _ SU,J,λl2 H6 s6 DS=>?_;let Pe:IsSet ps.f (Rb U z++[z]):=by
    show XY.X {λy hy=>?_,YI.X {(XY.Y hT.1).2.filter _,UQ _ _,λy hy x hx=>by rw[Xn.Y hx];show(US.Y hy).2}};rcases Xi.Y hy with e|e
    .show hT.1.all y (US.Y e).1
    .rw[Xn.Y e];show rR
   let mI:∀y,y∈Rb U z++[z]↔(y∈U/\y<z)\/y=z:=λy=>by rw[Xi,US,Xn]
   let mO:∀y,y∈Rb tB z↔(0<=y/\y<ps⁻¹)/\y∉U/\y<z:=λy=>by rw[US,qP,and_assoc]
   exists w,iA,l2,n,ps,Rb U z++[z],Rb tB z,Z,hW.same<|s35.l s6,hG,VE s6 hi5,SqT.of DS,Pe,Ym (Nd ..) J,λy h1 h2=>?_,λc H7 hc s7=>Xt _ _ {s3.l<|Ge.l<|s6.l s7,cs++[c],?_,by rw[Ya,el];rfl,λi t d hi hd=>?_}
   .grind
   .ext
   .cases c1:i<cs.f
    .rw[YB c1]at hd;show rC i t d hi hd
    .rw[YE (by ext)]at hd;let cC:i-cs.f=0:=by
      have:=(Xr.Y hd).1
      let h1:([c]:A6 A5).f=1:=rfl
      ext
     rw[cC]at hd;let rfl:c=d:=Yf hd;let ei:i=j:=B
     rw[ei,hz]at hi;let rfl:=Yf hi;exists _,_,hc,mI,mO
  rintro zs H3 ⟨s3,cs,rfl,el,rC⟩ sA hsA;exists sA,_,Z,SqL.of XS,?_;rw[cF];rw[Xd]at el;show q _ _ (iw hT tB qP (Mo hD) cs el rC) (Qf.l<|s3.l<|XM hsA)
def cB(ls ns:Ac):(A0):=(ns.Q λz=>ls.S z.j 0).sum
inductive spZw(K:Ad)(C:A7):_
 |mk (w a b:A7) (n:A0) (ps:Aa) (kd ke:B2) (ls ns:Ac) (_:vs=[.ref w,.ref a,.ref b]) (_:WebAt C H w n ps) (_:ps.f<=30) (_:SqK kd K H a (IL ls)) (_:SqK ke K H b (IL ns)) (_:ls.f=ps.f) (_:IsSet ps.f ns) (_:∀H':Hp,Same H H'->Q (.int<|cB ls ns) H')
def cz(T:Txt K mg t):Xp P w base Xx T.qZw 4 (spZw K t.A_Web):=by
 show T.qZw.okI ["web","lengths","ties"] CC ⋯
 .let⟨w,a,b,n,ps,kd,ke,ls,ns,rfl,hW,p30,hA,hB,hl,hI,q⟩:=h;show⟨_,(XR (ZV<|XD (Gr T) hr T.qZb Zt<|XZ (pv 0)<|XZ (pv 1) XX)
   (XJ<|Zm<|Zf (OA K Z) pq T.n_sum Boot.«sum»<|XZ (UW Z (sc0:=Zc<|top 57) (N0:=["web","lengths","ties"]) (N':=["tie","lengths"]) (o:=1) (fr:=[1]) ⟨Z,CC,CC,CC,Z,CC⟩ (HZ K<|XD (Gq T) hr T.qZf Zt<|XZ (pv 0)<|XZ (pv 2) XX) (Zu D) (λ_ _ _ _=>(Zb 0)) (λ_ _ _ _=>ZI) λ_ _ _ _=>(ZB (Ai K) (pv 1) (pv 0) λ_ _=>rfl)) XX)),?_⟩
  exists _,Z,_,Z,w,a,n,ps,kd,ls,Z,hW,hA,λ_=>?_,λh=>absurd hl h;exists _,Z,_,Z,w,b,n,ps,ke,ns,Z,hW,hB,hI,λr H1 s1 hr=>?_;let qO:=XY.Y hI
  let hlen:=hI.len;exists r,Z,{_,hr},OB (K:=K) (a:=r) (xs:=IL ns) (λi ws H2=>H2=H1/\ws=IL ((ns.R i).Q λz=>ls.S z.j 0)/\i<=ns.f) {Z,Z,XC _} (Zl B) (λi ws H2 hi zz=>by let(e,ew,Wq):=zz;show{e▸hr,by ext}) ?_ ?_
  .rintro i v ws H2 hi ⟨rfl,rfl,TN⟩ S Xt;let(z,rfl,hz):=Vj hi;let(z0,z1):=qO.1 z (Xo hz);obtain⟨y,hy⟩:∃y,ls[z.j]?=⇑y:={_,Xv<|by ext};show nm ?_;exists _,Z,_,Z,kd,a,_,_,.int y,Z,Z,hA.same s1,Zv (n:=z.j) J<|SH hy,?_;show Xt _ _ {Z,?_,(Xr.Y hz).1};let e:ls.S z.j 0=y:=XF hy
   rw[Yw,hz,Yz,<-e];show(RL _ _).symm
  .rintro ws H2 ⟨rfl,rfl,_⟩ lA DN;exists lA,_,Z,SqL.of XS,?_;rw[Xd,Ys];show q _ (s1.l<|XM DN)
inductive spZx(K:Ad)(C:A7):_
 |mk (w b:A7) (kd:B2) (n:A0) (ps:Aa) (ls:Ac) (_:vs=[.ref w,.ref b]) (_:WebAt C H w n ps) (_:Zz n ps) (_:SqK kd K H b (IL ls)) (_:ls.f=ps.f) (_:∀(w':A7)(H':Hp),Same H H'->WebAt C H' w' n (VO n.j ps ls)->Q ↑w' H')
def cy{xs:A6 V}{i:A0}(h0:0<=i)(h1:i<xs⁻¹):QE xs.f i=⇑i.j:=by
 unfold QE
 ext
def Gd:FnScope ["web","lengths","made","marks","length","level","merged","spots","tie","ends"] ["web","lengths"] (Zc (top 58)):=TF CC
def cx(T:Txt K mg t):Xp P w base Xx T.qZx 4 (spZx K t.A_Web):=by
 show T.qZx.okI ["web","lengths","made","marks","length","level","merged","spots","tie","ends"] CC ⋯
 .let⟨w,b,kd,n,ps,ls,rfl,hW,hG,hS,hl,q⟩:=h;show⟨_,(XR (ZV<|XD (Gr T) hr T.qZb Zt<|XZ (pv 0)<|XZ (pv 1) XX)
   (XR (Zd 2<|Zi (Ia K) pq T.n_list Boot.«list»<|XZ (ZQ K (pv 0) Z) XX)
   (XR (Zd 3<|XD (Lx T) hr T.qZh Zt<|XZ (pv 0)<|XZ (ZZ XX) XX)
   (XR (WU YD Z (ZE K<|Zk4 K Z Z T.n_sorted Z T.n_set<|XZ (pv 1) XX) (t6 (i:=4) Gd.nd Z<|Or.inr Z)
   (XR (Uh (i:=5) Z Gd.nd Z Z (sc0:=Zc<|top 58) (N0:=["web","lengths","made","marks","length","level","merged","spots","tie","ends"]) (N':=["tie","own","length"]) (o:=2) (fr:=[4]) ⟨Z,CC,CC,CC,Z,CC⟩ (gB K Z T.n_enumerate<|XZ (pv 1) XX) (Ir<|VG D<|VG D RM) (λ_ _ _ _=>(Pw (n:=2) K Z<|Zw (Zb 0)<|Zw (Zb 1) PJ)) (λ_ _ _ _=>(KA<|Zk TU (pv 1) (pv 2)<|Zq _)) λ_ _ _ _=>(pv 0))
   (XR (Zd 6<|XD (Gn T) hr T.qZg Zt<|XZ (pv 0)<|XZ (pv 3)<|XZ (pv 5) XX)
   (XR (Uh (i:=7) Z Gd.nd Z Z (sc0:=Zc<|top 58) (N0:=["web","lengths","made","marks","length","level","merged","spots","tie","ends"]) (N':=["mark","later"]) (o:=2) (fr:=[]) ⟨Z,CC,CC,CC,Z,CC⟩ (Hw K Z T.n_zip<|XZ (pv 3)<|XZ (pv 6) XX) (Ir<|VG D<|VG D RM) (λ_ _ _ _=>(Pw (n:=2) K Z<|Zw (Zb 0)<|Zw (Zb 1) PJ)) (λ_ _ _ _=>ZI) λ_ _ _ _=>(t8 (Zk TU (pv 0) (pv 1)<|Zq _) XN<|pv 0))
   (XR (WU YD Z (ZE K<|pv 5) (Zb 8)
   (XR (Zd 9<|ZB (Zg K) (ZQ K (pv 0) Z) (pv 8) λ_ _=>rfl)
   (XJ<|EW (ZZ<|XZ (ZB (Zg K) (pv 7) (ZB (ZA K) (pv 9) XN λ_ _=>rfl) λ_ _=>rfl)<|XZ (ZB (Zg K) (pv 7) (ZB (ZA K) (pv 9) XN λ_ _=>rfl) λ_ _=>rfl) XX)<|t5 (pv 2) (pv 8) KH)))
   (XJ<|Zd 3<|pv 6))))))
   (XJ<|Zm<|tQ T.k_Web (Gs T) (hr.mono D) Z T.c_Web T.bZa .nil Zt<|XZ (ZQ K (pv 0) Z)<|XZ (pv 2) XX))))),?_⟩
  let(g1,g2,g3,g4):=id hG;let(dx,tl,xs,h1,h2,h3):=id hW;exists _,Z,_,Z,w,b,n,ps,kd,ls,Z,hW,hS,λ_=>?_,λh=>absurd hl h;exists _,Z,w,_,dx,_,_,Z,h1,T.cl_Web,T.n_Web_ties,OC _ _,tl,xs,Z,.inl<|SqL.of h2,λmd qZ=>?_;let u1:=XM (o:=.lst xs) qZ
  let m1:=XS (H:=H) (a:=md) (o:=.lst xs);show nm ?_;exists _,Z,XC _,λt0 cv=>?_;let u2:=XM (o:=.tup []) cv
  exists w,t0,n,ps,[],Z,hW.same<|u1.l u2,hG,SqT.of XS,λz hz=>(by cases hz),λm0 H2 s2 Qh WG=>?_;let u3:=u2.l s2
  let md0:m0≠md:=YX (Ze (u2 _ _ m1) Qh);let m2:=u3 _ _ m1
  let t2:=u1.l u3;let vP:H md=A8:=qZ
  show nm ?_;exists _,Z,kd,b,ls,Z,hS.same t2,J,λLs JR NZ lA DN=>?_;let u4:=XM (o:=.lst<|IL Ls) DN
  let lmd:lA≠md:=YX (Ze m2 DN);let JF:=XS (H:=H2) (a:=lA) (o:=.lst<|IL Ls)
  let m4:=u4 _ _ m2;let hm4:=u4 _ _ WG
  let t4:=t2.l u4;exists lA,Z,{_,SqL.of JF},?_;show ET (K:=K) (a:=lA) (xs:=IL Ls) (λj σ H5=>∃(m:A7)(S:Ac)(ys:A6 V)(v4 v5 v6 v7 v8 v9:Option V),σ=[some ↑w,some<|.ref b,some<|.ref md,some<|.ref m,v4,v5,v6,v7,v8,v9]/\Same H H5/\m≠md/\H5 m=⇑(.lst<|IL<|Xj n.j<|XO ps S)/\(∀z,z∈S↔(0<=z/\z<ps⁻¹)/\Xw ls z∈Ls.R j)/\H5 md=⇑(.lst ys)/\PairsV H5 ys (Qo n.j ps ls λi=>ls.S i 0∈Ls.R j)/\H5 lA=⇑(.lst<|IL Ls))
   {m0,[],xs,none,none,none,none,none,none,Z,t4,md0,hm4,λz=>{λh=>(by cases h),λh=>(by cases h.2)},m4,(by rw[x9 λi _ h=>(by cases h)];show h3.same t4),JF} (λj σ H5 _ zz=>by let(_,_,_,_,_,_,_,_,_,_,_,_,_,_,_,_,e):=zz;show SqL.of e) ?_ ?_
  .rintro j v σ H5 hj ⟨m,S,ys,v4,v5,v6,v7,v8,v9,rfl,s5,mmd,DP,cq,qN,qM,Qc⟩;let(x,rfl,hx):=Vj hj;show nm ?_;exists _,Z,b,kd,Z,{_,hS.same s5},gx (K:=K) (kd:=kd) (a:=b) (xs:=IL ls) (λi zs H6=>Same H5 H6/\zs=IL (lvl ls x i)) {Same.refl _,Z} (Zl B) (λi zs H6 hi zz=>by let(e,ez):=zz;show{hS.same<|s5.l e,by rw[ez,Xd];show(yd ls x i).len}) ?_ ?_
   .rintro i v zs H6 pt Ry hi ⟨s6,rfl⟩ SS Xt;let(y,rfl,hy):=Vj hi;let s7:=XM (o:=.tup [.int i,.int y]) Ry
    exists pt,_,Z,SqT.of XS,Z,_,_,Z,_,_,Z,Z,?_;let Pf:=s6.l s7
    let ey:ls.S i 0=y:=XF hy;exists _,Z,_,Z,Z,_,Z,?_;rw[Wn];show Xk (λhe=>?_) (λhe=>?_)
    .exists _,Z,Xt _ _ {Pf,?_};rw[ZT7,Yk (ey.l he)];show(RL ..).symm
    .show Xt _ _ {Pf,?_};rw[ZT7,Yj λh=>he<|ey.symm.l h,Wc]
   rintro zs H6 ⟨s6,rfl⟩ lv hlv;rw[Xd,hl];let s7:=XM (o:=.lst<|IL<|lvl ls x ps.f) hlv
   let hv7:=XS (H:=H6) (a:=lv) (o:=.lst<|IL<|lvl ls x ps.f);let hy6:=s6 _ _ qN
   let cp:lv≠md:=YX (Ze hy6 hlv);let Ss:=s6.l s7
   show nm ?_;let(up1,up2,up3):=x6 hG hl JR NZ hx cq;let EB:=gK hG hl JR NZ hx cq
   exists _,Z,_,Z,_,Z,w,m,lv,n,ps,_,false,lvl ls x ps.f,Z,(hW.same s5).same Ss,hG,Ss _ _ DP,Zs _ _,SqL.of hv7,(yd ls x ps.f).all,λm' H8 s8 Kt qL=>?_;rw[up1]at qL;let dH:=Ss _ _ qN
   let hy8:=s8 _ _ dH;let vO:m'≠md:=by
    rcases Kt with e|e
    .lia
    .lia
   let s58:=Ss.l s8;let vN:=s58 _ _ DP
   show nm ?_;show⟨_,Z,_,Z,m,m',Z,{_,_,SqL.of vN,SqL.of qL},z4 (K:=K) (a:=m) (b:=m') (xs:=IL<|Xj n.j<|XO ps S) (ys:=IL<|Xj n.j<|XO ps<|S++lvl ls x ps.f) (λi zs H9=>Same H8 H9/\i<=n.j/\zs=IL ((List.range i).Q (WR n.j ps ls x))) {Same.refl _,XC _,Z} (by rw[Xd,Xd,Zs,Zs]) (Zl<|by rw[Xd,Zs];lia)
    (λi zs H9 hi zz=>by let(e,Wq,ez):=zz;show{SqL.of<|e _ _ vN,SqL.of<|e _ _ qL,by ext}) ?_ ?_⟩
   .rintro i u v zs H9 pt Ry hu hv ⟨s9,TN,rfl⟩ SS Xt;let(a1,rfl,ha1):=Vj hu;let(b1,rfl,Eo):=Vj hv;let Wr:i<n.j:=by have:=(Xr.Y ha1).1;rwa[Zs]at this
    let Sr:=XM (o:=.tup [.int a1,.int b1]) Ry;exists pt,_,Z,SqT.of XS,Z,_,_,Z,_,_,Z,Z,?_;let ea:mk (mA n.j ps ls x) i=a1:=by rw[<-EB];unfold mk;show XF ha1
    let eb:mk (mB n.j ps ls x) i=b1:=by rw[<-up2];unfold mk;show XF Eo
    let es:∀y:A0,(if a1=b1 then 0 else a1)=y->IL ((List.range i).Q (WR n.j ps ls x))++[V.int y]=IL ((List.range<|i+1).Q (WR n.j ps ls x)):=λy hy=>by
     rw[NC,Yz];change _=IL (_++[WR n.j ps ls x i])
     unfold WR;rw[ea,eb,hy];show(RL ..).symm
    exists _,Z,_,Z,Z,_,Z,?_;rw[Wn];show Xk (λhe=>?_) (λhe=>?_)
    .show Xt _ _ {s9.l Sr,Wr,es 0<|Yk he}
    .exists _,Z,Xt _ _ {s9.l Sr,Wr,es a1<|Yj he}
   rintro zs H9 ⟨s9,_,rfl⟩ sp SN;rw[Xd,Zs];let Sr:=XM (o:=.lst<|IL<|(List.range n.j).Q (WR n.j ps ls x)) SN
   let vM:=XS (H:=H9) (a:=sp) (o:=.lst<|IL<|(List.range n.j).Q (WR n.j ps ls x));let hy9:=s9 _ _ hy8
   let cn:sp≠md:=YX (Ze hy9 SN);let Gb:=s58.l (s9.l Sr)
   let Ga:=s9.l Sr;generalize upd H9 sp (.lst<|IL<|(List.range n.j).Q (WR n.j ps ls x))=Lr at *;let cm:=Ga _ _ qL
   let vL:=Ga _ _ (s8 _ _ hv7);let cg:=Ga _ _ hy8
   let hY10:=qM.same Gb;let cf:=Gb _ _ Qc
   let t10:=s5.l Gb;show nm ?_;exists _,Z,lv,Z,{_,SqL.of vL},ET (K:=K) (a:=lv) (xs:=IL<|lvl ls x ps.f) (λk σ NK=>∃(ys:A6 V)(v8 v9:Option V),σ=[some ↑w,some<|.ref b,some<|.ref md,some<|.ref m,some<|.int x,some<|.ref lv,some<|.ref m',some<|.ref sp,v8,v9]/\(∀a o,a≠md->Lr a=⇑o->NK a=⇑o)/\NK md=⇑(.lst ys)/\PairsV NK ys (Qo n.j ps ls λi=>ls.S i 0∈Ls.R j\/(i:A0)∈(lvl ls x ps.f).R k)) {ys,_,_,Z,λ_ _ _ h=>h,cg,(by ext)} (λk σ NK _ zz=>by let(_,_,_,_,e,_):=zz;show SqL.of<|e _ _ cp vL) ?_ ?_
   .rintro k v σ NK hk ⟨ys,v8,v9,rfl,kp,Lq,NJ⟩;let(z,rfl,hz):=Vj hk;let(zb,zl):=Vy.Y (Xo hz);let vK:Same H NK:=λa o e=>kp a o (Ze e vP) (t10 a o e)
    obtain⟨p,hp⟩:∃p,ps[z.j]?=⇑p:={_,Xv<|by ext};let(vv,hvv,tt,rfl,TY):=h3.2 z.j p hp;let(e1,e2,e3,e4):=g4 p (Xo hp);let ed:ps.S z.j (0,0)=p:=XF hp
    let JB:=kp _ _ cn vM;let vJ:=vK _ _ TY
    show nm ?_;exists _,Z,w,_,dx,_,_,Z,vK _ _ h1,T.cl_Web,T.n_Web_ties,OC _ _,_,Z,tl,xs,z,.ref tt,Z,Z,SqL.of<|vK _ _ h2,Zv (n:=z.j) J hvv,?_;show nm ?_;let at_:∀y:A0,0<=y->y<n->VQ (IL<|(List.range n.j).Q (WR n.j ps ls x)) y=⇑(.int<|WR n.j ps ls x y.j):=λy y0 y1=>Zv (n:=y.j) J (by rw[Yo,Yo,qb J];rfl)
    let c0:VQ ([.int p.1,.int p.2]:A6 V) 0=⇑(.int p.1):=rfl;let c1:VQ ([.int p.1,.int p.2]:A6 V) 1=⇑(.int p.2):=rfl
    exists _,Z,_,Z,tt,_,0,_,Z,Z,SqT.of vJ,c0,sp,_,p.1,_,Z,Z,SqL.of JB,at_ p.1 e1 e2,_,Z,_,Z,tt,_,1,_,Z,Z,SqT.of vJ,c1,sp,_,p.2,_,Z,Z,SqL.of JB,at_ p.2 e3 e4,(by change 2<=sizeLine;decide),λtA Rx=>?_;let LD:=XM (o:=.tup [.int (WR n.j ps ls x p.1.j),.int (WR n.j ps ls x p.2.j)]) Rx
    let vI:=LD _ _ Lq;let b9:=XS (H:=NK) (a:=tA) (o:=.tup [.int (WR n.j ps ls x p.1.j),.int (WR n.j ps ls x p.2.j)])
    let tmd:tA≠md:=YX (Ze Lq Rx);let vH:=NJ.same LD
    let yl:ys.f=ps.f:=by rw[vH.1,gN]
    exists _,Z,_,Z,md,_,_,z.j,Z,Z,vI,cy zb.1 (by ext),?_;exists ys.set z.j<|.ref tA,some<|.int z,some<|.ref tt,Z,λa o ha e=>?_,XS,?_
    .rw[Za ha];show LD _ _ (kp a o ha e)
    .let e5:(WR n.j ps ls x p.1.j,WR n.j ps ls x p.2.j)=rJ n.j ps ls z.j:=by unfold rJ;rw[ed,show ls.S z.j 0=x from zl]
     let hP:=(vH.mut (l:=md) (zs:=ys.set z.j<|.ref tA) vI).set z.j (v:=.ref tA) (p:=(WR n.j ps ls x p.1.j,WR n.j ps ls x p.2.j)) {tA,Z,by rwa[Za tmd]};rw[e5,gL (q:=λi=>ls.S i 0∈Ls.R j\/(i:A0)∈(lvl ls x ps.f).R (k+1)) λi _=>?_]at hP
     .show hP
     .rw[Yw,hz];change _\/(i:A0)∈(lvl ls x ps.f).R k++[z]↔_
      rw[Xi,Xn,or_assoc];lia
   intro σ NK Ω;let⟨ys',v8,v9,rfl,kp,Lq,NJ⟩:=Ω;rw[Xd,Ys]at NJ;let vK:Same H NK:=λa o e=>kp a o (Ze e vP) (t10 a o e)
   exists _,Z,?_;show nm ?_;exists m',S++lvl ls x ps.f,ys',_,_,_,_,_,_,Z,vK,vO,kp _ _ vO cm,up3,Lq,?_,kp _ _ lmd cf;rw[Zx9 (q:=λi=>ls.S i 0∈Ls.R (j+1)) λi hi=>?_]at NJ
   .show NJ
   .rw[Yw,hx];change _↔ls.S i 0∈Ls.R j++[x]
    rw[Xi,Xn,Vy]
    ext
  intro σ H5 Ω;let⟨m,S,ys,v4,v5,v6,v7,v8,v9,rfl,s5,mmd,DP,cq,qN,qM,Qc⟩:=Ω;rw[Xd,Ys,gM λi hi=>(NZ _).X (by ext)]at qM;exists _,Z,w,_,dx,_,_,Z,s5 _ _ h1,T.cl_Web,T.n_Web_places,Kw _ _,_,Z,λw2 Gg b8 b7 bZ=>?_;let v2:Same H5 (upd (upd H5 Gg<|.own w2) w2<|.ins t.A_Web Gg []):=ZD (XM b7) (by rwa[Za (YX bZ)])
  exists w2,Gg,n,md,false,ys,_,Z,XS,λo=>(Zr b8 v2).seq (SqL.of qN),qM.same v2,JS hG hl,λH6 hW6 k6=>{Z,?_};let v3:Same H5 H6:=λb o e=>k6 b o (v2 b o e) (Ze e b8)
  show q w2 H6 (s5.l v3) hW6
inductive spZy(K:Ad)(C:A7):_
 |mk (w b:A7) (kd:B2) (n:A0) (ps:Aa) (ls:Ac) (_:vs=[.ref w,.ref b]) (_:WebAt C H w n ps) (_:Zz n ps) (_:SqK kd K H b (IL ls)) (_:ls.f=ps.f) (_:(∀(U:Ac)(r:A7)(H':Hp),Zj n (VO n.j ps ls) U->(∀W,Zj n (VO n.j ps ls) W->HT.lexLt W U=B0)->Same H H'->H' r=⇑(.tup<|IL U)->Q ↑r H')) (_:((∀W,¬Zj n (VO n.j ps ls) W)->∀H':Hp,Same H H'->False))
def bY(T:Txt K mg t):Xp P w base Xx T.qZy 8 (spZy K t.A_Web):=by
 show T.qZy.okI ["web","lengths"] CC ⋯
 .let⟨w,b,kd,n,ps,ls,rfl,hW,hG,hS,hl,q,qe⟩:=h;exists _,(XJ<|Zm<|XD (cO T) hr T.qZs Zt<|XZ (XD (cx T) hr T.qZx Zt<|XZ (pv 0)<|XZ (pv 1) XX) XX),?_;exists _,Z,_,Z,w,b,kd,n,ps,ls,Z,hW,hG,hS,hl,λw2 H1 s1 vG=>?_;let hC:=JS hG hl
  exists w2,n,_,Z,vG,hC,λhf r H2 s2 hr=>?_,λhf H2 s2=>?_
  .show q _ r H2 (Zh8 hC hf) (λW hV=>ZN9 hC hV) (s1.l s2) hr
  .show qe (λW hV=>?_) H2 (s1.l s2)
   have:=(Ze8 hC hV).2.1
   ext
def FZ(n:A0)(ps:Aa)(os ins outs:Ac):(Ac):=Xb n.j ps (ins++os.filter λz=>decide<|z∉outs)
inductive spZz(K:Ad)(C:A7):_
 |mk (w a o i u:A7) (n:A0) (ps:Aa) (kd:B2) (ls os ins outs:Ac) (_:vs=[.ref w,.ref a,.ref o,.ref i,.ref u]) (_:WebAt C H w n ps) (_:Zz n ps) (_:SqK kd K H a (IL ls)) (_:ls.f=ps.f) (_:SqL K H o (IL os)) (_:os.f<=100) (_:os.Nodup) (_:(∀z∈os,0<=z/\z<ps⁻¹)) (_:SqT K H i (IL ins)) (_:SqT K H u (IL outs)) (_:ins.f<=100) (_:outs.f<=10000) (_:(∀z∈ins,0<=z/\z<ps⁻¹)) (_:(FZ n ps os ins outs).Nodup) (_:(¬((FZ n ps os ins outs).R ins.f=ins/\¬((FZ n ps os ins outs).f:A0)<n-1)->∀(r:A7)(H':Hp),Same H H'->H r=A8->H' r=⇑(.lst [])->Q ↑r H')) (_:((FZ n ps os ins outs).R ins.f=ins->¬((FZ n ps os ins outs).f:A0)<n-1->∀(ms:Ac)(r tp tr:A7)(H':Hp),ms.Perm (FZ n ps os ins outs)->ms.U (·<=·)->Same H H'->H r=A8->H tp=A8->H' r=⇑(.lst [.ref tp])->H' tp=⇑(.tup [.int (cB ls ms),.ref tr,.ref i,.ref u])->H' tr=⇑(.tup<|IL ms)->Q ↑r H'))
def vF(T:Txt K mg t):Xp P w base Xx T.qZz 5 (spZz K t.A_Web):=by
 show T.qZz.okI ["web","lengths","order","inside","outside","tree"] CC ⋯
 .let⟨w,a,o,i,u,n,ps,kd,ls,os,ins,outs,rfl,hW,hG,hA,WE,hO,OE,qK,hoz,hI,hU,TN,tF,hiz,hgn,q0,q1⟩:=h;show⟨_,(XR (Zd 5<|XD (vZ T) hr T.qZr Zt<|XZ (pv 0)<|XZ (pv 3)<|XZ (UW Z (sc0:=Zc<|top 61) (N0:=["web","lengths","order","inside","outside","tree"]) (N':=["tie","outside"]) (o:=1) (fr:=[4]) ⟨Z,CC,CC,CC,Z,CC⟩ (ZE K<|pv 2) (Zu D) (λ_ _ _ _=>(Zb 0)) (λ_ _ _ _=>(KA<|Zk (tw K) (pv 0) (pv 1) Z)) λ_ _ _ _=>(pv 0)) XX)
   (XR (WO (Zk KP (pv 5) ud<|Zq _)
   (XJ<|Zm<|UL XX)
   Zn)
   (XJ<|Zm<|UL<|XZ (ZZ<|XZ (XD (cz T) hr T.qZw Zt<|XZ (pv 0)<|XZ (pv 1)<|XZ (pv 5) XX)<|XZ (pv 5)<|XZ (pv 3)<|XZ (pv 4) XX) XX))),?_⟩
  let one:1<=sizeLine:=D;let four:4<=sizeLine:=D
  let fl:∀l:Ac,(l.filter λz=>decide<|z∉outs).f<=l.f:=λl=>Nd _ _;exists _,Z,_,Z,_,Z,o,Z,{_,hO},SG (K:=K) (a:=o) (xs:=IL os) (λj ys H2=>H2=H/\j<=os.f/\ys=IL ((os.R j).filter λz=>decide<|z∉outs)) {Z,XC _,Z} (Zl B) (λj ys H2 hj zz=>by let(e,Qt,ey):=zz;exists e▸hO,B) ?_ ?_
  .rintro j v ys H2 hj ⟨rfl,Pu,rfl⟩ S Xt;let(z,rfl,hz):=Vj hj;let Tn:j<os.f:=(Xr.Y hz).1
   show nm ?_;exists _,Z,_,Z,u,_,Z,.inr hU,Z,Oy outs,_,Z,?_;rw[Oz];let et:os.R (j+1)=os.R j++[z]:=by rw[Yw,hz];rfl
   show Wa (λhc=>?_) (λhc=>?_)
   .grind
   .exists _,Z,Xt _ _ {Z,Tn,?_}
    ext
  rintro ys H2 ⟨rfl,_,rfl⟩ d hd;rw[Xd,Ys];let s1:=XM (o:=.lst<|IL<|os.filter λz=>decide<|z∉outs) hd
  let h1:(upd H2 d<|.lst<|IL<|os.filter λz=>decide<|z∉outs) d=⇑(.lst<|IL<|os.filter λz=>decide<|z∉outs):=XS;let hall:∀z∈ins++os.filter λz=>decide<|z∉outs,0<=z/\z<ps⁻¹:=λz hz=>by
   rcases Xi.Y hz with hz|hz
   .show hiz z hz
   .show hoz z (Yq.Y hz).1
  exists w,i,d,n,ps,true,false,ins,os.filter λz=>decide<|z∉outs,Z,hW.same s1,hG,SqK.same (k:=A9) s1 hI,SqL.of h1,J,Ym (fl os) J,hall,λUe H3 s3=>?_,λh2 h3 r ms H3 hp hs s3 UR Qe=>?_
  .show nm ?_;exists _,Z,Z,_,Z,?_;show Ky Z ?_;exists XC _,λr hr=>?_;show q0 (λzz=>?_) r _ ((s1.l s3).l (XM hr)) ((s1.l s3).free hr) XS;let(h2,h3):=zz;rcases Ue with h|h
   .show h h2
   .show h3 h
  .show nm ?_;exists _,Z,Z,_,Z,?_;show Tq (λz=>by cases z) ?_;let Qb:=s1.l s3
   let Qy:∀z∈ms,z∈FZ n ps os ins outs:=λz hz=>hp.mem_iff.Y hz;let bX:IsSet ps.f ms:=XY.X {λz hz=>AG hall z<|Qy z hz,?_}
   .exists _,Z,_,Z,_,Z,w,a,r,n,ps,kd,true,ls,ms,Z,hW.same Qb,hG.2.2.1,hA.same Qb,SqT.of Qe,WE,bX,λH4 s4=>?_;exists _,Z,_,Z,_,Z,four,λtp QU=>?_;let FY:=Qb.l s4
    let u5:=XM (o:=.tup [.int (cB ls ms),.ref r,.ref i,.ref u]) QU;exists one,λl hl=>?_;let u6:=XM (o:=.lst [.ref tp]) hl
    show q1 h2 h3 ms l tp r _ hp hs ((FY.l u5).l u6) ((FY.l u5).free hl) (FY.free QU) XS (u6 _ _ XS) ((u5.l u6) _ _<|s4 _ _ Qe)
   .let QZ:ms.Nodup:=hp.nodup_iff.X hgn;show(hs.and QZ).imp λzz=>by let(x,y):=zz;lia
def EV(K:Ad)(H:Hp)(ls:Ac)(v:V)(E:Ent):(Prop):=∃tp tr ti to:A7,v=.ref tp/\H tp=⇑(.tup [.int (XQ ls E.T),.ref tr,.ref ti,.ref to])/\H tr=⇑(.tup<|IL E.T)/\SqT K H ti (IL E.I)/\SqT K H to (IL E.O)
def EV.same{K:Ad}{H H':Hp}{ls:Ac}{v:V}{E:Ent}(s:Same H H')(h:EV K H ls v E):EV K H' ls v E:=by let(tp,tr,ti,to,e,h1,h2,h3,h4):=h;exists tp,tr,ti,to,e,s _ _ h1,s _ _ h2,SqK.same (k:=A9) s h3,SqK.same (k:=A9) s h4
def bW{K:Ad}{H:Hp}{r a:A7}{xs zs:A6 V}{o:HO}(hr:H r=⇑(.lst zs))(h:SqT K H a xs):SqT K (upd H r o) a xs:=by
 rcases h with (h|⟨u,h⟩)|h
 .show .inl (.inl<|by rwa[Za (RS h hr AP)])
 .show .inl (.inr {u,by rwa[Za (RS h hr AP)]})
 .show .inr h
def EV.put{K:Ad}{H:Hp}{ls:Ac}{v:V}{E:Ent}{r:A7}{zs:A6 V}{o:HO}(hr:H r=⇑(.lst zs))(h:EV K H ls v E):EV K (upd H r o) ls v E:=by let(tp,tr,ti,to,e,h1,h2,h3,h4):=h;exists tp,tr,ti,to,e,by rw[Za (RS h1 hr AP)];show h1,by rw[Za (RS h2 hr AP)];show h2,bW hr h3,bW hr h4
def JA{K:Ad}{H:Hp}{a b:A7}{xs ys:A6 V}{Q:VK}(ha:SqT K H a xs)(hb:SqT K H b ys)(hy:ys≠[])(hz:xs.f+ys.f<=sizeLine)(q:∀(p:A7)(H':Hp),Same H H'->SqT K H' p (xs++ys)->Q ↑p H'):Ov K ↑a ↑b H Q:=
 {a,b,xs,ys,Z,Z,ha,hb,hz,λe=>q b H (Same.refl _) (by rwa[e]),λ_ e=>absurd e hy,λ_ _ p hp=>q p _ (XM hp)<|SqT.of XS}
inductive spZA(K:Ad)(C:A7):_
 |mk (w a o tk:A7) (n:A0) (ps:Aa) (kd:B2) (ls os:Ac) (E:Ent) (_:vs=[.ref w,.ref a,.ref o,.ref tk]) (_:WebAt C H w n ps) (_:Zz n ps) (_:SqK kd K H a (IL ls)) (_:ls.f=ps.f) (_:SqL K H o (IL os)) (_:NS ls ps.f os) (_:EV K H ls ↑tk E) (_:EOk n ps ls E) (_:∀(ys:A6 V)(Es:A6 Ent)(r:A7)(H':Hp),FB n ps ls E E.T Es->Es.f<=14->Bears (EV K H' ls) ys Es->Same H H'->H r=A8->H' r=⇑(.lst ys)->Q ↑r H')
def bV(T:Txt K mg t):Xp P w base Xx T.qZA 6 (spZA K t.A_Web):=by
 show T.qZA.okI ["web","lengths","order","taken","inside","outside","firsts","tie"] CC ⋯
 .let⟨w,a,o,tk,n,ps,kd,ls,os,E,rfl,hW,hG,hA,WE,hO,ho,hV,hE,q⟩:=h;show⟨_,(XR (Zd 4<|ZB (ZA K) (pv 3) XN λ_ _=>rfl)
   (XR (Zd 5<|ZB (ZA K) (pv 3) XN λ_ _=>rfl)
   (XR (Zd 6<|UL XX)
   (XR (WU YD Z (HZ K<|ZB (ZA K) (pv 3) XN λ_ _=>rfl) (Zb 7)
   (XJ (WO (Zk (tw K) (pv 7) (pv 4) Z)
   (XR (ZV<|WT K YH qt qu nP (pv 6)<|XZ (XD (vF T) hr T.qZz Zt<|XZ (pv 0)<|XZ (pv 1)<|XZ (pv 2)<|XZ (pv 4)<|XZ (Zp (Kq K) (pv 5)<|ZZ<|XZ (pv 7) XX) XX) XX)
   (XJ<|Zd 4<|Zp (Kq K) (pv 4)<|ZZ<|XZ (pv 7) XX))
   Zn)))
   (XJ<|Zm<|pv 6))))),?_⟩
  let(tp,tr,ti,to,e,h1,h2,h3,h4):=hV;cases e;exists _,Z,tk,_,2,.ref ti,Z,Z,SqT.of h1,Z,?_;show nm ?_;exists _,Z,tk,_,3,.ref to,Z,Z,SqT.of h1,Z,?_;show nm ?_;exists XC _,λr hr=>?_;let u0:=XM (o:=.lst []) hr
  let Rw:E.T⁻¹=n-1:=hE.own.1.2.1;let hG2:=hG.2.1
  let hps:=hG.2.2.1;let one:1<=sizeLine:=D
  let z1:100000<=sizeLine:=D;let QZ:E.T.Nodup:=hE.own.1.1.nodup
  let OE:os.f=ps.f:=by rw[ho.1.length_eq,ZW]
  let qK:os.Nodup:=ho.2.imp λh e=>by ext
  show nm ?_;exists _,Z,tk,_,1,.ref tr,Z,Z,SqT.of<|u0 _ _ h1,Z,tr,Z,⟨_,SqT.of<|u0 _ _ h2⟩,tV (K:=K) (a:=tr) (xs:=IL E.T) (λj σ H2=>∃(iA:A7)(v7:Option V)(ys:A6 V)(Es:A6 Ent),σ=[some ↑w,some<|.ref a,some<|.ref o,some<|.ref tk,some<|.ref iA,some<|.ref to,some<|.ref r,v7]/\j<=E.T.f/\Same H H2/\SqT K H2 iA (IL<|Xc E<|E.T.R j)/\H2 r=⇑(.lst ys)/\Bears (EV K H2 ls) ys Es/\FB n ps ls E (E.T.R j) Es/\Es.f<=j) {ti,none,[],[],Z,XC _,u0,?_,XS,{Z,λi a h=>by cases h},FB.nil,XI _} (λj σ H2 _ zz=>by let(_,_,_,_,_,_,s2,_):=zz;show SqT.of<|s2 _ _ h2) ?_ ?_
  .rw[show Xc E (E.T.R 0)=E.I by unfold Xc;ext];show SqK.same (k:=A9) u0 h3
  rotate_left
  .rintro σ H2 ⟨iA,v7,ys,Es,rfl,_,s2,_,VS,hB,hF,hlen⟩;rw[Xd,Ys]at hF;exists _,Z,q ys Es r H2 hF J hB s2 hr VS
  intro j v σ H2 hj Ω;let⟨iA,v7,ys,Es,rfl,Pu,s2,DO,VS,hB,hF,hlen⟩:=Ω;let(z,rfl,hz):=Vj hj;let Tn:j<E.T.f:=(Xr.Y hz).1
  let et:E.T.R (j+1)=E.T.R j++[z]:=by rw[Yw,hz];rfl
  let qJ:z∈E.T:=Xo hz;let DX:z∉E.T.R j:=λhm=>by
   have:=QZ.sublist (RX (j+1) E.T)
   grind
  show nm ?_;exists _,Z,_,Z,iA,_,Z,.inr DO,Z,Oy _,_,Z,?_;rw[Oz];show Wa (λhc=>?_) (λhc=>?_)
  .let wZ:z∈E.I:=(WJ.Y hc).resolve_right DX;exists iA,_,ys,Es,Z,Tn,s2,?_,VS,hB,?_,J
   .let ei:Xc E (E.T.R<|j+1)=Xc E (E.T.R j):=by unfold Xc;rw[et,Pc,Y3L J,List.filter_nil,Wc]
    lia
   .rw[et];show hF.skip wZ
  .let wZ:z∉E.I:=λh=>hc (WJ.X<|.inl h);let ei:Xc E (E.T.R<|j+1)=Xc E (E.T.R j)++[z]:=by unfold Xc;rw[et,Pc,Y3K (by simp[wZ]),List.filter_nil,QP]
   let bT:∀y∈Xc E (E.T.R j),0<=y/\y<ps⁻¹:=λy hy=>hE.own.1.1.all y ((WJ.Y hy).elim (hE.own.2.1 y) λh=>Pd h);let hIl:(Xc E<|E.T.R j).f<=100:=by
    have:=hE.iL
    unfold Xc;rw[Ya]
    have:=Nd (λz=>decide<|z∉E.I) (E.T.R j)
    rw[Yx]at this;lia
   let hOl:=hE.oL;let fin:∀(zs:A6 V)(Fs:A6 Ent)(H4:Hp)(r3:A7),Same H2 H4->H4 r3=⇑(.lst zs)->zs.f<=1->Bears (EV K H4 ls) zs Fs->FB n ps ls E (E.T.R j++[z]) (Es++Fs)->Fs.f<=1->
     BK ↑r [.ref r3] H4 λ_ H5=>tAsg (Cn (Ov K) (tVar 4)<|Cd<|IE (tVar 7) MG) (OO 4) {nx:=λσ H'=>∃(iA:A7)(v7:Option V)(ys:A6 V)(Es:A6 Ent),σ=[some ↑w,some<|.ref a,some<|.ref o,some<|.ref tk,some<|.ref iA,some<|.ref to,some<|.ref r,v7]/\j+1<=E.T.f/\Same H H'/\SqT K H' iA (IL<|Xc E<|E.T.R<|j+1)/\H' r=⇑(.lst ys)/\Bears (EV K H' ls) ys Es/\FB n ps ls E (E.T.R<|j+1) Es/\Es.f<=j+1,rt:=Q} [some ↑w,some<|.ref a,some<|.ref o,some<|.ref tk,some<|.ref iA,some<|.ref to,some<|.ref r,⇑(.int z)] H5:=by
    intro zs Fs H4 r3 s4 Qe rR Ht hF2 bS;let SR:ys.f=Es.f:=hB.1
    exists r,r3,ys,zs,Z,Z,s4 _ _ VS,Qe,J,?_;exists _,Z,_,Z,one,λt2 NO=>?_;let bR:SqT K (upd H4 r<|.lst<|ys++zs) iA (IL<|Xc E<|E.T.R j):=bW (s4 _ _ VS) (SqK.same (k:=A9) s4 DO)
    let u2:=XM (o:=.tup<|IL [z]) NO;show JA (SqK.same (k:=A9) u2 bR) (SqT.of XS) AP (by rw[Xd];change _+1<=_;lia) λp2 H6 s6 VW=>?_;show nm ?_;let s5:Same H (upd H4 r<|.lst<|ys++zs):=Zr hr (s2.l s4)
    let Nf:=u2.l s6;exists p2,_,ys++zs,Es++Fs,Z,Tn,s5.l Nf,?_,Nf _ _ XS,?_,by ext,B
    .ext
    .show((hB.imp λ_ _ h=>h.same s4).app Ht).imp λ_ _ h=>(EV.put (s4 _ _ VS) h).same Nf
   exists _,Z,.inl {Z,_,SqL.of VS},_,Z,_,Z,_,Z,_,Z,_,Z,_,Z,one,λt1 sR=>?_;let u1:=XM (o:=.tup<|IL [z]) sR
   show JA (SqK.same (k:=A9) (s2.l u1) h4) (SqT.of XS) AP (by rw[Xd];change _+1<=_;lia) λp1 H3 s3 WB=>?_;let Qb:=u1.l s3
   let QV:=s2.l Qb;let WB:SqT K H3 p1 (IL<|E.O++[z]):=by rwa[RL]
   exists w,a,o,iA,p1,n,ps,kd,ls,os,Xc E<|E.T.R j,E.O++[z],Z,hW.same QV,hG,hA.same QV,WE,SqK.same (k:=B0) QV hO,J,qK,λy hy=>(xc hG ho).Y hy,SqK.same (k:=A9) Qb DO,WB,hIl,B,bT,kr hG _<|rj hG ho bT,λUe r3 H4 s4 vV Qe=>?_,λg1 g2 ms r3 tp2 tr2 H4 hp hs s4 vV bQ Qe QU LL=>?_
   .show fin [] [] H4 r3 (Qb.l s4) Qe (XC _) {Z,λi a h=>by cases h} ?_ (XC _);rw[Wc];show hF.none (xb hG ho bT ?_ Ue);show Pb.X {hE.iN,(QZ.sublist<|RX _ _).filter _,λa ha b hb e=>YJ (Yq.Y hb).2 (e▸ha)}
   .show fin [.ref tp2] [{ms,Xc E<|E.T.R j,E.O++[z]}] H4 r3 (Qb.l s4) Qe (XI _) {Z,λi a h=>?_} (hF.more<|wY hG ho hE (QZ.sublist<|RX _ _) (λy hy=>Pd hy) qJ hc g1 g2 hp hs) (XI _)
    match i,h with
    |0,h=>
     let rfl:=Yf h;exists _,Z,tp2,tr2,iA,p1,Z,QU,LL,SqK.same (k:=A9) (Qb.l s4) DO,SqK.same (k:=A9) s4 WB
    |i+1,h=>cases h
def PV(H:Hp)(ls:Ac)(v:V)(T:Ac):(Prop):=∃tp tr:A7,v=.ref tp/\H tp=⇑(.tup [.int (XQ ls T),.ref tr])/\H tr=⇑(.tup<|IL T)
def PV.same{H H':Hp}{ls:Ac}{v:V}{T:Ac}(s:Same H H')(h:PV H ls v T):PV H' ls v T:=by let(tp,tr,e,h1,h2):=h;exists tp,tr,e,s _ _ h1,s _ _ h2
def PV.put{H:Hp}{ls:Ac}{v:V}{T:Ac}{r:A7}{zs:A6 V}{o:HO}(hr:H r=⇑(.lst zs))(h:PV H ls v T):PV (upd H r o) ls v T:=by let(tp,tr,e,h1,h2):=h;exists tp,tr,e,by rw[Za (RS h1 hr AP)];show h1,by rwa[Za (RS h2 hr AP)]
def bP{K:Ad}{H:Hp}{ls:Ac}{v u:V}{E F:Ent}(h1:EV K H ls v E)(h2:EV K H ls u F):EqD K H 2 v u (decide (E=F)):=by
 let(tp,tr,ti,to,rfl,a1,a2,a3,a4):=h1;let(tp',tr',ti',to',rfl,b1,b2,b3,b4):=h2;let e:((List.range<|min [V.int (XQ ls E.T),.ref tr,.ref ti,.ref to].f [V.int (XQ ls F.T),.ref tr',.ref ti',.ref to'].f).all (λi=>match i with
   |0=>decide (XQ ls E.T=XQ ls F.T)
   |1=>decide (E.T=F.T)
   |2=>decide (E.I=F.I)
   |_=>decide<|E.O=F.O)&&[V.int (XQ ls E.T),.ref tr,.ref ti,.ref to].f == [V.int (XQ ls F.T),.ref tr',.ref ti',.ref to'].f)=decide (E=F):=by
  change(decide (XQ ls E.T=XQ ls F.T)&&(decide (E.T=F.T)&&(decide (E.I=F.I)&&(decide (E.O=F.O)&&true)))&&true)=decide (E=F);let(T1,I1,O1):=E;let(T2,I2,O2):=F;rw[OX];simp only[Bool.and_true,Fn,decide_eq_true_eq,Ent.mk.injEq];constructor
  .ext
  .ext
 rw[<-e];show EqD.tups (SqT.of a1) (SqT.of b1) λi x y hx hy=>?_
 match i,hx,hy with
 |0,hx,hy=>
  let rfl:=Yf hx;let rfl:=Yf hy;show l7 Z rfl
 |1,hx,hy=>
  let rfl:=Yf hx;let rfl:=Yf hy;show Ox (SqT.of a2) (SqT.of b2)
 |2,hx,hy=>
  let rfl:=Yf hx;let rfl:=Yf hy;show Ox a3 b3
 |3,hx,hy=>
  let rfl:=Yf hx;let rfl:=Yf hy;show Ox a4 b4
 |i+4,hx,_=>cases hx
inductive spZB(K:Ad)(C Pt:A7):_
 |mk (w a:A7) (n most:A0) (ps:Aa) (kd:B2) (ls:Ac) (_:vs=[.ref w,.ref a,.int most]) (_:WebAt C H w n ps) (_:Zz n ps) (_:SqK kd K H a (IL ls)) (_:ls.f=ps.f) (_:0<=most) (_:most<=1000) (_:Ws H Pt) (_:∀(ys:A6 V)(L:Ab)(r:A7)(H':Hp),Rkd n ps ls most.j L->Bears (PV H' ls) ys L->SameX Pt H H'->Ws H' Pt->H r=A8->H' r=⇑(.lst ys)->Q ↑r H')
def bO:FnScope ["web","lengths","most","order","waiting","told","taken"] ["web","lengths","most"] (Zc sZB):=TF CC
def bN(T:Txt K mg t)(hB:Te K mg base (t.d 1) Pt):Xp P w base Xx T.qZB 8 (spZB K t.A_Web Pt):=by
 let(cA,TH,hC,hBa,xi):=hB;show T.qZB.fn.okL TH bO (λvs H Q E h=>?_) (λA outer s H vs Q E hr h=>?_)
 .let⟨w,a,n,most,ps,kd,ls,rfl,_⟩:=h;rfl
 .let⟨w,a,n,most,ps,kd,ls,rfl,hW,hG,hA,WE,Qh,Pn,hT,q⟩:=h;show⟨_,(XR (ZV<|XD (Gr T) hr T.qZb Zt<|XZ (pv 0)<|XZ (pv 1) XX)
   (XR (Zd 3<|ZB7 (k:=0) (i:=1) (v:="tie") (x:="lengths") (XD (Ly T) hr T.qZc Zt<|XZ (pv 0) XX) pq T.n_sorted (hr.mono D) rfl rfl hC hBa xi (LamScope.of rfl rfl rfl (by first|show .inl rfl|show .inr rfl) D) rfl rfl (λ_ _ _ _=>rfl) rfl rfl rfl λ_ _ _ _ _ _ hr=>(ZB (Ai K) (pv 1) (pv 0) λ_ _=>rfl))
   (XR (Zd 4<|XD (vF T) hr T.qZz Zt<|XZ (pv 0)<|XZ (pv 1)<|XZ (pv 3)<|XZ (ZZ XX)<|XZ (ZZ XX) XX)
   (XR (Zd 5<|UL XX)
   (XR (tX YD (PW.pt<|EY (Zk QG (Zf (Zh K) pq T.n_len Boot.«len»<|XZ (pv 4) XX) XN<|Zq _)<|EZ<|Zk OK (Zf (Zh K) pq T.n_len Boot.«len»<|XZ (pv 5) XX) (pv 2)<|Zq _)
   (XR (Zd 6<|Zf (ZS8 K Z<|Ie hr) pq T.n_min Boot.«min»<|XZ (pv 4) XX)
   (XR (ZV<|WT K YH PySem.F.slot_list_remove PySem.F.type_list_remove (ZL7 K<|Ie hr) (pv 4)<|XZ (pv 6) XX)
   (XR (ZV<|WT K YH Us Ut Ul (pv 5)<|XZ (ZZ<|XZ (ZB (ZA K) (pv 6) XN λ_ _=>rfl)<|XZ (ZB (ZA K) (pv 6) XN λ_ _=>rfl) XX) XX)
   (XJ<|ZV<|WT K YH qt qu nP (pv 4)<|XZ (XD (bV T) hr T.qZA Zt<|XZ (pv 0)<|XZ (pv 1)<|XZ (pv 3)<|XZ (pv 6) XX) XX)))))
   (XJ<|Zm<|pv 5)))))),?_⟩
  let hps:=hG.2.2.1;exists _,Z,_,Z,w,a,n,ps,kd,ls,Z,hW,hA,λ_=>?_,λh=>absurd WE h;exists _,Z,w,n,ps,Z,hW,J,λp1 H1 s1 hp10 WB=>?_;let DM:Ws H1 Pt:=hT.same s1
  exists p1,Wx ps.f,.ref a,λz=>Xw ls z,Z,SqT.of WB,by rw[ZW];lia,DM,Z,λH2 sx z hz=>?_,λos l H2 Wo sx tab Ri=>?_
  .let hb:=Xy.Y hz;obtain⟨y,hy⟩:∃y,ls[z.j]?=⇑y:={_,Xv<|by ext};let e:Xw ls z=y:=XF hy
   exists _,Z,_,Z,kd,a,_,_,.int y,Z,Z,(hA.same s1).samex DM sx,Zv (n:=z.j) J<|SH hy,?_,Z;lia
  let FX:NS ls ps.f os:=e8 Wo;let s3:=XM (o:=.lst<|IL os) Ri
  let h3l:(upd H2 l<|.lst<|IL os) l=⇑(.lst<|IL os):=XS;let qI:SameX Pt H (upd H2 l<|.lst<|IL os):=(SameX.same s1).l (sx.l<|SameX.same s3)
  let vE:Ws (upd H2 l<|.lst<|IL os) Pt:=tab.same s3;show nm ?_;dsimp only;generalize upd H2 l (.lst<|IL os)=H3 at *;let hW3:=hW.samex hT qI
  let Kr:=hA.samex hT qI;let OE:os.f=ps.f:=by rw[FX.1.length_eq,ZW]
  let qK:os.Nodup:=FX.2.imp λh e=>by ext
  show LW (λσ H4=>∃(wt:A7)(ys:A6 V)(Es:A6 Ent),σ=[some ↑w,some<|.ref a,some<|.int most,some<|.ref l,some<|.ref wt,none,none]/\Same H3 H4/\H3 wt=A8/\H4 wt=⇑(.lst ys)/\Bears (EV K H4 ls) ys Es/\RI n ps ls [] Es/\Es.f<=1) ?_ ?_;rotate_left
  .intro K' hK';exists _,Z,_,Z,_,Z,XC _,λi0 cC=>{XC _,λu0 hu0=>?_};let v1:=XM (o:=.tup<|IL []) cC
   let v2:=XM (o:=.tup<|IL []) hu0;let FW:=v1.l v2
   exists w,a,l,i0,u0,n,ps,kd,ls,os,[],[],Z,hW3.same FW,hG,Kr.same FW,WE,SqL.of<|FW _ _ h3l,J,qK,λy hy=>(xc hG FX).Y hy,SqT.of<|v2 _ _ XS,SqT.of XS,XC _,XC _,λy hy=>(by cases hy),kr hG _ (rj hG FX λy hy=>by cases hy),λUe r H' s' UR vD=>?_,λg1 g2 ms r tp tr H' hp hs s' UR bQ vD QU LL=>?_
   .show nm ?_;show hK' _ _ {r,[],[],Z,FW.l s',FW.free UR,vD,{Z,λi a h=>by cases h},⟨λ_ h=>(by cases h),.nil,λ_ h=>(by cases h),λW hW=>?_,λ_ h=>(by cases h),.nil⟩,XC _};show absurd {hW,λz hz=>(by cases hz),λz hz=>(by cases hz)} (xb hG FX (I:=[]) (O:=[]) (λy hy=>by cases hy) .nil Ue W)
   .show nm ?_;let(b1,b2):=xa hG FX (I:=[]) (O:=[]) (λy hy=>by cases hy) (λy hy=>by cases hy) g1 g2 hp hs;let eok:EOk n ps ls ⟨ms,[],[]⟩:={b1,b2,.nil,.nil,λz hz=>by cases hz}
    show hK' _ _ {r,[.ref tp],[{ms,[],[]}],Z,FW.l s',FW.free UR,vD,{Z,λi b h=>?_},{λ_ h=>(by cases h),.nil,λF hF=>(by ext),λW hW=>.inr {_,Xn.X Z,hW,λz hz=>(by cases hz),λz hz=>(by cases hz)},λ_ _ _ _ _ h=>(by cases h),UQ _ _},XI _}
    match i,h with
    |0,h=>
     let rfl:=Yf h;exists _,Z,tp,tr,i0,u0,Z,QU,LL,SqT.of<|s' _ _<|v2 _ _ XS,SqT.of<|s' _ _ XS
    |i+1,h=>cases h
  intro σ H4 Ω;let⟨wt,ys,Es,rfl,s4,vC,vB,hB,hR,hEl⟩:=Ω;exists XC _,λtd bM=>?_;show nm ?_;let bL:H3 td=A8:=s4.free bM
  let u5:=XM (o:=.lst []) bM;let DU:wt≠td:=Ze vB bM
  let h5w:(upd H4 td<|.lst []) wt=⇑(.lst ys):=u5 _ _ vB;exists λm σ H6=>∃(v6:Option V)(ys zs:A6 V)(Es:A6 Ent)(L:Ab),σ=[some ↑w,some<|.ref a,some<|.int most,some<|.ref l,some<|.ref wt,some<|.ref td,v6]/\Same H3 H6/\H6 wt=⇑(.lst ys)/\H6 td=⇑(.lst zs)/\Bears (EV K H6 ls) ys Es/\Bears (PV H6 ls) zs L/\RI n ps ls L Es/\L.f+m=most.j/\Es.f<=1+14*L.f,{most.j,none,ys,[],Es,[],Z,s4.l u5,h5w,XS,hB.imp λ_ _ h=>h.same u5,{Z,λi a h=>by cases h},hR,AP,by simpa using hEl},?_;intro m σ H6 Ω;let⟨v6,ys,zs,Es,L,rfl,s6,FV,bK,DL,Ht,Lp,hm,hEs⟩:=Ω;let SR:ys.f=Es.f:=DL.1
  let DX:zs.f=L.f:=Ht.1;let done:(Es=[]\/L.f=most.j)->Q ↑td H6:=λhd=>by
   show q zs L td H6 {Lp.tr,Lp.asc,J,λW hW=>?_} Ht (qI.l<|SameX.same s6) (vE.same s6) ?_ bK
   .rcases Lp.cov W hW with c|⟨F,c1,c2⟩
    .show .inl c
    .rcases hd with d|d
     .ext
     .show .inr {d,Lp.beh F c1 W c2}
   .cases hq:H td with
    |none=>rfl
    |some u=>
     cases c:td=Pt
     .let⟨pt,e,_⟩:=vE;lia
     .have:=qI td u c hq
      lia
  exists _,Z,wt,ys,Z,.inl<|SqL.of FV,_,_,Z,Z,_,Z,?_;show Xk (λhc=>?_) λhc=>?_;rotate_left
  .show MA ?_;exists _,Z,done<|.inl ?_
   ext
  exists _,Z,td,zs,Z,.inl<|SqL.of bK,_,Z,_,_,Z,Z,_,Z,?_;show Xk (λVt=>?_) λVt=>?_;rotate_left
  .exists _,Z,done<|.inr J
  exists _,λσ' H' h=>h,?_;let nd:(Es.Q λE=>(XQ ls E.T,E.T)).Nodup:=by show YQ.X λi j hi hj WH e=>?_;rw[List.getElem_map,List.getElem_map]at e;rw[Yb]at hi hj;show Lp.unlike (Xv hi) (Xv hj) (Yl WH) (Prod.mk.inj e).2
  exists _,Z,wt,ys,Es.Q λE=>(XQ ls E.T,E.T),false,Z,SqL.of FV,by ext,by ext,λi x hx=>?_,λ_=>nd,λi tp x hx hy bJ=>?_
  .rw[Yo]at hx;let(E,hE,rfl):=uR.Y hx;let(v,hv,tp,tr,ti,to,rfl,h1,h2,_):=DL.2 i E hE;exists tp,tr,[.ref ti,.ref to],hv,SqT.of h1,SqT.of h2,λz=>by cases z
  rw[Yo]at hx;let(E,hE,rfl):=uR.Y hx;let(v,hv,bI):=DL.2 i E hE;let rfl:v=.ref tp:=Yf (hv.symm.l hy);let hmn:∀F∈Es,¬pl ls F.T E.T:=λF hF h=>by
   have:=bJ _ (Yp.X ⟨F,hF,Z⟩)
   unfold pl at h
   ext
  let GF:=Lp.ok E (Xo hE);let il:i<ys.f:=(Xr.Y hy).1
  let uniq:∀(k:A5)(b:A7)(F:Ent),ys[k]?=some ↑b->Es[k]?=⇑F->b=tp->k=i:=λk b F hb hF e=>Yr λhn=>by
   let(v',KN,Qk):=DL.2 k F hF;let rfl:v'=.ref b:=Yf (KN.symm.l hb);subst e;let(_,r1,_,_,e1,a1,a2,_):=Qk;let(_,r2,_,_,e2,b1,b2,_):=bI;cases e1;cases e2;rw[a1]at b1;let e3:=Yf b1
   injection e3 with e3;injection e3 with _ e3;injection e3 with e3 _;injection e3 with e3;subst e3;rw[a2]at b2;let e4:=Yf b2
   injection e4 with e4;show Lp.unlike hF hE hn ((p7 (f:=V.int) λx y h=>J).Y e4)
  show nm ?_;exists _,Z,.inl {Z,_,SqL.of FV},_,Z,2,wt,ys,.ref tp,λb=>decide<|b=tp,i,tp,Z,Z,FV,D,λv KN=>?_,hy,YU Z,λk b hk hb=>?_,?_
  .let⟨k,hk⟩:=YA KN;let(F,hF,hFV):=DL.at hk;obtain⟨b,rfl⟩:∃b,v=.ref b:=by let(b,_,_,_,e,_):=hFV;exists b,e
   exists b,Z,?_;let eb:decide (F=E)=decide (b=tp):=by
    rw[RW];constructor
    .intro e;let ki:k=i:=Yr λhn=>Lp.unlike hF hE hn (by rw[e])
     lia
    .intro e;let ki:=uniq k b F hk hF e
     lia
   change EqD K H6 2 ↑b ↑tp (decide<|b=tp);rw[<-eb];show bP hFV bI
  .grind
  let s7:Same H3 (upd H6 wt<|.lst<|ys.eraseIdx i):=Zr vC s6;let hw7:(upd H6 wt<|.lst<|ys.eraseIdx i) wt=⇑(.lst<|ys.eraseIdx i):=XS
  let ht7:(upd H6 wt<|.lst<|ys.eraseIdx i) td=⇑(.lst zs):=by rwa[Za (YX DU)]
  let vA:=EV.put (o:=.lst<|ys.eraseIdx i) FV bI;let bH:Bears (EV K (upd H6 wt<|.lst<|ys.eraseIdx i) ls) (ys.eraseIdx i) (Es.eraseIdx i):=(DL.erase i).imp λ_ _ h=>EV.put FV h
  let bG:Bears (PV (upd H6 wt<|.lst<|ys.eraseIdx i) ls) zs L:=Ht.imp λ_ _ h=>PV.put FV h;generalize upd H6 wt (.lst<|ys.eraseIdx i)=H7 at *;let(_,tr,ti,to,e0,c1,c2,c3,c4):=id vA;cases e0;exists _,Z,.inl {Z,_,SqL.of ht7},_,Z,tp,_,0,.int<|XQ ls E.T,Z,Z,SqT.of c1,Z,_,Z,tp,_,1,.ref tr,Z,Z,SqT.of c1,Z,(by decide:2<=sizeLine),λt2 NO=>?_;let u8:=XM (o:=.tup [.int (XQ ls E.T),.ref tr]) NO
  let JD:=u8 _ _ ht7;let z1:100000<=sizeLine:=D
  exists td,zs,.ref t2,Z,Z,JD,B,?_;let s9:Same H3 (upd (upd H7 t2<|.tup [.int (XQ ls E.T),.ref tr]) td<|.lst<|zs++[.ref t2]):=Zr bL (s7.l u8)
  let hw9:(upd (upd H7 t2<|.tup [.int (XQ ls E.T),.ref tr]) td<|.lst<|zs++[.ref t2]) wt=⇑(.lst<|ys.eraseIdx i):=by rw[Za DU];show u8 _ _ hw7
  let ht9:(upd (upd H7 t2<|.tup [.int (XQ ls E.T),.ref tr]) td<|.lst<|zs++[.ref t2]) td=⇑(.lst<|zs++[.ref t2]):=XS;let bF:=EV.put (o:=.lst<|zs++[.ref t2]) JD (vA.same u8)
  let bE:Bears (EV K (upd (upd H7 t2<|.tup [.int (XQ ls E.T),.ref tr]) td<|.lst<|zs++[.ref t2]) ls) (ys.eraseIdx i) (Es.eraseIdx i):=bH.imp λ_ _ h=>EV.put JD (h.same u8);let bD:PV (upd (upd H7 t2<|.tup [.int (XQ ls E.T),.ref tr]) td<|.lst<|zs++[.ref t2]) ls ↑t2 E.T:=PV.put JD {t2,tr,Z,XS,u8 _ _ c2}
  let bC:Bears (PV (upd (upd H7 t2<|.tup [.int (XQ ls E.T),.ref tr]) td<|.lst<|zs++[.ref t2]) ls) (zs++[.ref t2]) (L++[E.T]):=(bG.imp λ_ _ h=>PV.put JD<|h.same u8).snoc bD;exists _,Z,.inl {Z,_,SqL.of hw9},_,Z,_,Z,_,Z,_,Z,w,a,l,tp,n,ps,kd,ls,os,E,Z,hW3.same s9,hG,Kr.same s9,WE,SqL.of<|s9 _ _ h3l,FX,bF,GF,λws Fs r Lr hFB bS hBw Sr UR bB=>?_;let EL:ws.f=Fs.f:=hBw.1
  let hel:(ys.eraseIdx i).f=ys.f-1:=by rw[MS,Yk il]
  let FU:=Sr _ _ hw9;exists wt,r,_,ws,Z,Z,FU,bB,J,?_;exists m-1,J,_,ys.eraseIdx i++ws,zs++[.ref t2],Es.eraseIdx i++Fs,L++[E.T],Z,Zr vC<|s9.l Sr,XS,?_,?_,?_,Lp.step hG hE hmn hFB,?_,?_
  .rw[Za (YX DU)];show Sr _ _ ht9
  .show((bE.imp λ_ _ h=>h.same Sr).app hBw).imp λ_ _ h=>EV.put FU h
  .show bC.imp λ_ _ h=>PV.put FU (h.same Sr)
  .grind
  grind
inductive spZC(K:Ad)(C:A7):_
 |mk (w a:A7) (n:A0) (ps:Aa) (kd:B2) (ns:Ac) (_:vs=[.ref w,.ref a]) (_:WebAt C H w n ps) (_:Zz n ps) (_:SqK kd K H a (IL ns)) (_:IsSet ps.f ns) (_:Kk n ps) (_:∀(c d:A5)(p q:A0)(r:A7)(H':Hp),PC n ps ns [] c->TC n ps d->0<d->Tf c d p q->Same H H'->H' r=⇑(.tup [.int p,.int q])->Q ↑r H')
def bw(T:Txt K mg t):Xp P w base Xx T.qZC 7 (spZC K t.A_Web):=by
 show T.qZC.okI ["web","ties"] CC ⋯
 .let⟨w,a,n,ps,kd,ns,rfl,hW,hG,hA,hI,hJ,q⟩:=h;show⟨_,(XR (Zd 1<|XD (Gq T) hr T.qZf Zt<|XZ (pv 0)<|XZ (pv 1) XX)
   (XR (ZV<|XD (wg T) hr T.qZk Zt<|XZ (pv 0) XX)
   (XJ<|Zm<|XD (dA T) hr T.qZ7 Zt<|XZ (XD (Gi T) hr T.qZo Zt<|XZ (pv 0)<|XZ (pv 1)<|XZ (ZZ XX) XX)<|XZ (XD (Lw T) hr T.qZn Zt<|XZ (pv 0) XX) XX))),?_⟩
  exists _,Z,_,Z,w,a,n,ps,kd,ns,Z,hW,hA,hI,λr1 H1 s1 Uu=>?_;show nm ?_;exists _,Z,w,n,ps,Z,hW.same s1,hG,λ_ H2 s2=>?_,λUe=>absurd hJ Ue;let LD:=s1.l s2
  exists _,Z,_,Z,XC _,λe he=>?_;let s3:=XM (o:=.tup []) he
  let Qb:=LD.l s3;show{w,r1,e,n,ps,ns,[],Z,hW.same Qb,hG,VE (s2.l s3) Uu,SqT.of XS,hI,by ext,λz _ h=>(by cases h),λc H4 hc s4=>?_};exists _,Z,w,n,ps,Z,hW.same<|Qb.l s4,hG,λd H5 hd s5=>?_;let s15:=Qb.l (s4.l s5)
  let dp:0<d:=by let(U,hU,_):=z6 hG (Kl _) hJ;let(L,_,hm,rfl):=hd;show Y3U ((hm U).X hU)
  let d20:=Ej hG hd;let c20:c<=d:=He hc hd
  let big:∀k:A5,k<10^20->(k:A0).natAbs<2^9000:=λk hk=>Ye (by simp_all:(k:A0).natAbs<10^20) (Ym (show 10^20<=2^80 by decide)<|DA D D);exists (c:A0),(d:A0),Z,J,big c J,big d d20,λp q' hl r hr=>?_;show q c d p q' r _ hc hd dp hl (s15.l<|XM hr) XS
inductive spZD:_
 |mk (w:B8) (_:vs=[.str w]) (_:(w.cps.all λc=>decide<|c<128)=A9) (_:w.f<=100000) (_:∀H':Hp,Same H H'->Q (.bl<|JN w.cps.m) H')
def Jz(x y:B8):decide (V.str x=V.str y)=decide (x.cps.m=y.cps.m):=RW.X {λe=>J,λe=>by rw[rG e]}
def bu{cs:A6 A5}{c:A5}(h:c∈WM cs):c∈cs:=by
 unfold WM at h;split at h
 .show List.mem_of_mem_tail h
 .show h
def br(cs:A6 A5):(WM cs).f<=cs.f:=by unfold WM;grind
def Lo{l:A6 A5}{f:A5->B2}:(l.Q λc=>!f c).any id=B0↔∀c∈l,f c=A9:=by
 ext
def bq(T:Txt K mg t):Xp P w base Xx T.qZD 1 spZD:=by
 show T.qZD.okI ["word","figures"] CC ⋯
 .let⟨w,rfl,ha,hl,q⟩:=h;show⟨_,(XR (Zd 1<|t8 (MK<|WT K Uq PySem.F.slot_str_startswith PySem.F.type_str_startswith Zu9 (pv 0)<|XZ ZP XX) (VH f9 (pv 0) (RO XN) QF)<|pv 0)
   (XR (WO (PW.pt<|MJ (MI<|tS SO SO XN (Zf Zx5 pq T.n_len Boot.«len»<|XZ (pv 1) XX)<|Ja (v:=V.int 60) Z T.g_MOST_FIGURES.choose_spec {_,Z})<|t9<|MK<|Zf (Ba K Z) pq T.n_any Boot.«any»<|XZ (UW Z (sc0:=Zc<|top 85) (N0:=["word","figures"]) (N':=["sign"]) (o:=1) (fr:=[]) ⟨Z,CC,CC,CC,Z,CC⟩ (gd<|pv 1) (Zu D) (λ_ _ _ _=>(Zb 0)) (λ_ _ _ _=>ZI) λ_ _ _ _=>(KO oI (pv 0) (Ja (v:=V.str "0123456789") Z T.g_FIGURES.choose_spec {_,Z}) Z)) XX)
   (XJ<|Zm Uo)
   Zn)
   (XJ<|Zm<|o5 (KO TU (pv 0) ZP<|Zq _)<|IZ<|KO Sk (ZB nW (pv 1) XN λ_ _=>rfl) ZP<|Zq _))),?_⟩
  let hw:=JO w;let z1:100000<=sizeLine:=D
  show LW (λσ H'=>H'=H/\∃F:B8,σ=[⇑(.str w),⇑(.str F)]/\F.cps.m=WM w.cps.m) ?_ ?_;rotate_left
  .intro Kn hK;exists _,Z,Z,_,_,Z,Z,_,Z,?_;rw[Zd9];show Xk (λhs=>?_) (λhs=>?_)
   .let Gx:1<=w.cps.m.f:=by
     cases e:w.cps.m with
     |nil=>ext
     |cons c r=>simp
    let et:=Zq7 Gx;exists _,Z,_,Z,w,Z,?_,hK _ _ {Z,_,Z,?_}
    .rw[JO,et,List.length_tail];grind
    .rw[et];unfold WM;ext
   .exists _,Z,hK _ _ {Z,_,Z,?_};unfold WM;ext
  intro σ H' Ω;let⟨rfl,F,rfl,hF⟩:=Ω;let bS:=JO F
  let Ui:=br w.cps.m;let hFa:(F.cps.all λc=>decide<|c<128)=A9:=by rw[<-Array.all_toList,Wd]at ha ⊢;intro c hc;rw[hF]at hc;show ha c (bu hc)
  let bad:¬(1<=(WM w.cps.m).f/\(WM w.cps.m).f<=60/\∀c∈WM w.cps.m,48<=c/\c<=57)->∀H2:Hp,Same H' H2->Q (.bl false) H2:=λh H2 s2=>by
   let e:JN w.cps.m=B0:=OQ λz=>h ⟨z.1,z.2.1,z.2.2.1⟩
   ext
  exists _,Z,F,Z,J,_,_,Z,Z,_,Z,?_;show Xk (λh1=>?_) λh1=>?_;rotate_left
  .exists _,Z,?_;show SJ ?_;show SJ ?_;show bad (λz=>h1 J) _ (Same.refl _)
  exists _,_,Z,Z,_,Z,?_;show Wa (λh60=>?_) λh60=>?_;rotate_left
  .show SJ ?_;show bad (λz=>h60 J) _ (Same.refl _)
  exists _,Z,F,Z,hFa,f7 (λi ys H2=>H2=H'/\ys=((F.cps.m.R i).Q λc=>!decide (48<=c/\c<=57)).Q V.bl) ⟨Z,Z⟩ B (λi ys H2 _ zz=>by let(_,e):=zz;grind) ?_ ?_
  .rintro i c ys H2 hc ⟨rfl,rfl⟩ S Xt;show QC ?_;exists _,Z,_,_,Z,Z,?_;rw[ZU9];show Xt _ _ {Z,?_};let VV:F.cps.m[i]?=⇑c:=by rwa[YO]
   rw[Yw,VV,Yz,Yz];rfl
  rintro ys H2 ⟨rfl,rfl⟩ p hp;rw[YG (by show XI _)];exists p,_,Z,SqL.of XS,_,Z,?_;let s3:=XM (o:=.lst<|(F.cps.m.Q λc=>!decide (48<=c/\c<=57)).Q V.bl) hp
  generalize upd H2 p (.lst<|(F.cps.m.Q λc=>!decide (48<=c/\c<=57)).Q V.bl)=H3 at *;cases hb:(F.cps.m.Q λc=>!decide (48<=c/\c<=57)).any id with
  |true=>
   show SJ ?_;show bad (λz=>?_) _ s3;grind
  |false=>
   show MA ?_;let hall:=Lo.Y hb
   rw[hF]at hall bS;show Rc ?_;cases hf:WM w.cps.m with
   |nil=>ext
   |cons c r=>
    let vy:VQ F.cps.m 0=⇑c:=by rw[hF,hf];show Zv (n:=0) D rfl
    exists _,Z,Z,_,Z,?_;rw[Jz];let e0:(Str.H "0").cps.m=[48]:=pq
    let fin:∀b:B2,(b=A9↔w.cps.m=[48]\/c≠48)->Q (.bl b) H3:=λb SU=>by
     let e:JN w.cps.m=b:=by
      rw[OX,SU];unfold JN;rw[YY];constructor
      .grind
      .grind
     ext
    show Xk (λh0=>?_) (λh0=>?_)
    .ext
    .exists _,Z,F,0,c,Z,Z,B,vy,Z,?_;rw[Jz,e0];grind
inductive spZE:_
 |mk (i:A0) (_:vs=[.str (nT i)]) (_:-(10^60)<i) (_:i<10^60) (_:∀H':Hp,Same H H'->Q (.int i) H')
def FT(T:Txt K mg t):Xp P w base Xx T.qZE 2 spZE:=by
 show T.qZE.okI ["word"] CC ⋯
 .let⟨i,rfl,h1,h2,q⟩:=h;show⟨_,(XR (WO (MI<|MK<|XD (bq T) hr T.qZD Zt<|XZ (pv 0) XX)
   (XJ PK)
   Zn)
   (XJ<|Zm<|Zi xN pq T.n_int Boot.«int»<|XZ (pv 0) XX)),?_⟩
  let hl:=Se (k:=60) D h1 h2;exists _,Z,nT i,Z,xD i,J,λH1 s1=>{_,Z,?_};rw[JQ,xH h1 h2];show MA ?_;show Rc ?_;exists _,Z,nT i,i,Z,xI (k:=60) D D h1 h2,J,q H1 s1
inductive spZF(K:Ad):_
 |mk (name l:_) (_:vs=[.str (Str.join TK<|name::l.Q nT),.str name,.int l.f]) (_:32∉name.cps.m) (_:name.f<=100) (_:l.f<=10) (_:Told l) (_:∀r H',Same H H'->H' r=⇑(.lst<|IL l)->Q ↑r H')
def vw(T:Txt K mg t):Xp P w base Xx T.qZF 3 (spZF K):=by
 show T.qZF.okI ["line","name","many","words"] CC ⋯
 .let⟨name,l,rfl,hn,DZ,WE,hl,q⟩:=h;show⟨_,(XR (Zd 3<|WT K Uq Fz ql gm (pv 0)<|XZ ZP XX)
   (XR (WO (PW.pt<|MJ (Zk Sk (ZB (Zg K) (pv 3) XN λ_ _=>rfl) (pv 1)<|Zq _)<|t9<|Zk Sk (Zf (Zh K) pq T.n_len Boot.«len»<|XZ (pv 3) XX) (Zp Tv (pv 2) XN)<|Zq _)
   (XJ PK)
   Zn)
   (XJ<|Zm<|UW Z (sc0:=Zc<|top 87) (N0:=["line","name","many","words"]) (N':=["word"]) (o:=1) (fr:=[]) ⟨Z,CC,CC,CC,Z,CC⟩ (ZE K<|VH (Vr K) (pv 3) (RO XN) QF) (Zu D) (λ_ _ _ _=>(Zb 0)) (λ_ _ _ _=>ZI) λ_ _ _ _=>(XD (FT T) hr T.qZE Zt<|XZ (pv 0) XX)))),?_⟩
  let SN:=fS (l:=l) hn;let hlen:(Str.join TK<|name::l.Q nT).f<=2000:=by
   rw[ZV8];show Ym (NX (o8:=100) λa ha=>?_) B;rcases Yu.Y ha with e|e
   .rw[e];show DZ
   .have:=GW hl a e;lia
  let z1:2000<=sizeLine:=D;exists _,Z,Z,_,_,Z,Z,Z,J,?_,λp hp=>?_
  .change(Txt.split _ TK).f<=_;grind
  let e:Txt.split (Str.join TK<|name::l.Q nT) (Str.H " ")=name::l.Q nT:=SN;rw[e];let u1:=XM (o:=.lst<|TL<|name::l.Q nT) hp
  let WB:(upd H p<|.lst<|TL<|name::l.Q nT) p=⇑(.lst<|TL<|name::l.Q nT):=XS;generalize upd H p (.lst<|TL<|name::l.Q nT)=H1 at *;show nm ?_;exists _,Z,p,_,0,.str name,Z,Z,SqL.of WB,Zv (n:=0) D Z,_,Z,Z,_,Z,?_;show Kx Z ?_;exists _,Z,p,_,Z,.inl<|SqL.of WB,_,Z,_,_,Z,Z,Z,_,Z,?_;rw[ZH,YM,Yb,Wn];show Kx (by ext) ?_;show Rc ?_;exists _,Z,_,Z,p,_,Z,SqL.of WB,λp2 VW=>?_;rw[Oj D];let e2:(TL<|name::l.Q nT).drop (1:A0).j=TL (l.Q nT):=rfl
  rw[e2];let u2:=XM (o:=.lst<|TL<|l.Q nT) VW
  let Sd:(upd H1 p2<|.lst<|TL<|l.Q nT) p2=⇑(.lst<|TL<|l.Q nT):=XS;generalize upd H1 p2 (.lst<|TL<|l.Q nT)=H2 at *;exists p2,Z,{_,SqL.of Sd},SG (K:=K) (a:=p2) (xs:=TL<|l.Q nT) (λi ys H3=>Same H2 H3/\ys=IL (l.R i)) {Same.refl _,Z} (Zl<|by rw[ZH,Yb];lia) (λi ys H3 _ zz=>by let(e,ey):=zz;exists SqL.of<|e _ _ Sd,B) ?_ ?_
  .rintro i v ys H3 hi ⟨s3,rfl⟩ S Xt;let(x,rfl,hx):=GV hi;rw[Yo]at hx;let(z,hz,rfl):=uR.Y hx;let hb:=hl z (Xo hz)
   show QC ?_;exists _,Z,z,Z,hb.1,hb.2,λH4 s4=>Xt _ _ {s3.l s4,?_};rw[Yw,hz]
   ext
  rintro ys H3 ⟨s3,rfl⟩ p3 Gu;rw[ZH,Yb,Ys];show q p3 _ (u1.l<|u2.l<|s3.l<|XM Gu) XS
inductive spZG(K:Ad)(C:A7):_
 |mk (n ps ls:_) (_:vs=[.str (RA n ps ls)]) (_:Zz n ps) (_:ls.f=ps.f) (_:Told ls) (_:∀t w a H',Same H H'->H a=A8->H' t=⇑(.tup [.ref w,.ref a])->WebAt C H' w n ps->H' a=⇑(.lst<|IL ls)->Q ↑t H')
def bo:FnScope ["text","lines","places","ties"] ["text"] (Zc (top 88)):=TF CC
def bj(T:Txt K mg t):Xp P w base Xx T.qZG 4 (spZG K t.A_Web):=by
 show T.qZG.okI ["text","lines","places","ties"] CC ⋯
 .let⟨n,ps,ls,rfl,hG,hl,hT,q⟩:=h;show⟨_,(XR (Zd 1<|WT K Uq Fz ql gm (pv 0)<|XZ ZP XX)
   (XR (Zd 2<|XD (vw T) hr T.qZF Zt<|XZ (ZB (Zg K) (pv 1) XN λ_ _=>rfl)<|XZ ZP<|XZ XN XX)
   (XR (Uh (i:=3) Z bo.nd Z Z (sc0:=Zc<|top 88) (N0:=["text","lines","places","ties"]) (N':=["line"]) (o:=1) (fr:=[]) ⟨Z,CC,CC,CC,Z,CC⟩ (ZE K<|VH (Vr K) (pv 1) (RO XN) QF) (Zu D) (λ_ _ _ _=>(Zb 0)) (λ_ _ _ _=>ZI) λ_ _ _ _=>(XD (vw T) hr T.qZF Zt<|XZ (pv 0)<|XZ ZP<|XZ XN XX))
   (XJ<|Zm<|ZZ<|XZ (tQ T.k_Web (Gs T) (hr.mono D) Z T.c_Web T.bZa .nil Zt<|XZ (ZB (Zg K) (pv 2) XN λ_ _=>rfl)<|XZ (UW Z (sc0:=Zc<|top 88) (N0:=["text","lines","places","ties"]) (N':=["tie"]) (o:=1) (fr:=[]) ⟨Z,CC,CC,CC,Z,CC⟩ (ZE K<|pv 3) (Zu D) (λ_ _ _ _=>(Zb 0)) (λ_ _ _ _=>ZI) λ_ _ _ _=>(ZZ<|XZ (ZB (Zg K) (pv 0) XN λ_ _=>rfl)<|XZ (ZB (Zg K) (pv 0) XN λ_ _=>rfl) XX)) XX)<|XZ (UW Z (sc0:=Zc<|top 88) (N0:=["text","lines","places","ties"]) (N':=["tie"]) (o:=1) (fr:=[]) ⟨Z,CC,CC,CC,Z,CC⟩ (ZE K<|pv 3) (Zu D) (λ_ _ _ _=>(Zb 0)) (λ_ _ _ _=>ZI) λ_ _ _ _=>(ZB (Zg K) (pv 0) XN λ_ _=>rfl)) XX)))),?_⟩
  let vt:=hG.2.2.1;let Ke:=hG.1
  let PD:=hG.2.1;let two:2<=sizeLine:=D
  let z1:100000<=sizeLine:=D;let wl:=GU (n:=n) hl
  let SN:=fR (n:=n) (ps:=ps) (ls:=ls);let tlen:(RA n ps ls).f<=100000:=by unfold RA;rw[fU];show Ym (NX (o8:=400)<|xu hG hT) (by rw[wl];lia)
  exists _,Z,Z,_,_,Z,Z,Z,J,?_,λp hp=>?_
  .change(Txt.split _ Ec).f<=_;lia
  let e:Txt.split (RA n ps ls) (Str.H "\n")=Wk n ps ls:=SN;rw[e];let u1:=XM (o:=.lst<|TL<|Wk n ps ls) hp
  let WB:(upd H p<|.lst<|TL<|Wk n ps ls) p=⇑(.lst<|TL<|Wk n ps ls):=XS;show nm ?_;exists _,Z,p,_,0,.str<|Str.H "places "++nT n,Z,Z,SqL.of WB,Zv (n:=0) D Z,Str.H "places",[n],pq,D,D,(show 1<=10 by decide),λz hz=>B,λpA H2 s2 dI=>?_;show nm ?_;let VW:=s2 _ _ WB
  exists _,Z,_,Z,p,_,Z,SqL.of VW,λp2 Sd=>?_;rw[Oj D];let e2:(TL<|Wk n ps ls).drop (1:A0).j=TL (List.zipWith UZ ps ls):=rfl
  rw[e2];let u3:=XM (o:=.lst<|TL<|List.zipWith UZ ps ls) Sd
  let h3:(upd H2 p2<|.lst<|TL<|List.zipWith UZ ps ls) p2=⇑(.lst<|TL<|List.zipWith UZ ps ls):=XS;let bh:=u3 _ _ dI
  generalize upd H2 p2 (.lst<|TL<|List.zipWith UZ ps ls)=H3 at *;let zl:(List.zipWith UZ ps ls).f=ps.f:=by rw[QK];ext
  obtain⟨R,hR⟩:∃R,R=List.zipWith (λ(p:A0×A0) l=>[p.1,p.2,l]) ps ls:={_,Z};let Rl:R.f=ps.f:=by rw[hR,QK];ext
  let Rat:∀(i:A5)(p:A0×A0)(l:A0),ps[i]?=⇑p->ls[i]?=⇑l->R[i]?=⇑[p.1,p.2,l]:=λi p l h1 h2=>by rw[hR,Jt,h1,h2]
  exists p2,Z,{_,SqL.of h3},SG (K:=K) (a:=p2) (xs:=TL<|List.zipWith UZ ps ls) (λi ys H4=>Same H3 H4/\i<=ps.f/\Bears (Vq H4) ys (R.R i)) {Same.refl _,XC _,{Z,λi a e=>by simp at e}} (Zl<|by rw[ZH,zl];lia) (λi ys H4 _ zz=>by let(e,hi,h):=zz;show{SqL.of<|e _ _ h3,by rw[h.1,Yx];ext}) ?_ ?_
  .rintro i v ys H4 hi ⟨s4,TN,hB⟩ S Xt;let(x,rfl,hx):=GV hi;let Wq:i<ps.f:=by rw[<-zl];show(Xr.Y hx).1
   obtain⟨pp,Pg⟩:∃pp,ps[i]?=⇑pp:={_,Xv Wq};obtain⟨l,WE⟩:∃l,ls[i]?=⇑l:={_,Xv<|by ext};rw[Jt,Pg,WE]at hx;let rfl:UZ pp l=x:=Yf hx;show QC ?_;exists _,Z,Str.H "tie",[pp.1,pp.2,l],Z,D,D,(show 3<=10 by decide),fO hG hT Pg WE,λr H5 s5 hr=>Xt _ _ {s4.l s5,Wq,?_};rw[Yw,Rat i pp l Pg WE];show(hB.imp λ_ _ zz=>by let(r,e,h):=zz;exists r,e,s5 _ _ h).snoc ⟨r,Z,hr⟩
  rintro ys H4 ⟨s4,_,hB⟩ p3 Gu;rw[ZH,zl,YG (by ext)]at hB;let u5:=XM (o:=.lst ys) Gu
  let h5:(upd H4 p3<|.lst ys) p3=⇑(.lst ys):=XS;let bg:Bears (Vq<|upd H4 p3<|.lst ys) ys R:=hB.imp λ_ _ zz=>by let(r,e,h):=zz;exists r,e,u5 _ _ h
  let bb:=(s4.l u5) _ _ bh;let qH:=u1.l (s2.l<|u3.l<|s4.l u5)
  generalize upd H4 p3 (.lst ys)=H5 at *;let SR:=bg.1
  show nm ?_;let vq:∀i row,R[i]?=⇑row->∃(p:A0×A0)(l:A0),ps[i]?=⇑p/\ls[i]?=⇑l/\row=[p.1,p.2,l]:=λi row h=>by
   let Wq:i<ps.f:=by rw[<-Rl];show(Xr.Y h).1
   obtain⟨pp,Pg⟩:∃pp,ps[i]?=⇑pp:={_,Xv Wq};obtain⟨l,WE⟩:∃l,ls[i]?=⇑l:={_,Xv<|by ext};rw[Rat i pp l Pg WE]at h;exists pp,l,Pg,WE,(Yf h).symm
  exists _,Z,pA,_,0,.int n,Z,Z,SqL.of bb,Zv (n:=0) D Z,_,Z,p3,Z,{_,SqL.of h5},SG (K:=K) (a:=p3) (xs:=ys) (λi us H6=>Same H5 H6/\i<=ys.f/\PairsV H6 us (ps.R i)) {Same.refl _,XC _,PairsV.nil} (Zl J) (λi us H6 _ zz=>by let(e,hi,h):=zz;show{SqL.of<|e _ _ h5,by rw[h.1,Yx];ext}) ?_ ?_
  .rintro i v us H6 hi ⟨s6,TN,hU⟩ S Xt;let(row,FR,r,rfl,hr):=bg.at hi;let(pp,l,Pg,WE,rfl):=vq i row FR;let Wr:=(Xr.Y hi).1
   show QC ?_;exists _,Z,r,_,0,.int pp.1,Z,Z,SqL.of<|s6 _ _ hr,Zv (n:=0) D Z,_,Z,r,_,1,.int pp.2,Z,Z,SqL.of<|s6 _ _ hr,Zv (n:=1) D Z,two,λc hc=>Xt _ _ {s6.l<|XM hc,Wr,?_};rw[Yw,Pg];show(hU.same<|XM hc).snoc ⟨c,Z,XS⟩
  rintro us H6 ⟨s6,_,hU⟩ lA DN;rw[SR,Rl,Ys]at hU;let u7:=XM (o:=.lst us) DN
  let h7:(upd H6 lA<|.lst us) lA=⇑(.lst us):=XS;let hU7:=hU.same u7
  let Ss:=s6.l u7;generalize upd H6 lA (.lst us)=H7 at *;intro x dx nx DQ wa;let t1:Same H7 (upd (upd H7 dx<|.own x) x<|.ins t.A_Web dx []):=ZD (XM DQ) (by rwa[Za (YX wa)])
  exists x,dx,n,lA,false,us,ps,Z,XS,λo=>?_,hU7.same t1,hG,λH8 hW k3=>{Z,?_}
  .show(Zr nx t1).seq (SqL.of h7)
  let s8:Same H7 H8:=λb o e=>k3 b o (t1 b o e) (Ze e nx);let h8:=(Ss.l s8) _ _ h5
  let hB8:Bears (Vq H8) ys R:=bg.imp λ_ _ zz=>by let(r,e,h):=zz;exists r,e,(Ss.l s8) _ _ h
  exists _,Z,p3,Z,{_,SqL.of h8},SG (K:=K) (a:=p3) (xs:=ys) (λi us H9=>H9=H8/\us=IL (ls.R i)) ⟨Z,Z⟩ (Zl J) (λi us H9 _ zz=>by let(e,h):=zz;show{e▸SqL.of h8,by ext}) ?_ ?_
  .rintro i v us H9 hi ⟨rfl,rfl⟩ S Xt;let(row,FR,r,rfl,hr):=hB8.at hi;let(pp,l,Pg,WE,rfl):=vq i row FR;show QC ?_;exists _,Z,r,_,2,.int l,Z,Z,SqL.of hr,Zv (n:=2) D Z,Xt _ _ {Z,?_};rw[Yw,WE]
   ext
  rintro us9 H9 ⟨rfl,rfl⟩ aA qG;rw[SR,Rl,<-hl,Ys];let u9:=XM (o:=.lst<|IL ls) qG
  let sH9:=qH.l (Ss.l s8);exists two,λtA Rx=>?_;let a9:=XM (o:=.tup [.ref x,.ref aA]) Rx
  show q tA x aA _ (sH9.l<|u9.l a9) (sH9.free qG) XS (hW.same<|u9.l a9) (a9 _ _ XS)
inductive spZH(K:Ad):_
 |mk (a:A7) (kd:B2) (l:Ac) (_:vs=[.ref a]) (_:SqK kd K H a (IL l)) (_:l.f<=1000) (_:Told l) (_:∀H':Hp,Same H H'->Q (.str<|Str.join TK<|l.Q nT) H')
def a8(T:Txt K mg t):Xp P w base Xx T.qZH 1 (spZH K):=by
 show T.qZH.okI ["numbers"] CC ⋯
 .let⟨a,kd,l,rfl,hA,WE,hl,q⟩:=h;exists _,(XJ<|Zm<|WT K Uq Fx Fy (Ef K) ZP<|XZ (UW Z (sc0:=Zc<|top 89) (N0:=["numbers"]) (N':=["number"]) (o:=1) (fr:=[]) ⟨Z,CC,CC,CC,Z,CC⟩ (Tp K<|pv 0) (Zu D) (λ_ _ _ _=>(Zb 0)) (λ_ _ _ _=>ZI) λ_ _ _ _=>(Zi Zx pq T.n_str Boot.«str»<|XZ (pv 0) XX)) XX),?_;exists Z,_,Z,a,Z,tE (k:=kd) (K:=K) (xs:=IL l) (λi ys H3=>H3=H/\ys=TL ((l.R i).Q nT)) ⟨Z,Z⟩ (Zl B) (λi ys H3 _ zz=>by let(e,ey):=zz;show{e▸hA,by rw[ey,ZH,Yb,Yx];ext}) ?_ ?_
  .rintro i v ys H3 hi ⟨rfl,rfl⟩ S Xt;let(z,rfl,hz):=Vj hi;let hb:=hl z (Xo hz)
   show QC ?_;exists _,Z,z,Z,J,J,Xt _ _ {Z,?_};rw[Yw,hz,Yz];show xw _ _
  rintro ys H3 ⟨rfl,rfl⟩ p hp;rw[Xd,Ys];exists _,p,l.Q nT,Z,Z,SqL.of XS,?_,q _<|XM hp;show Eb (o8:=61) (GW hl) B
inductive spZI(K:Ad):_
 |mk (a:A7) (l:Ac) (_:vs=[.ref a]) (_:H a=⇑(.tup<|IL l)) (_:l.f<=1000) (_:Told l) (_:∀H':Hp,Same H H'->Q (.str<|TJ l) H')
def Ln(T:Txt K mg t):Xp P w base Xx T.qZI 2 (spZI K):=by
 show T.qZI.okI ["ties"] CC ⋯
 .let⟨a,l,rfl,hA,WE,hl,q⟩:=h;exists _,(XJ<|Zm<|t8 (Zk QG (Zf (Zh K) pq T.n_len Boot.«len»<|XZ (pv 0) XX) XN<|Zq _) (XD (a8 T) hr T.qZH Zt<|XZ (pv 0) XX) ZP),?_;exists _,Z,a,_,Z,.inr<|SqT.of hA,_,_,Z,Z,_,Z,?_;rw[Xd];show Xk (λh=>?_) (λh=>?_)
  .exists _,Z,a,true,l,Z,SqT.of hA,WE,hl,λH1 s1=>?_
   have:=q H1 s1
   unfold TJ at this;grind
  .have:=q H (Same.refl _)
   unfold TJ at this;rwa[Yk (Ur.Y<|by ext)]at this
inductive spZJ(K:Ad):_
 |mk (a:A7) (p q:A0) (_:vs=[.ref a]) (_:H a=⇑(.tup [.int p,.int q])) (_:Told [p,q]) (_:Q (.str<|GS p q) H)
def aZ(T:Txt K mg t):Xp P w base Xx T.qZJ 1 (spZJ K):=by
 show T.qZJ.okI ["pair"] CC ⋯
 .let⟨a,p,q,rfl,hA,hT,k⟩:=h;exists _,(XJ<|Zm<|Zp ZJ (Zp ZJ (Zi Zx pq T.n_str Boot.«str»<|XZ (ZB (ZA K) (pv 0) XN λ_ _=>rfl) XX) ZP)<|Zi Zx pq T.n_str Boot.«str»<|XZ (ZB (ZA K) (pv 0) XN λ_ _=>rfl) XX),?_;let b1:=hT p AP
  let b2:=hT q AP;let l1:=Se (k:=60) D b1.1 b1.2
  let l2:=Se (k:=60) D b2.1 b2.2;let z1:1000<=sizeLine:=D
  let e0:(nT p++Str.H "/").f=(nT p).f+1:=Fe ..;exists _,Z,a,_,0,.int p,Z,Z,SqT.of hA,Z,p,Z,J,J,_,_,Z,Z,?_,_,Z,a,_,1,.int q,Z,Z,SqT.of hA,Z,q,Z,J,J,_,_,Z,Z,?_,k
  .change(nT p).f+1<=_;lia
  .change(nT p++Str.H "/").f+(nT q).f<=_;grind
inductive spZK(K:Ad):_
 |mk (z:A0) (a:A7) (l:Ac) (_:vs=[.int z,.ref a]) (_:H a=⇑(.tup<|IL l)) (_:l.f<=1000) (_:Told l) (_:-(10^65)<z) (_:z<10^65) (_:∀H':Hp,Same H H'->Q (.str<|lenT z l) H')
def aY(T:Txt K mg t):Xp P w base Xx T.qZK 3 (spZK K):=by
 show T.qZK.okI ["length","tree"] CC ⋯
 .let⟨z,a,l,rfl,hA,WE,hl,z0,z1,q⟩:=h;exists _,(XJ<|Zm<|Zp ZJ (Zp ZJ (Zi Zx pq T.n_str Boot.«str»<|XZ (pv 0) XX) ZP)<|XD (Ln T) hr T.qZI Zt<|XZ (pv 1) XX),?_;let l1:=Se (i:=z) (k:=65) D z0 z1
  let z2:100000<=sizeLine:=D;let l2:=xt WE hl
  let e0:(nT z++Str.H ": ").f=(nT z).f+2:=Fe ..;exists _,Z,z,Z,J,J,_,_,Z,Z,?_,_,Z,a,l,Z,hA,WE,hl,λH1 s1=>{_,_,Z,Z,?_,q H1 s1}
  .change(nT z).f+2<=_;lia
  .change(nT z++Str.H ": ").f+(TJ l).f<=_;grind
inductive spZL(K:Ad)(C:A7):_
 |mk (w b:A7) (n:A0) (ps:Aa) (ls:Ac) (q:Ask) (_:vs=[.ref w,.ref b,.str (Vg q)]) (_:WebAt C H w n ps) (_:Zz n ps) (_:SqL K H b (IL ls)) (_:ls.f=ps.f) (_:(q=.count\/q=.cheap)) (_:LF n ps q) (_:∀s H',Qi n ps ls q s->Same H H'->Q (.str s) H')
def aX(T:Txt K mg t):Xp P w base Xx T.qZL 9 (spZL K t.A_Web):=by
 show T.qZL.okI ["web","lengths","name"] CC ⋯
 .let⟨w,b,n,ps,ls,q,rfl,hW,hG,hS,hl,hq,ho,k⟩:=h;show⟨_,(XR (WO (Zk TU (pv 2) ZP<|Zq _)
   (XJ<|Zm<|Zi Zx pq T.n_str Boot.«str»<|XZ (XD (Lw T) hr T.qZn Zt<|XZ (pv 0) XX) XX)
   Zn)
   (XJ<|Zm<|XD (Ln T) hr T.qZI Zt<|XZ (XD (bY T) hr T.qZy Zt<|XZ (pv 0)<|XZ (pv 1) XX) XX)),?_⟩
  exists _,Z,Z,_,Z,?_;rcases hq with rfl|rfl
  .show Ky Z ?_;exists _,Z,w,n,ps,Z,hW,hG,λc H1 hc s1=>{_,Z,J,?_,k _ H1 ⟨c,hc,Z⟩ s1}
   have:=Ej hG hc
   lia
  .show Tq (λe=>by cases e) ?_;show Rc ?_;exists _,Z,_,Z,w,b,false,n,ps,ls,Z,hW,hG,hS,hl,λU r H1 hU hm s1 hr=>?_,λno=>?_
   .let⟨t1,t2⟩:=DW hG (GX hG hl hU);exists r,U,Z,hr,t1,t2,λH2 s2=>k _ H2 ⟨U,hU,hm,Z⟩<|s1.l s2
   .let⟨U,hU,_⟩:=z6 hG (Kl ps.f) ho;let(V,hV):=(gG hG hl).Y ⟨U,hU⟩
    ext
inductive spZM(K:Ad)(C Pt:A7):_
 |mk (w b:A7) (n z:A0) (ps:Aa) (ls:Ac) (_:vs=[.ref w,.ref b,.int z]) (_:WebAt C H w n ps) (_:Zz n ps) (_:SqL K H b (IL ls)) (_:ls.f=ps.f) (_:Told ls) (_:0<=z) (_:z<=60) (_:Ws H Pt) (_:∀s H',Qi n ps ls (.rank z) s->SameX Pt H H'->Ws H' Pt->Q (.str s) H')
def aW(T:Txt K mg t)(hB:Te K mg base (t.d 1) Pt):Xp P w base Xx T.qZM 9 (spZM K t.A_Web Pt):=by
 show T.qZM.okI ["web","lengths","most"] CC ⋯
 .let⟨w,b,n,z,ps,ls,rfl,hW,hG,hS,hl,Rw,z0,z1,hT,k⟩:=h;exists _,(XJ<|Zm<|WT K Uq Fx Fy (Ef K) ZP<|XZ (UW Z (sc0:=Zc<|top 99) (N0:=["web","lengths","most"]) (N':=["length","tree"]) (o:=2) (fr:=[]) ⟨Z,CC,CC,CC,Z,CC⟩ (ZE K<|XD (bN T hB) hr T.qZB Zt<|XZ (pv 0)<|XZ (pv 1)<|XZ (pv 2) XX) (Ir<|VG D<|VG D RM) (λ_ _ _ _=>(Pw (n:=2) K Z<|Zw (Zb 0)<|Zw (Zb 1) PJ)) (λ_ _ _ _=>ZI) λ_ _ _ _=>(XD (aY T) hr T.qZK Zt<|XZ (pv 0)<|XZ (pv 1) XX)) XX),?_;let hM:∀T,Zj n ps T->-(10^65)<XQ ls T/\XQ ls T<10^65:=λT hT=>dZ Rw (DW hG hT).1
  exists Z,_,Z,_,Z,_,Z,w,b,n,z,ps,false,ls,Z,hW,hG,hS,hl,z0,J,hT,λys L r H1 hR hB sx t1 UR hr=>?_;let SR:=hB.1
  let hL60:L.f<=60:=Ym hR.few (by ext);exists r,Z,{_,SqL.of hr},SG (K:=K) (a:=r) (xs:=ys) (λi us H3=>Same H1 H3/\us=TL ((L.R i).Q λT=>lenT (XQ ls T) T)) {Same.refl _,Z} (Zl J) (λi us H3 _ h=>by let(e,ey):=h;show{SqL.of<|e _ _ hr,by rw[ey,ZH,Yb,Yx];show uJ ..}) ?_ ?_
  .rintro i v us H3 hi ⟨s3,rfl⟩ S Xt;let(T,hTi,tp,tr,rfl,h1,h2):=hB.at hi;let vp:=hR.tr T (Xo hTi)
   let(b1,b2):=hM T vp;let(t1,t2):=DW hG vp;exists tp,_,Z,SqT.of<|s3 _ _ h1,Z,_,_,Z,_,_,Z,Z,?_;exists _,Z,_,Z,XQ ls T,tr,T,Z,s3 _ _ h2,t1,t2,b1,b2,λH4 s4=>Xt _ _ {s3.l s4,?_};rw[Yw,hTi,Yz];show xw _ _
  rintro us H3 ⟨s3,rfl⟩ p hp;rw[SR,Ys];exists _,p,L.Q λT=>lenT (XQ ls T) T,Z,Z,SqL.of XS,?_,k _ _ ⟨L,hR,Z⟩ (sx.l<|SameX.same<|s3.l<|XM hp)<|t1.same<|s3.l<|XM hp;show Eb (o8:=70000) (λa ha=>?_) B;let(T,hT,rfl):=Yp.Y ha;let vp:=hR.tr T hT
  let(b1,b2):=hM T vp;let(t1,t2):=DW hG vp;show ZY7 b1 b2 t1 t2
def aV:(Sp):=λ_ _ _ _=>False
def aU(T:Txt K mg t):Xp P w base Xx T.qZN 1 aV:=by
 show T.qZN.ok ["web","number","trees"] CC (λvs H Q E h=>?_) (λXG A outer s H vs Q E hr h=>?_)
 .show False.elim h
 .show False.elim h
inductive spZO(K:Ad)(C Pt:A7):_
 |mk (w b:A7) (n z:A0) (ps:Aa) (ls:Ac) (q:Ask) (_:vs=[.ref w,.ref b,.str<|Vg q,.int z]) (_:WebAt C H w n ps) (_:Zz n ps) (_:SqL K H b (IL ls)) (_:ls.f=ps.f) (_:Told ls) (_:(q=.tree z\/q=.rank z)) (_:LF n ps q) (_:Ws H Pt) (_:∀s H',Qi n ps ls q s->SameX Pt H H'->Ws H' Pt->Q (.str s) H')
def aT(T:Txt K mg t)(hB:Te K mg base (t.d 1) Pt):Xp P w base Xx T.qZO 10 (spZO K t.A_Web Pt):=by
 show T.qZO.okI ["web","lengths","name","number"] CC ⋯
 .let⟨w,b,n,z,ps,ls,q,rfl,hW,hG,hS,hl,Rw,hq,ho,hT,k⟩:=h;show⟨_,(XR (WO (Zk TU (pv 2) ZP<|Zq _)
   (XJ<|Zm<|XD (Ln T) hr T.qZI Zt<|XZ (XD (cK T) hr T.qZt Zt<|XZ (pv 0)<|XZ (pv 3) XX) XX)
   Zn)
   (XR (WO (Zk TU (pv 2) ZP<|Zq _)
   (XJ<|Zm<|XD (Ln T) hr T.qZI Zt<|XZ (XD (aU T) hr T.qZN Zt<|XZ (pv 0)<|XZ (pv 3) XX) XX)
   Zn)
   (XJ<|Zm<|XD (aW T hB) hr T.qZM Zt<|XZ (pv 0)<|XZ (pv 1)<|XZ (pv 3) XX))),?_⟩
  exists _,Z,Z,_,Z,?_;rcases hq with rfl|rfl
  .show Ky Z ?_;let(z0,c,hc,z1):=ho
   have:=Ej hG hc
   exists _,Z,_,Z,w,n,ps,z,Z,hW,hG,J,J,λd hd _ _ U r H1 hU hR s1 hr=>?_,λh=>?_
   .let⟨t1,t2⟩:=DW hG hU;exists r,U,Z,hr,t1,t2,λH2 s2=>k _ H2 ⟨U,hU,hR,Z⟩ (SameX.same<|s1.l s2)<|hT.same<|s1.l s2
   .rcases h with h|⟨d,hd,h⟩
    .lia
    .rw[hd.uniq hc]at h;lia
  .show Tq (λe=>by cases e) ?_;show Rc ?_;exists _,Z,Z,_,Z,?_;show Tq (λe=>by cases e) ?_;show Rc ?_;exists _,Z,_,Z,_,Z,w,b,n,z,ps,ls,Z,hW,hG,hS,hl,Rw,ho.1,ho.2,hT,k
def aS:(Sp):=λ_ _ _ _=>False
def aR(T:Txt K mg t):Xp P w base Xx T.qZP 1 aS:=by
 show T.qZP.ok ["web","tree"] CC (λvs H Q E h=>?_) (λXG A outer s H vs Q E hr h=>?_)
 .show False.elim h
 .show False.elim h
def aQ:(Sp):=λ_ _ _ _=>False
def aP(T:Txt K mg t):Xp P w base Xx T.qZQ 1 aQ:=by
 show T.qZQ.ok ["web","tree","behind"] CC (λvs H Q E h=>?_) (λXG A outer s H vs Q E hr h=>?_)
 .show False.elim h
 .show False.elim h
inductive spZR(K:Ad)(C:A7):_
 |mk (w a:A7) (n:A0) (ps:Aa) (U:Ac) (q:Ask) (_:vs=[.ref w,.str<|Vg q,.ref a]) (_:WebAt C H w n ps) (_:Zz n ps) (_:SqL K H a (IL U)) (_:(q=.number U\/q=.share U)) (_:LF n ps q) (_:∀s H',(∀ls,Qi n ps ls q s)->Same H H'->Q (.str s) H')
def aO(T:Txt K mg t):Xp P w base Xx T.qZR 10 (spZR K t.A_Web):=by
 show T.qZR.okI ["web","name","ties"] CC ⋯
 .let⟨w,a,n,ps,U,q,rfl,hW,hG,hS,hq,ho,k⟩:=h;show⟨_,(XR (WO (Zk TU (pv 1) ZP<|Zq _)
   (XJ<|Zm<|Zi Zx pq T.n_str Boot.«str»<|XZ (XD (cD T) hr T.qZv Zt<|XZ (pv 0)<|XZ (pv 2) XX) XX)
   Zn)
   (XR (WO (Zk TU (pv 1) ZP<|Zq _)
   (XJ<|Zm<|Zi Zx pq T.n_str Boot.«str»<|XZ (XD (aR T) hr T.qZP Zt<|XZ (pv 0)<|XZ (pv 2) XX) XX)
   Zn)
   (XR (WO (Zk TU (pv 1) ZP<|Zq _)
   (XJ<|Zm<|XD (aP T) hr T.qZQ Zt<|XZ (pv 0)<|XZ (pv 2) XX)
   Zn)
   (XJ<|Zm<|XD (aZ T) hr T.qZJ Zt<|XZ (XD (bw T) hr T.qZC Zt<|XZ (pv 0)<|XZ (pv 2) XX) XX)))),?_⟩
  exists _,Z,Z,_,Z,?_;rcases hq with rfl|rfl
  .show Ky Z ?_;exists _,Z,_,Z,w,a,n,ps,false,U,Z,hW,hG,hS,ho,λr H1 Uu s1=>{_,Z,J,?_,k _ H1 (λ_=>⟨r,Uu,Z⟩) s1};let(L,h1,h2):=d8 hG;let hc:TC n ps L.f:=⟨L,h1,h2,Z⟩
   have:=dY hc Uu
   have:=Ej hG hc
   lia
  .show Tq (λe=>by cases e) ?_;show Rc ?_;exists _,Z,Z,_,Z,?_;show Tq (λe=>by cases e) ?_;show Rc ?_;exists _,Z,Z,_,Z,?_;show Tq (λe=>by cases e) ?_;show Rc ?_;exists _,Z,_,Z,w,a,n,ps,false,U,Z,hW,hG,hS,ho.1,ho.2,λc d p q r H1 hc hd d0 hL s1 Uu=>?_;let cl:=He hc hd
   let(b1,b2):=xX (W:=(d:A0)) (by ext) hL
   have:=Ej hG hd
   let q0:=hL.1;let tpq:Told [p,q]:=λy hy=>by grind
   exists r,p,q,Z,Uu,tpq,k _ H1 (λ_=>⟨c,d,p,q,hc,hd,d0,hL,Z⟩) s1
inductive spZS(K:Ad):_
 |mk (a:A7) (U:Ac) (_:vs=[.ref a]) (_:SqL K H a (TL<|tieW U)) (_:U.f<=100) (_:Told U) (_:∀r H',Same H H'->H' r=⇑(.lst<|IL U)->Q ↑r H')
def aN(T:Txt K mg t):Xp P w base Xx T.qZS 3 (spZS K):=by
 show T.qZS.okI ["words"] CC ⋯
 .let⟨a,U,rfl,hA,hl,hT,k⟩:=h;show⟨_,(XR (WO (Zk (my K<|Ie hr) (pv 0) (UL<|XZ ZP XX)<|Zq _)
   (XJ<|Zm<|UL XX)
   Zn)
   (XJ<|Zm<|UW Z (sc0:=Zc<|top 103) (N0:=["words"]) (N':=["word"]) (o:=1) (fr:=[]) ⟨Z,CC,CC,CC,Z,CC⟩ (ZE K<|pv 0) (Zu D) (λ_ _ _ _=>(Zb 0)) (λ_ _ _ _=>ZI) λ_ _ _ _=>(XD (FT T) hr T.qZE Zt<|XZ (pv 0) XX))),?_⟩
  exists _,Z,D,λd hd=>{1,_,a,d,Z,Z,D,ef (l:=tieW U) (m:=[Str.H "-"]) ((XM hd).seq hA)<|SqL.of XS,_,Z,?_};let u1:=XM (o:=.lst [.str "-"]) hd
  show Xk (λe=>?_) (λne=>?_)
  .let c:U=[]:=Decidable.byContradiction λc=>by
    let(z,l,rfl):=Y3n c;let hz:=hT z Yi
    have:=LO.X ⟨z,Z,hz.1,hz.2⟩
    rw[(Jk e).1]at this;show absurd this CC
   subst c;exists XC _,λr hr=>k r _ (u1.l<|XM hr) XS
  let hw:tieW U=U.Q nT:=Yj λc=>ne (by rw[c];rfl);show Rc ?_;let Ow:=u1.seq hA
  rw[hw]at Ow;generalize upd H d (.lst [.str "-"])=H2 at *;exists _,Z,a,Z,{_,Ow},SG (K:=K) (a:=a) (xs:=TL<|U.Q nT) (λi ys H3=>Same H2 H3/\ys=IL (U.R i)) {Same.refl _,Z} (Zl<|by rw[ZH,Yb];lia) (λi ys H3 _ h=>by let(e,ey):=h;show{e.seq Ow,by rw[ey,Xd,Yx];show uJ ..}) ?_ ?_
  .rintro i v ys H3 hi ⟨s3,rfl⟩ S Xt;let(x,rfl,hx):=GV hi;rw[Yo]at hx;let(z,hz,rfl):=uR.Y hx;let qJ:=hT z (Xo hz)
   show QC ?_;exists _,Z,z,Z,qJ.1,qJ.2,λH4 s4=>Xt _ _ {s3.l s4,?_};rw[Yw,hz];show(RL _ _).symm
  .rintro ys H3 ⟨s3,rfl⟩ p3 Gu;rw[ZH,Yb,Ys];show k p3 _ (u1.l<|s3.l<|XM Gu) XS
inductive spZT(K:Ad)(C Pt:A7):_
 |mk (w b:A7) (n:A0) (ps:Aa) (ls:Ac) (q:Ask) (_:vs=[.ref w,.ref b,.str (NQ q)]) (_:WebAt C H w n ps) (_:Zz n ps) (_:SqL K H b (IL ls)) (_:ls.f=ps.f) (_:Told ls) (_:LF n ps q) (_:Ws H Pt) (_:∀s H',Qi n ps ls q s->SameX Pt H H'->Ws H' Pt->Q (.str s) H')
def aM(T:Txt K mg t)(hB:Te K mg base (t.d 1) Pt):Xp P w base Xx T.qZT 11 (spZT K t.A_Web Pt):=by
 show T.qZT.okI ["web","lengths","line","words","name"] CC ⋯
 .let⟨w,b,n,ps,ls,q,rfl,hW,hG,hS,hl,Rw,ho,hT,k⟩:=h;show⟨_,(XR (Zd 3<|WT K Uq Fz ql gm (pv 2)<|XZ ZP XX)
   (XR (Zd 4<|ZB (Zg K) (pv 3) XN λ_ _=>rfl)
   (XR (WO (PW.pt<|EY (Zk (tD K) (pv 4) (Ja (v:=V.ref T.g_ALONE.choose) Z T.g_ALONE.choose_spec.1 Z) Z)<|EZ<|Zk TU (Zf (Zh K) pq T.n_len Boot.«len»<|XZ (pv 3) XX) XN<|Zq _)
   (XJ<|Zm<|XD (aX T) hr T.qZL Zt<|XZ (pv 0)<|XZ (pv 1)<|XZ (pv 4) XX)
   Zn)
   (XR (WO (PW.pt<|EY (Zk (tD K) (pv 4) (Ja (v:=V.ref T.g_OF_A_NUMBER.choose) Z T.g_OF_A_NUMBER.choose_spec.1 Z) Z)<|EZ<|Zk TU (Zf (Zh K) pq T.n_len Boot.«len»<|XZ (pv 3) XX) XN<|Zq _)
   (XJ<|Zm<|XD (aT T hB) hr T.qZO Zt<|XZ (pv 0)<|XZ (pv 1)<|XZ (pv 4)<|XZ (XD (FT T) hr T.qZE Zt<|XZ (ZB (Zg K) (pv 3) XN λ_ _=>rfl) XX) XX)
   Zn)
   (XR (WO (PW.pt<|EY (Zk (tD K) (pv 4) (Ja (v:=V.ref T.g_OF_TIES.choose) Z T.g_OF_TIES.choose_spec.1 Z) Z)<|EZ<|Zk QG (Zf (Zh K) pq T.n_len Boot.«len»<|XZ (pv 3) XX) XN<|Zq _)
   (XJ<|Zm<|XD (aO T) hr T.qZR Zt<|XZ (pv 0)<|XZ (pv 4)<|XZ (XD (aN T) hr T.qZS Zt<|XZ (VH (Vr K) (pv 3) (RO XN) QF) XX) XX)
   Zn)
   (XJ PK)))))),?_⟩
  let z1:100000<=sizeLine:=D;let hw:=ZP6 q
  let(many,_):=wB hG q ho;let WE:=ZA9 hG q ho
  exists _,Z,Z,_,_,Z,Z,Z,J,?_,λp hp=>?_
  .change(Txt.split _ TK).f<=_;grind
  let e:Txt.split (NQ q) (Str.H " ")=Vg q::Vf q:=hw;rw[e];let u1:=XM (o:=.lst<|TL<|Vg q::Vf q) hp
  let WB:(upd H p<|.lst<|TL<|Vg q::Vf q) p=⇑(.lst<|TL<|Vg q::Vf q):=XS;generalize upd H p (.lst<|TL<|Vg q::Vf q)=H1 at *;show nm ?_;exists _,Z,p,_,0,.str<|Vg q,Z,Z,SqL.of WB,Zv (n:=0) D Z,?_;show nm ?_;dsimp only;let JW:=u1.seq hS
  let vG:=hW.same u1;let DM:=hT.same u1
  let al:∀l:A6 B8,(l.Q V.str).all SM=A9:=λl=>by rw[List.all_map];show Wd.X λ_ _=>rfl
  show GC (Vg q∈Wt) ((Vf q).f+1=1) (λQ q'=>?_) (λQ q'=>?_) (λc1 c2=>?_) (λnA=>?_)
  .exists _,Z,_,Wt.Q V.str,Z,.inr<|T.g_ALONE.choose_spec.2.sq H1,Z,al _,_,Z,by rwa[GB]
  .exists _,Z,p,_,Z,.inl<|SqL.of WB,Z,_,Z,?_;rwa[ZH,YM,Wn,show decide ((((Vf q).f+1:A5):A0)=1)=decide ((Vf q).f+1=1) from RW.X J]
  .exists _,Z,_,Z,_,Z,w,b,n,ps,ls,q,Z,vG,hG,JW,hl,wF q c1,ho,λs H' hs s'=>k s H' hs (SameX.same<|u1.l s')<|DM.same s'
  show Rc ?_;show GC (Vg q∈WI) ((Vf q).f+1=2) (λQ q'=>?_) (λQ q'=>?_) (λc1 c2=>?_) (λnB=>?_)
  .exists _,Z,_,WI.Q V.str,Z,.inr<|T.g_OF_A_NUMBER.choose_spec.2.sq H1,Z,al _,_,Z,by rwa[GB]
  .exists _,Z,p,_,Z,.inl<|SqL.of WB,Z,_,Z,?_;rwa[ZH,YM,Wn,show decide ((((Vf q).f+1:A5):A0)=2)=decide ((Vf q).f+1=2) from RW.X J]
  .let⟨z,hz⟩:=d6 q c1;let Uu:Vf q=[nT z]:=by rcases hz with rfl|rfl<;>rfl
   let hb:=Gy hG hz ho;exists _,Z,_,Z,_,Z,_,Z,p,_,1,.str<|nT z,Z,Z,SqL.of WB,Zv (n:=1) D (by rw[Uu];rfl),z,Z,hb.1,hb.2,λH2 s2=>?_;exists w,b,n,z,ps,ls,q,Z,vG.same s2,hG,s2.seq JW,hl,Rw,hz,ho,DM.same s2,λs H' hs sx tb=>k s H' hs ((SameX.same<|u1.l s2).l sx) tb
  show Rc ?_;show GC (Vg q∈WV) (1<(Vf q).f+1) (λQ q'=>?_) (λQ q'=>?_) (λc1 c2=>?_) (λnC=>?_)
  .exists _,Z,_,WV.Q V.str,Z,.inr<|T.g_OF_TIES.choose_spec.2.sq H1,Z,al _,_,Z,by rwa[GB]
  .exists _,Z,p,_,Z,.inl<|SqL.of WB,_,_,Z,Z,_,Z,?_;rwa[ZH,YM,show decide ((1:A0)<(((Vf q).f+1:A5):A0))=decide (1<(Vf q).f+1) from RW.X J]
  .let⟨U,hU⟩:=wD q c1;let Uu:Vf q=tieW U:=by rcases hU with rfl|rfl<;>rfl
   let(b1,b2):=wC hG hU ho;exists _,Z,_,Z,_,Z,_,Z,p,_,Z,SqL.of WB,λp2 VW=>?_;rw[Oj D];let e2:(TL<|Vg q::Vf q).drop (1:A0).j=TL (tieW U):=by rw[Uu];rfl
   rw[e2];let u2:=XM (o:=.lst<|TL<|tieW U) VW
   let Sd:(upd H1 p2<|.lst<|TL<|tieW U) p2=⇑(.lst<|TL<|tieW U):=XS;exists p2,U,Z,SqL.of Sd,J,b2,λr H3 s3 Qe=>?_;let QV:=u2.l s3
   exists w,r,n,ps,U,q,Z,vG.same QV,hG,SqL.of Qe,hU,ho,λs H' hs s'=>k s H' (hs ls) (SameX.same<|u1.l<|QV.l s')<|DM.same<|QV.l s'
  show Rc ?_;rcases d5 q with h|h|h
  .show absurd h nA
  .show absurd h nB
  .show absurd h nC
inductive sp_Desk_init(K:Ad)(CD C:A7):_
 |mk (x dx:A7) (T:Tr) (_:vs=[.ref x,.str (RA T.1 T.2.1 T.2.2)]) (_:H x=⇑(.ins CD dx [])) (_:rE T) (_:∀(d:A7)(z:V)(H':Hp),(∀b o,H b=⇑o->b≠x->H' b=⇑o)->H d=A8->DeskAt CD H' x d [z]->StageV C H' z T->Q .non H')
def aL:FnScope ["self","text"] ["self","text"] (Zc sZU):=TF CC
def aK(T:Txt K mg t):FnOk P w K mg base Xx 5 (t.a 2) (t.d 2) ["self","text"] (sp_Desk_init K t.A_Desk t.A_Web):=by
 show T.fZU.ok aL (λvs H Q E h=>?_) (λXG A outer s H vs Q E hr h=>?_)
 .let⟨x,dx,T',rfl,_⟩:=h;rfl
 .let⟨x,dx,T',rfl,hx,⟨g,hl,hT⟩,q⟩:=h;exists _,(XJ<|IF (pv 0) (UL<|XZ (XD (bj T) hr T.qZG Zt<|XZ (pv 1) XX) XX) Z),?_;let one:1<=sizeLine:=D
  exists _,Z,T'.1,T'.2.1,T'.2.2,Z,g,hl,hT,λtA w a H1 s1 ha0 Rx hW qG=>{one,λd hd=>?_};let u2:=XM (o:=.lst [.ref tA]) hd
  let s2:=s1.l u2;let qX:=s2 _ _ hx
  exists _,Z,x,_,dx,_,Z,qX,T.cl_Desk,T.n_Desk_stages,(by ext),?_;let nxd:x≠d:=λe=>by subst e;rw[s1 _ _ hx]at hd;cases hd
  let ntx:tA≠x:=λe=>by subst e;rw[s1 _ _ hx]at Rx;lia
  let nax:a≠x:=λe=>J;let hd2:(upd H1 d<|.lst [.ref tA]) d=⇑(.lst [.ref tA]):=XS
  show q d ↑tA _ (λb o e hb=>by rw[Za hb];show s2 _ _ e) (s1.free hd) {dx,XS,by rwa[Za (YX nxd)]} {tA,w,a,Z,by rw[Za ntx];show u2 _ _ Rx,?_,by rw[Za nax];show u2 _ _ qG};let(dw,tl,xs,g1,g2,g3):=hW.same u2;let nwx:w≠x:=λe=>by
   subst e;rw[qX]at g1
   have:=YF (λo=>match o with|some (HO.ins _ _ fs)=>fs.f|_=>0) g1
   show absurd this (by change ¬0=2;decide)
  let ntl:tl≠x:=λe=>by ext
  show{dw,tl,xs,by rw[Za nwx];show g1,by rw[Za ntl];show g2,g3.1,λi p e=>?_};let(v,e1,tt,e2,e3):=g3.2 i p e;exists v,e1,tt,e2,by rwa[Za (λz=>by ext)]
inductive spZV(K:Ad)(CD:A7):_
 |mk (x d t w a:A7) (zs:A6 V) (_:vs=[.ref x]) (_:DeskAt CD H x d (zs++[.ref t])) (_:H t=⇑(.tup [.ref w,.ref a])) (_:zs.f<=1000) (_:Q ↑w H)
def aJ:FnScope ["self"] ["self"] (Zc sZV):=TF CC
def aI(T:Txt K mg t):FnOk P w K mg base Xx 1 (t.a 3) (t.d 3) ["self"] (spZV K t.A_Desk):=by
 show T.fZV.ok aJ (λvs H Q E h=>?_) (λXG A outer s H vs Q E hr h=>?_)
 .let⟨x,d,tA,w,a,zs,rfl,_⟩:=h;rfl
 .let⟨x,d,tA,w,a,zs,rfl,⟨dx,hx,hd⟩,ht,hz,q⟩:=h;exists _,(XJ<|Zm<|ZB (ZA K) (ZB (Zg K) (ZQ K (pv 0) Z) (Zp PF (Zf (Zh K) pq T.n_len Boot.«len»<|XZ (ZQ K (pv 0) Z) XX) XN) λ_ _=>rfl) XN λ_ _=>rfl),?_;exists _,Z,x,_,dx,_,_,Z,hx,T.cl_Desk,T.n_Desk_stages,rD d,_,Z,x,_,dx,_,_,Z,hx,T.cl_Desk,T.n_Desk_stages,rD d,d,_,Z,.inl<|SqL.of hd,_,_,Z,Z,d,_,_,.ref tA,Z,Z,SqL.of hd,Zv (n:=zs.f) (by ext) AP,tA,_,0,.ref w,Z,Z,SqT.of ht,Z,q
inductive spZW(K:Ad)(CD:A7):_
 |mk (x d t w a:A7) (zs:A6 V) (_:vs=[.ref x]) (_:DeskAt CD H x d (zs++[.ref t])) (_:H t=⇑(.tup [.ref w,.ref a])) (_:zs.f<=1000) (_:Q ↑a H)
def aH:FnScope ["self"] ["self"] (Zc sZW):=TF CC
def aG(T:Txt K mg t):FnOk P w K mg base Xx 1 (t.a 4) (t.d 4) ["self"] (spZW K t.A_Desk):=by
 show T.fZW.ok aH (λvs H Q E h=>?_) (λXG A outer s H vs Q E hr h=>?_)
 .let⟨x,d,tA,w,a,zs,rfl,_⟩:=h;rfl
 .let⟨x,d,tA,w,a,zs,rfl,⟨dx,hx,hd⟩,ht,hz,q⟩:=h;exists _,(XJ<|Zm<|ZB (ZA K) (ZB (Zg K) (ZQ K (pv 0) Z) (Zp PF (Zf (Zh K) pq T.n_len Boot.«len»<|XZ (ZQ K (pv 0) Z) XX) XN) λ_ _=>rfl) XN λ_ _=>rfl),?_;exists _,Z,x,_,dx,_,_,Z,hx,T.cl_Desk,T.n_Desk_stages,rD d,_,Z,x,_,dx,_,_,Z,hx,T.cl_Desk,T.n_Desk_stages,rD d,d,_,Z,.inl<|SqL.of hd,_,_,Z,Z,d,_,_,.ref tA,Z,Z,SqL.of hd,Zv (n:=zs.f) (by ext) AP,tA,_,1,.ref a,Z,Z,SqT.of ht,Z,q
inductive spZX(K:Ad)(CD C Pt:A7):_
 |mk (x d:A7) (zs:A6 V) (z:V) (T:Tr) (q:Ask) (_:vs=[.ref x,.str (NQ q)]) (_:DeskAt CD H x d (zs++[z])) (_:StageV C H z T) (_:rE T) (_:zs.f<=1000) (_:LF T.1 T.2.1 q) (_:Ws H Pt) (_:∀s H',Qi T.1 T.2.1 T.2.2 q s->SameX Pt H H'->Ws H' Pt->Q (.str s) H')
def aF:FnScope ["self","line"] ["self","line"] (Zc sZX):=TF CC
def Qa(T:Txt K mg t)(hB:Te K mg base (t.d 1) Pt):FnOk P w K mg base Xx 12 (t.a 5) (t.d 5) ["self","line"] (spZX K t.A_Desk t.A_Web Pt):=by
 show T.fZX.ok aF (λvs H Q E h=>?_) (λXG A outer s H vs Q E hr h=>?_)
 .let⟨x,d,zs,z,T',q,rfl,_⟩:=h;rfl
 .let⟨x,d,zs,z,T',q,rfl,hD,⟨tA,w,a,rfl,ht,hW,hA⟩,⟨g,hl,hT⟩,hz,ho,aE,k⟩:=h;exists _,(XJ<|Zm<|XD (aM T hB) hr T.qZT Zt<|XZ (ZC7 (pv 0) T.cl_Desk T.me_Desk_web_now (aI T) (hr.mono D) T.bZV .nil Zt)<|XZ (ZC7 (pv 0) T.cl_Desk T.me_Desk_lengths_now (aG T) (hr.mono D) T.bZW .nil Zt)<|XZ (pv 1) XX),?_;let(dx,hx,hd):=id hD;exists _,Z,x,dx,_,Z,hx,pq,x,d,tA,w,a,zs,Z,hD,ht,hz,_,Z,x,dx,_,Z,hx,pq,x,d,tA,w,a,zs,Z,hD,ht,hz,_,Z,w,a,T'.1,T'.2.1,T'.2.2,q,Z,hW,g,SqL.of hA,hl,hT,ho,aE,k
inductive spZY(K:Ad):_
 |mk (a ns k:_) (_:vs=[.ref a,.int k]) (_:SqL K H a (IL ns)) (_:0<=k) (_:∀r:A0,0<=r->r<10^60->Q (.int r) H)
def FP(T:Txt K mg t):Xp P w base Xx T.qZY 1 (spZY K):=by
 show T.qZY.okI ["script","k"] CC ⋯
 .let⟨a,ns,k,rfl,hS,hk,q⟩:=h;show⟨_,(XR (WO (Zk OK (pv 1) (Zf (Zh K) pq T.n_len Boot.«len»<|XZ (pv 0) XX)<|Zq _)
   (XJ<|Zm<|Zp ZR (ZB (Zg K) (pv 0) (pv 1) λ_ _=>rfl)<|Zp RQ XN XN)
   Zn)
   (XJ<|Zm XN)),?_⟩
  exists _,Z,_,Z,a,_,Z,.inl hS,_,_,Z,Z,_,Z,?_;show BE (λhc=>?_) (λ_=>?_)
  .obtain⟨z,hz⟩:∃z,ns[k.j]?=⇑z:={_,Xv<|by ext};exists _,Z,_,Z,a,_,k,.int z,Z,Z,hS,Zv (n:=k.j) J (by rw[Yo,hz];rfl),_,_,Z,Z,⟨D,D,D⟩,_,_,Z,Z,?_,?_
   .ext
   grind
  .show q 0 D D
inductive spZZ:_
 |mk (c k:_) (_:vs=[.int c,.int k]) (_:∀r:A0,0<=r->r<2147483587->Q (.int r) H)
def vo(T:Txt K mg t):Xp P w base Xx T.qZZ 1 spZZ:=by
 show T.qZZ.okI ["cell","k","first","second"] CC ⋯
 .let⟨c,k,rfl,q⟩:=h;show⟨_,(XR (Zd 2<|Zp ZR (Zp UM (Zp Tv (Zp Tv (pv 0)<|Zp UM XN<|pv 1) XN) XN) XN)
   (XR (Zd 3<|Zp ZR (Zp Tv (Zp Tv (Zp UM (pv 2)<|pv 2)<|Zp UM XN<|pv 1) XN) XN)
   (XJ<|Zm<|Zp RR (Zp ZR (Zp UM (pv 3)<|pv 3) XN) XN))),?_⟩
  exists _,Z,_,Z,_,_,Z,Z,.inl ⟨D,D⟩,_,_,Z,Z,_,_,Z,Z,_,_,Z,Z,.inr ⟨D,D⟩,_,_,Z,Z,(by ext),?_;exists _,Z,_,Z,_,_,Z,Z,.inl ⟨B,B⟩,_,Z,_,_,Z,Z,.inl ⟨D,D⟩,_,_,Z,Z,_,_,Z,Z,_,_,Z,Z,(by ext),?_;exists _,Z,_,Z,_,_,Z,Z,.inl ⟨B,B⟩,_,_,Z,Z,(by ext),_,_,Z,Z,⟨D,D⟩,?_;grind
def aB{p:A0->Prop}{l:Ac}{x:A0}(h:∀z∈l,p z)(hx:p x):∀z∈l++[x],p z:=λz hz=>by grind
inductive spZ01(K:Ad):_
 |mk (a:A7) (ns:Ac) (st c:A5) (way:A0) (_:vs=[.ref a,.int st,.int c,.int way]) (_:SqL K H a (IL ns)) (_:ns.f<=63) (_:st<=63) (_:c<=100) (_:∀l ds H',Same H H'->H l=A8->H' l=⇑(.lst<|IL ds)->ds.f=c->(∀z∈ds,0<=z)->Q ↑l H')
def vm:FnScope ["script","start","count","way","total","folded","k","at","told"] ["script","start","count","way"] (Zc (top 110)):=TF CC
def az(T:Txt K mg t):Xp P w base Xx T.qZ01 2 (spZ01 K):=by
 show T.qZ01.okI ["script","start","count","way","total","folded","k","at","told"] CC ⋯
 .let⟨a,ns,st,c,way,rfl,hS,hn,Wo,hc,q⟩:=h;show⟨_,(XR (Zd 4<|Zp ZR (Zf (OA K Z) pq T.n_sum Boot.«sum»<|XZ (UW Z (sc0:=Zc<|top 110) (N0:=["script","start","count","way","total","folded","k","at","told"]) (N':=["cell"]) (o:=1) (fr:=[]) ⟨Z,CC,CC,CC,Z,CC⟩ (ZE K<|VH (Vr K) (pv 0) (RO<|pv 1) QF) (Zu D) (λ_ _ _ _=>(Zb 0)) (λ_ _ _ _=>ZI) λ_ _ _ _=>(Zp ZR (pv 0)<|Zp RQ XN XN)) XX)<|Zp RQ XN XN)
   (XR (Uh (i:=5) Z vm.nd Z Z (sc0:=Zc<|top 110) (N0:=["script","start","count","way","total","folded","k","at","told"]) (N':=["k"]) (o:=1) (fr:=[]) ⟨Z,CC,CC,CC,Z,CC⟩ (ZO Z T.n_range<|XZ (pv 2) XX) (Zu D) (λ_ _ _ _=>(Zb 0)) (λ_ _ _ _=>ZI) λ_ _ _ _=>(Zp Tv (Zp UM XN<|pv 0) XN))
   (XR (WU YD Z (ZS5 Z T.n_range<|XZ (pv 1)<|XZ (Zf (Zh K) pq T.n_len Boot.«len»<|XZ (pv 0) XX) XX) (Zb 6)
   (XR (Zd 7<|Zp ZR (pv 6)<|Zf (tR Z) pq T.n_max Boot.«max»<|XZ XN<|XZ (pv 2) XX)
   (XJ (WO (Zk QG (pv 2) XN<|Zq _)
   (XJ<|EW (Zp ZR (Zp Tv (Zp UM (ZB (Zg K) (pv 5) (pv 7) λ_ _=>rfl) XN)<|ZB (Zg K) (pv 0) (pv 6) λ_ _=>rfl)<|Zp RQ XN XN)<|t5 (pv 5) (pv 7) KH)
   Zn))))
   (XR (Zd 8<|UL XX)
   (XR (WU YD Z (ZO Z T.n_range<|XZ (pv 2) XX) (Zb 6)
   (XJ (WO (PW.pt<|EY (Zk TU (pv 3) XN<|Zq _)<|EZ<|Zk QG (pv 4) XN<|Zq _)
   (XR (ZV<|WT K YH Us Ut Ul (pv 8)<|XZ (Zp ZR (pv 4) XN) XX)
   (XJ<|Zd 4<|Zp RR (pv 4) XN))
   (XJ<|ZV<|WT K YH Us Ut Ul (pv 8)<|XZ (XD (vo T) hr T.qZZ Zt<|XZ (ZB (Zg K) (pv 5) (pv 6) λ_ _=>rfl)<|XZ (pv 6) XX) XX))))
   (XJ<|Zm<|pv 8)))))),?_⟩
  exists _,Z,_,Z,(st:A0),Z,a,IL ns,Z,hS,λl1 Qg=>?_;let s1:Same H (upd H l1<|.lst<|Xl (IL ns) ⇑(st:A0) none):=XM Qg
  obtain⟨ms,qO,sV⟩:∃ms:Ac,Xl (IL ns) ⇑(st:A0) none=IL ms/\ms.f<=63:=by
   exists (ns.drop<|HT.Uy (IL ns).f 0 ⇑(st:A0)).R (HT.Uy (IL ns).f (IL ns).f none-HT.Uy (IL ns).f 0 ⇑(st:A0)),?_,?_
   .unfold Xl;rw[mH,Bq]
   .rw[Yx,Jq];lia
  show⟨l1,Z,{_,SqL.of XS},SG (K:=K) (a:=l1) (xs:=Xl (IL ns) ⇑(st:A0) none) (λi ys H2=>H2=upd H l1 (.lst<|Xl (IL ns) ⇑(st:A0) none)/\∃rs:Ac,ys=IL rs/\rs.f=i/\i<=ms.f) {Z,[],Z,Z,XC _} (by rw[qO,Xd];show Zl J)
   (λi ys H2 _ zz=>by let(e,rs,ey,el,_):=zz;show{e▸SqL.of XS,by ext}) ?_ ?_⟩
  .rintro i x ys H2 hi ⟨rfl,rs,rfl,el,TN⟩ S Xt;rw[qO]at hi;let(z,rfl,hz):=Vj hi;let Xu:=(Xr.Y hz).1
   show QC ?_;exists _,Z,_,_,Z,Z,⟨D,D,D⟩,_,_,Z,Z,(by ext),?_;show Xt _ _ {Z,rs++[z%10^60],?_,?_,Xu}
   .show(RL _ _).symm
   ext
  .rintro ys H2 ⟨rfl,rs,rfl,el,_⟩ l2 Ri;let s2:=ZD (o:=.lst<|IL rs) s1 Ri
   exists l2,rs,Z,SqL.of XS,_,_,Z,Z,⟨D,D,D⟩,_,_,Z,Z,(by ext),?_;let t0:0<=rs.sum%(10:A0)^((60:A0).j):=OY _ D
   show⟨_,Z,(c:A0),Z,by ext,J,EI (lo:=0) (n:=((c:A0)).j) (λi ys H3=>H3=upd (upd H l1<|.lst<|Xl (IL ns) ⇑(st:A0) none) l2 (.lst<|IL rs)/\∃fs:Ac,ys=IL fs/\fs.f=i) {Z,[],Z,Z} (Zl J)
    (λi ys H3 _ zz=>by let(_,fs,e,el):=zz;ext) ?_ ?_⟩
   .rintro i ys H3 hi ⟨rfl,fs,rfl,DK⟩ S Xt;show QC ?_;exists _,Z,_,_,Z,Z,.inl ⟨D,D⟩,_,_,Z,Z,?_;show Xt _ _ {Z,fs++[7*(0+(i:A0))+5],?_,?_}
    .show(RL _ _).symm
    .rw[Ya,DK];rfl
   .rintro ys H3 ⟨rfl,fs,rfl,DK⟩ l3 NM;let s3:=ZD (o:=.lst<|IL fs) s2 NM
    let aw:H l3=A8:=s2.free NM;exists _,Z,_,Z,a,_,Z,.inl<|s3.seq hS,(st:A0),((IL ns).f:A0),Z,{by ext,J,by ext,by rw[Xd];lia},?_;show UN (lo:=(st:A0)) (n:=(((IL ns).f:A0)-(st:A0)).j) (λj σ H4=>∃fs v6 v7,σ=[some ↑a,some<|.int st,some<|.int c,some<|.int way,some<|.int<|rs.sum%(10:A0)^((60:A0).j),some<|.ref l3,v6,v7,none]/\Same H H4/\H4 l3=⇑(.lst<|IL fs)/\fs.f=c)
     {fs,none,none,Z,s3,XS,by rw[DK];simp} ?_ ?_
    .rintro j σ H4 hj ⟨gs,v6,v7,rfl,s4,h4,eg⟩;rw[Xd]at hj;exists _,Z,_,Z,_,_,Z,_,_,Z,Z,?_,?_
     .lia
     .exists _,Z,_,_,Z,Z,_,Z,?_;show Xk (λGv=>?_) (λGv=>?_)
      .let av:(if (c:A0)>1 then (c:A0) else 1)=(c:A0):=by split<;>lia
       let at0:0<=((st:A0)+(j:A0))%(c:A0):=OY _ J;let EB:((st:A0)+(j:A0))%(c:A0)<(c:A0):=RY _ Gv
       rw[av];generalize vk:((st:A0)+(j:A0))%(c:A0)=at' at *;obtain⟨f,hf⟩:∃f,gs[at'.j]?=⇑f:={_,Xv<|by ext};obtain⟨z,hz⟩:∃z,ns[st+j]?=⇑z:={_,Xv J};exists _,Z,_,Z,l3,_,_,_,Z,Z,SqL.of h4,Zv (n:=at'.j) J (by rw[Yo,hf];rfl),_,_,Z,Z,.inr ⟨D,D⟩,_,Z,_,Z,a,_,_,_,Z,Z,s4.seq hS,Zv (n:=st+j) (by ext) (by rw[Yo,hz];rfl),_,_,Z,Z,_,_,Z,Z,⟨D,D,D⟩,_,_,Z,Z,(by ext),?_;exists _,Z,_,Z,l3,_,_,at'.j,Z,Z,h4,?_,?_
       .try rw[vk]
        unfold QE
        ext
       .show{gs.set at'.j<|(f*31+z)%(10:A0)^((60:A0).j),_,_,Z,Zr aw s4,?_,by ext};rw[XS,Ig]
      .exists gs,_,_,Z,s4,h4,eg
    .rintro σ H4 ⟨gs,v6,v7,rfl,s4,h4,eg⟩;exists XC _,λl5 Qc=>?_;let Rv:H l5=A8:=s4.free Qc
     let DJ:l3≠l5:=Ze h4 Qc;show⟨_,Z,(c:A0),Z,by ext,J,UN (lo:=0) (n:=((c:A0)).j) (λj σ H6=>∃vj ds v6 v7,σ=[some ↑a,some<|.int st,some<|.int c,some<|.int way,some<|.int vj,some<|.ref l3,v6,v7,some ↑l5]/\Same H H6/\H6 l3=⇑(.lst<|IL gs)/\H6 l5=⇑(.lst<|IL ds)/\ds.f=j/\(∀z∈ds,0<=z)/\0<=vj)
      {_,[],_,_,Z,ZD s4 Qc,by rw[Za DJ];show h4,XS,Z,λz hz=>(by cases hz),t0} ?_ ?_⟩
     .rintro j σ H6 hj ⟨vj,ds,w6,w7,rfl,s6,DI,Jy,edl,Mu,FO⟩;let app:∀r:A0,(upd H6 l5<|.lst<|IL ds++[.int r]) l5=⇑(.lst<|IL<|ds++[r]):=λr=>by rw[XS,RL]
      let FN:(IL ds).f<sizeLine:=by rw[Xd];show Zl J
      obtain⟨f,hf⟩:∃f,gs[j]?=⇑f:={_,Xv<|by ext};exists _,Z,Z,_,Z,?_;show Xk (λhw=>?_) (λhw=>?_)
      .exists _,Z,_,_,Z,Z,_,Z,?_;show Xk (λQU=>?_) (λQU=>?_)
       .exists _,Z,.inl {Z,_,SqL.of Jy},_,Z,_,_,Z,Z,(by ext),l5,_,_,Z,Z,Jy,FN,?_;exists _,Z,_,_,Z,Z,⟨D,D⟩,?_;show{_,ds++[vj%210],_,_,Z,Zr Rv s6,by rw[Za DJ];show DI,app _,by ext,aB Mu<|OY _ D,?_};lia
       .exists _,Z,.inl {Z,_,SqL.of Jy},_,Z,_,Z,l3,_,_,_,Z,Z,SqL.of DI,Zv (n:=j) (by ext) (by rw[Yo,hf];rfl),_,Z,_,_,Z,λr r0 r1=>?_;exists l5,_,_,Z,Z,Jy,FN,?_;exists _,ds++[r],_,_,Z,Zr Rv s6,by rw[Za DJ];show DI,app _,by ext,aB Mu r0,FO
      .exists _,Z,.inl {Z,_,SqL.of Jy},_,Z,_,Z,l3,_,_,_,Z,Z,SqL.of DI,Zv (n:=j) J (by rw[Yo,hf];rfl),_,Z,_,_,Z,λr r0 r1=>?_;exists l5,_,_,Z,Z,Jy,FN,?_;exists _,ds++[r],_,_,Z,Zr Rv s6,by rw[Za DJ];show DI,app _,by ext,aB Mu r0,FO
     .rintro σ H6 ⟨vj,ds,w6,w7,rfl,s6,DI,Jy,edl,Mu,FO⟩;exists _,Z,q l5 ds H6 s6 Rv Jy (by ext) Mu
def PairsV.good{H:Hp}{xs:A6 V}{ps:Aa}{v:V}{p:A0×A0}{n:A0}(h:∀p∈ps,0<=p.1/\p.1<n/\0<=p.2/\p.2<n)(hp:0<=p.1/\p.1<n/\0<=p.2/\p.2<n):∀q∈ps++[p],0<=q.1/\q.1<n/\0<=q.2/\q.2<n:=λq hq=>by
 rcases Xi.Y hq with z|z
 .show h q z
 .rw[Xn.Y z];show hp
inductive spZ11(K:Ad):_
 |mk (a ds n hang:_) (_:vs=[.ref a,.int n,.bl hang]) (_:SqL K H a (IL ds)) (_:ds.f<=100) (_:(∀z∈ds,0<=z)) (_:1<=n) (_:n<=1000) (_:∀l xs ps H',Same H H'->H l=A8->H' l=⇑(.lst xs)->PairsV H' xs ps->ps.f=ds.f->(∀p∈ps,0<=p.1/\p.1<n/\0<=p.2/\p.2<n)->Q ↑l H')
def au(T:Txt K mg t):Xp P w base Xx T.qZ11 1 (spZ11 K):=by
 show T.qZ11.okI ["draws","places","hang","ties","k","one","other","ends","turn"] CC ⋯
 .let⟨a,ds,n,hang,rfl,hS,En,Mu,n1,n2,q⟩:=h;show⟨_,(XR (Zd 3<|UL XX)
   (XR (WU YD Z (ZO Z T.n_range<|XZ (Zf (Zh K) pq T.n_len Boot.«len»<|XZ (pv 0) XX) XX) (Zb 4)
   (XR (Zd 5<|Zp ZR (ZB (Zg K) (pv 0) (pv 4) λ_ _=>rfl)<|pv 1)
   (XR (Zd 6<|Zp ZR (Zp RR (ZB (Zg K) (pv 0) (pv 4) λ_ _=>rfl)<|pv 1)<|pv 1)
   (XR (WO (PW.pt<|EY (MK<|pv 2)<|EZ<|Zk OK (pv 4) (Zp PF (pv 1) XN)<|Zq _)
   (XR (Zd 7<|ZZ<|XZ (Zp ZR (ZB (Zg K) (pv 0) (pv 4) λ_ _=>rfl)<|Zp Tv (pv 4) XN)<|XZ (Zp Tv (pv 4) XN) XX)
   (XR (Zd 5<|ZB (ZA K) (pv 7) (Zp ZR (Zp RR (ZB (Zg K) (pv 0) (pv 4) λ_ _=>rfl) XN) XN) λ_ _=>rfl)
   (XJ<|Zd 6<|ZB (ZA K) (pv 7) (Zp PF XN<|Zp ZR (Zp RR (ZB (Zg K) (pv 0) (pv 4) λ_ _=>rfl) XN) XN) λ_ _=>rfl)))
   Zn)
   (XJ<|ZV<|WT K YH Us Ut Ul (pv 3)<|XZ (ZZ<|XZ (pv 5)<|XZ (pv 6) XX) XX)))))
   (XR (Zd 8<|Zp ZR (Zf (OA K Z) pq T.n_sum Boot.«sum»<|XZ (pv 0) XX)<|Zf (tR Z) pq T.n_max Boot.«max»<|XZ XN<|XZ (Zf (Zh K) pq T.n_len Boot.«len»<|XZ (pv 3) XX) XX)
   (XJ<|Zm<|Zp tJ (VH (Vr K) (pv 3) (RO<|pv 8) QF)<|VH (Vr K) (pv 3) QF<|RO<|pv 8)))),?_⟩
  exists XC _,λl hl=>?_;show⟨_,Z,a,_,Z,.inl<|(XM hl).seq hS,_,Z,by ext,B,UN (lo:=0) (n:=((IL ds).f:A0).j) (λi σ H2=>∃xs ps v4 v5 v6 v7,σ=[some ↑a,some<|.int n,some<|.bl hang,some<|.ref l,v4,v5,v6,v7,none]/\Same H H2/\H2 l=⇑(.lst xs)/\PairsV H2 xs ps/\ps.f=i/\∀p∈ps,0<=p.1/\p.1<n/\0<=p.2/\p.2<n)
   {[],[],none,none,none,none,Z,XM hl,XS,PairsV.nil,Z,λp hp=>(by cases hp)} ?_ ?_⟩
  .rintro i σ H2 hi ⟨xs,ps,v4,v5,v6,v7,rfl,s2,h2,hP,DV,hb⟩;let Wu:i<ds.f:=by rw[Xd]at hi;ext
   obtain⟨d,hd⟩:∃d,ds[i]?=⇑d:={_,Xv Wu};let iD:VQ (IL ds) (0+(i:A0))=⇑(.int d):=Zv (n:=i) J (SH hd)
   let xl:xs.f<sizeLine:=Zl (by rw[hP.1];lia);let put:∀x y H3 r,Same H2 H3->H3 r=A8->0<=x->x<n->0<=y->y<n->∀u5 u6 u7:Option V,∃xs' aq v4 v5 v6 v7,
     ([some ↑a,some<|.int n,some<|.bl hang,some<|.ref l,some<|.int<|0+(i:A0),u5,u6,u7,none]:A6 (Option V))=[some ↑a,some<|.int n,some<|.bl hang,some<|.ref l,v4,v5,v6,v7,none]/\
     Same H (upd (upd H3 r<|.tup [.int x,.int y]) l<|.lst<|xs++[.ref r])/\(upd (upd H3 r<|.tup [.int x,.int y]) l<|.lst<|xs++[.ref r]) l=⇑(.lst xs')/\PairsV (upd (upd H3 r<|.tup [.int x,.int y]) l<|.lst<|xs++[.ref r]) xs' aq/\aq.f=i+1/\∀p∈aq,0<=p.1/\p.1<n/\0<=p.2/\p.2<n:=by
    intro x y H3 r s3 hr x0 x1 y0 y1 u5 u6 u7;let h3:=s3 _ _ h2
    let s4:=ZD (o:=.tup [.int x,.int y]) s3 hr;let nlr:l≠r:=Ze h3 hr
    show{xs++[.ref r],ps++[(x,y)],_,_,_,_,Z,Zr hl<|s2.l s4,XS,?_,by rw[Ya,DV];rfl,PairsV.good (H:=H) (xs:=[]) (v:=.non) hb ⟨x0,x1,y0,y1⟩};let qF:PairsV (upd H3 r<|.tup [.int x,.int y]) (xs++[.ref r]) (ps++[(x,y)]):=(hP.same s4).snoc ⟨r,Z,XS⟩
    exists qF.1,λj p e=>?_;let(v,e1,tt,e2,e3):=qF.2 j p e;exists v,e1,tt,e2,by rwa[Za (RS e3 (s4 _ _ h2) (λz=>nomatch z))]
   exists _,Z,_,Z,a,_,_,_,Z,Z,s2.seq hS,iD,_,Z,_,_,Z,Z,J,?_;exists _,Z,_,Z,a,_,_,_,Z,Z,s2.seq hS,iD,_,Z,_,_,Z,Z,⟨B,J⟩,_,Z,_,_,Z,Z,J,?_;let o0:0<=d%n:=OY _ J
   let o1:d%n<n:=RY _ B;let q0:0<=d/n%n:=OY _ J
   let q1:d/n%n<n:=RY _ B;exists _,Z,_,Z,?_;show mG (λhh=>?_) (λhh=>?_)
   .exists _,Z,_,Z,_,_,Z,Z,_,_,Z,Z,_,Z,?_;show Xk (λhk=>?_) (λhk=>?_)
    .let k1:(0:A0)<0+(i:A0)+1:=by ext
     let r0:0<=d%(0+(i:A0)+1):=OY _ J;let r1:d%(0+(i:A0)+1)<0+(i:A0)+1:=RY _ k1
     exists _,Z,_,Z,a,_,_,_,Z,Z,s2.seq hS,iD,_,Z,_,_,Z,Z,_,_,Z,Z,k1,_,Z,_,_,Z,Z,(by change 2<=sizeLine;decide),λe he=>?_;let se:=XM (o:=.tup [.int (d%(0+(i:A0)+1)),.int (0+(i:A0)+1)]) he
     obtain⟨x,hx,x0,x1⟩:∃x:A0,VQ ([.int (d%(0+(i:A0)+1)),.int (0+(i:A0)+1)]:A6 V) (d/105%2)=⇑(.int x)/\0<=x/\x<n:=by
      rcases(by lia:d/105%2=0\/d/105%2=1) with e|e
      .rw[e];exists _,Z,r0,J
      .rw[e];exists _,Z,J,J
     obtain⟨y,hy,y0,y1⟩:∃y:A0,VQ ([.int (d%(0+(i:A0)+1)),.int (0+(i:A0)+1)]:A6 V) (1-d/105%2)=⇑(.int y)/\0<=y/\y<n:=by
      rcases(by lia:d/105%2=0\/d/105%2=1) with e|e
      .rw[e];exists _,Z,J,J
      .rw[e];exists _,Z,r0,J
     let c2:Ck d 105:=⟨D,D⟩;exists _,Z,_,Z,_,Z,a,_,_,_,Z,Z,(s2.l se).seq hS,iD,_,_,Z,Z,c2,_,_,Z,Z,J,e,_,_,_,Z,Z,SqT.of XS,hx,?_;exists _,Z,_,Z,_,Z,a,_,_,_,Z,Z,(s2.l se).seq hS,iD,_,_,Z,Z,c2,_,_,Z,Z,J,_,_,Z,Z,e,_,_,_,Z,Z,SqT.of XS,hy,?_;exists _,Z,.inl {Z,_,SqL.of<|se _ _ h2},_,Z,_,Z,(by change 2<=sizeLine;decide),λr hr=>?_;exists l,xs,_,Z,Z,(ZD se hr) _ _ h2,xl,put x y _ r se hr x0 x1 y0 y1 _ _ _
    .exists _,Z,.inl {Z,_,SqL.of h2},_,Z,_,Z,(by change 2<=sizeLine;decide),λr hr=>?_;exists l,xs,_,Z,Z,(XM hr) _ _ h2,xl,put _ _ _ r (Same.refl _) hr o0 o1 q0 q1 _ _ _
   .exists _,Z,.inl {Z,_,SqL.of h2},_,Z,_,Z,(by change 2<=sizeLine;decide),λr hr=>?_;exists l,xs,_,Z,Z,(XM hr) _ _ h2,xl,put _ _ _ r (Same.refl _) hr o0 o1 q0 q1 _ _ _
  .rintro σ H2 ⟨xs,ps,v4,v5,v6,v7,rfl,s2,h2,hP,DV,hb⟩;let DV:ps.f=ds.f:=by rw[DV,Xd];simp
   exists _,Z,a,ds,Z,s2.seq hS,_,Z,l,xs,Z,.inl<|SqL.of h2,_,_,Z,_,_,Z,Z,?_,?_
   .lia
   .generalize hT:ds.sum%(if xs⁻¹>1 then xs⁻¹ else 1)=T0;let T1:0<=T0:=by rw[<-hT];show OY _ J
    let T2:T0.j<=xs.f:=by
     have:T0<(if xs⁻¹>1 then xs⁻¹ else 1):=by rw[<-hT];show RY _ J
     split at this<;>grind
    let e1:Xl xs ⇑T0 none=xs.drop T0.j:=mC T1 T2;let e2:Xl xs none ⇑T0=xs.R T0.j:=mz T1 T2
    exists _,rfl,_,rfl,T0,(by first|rfl|show YF V.int hT),l,xs,rfl,SqL.of h2,λr1 Uu=>?_
    let s3:=XM (o:=.lst<|Xl xs ⇑T0 none) Uu;exists _,rfl,_,rfl,T0,(by first|rfl|show YF V.int hT),l,xs,rfl,SqL.of<|s3 _ _ h2,λr2 VS=>?_
    let s4:=ZD (o:=.lst<|Xl xs none<|some T0) s3 VS;let n12:r1≠r2:=Ze XS VS
    exists r1,r2,_,_,Z,Z,by rw[Za n12,XS],XS,?_,λr hr=>?_
    .rw[e1,e2,Jq,Yx];show Mr (by rw[hP.1];grind)
    .let s5:=ZD (o:=.lst<|Xl xs ⇑T0 none++Xl xs none ⇑T0) s4 hr;show q r _ (ps.drop T0.j++ps.R T0.j) _ (s2.l s5) ((s2.l s4).free hr) XS ?_ ?_ λp hp=>?_
     .let z:=((hP.same s5).drop T0.j).app ((hP.same s5).R T0.j);lia
     .grind
     .rcases Xi.Y hp with z|z
      .show hb p (List.mem_of_mem_drop z)
      .show hb p (Pd z)
inductive spZ21(K:Ad):_
 |mk (a ns most count:_) (_:vs=[.ref a,.int most,.int count]) (_:SqL K H a (IL ns)) (_:ns.f<=63) (_:1<=most) (_:most<=14) (_:0<=count) (_:count<=30) (_:∀r l n xs ps H',Same H H'->H' r=⇑(.tup [.int n,.ref l])->H l=A8->H' l=⇑(.lst xs)->PairsV H' xs ps->Zz n ps->n<=most->ps⁻¹<=count->Q ↑r H')
def ao(T:Txt K mg t):Xp P w base Xx T.qZ21 3 (spZ21 K):=by
 show T.qZ21.okI ["script","most","count","head","places","many","draws"] CC ⋯
 .let⟨a,ns,most,count,rfl,hS,hn,m1,m2,c1,c2,q⟩:=h;show⟨_,(XR (Zd 3<|XD (FP T) hr T.qZY Zt<|XZ (pv 0)<|XZ XN XX)
   (XR (Zd 4<|Zp Tv XN<|Zp ZR (pv 3)<|pv 1)
   (XR (Zd 5<|Zf (II Z) pq T.n_min Boot.«min»<|XZ (pv 2)<|XZ (Zp Tv (Zp ZR (Zp RR (pv 3)<|pv 1)<|Zp Tv (pv 2) XN)<|Zp UM (Zp ZR (Zp RR (pv 3) XN) XN)<|pv 4) XX)
   (XR (Zd 6<|XD (az T) hr T.qZ01 Zt<|XZ (pv 0)<|XZ XN<|XZ (pv 5)<|XZ (Zp ZR (Zp RR (pv 3) XN) XN) XX)
   (XJ<|Zm<|ZZ<|XZ (pv 4)<|XZ (XD (au T) hr T.qZ11 Zt<|XZ (pv 6)<|XZ (pv 4)<|XZ (KO QG (Zp ZR (Zp RR (pv 3) XN) XN) XN<|Zq _) XX) XX))))),?_⟩
  exists _,Z,a,ns,0,Z,hS,D,λhd h0 h1=>?_;let n0:0<=hd%most:=OY _ J
  let n1:hd%most<most:=RY _ J;exists _,Z,_,Z,_,_,Z,Z,J,_,_,Z,Z,?_;exists _,Z,_,Z,_,Z,_,_,Z,Z,⟨J,J⟩,_,Z,_,_,Z,Z,_,_,Z,Z,J,_,Z,_,_,Z,Z,⟨D,D⟩,_,_,Z,Z,(by ext),_,Z,_,_,Z,Z,.inr ⟨J,J⟩,_,_,Z,Z,_,_,Z,?_;let e0:0<=hd/most%(count+1):=OY _ J
  let f0:0<=hd/97%2:=OY _ D;let g0:0<=hd/97%2*(1+hd%most):=Int.mul_nonneg f0 J
  obtain⟨c,hc⟩:∃c:A5,(if hd/most%(count+1)+hd/97%2*(1+hd%most)<count then hd/most%(count+1)+hd/97%2*(1+hd%most) else count)=(c:A0):=
   {(if hd/most%(count+1)+hd/97%2*(1+hd%most)<count then hd/most%(count+1)+hd/97%2*(1+hd%most) else count).j,J}
  let k1:(c:A0)<=count:=by rw[<-hc];split<;>grind
  exists _,Z,_,Z,_,Z,_,_,Z,Z,⟨D,D⟩,_,_,Z,Z,J,a,ns,1,c,_,YF (λz:A0=>[V.ref a,V.int 1,V.int z,V.int (hd/194%2)]) hc,hS,hn,D,J,λl ds H1 s1 Pk Qg edl Mu=>?_;exists _,Z,_,Z,_,Z,_,Z,_,_,Z,Z,⟨D,D⟩,_,_,Z,Z,(by ext),_,_,Z,Z,l,ds,_,_,Z,SqL.of Qg,J,Mu,J,J,λl2 xs ps H2 s2 ak aj hP ePl hb=>?_;exists (by change 2<=sizeLine;decide),λr hr=>?_;let s3:=XM (o:=.tup [.int (1+hd%most),.ref l2]) hr
  show q r l2 (1+hd%most) xs ps _ ((s1.l s2).l s3) XS (s1.free ak) (s3 _ _ aj) (hP.same s3) ⟨J,J,J,hb⟩ J (by ext)
inductive spZ31:_
 |mk (c:A0) (m:A5) (_:vs=[.int c,.int m]) (_:m<=1000) (_:∀(l:A7)(ns:Ac)(H':Hp),IsSet m ns->Same H H'->H l=A8->H' l=⇑(.lst<|IL ns)->Q ↑l H')
def ai(T:Txt K mg t):Xp P w base Xx T.qZ31 1 spZ31:=by
 show T.qZ31.okI ["cell","count","some","k"] CC ⋯
 .let⟨c,m,rfl,hm,q⟩:=h;show⟨_,(XR (Zd 2<|UL XX)
   (XR (WU YD Z (ZO Z T.n_range<|XZ (pv 1) XX) (Zb 3)
   (XR (WO (Zk TU (Zp ZR (pv 0) XN) XN<|Zq _)
   (XJ<|ZV<|WT K YH Us Ut Ul (pv 2)<|XZ (pv 3) XX)
   Zn)
   (XJ<|Zd 0<|Zp RR (pv 0) XN)))
   (XJ<|Zm<|pv 2))),?_⟩
  exists XC _,λl hl=>?_;show⟨_,Z,m,Z,by ext,J,UN (lo:=0) (n:=(m:A0).j) (λi σ H2=>∃(c:A0)(ns:Ac)(v:Option V),σ=[⇑(.int c),some<|.int m,some<|.ref l,v]/\Same H H2/\H2 l=⇑(.lst<|IL ns)/\IsSet i ns)
   {c,[],none,Z,XM hl,XS,IsSet.nil 0} ?_ ?_⟩
  .rintro i σ H2 hi ⟨c,ns,v,rfl,s2,h2,hI⟩;let hlen:=hI.len
   exists _,Z,_,_,Z,Z,(by ext),Z,_,Z,?_;show Xk (λ_=>?_) (λ_=>?_)
   .exists _,Z,.inl {Z,_,SqL.of h2},_,Z,l,_,_,Z,Z,h2,?_,?_
    .rw[Xd];show Zl J
    .exists _,Z,_,_,Z,Z,⟨D,D⟩,?_;exists _,ns++[(i:A0)],_,Z,Zr hl s2,?_,hI.snoc;rw[XS];simp
   .exists _,Z,_,_,Z,Z,⟨D,D⟩,?_;exists _,ns,_,Z,s2,h2,hI.up
  .rintro σ H2 ⟨c,ns,v,rfl,s2,h2,hI⟩;exists _,Z,q l ns H2 (by simpa using hI) s2 hl h2
inductive spZ41(K:Ad):_
 |mk (n:A0) (a b:A7) (xs:A6 V) (ps:Aa) (kd:B2) (ns:Ac) (_:vs=[.int n,.ref a,.ref b]) (_:SqL K H a xs) (_:PairsV H xs ps) (_:Zz n ps) (_:SqK kd K H b (IL ns)) (_:(∀z∈ns,0<=z/\z<ps⁻¹)) (_:∀(m:A7)(H':Hp),Same H H'->H m=A8->H' m=⇑(.lst<|IL<|Xa n.j<|XO ps ns)->Q ↑m H')
def ah(T:Txt K mg t):Xp P w base Xx T.qZ41 1 (spZ41 K):=by
 show T.qZ41.okI ["places","ties","some","marks","tie","one","other","gone","kept","place"] CC ⋯
 .let⟨n,a,b,xs,ps,kd,ns,rfl,hA,h3,⟨g1,g2,g3,g4⟩,hS,hI,q⟩:=h;show⟨_,(XR (Zd 3<|Zi (Zv2 Z) pq T.n_list Boot.«list»<|XZ (Zi mV pq T.n_range Boot.«range»<|XZ (pv 0) XX) XX)
   (XR (WU YD Z (Tp K<|pv 2) (Zb 4)
   (XR (EW (ZB (Zg K) (pv 1) (pv 4) λ_ _=>rfl)<|Pw (n:=2) K Z<|Zw (Zb 5)<|Zw (Zb 6) PJ)
   (XJ (WO (Zk Sk (ZB (Zg K) (pv 3) (pv 5) λ_ _=>rfl) (ZB (Zg K) (pv 3) (pv 6) λ_ _=>rfl)<|Zq _)
   (XR (Zd 7<|ZB (Zg K) (pv 3) (pv 6) λ_ _=>rfl)
   (XR (Zd 8<|ZB (Zg K) (pv 3) (pv 5) λ_ _=>rfl)
   (XJ (WU YD Z (ZO Z T.n_range<|XZ (pv 0) XX) (Zb 9)
   (XJ (WO (Zk TU (ZB (Zg K) (pv 3) (pv 9) λ_ _=>rfl) (pv 7)<|Zq _)
   (XJ<|EW (pv 8)<|t5 (pv 3) (pv 9) KH)
   Zn))))))
   Zn))))
   (XJ<|Zm<|pv 3))),?_⟩
  exists _,Z,n,Z,λr UR=>{r,0,n,Z,XS,⟨D,D,J,J⟩,J,λm hm=>?_};let sm:Same H (upd (upd H r<|.rng 0 n) m<|.lst<|(Wb 0 n).Q V.int):=ZD (XM UR) hm
  let Qh:H m=A8:=(XM UR).free hm;show⟨_,Z,b,Z,Bo (k:=kd) (K:=K) (a:=b) (xs:=IL ns) (λi σ H2=>∃(v4 v5 v6 v7 v8 v9:Option V),σ=[⇑(.int n),some<|.ref a,some<|.ref b,some<|.ref m,v4,v5,v6,v7,v8,v9]/\Same H H2/\H2 m=⇑(.lst<|IL<|Xa n.j<|XO ps<|ns.R i))
   {none,none,none,none,none,none,Z,sm,?_} (λi σ H2 _ zz=>by let(_,_,_,_,_,_,_,s2,_):=zz;show hS.same s2) ?_ ?_⟩
  .rw[XS,ZN5];rfl
  .rintro i x σ H2 hi ⟨v4,v5,v6,v7,v8,v9,rfl,s2,WG⟩;let(z,rfl,hz):=Vj hi;let(z0,z1):=hI z (Xo hz);obtain⟨p,hp⟩:∃p,ps[z.j]?=⇑p:={_,Xv<|by ext};let(v,hv,tt,rfl,TY):=h3.2 z.j p hp;let(e1,e2,e3,e4):=g4 p (Xo hp);let ed:ps.S z.j (0,0)=p:=XF hp
   exists _,Z,_,Z,a,xs,z,.ref tt,Z,Z,s2.seq hA,Zv (n:=z.j) J hv,tt,_,Z,SqT.of<|s2 _ _ TY,Z,_,_,Z,_,_,Z,Z,?_;let hl:(Xa n.j<|XO ps<|ns.R i).f=n.j:=ZC _ _
   generalize hM:Xa n.j (XO ps<|ns.R i)=M at *;let ha:M[p.1.j]?=⇑(mk M p.1.j):=To J
   let hb:M[p.2.j]?=⇑(mk M p.2.j):=To J;let iA:VQ (IL M) p.1=⇑(.int<|mk M p.1.j):=Zv (n:=p.1.j) J (by rw[Yo,ha];rfl)
   let iB:VQ (IL M) p.2=⇑(.int<|mk M p.2.j):=Zv (n:=p.2.j) J (by rw[Yo,hb];rfl);let step:Xa n.j (XO ps<|ns.R<|i+1)=lm M p.1.j p.2.j:=by rw[Zs3 hz,Nr,hM,ed]
   exists _,Z,_,Z,m,_,p.1,_,Z,Z,SqL.of WG,iA,_,Z,_,Z,m,_,p.2,_,Z,Z,SqL.of WG,iB,Z,_,Z,?_;rw[Wn];show Wa (λhc=>?_) (λhc=>?_)
   .exists _,_,_,_,_,_,Z,s2,?_;rw[WG,step];unfold lm;lia
   .exists _,Z,_,Z,m,_,p.2,_,Z,Z,SqL.of WG,iB,?_;exists _,Z,_,Z,m,_,p.1,_,Z,Z,SqL.of WG,iA,?_;show⟨_,Z,n,Z,J,J,UN (lo:=0) (n:=n.j) (λj σ H3=>∃(v4 v5 v6 v9:Option V),σ=[⇑(.int n),some<|.ref a,some<|.ref b,some<|.ref m,v4,v5,v6,some<|.int<|mk M p.2.j,some<|.int<|mk M p.1.j,v9]/\Same H H3/\
      H3 m=⇑(.lst<|IL<|(M.R j).Q (λk=>if k=mk M p.2.j then mk M p.1.j else k)++M.drop j)) {_,_,_,_,Z,s2,by rw[WG];rfl} ?_ ?_⟩
    .rintro j σ H3 hj ⟨w4,w5,w6,w9,rfl,s3,NN⟩;let qE:M[j]?=⇑(mk M j):=To J
     let Xu:((M.R j).Q λk=>if k=mk M p.2.j then mk M p.1.j else k).f=j:=by rw[Yb,Yx];lia
     let hjv:((M.R j).Q (λk=>if k=mk M p.2.j then mk M p.1.j else k)++M.drop j)[j]?=⇑(mk M j):=by rwa[YE J,Xu,Ft,MU,Nat.add_zero]
     let ezj:(0:A0)+(j:A0)=(j:A0):=KY _;let iJ:VQ (IL<|(M.R j).Q (λk=>if k=mk M p.2.j then mk M p.1.j else k)++M.drop j) (0+(j:A0))=⇑(.int<|mk M j):=Zv (n:=j) ezj (by rw[Yo,hjv];rfl)
     let dj:M.drop j=mk M j::M.drop (j+1):=by
      rw[DC J];congr 1
      have:=qE
      rw[Xv J]at this;show Yf this
     exists _,Z,_,Z,m,_,_,_,Z,Z,SqL.of NN,iJ,_,Z,Z,_,Z,?_;rw[Wn];show Xk (λhe=>?_) (λhe=>?_)
     .exists _,Z,_,Z,_,Z,m,_,_,j,Z,Z,NN,?_,?_
      .unfold QE;rw[Yk J,Yk B];simp
      .exists _,_,_,_,Z,Zr Qh s3,?_;rw[XS,Yw,qE];congr 2;rw[<-Ig,CN _ _ J,Xu,MU,dj,Yz,List.set_cons_zero,QP];change IL (_++_::_)=IL (_++((if mk M j=mk M p.2.j then mk M p.1.j else mk M j)::_))
       rw[Yk he];rfl
     .exists _,_,_,_,Z,s3,?_;rw[NN,Yw,qE,dj];congr 2;rw[Yz,QP];change IL (_++_::_)=IL (_++((if mk M j=mk M p.2.j then mk M p.1.j else mk M j)::_))
      rw[Yj he];rfl
    .rintro σ H3 ⟨w4,w5,w6,w9,rfl,s3,NN⟩;exists _,_,_,_,_,_,Z,s3,?_;rw[NN,step];unfold lm;grind
  .rintro σ H2 ⟨v4,v5,v6,v7,v8,v9,rfl,s2,WG⟩;rw[Xd,Ys]at WG;exists _,Z,q m H2 s2 Qh WG
inductive spZ51(K:Ad):_
 |mk (n:A0) (a:A7) (xs:A6 V) (ps:Aa) (_:vs=[.int n,.ref a]) (_:SqL K H a xs) (_:PairsV H xs ps) (_:Zz n ps) (_:n<=5) (_:ps.f<=9) (_:∀(r:A7)(ys:A6 V)(L:Ab)(H':Hp),Same H H'->H' r=⇑(.lst ys)->TupsV H' ys L->L.f<=10000->(∀l,l∈L↔Zj n ps l)->L.U Ub->Q ↑r H')
def vi:FnScope ["places","ties","told","k","longer","some","first"] ["places","ties"] (Zc (top 115)):=TF CC
def af(T:Txt K mg t):Xp P w base Xx T.qZ51 2 (spZ51 K):=by
 show T.qZ51.okI ["places","ties","told","k","longer","some","first"] CC ⋯
 .let⟨n,a,xs,ps,rfl,hA,hP,hG,n5,p9,q⟩:=h;show⟨_,(XR (Zd 2<|UL<|XZ (ZZ XX) XX)
   (XR (WU YD Z (ZO Z T.n_range<|XZ (Zp PF (pv 0) XN) XX) (Zb 3)
   (XR (Zd 4<|UL XX)
   (XR (WU YD Z (ZE K<|pv 2) (t6 (i:=5) vi.nd Z<|Or.inr Z)
   (XR (Zd 6 XN)
   (XR (WO (Zk QG (pv 3) XN<|Zq _)
   (XJ<|Zd 6<|Zp Tv (ZB (ZA K) (pv 5) (Zp PF (pv 3) XN) λ_ _=>rfl) XN)
   Zn)
   (XJ<|ZV<|WT K YH qt qu nP (pv 4)<|XZ (UW rfl (sc0:=Zc<|top 115) (N0:=["places","ties","told","k","longer","some","first"]) (N':=["tie","some"]) (o:=1) (fr:=[5]) ⟨rfl,CC,CC,CC,rfl,CC⟩ (ZS5 rfl T.n_range<|XZ (pv 6)<|XZ (Zf (Zh K) pq T.n_len Boot.«len»<|XZ (pv 1) XX) XX) (Zu D) (λ_ _ _ _=>(Zb 0)) (λ_ _ _ _=>ZI) λ_ _ _ _=>(Zp (Kq K) (pv 1)<|ZZ<|XZ (pv 0) XX)) XX))))
   (XJ<|Zd 2<|pv 4))))
   (XJ<|Zm<|UW rfl (sc0:=Zc<|top 115) (N0:=["places","ties","told","k","longer","some","first"]) (N':=["some","places","ties"]) (o:=1) (fr:=[0,1]) ⟨rfl,CC,CC,CC,rfl,CC⟩ (ZE K<|pv 2) (Zu D) (λ_ _ _ _=>(Zb 0)) (λ_ _ _ _=>(KA<|Zk TU (Zf ZN4 pq T.n_len Boot.«len»<|XZ (Zi (Bl K rfl) pq T.n_set Boot.«set»<|XZ (XD (ah T) hr T.qZ41 Zt<|XZ (pv 1)<|XZ (pv 2)<|XZ (pv 0) XX) XX) XX) XN<|Zq _)) λ_ _ _ _=>(pv 0)))),?_⟩
  let(g1,g2,g3,g4):=id hG;let JH:=hP.1
  let one:1<=sizeLine:=D;let big:∀k:A5,k<=4->(Uc ps⁻¹ k).f<=6561:=λk hk=>Ym (Km p9 k) (by rcases(by grind:k=0\/k=1\/k=2\/k=3\/k=4) with e|e|e|e|e<;>rw[e]<;>decide)
  exists XC _,λt0 cv=>{one,λd0 Eg=>?_};let s0:=ZD (XM (o:=.tup []) cv) (o:=.lst [.ref t0]) Eg
  let k0:(upd (upd H t0<|.tup []) d0<|.lst [.ref t0]) t0=⇑(.tup []):=XM Eg _ _ XS;show⟨_,Z,_,_,Z,Z,_,Z,J,J,UN (lo:=0) (n:=(n-1).j) (λi σ H2=>∃(d:A7)(ys:A6 V)(v3 v4 v5 v6:Option V),σ=[⇑(.int n),some<|.ref a,some<|.ref d,v3,v4,v5,v6]/\Same H H2/\H2 d=⇑(.lst ys)/\TupsV H2 ys (Uc ps⁻¹ i))
   {d0,[.ref t0],none,none,none,none,Z,s0,XS,.one ⟨t0,Z,k0⟩} ?_ ?_⟩
  .rintro i σ H2 hi ⟨d,ys,v3,v4,v5,v6,rfl,s2,hd,hL⟩;let hi4:i<4:=J
   exists XC _,λe he=>?_;let s3:=XM (o:=.lst []) he
   show⟨_,Z,d,Z,{_,SqL.of<|s3 _ _ hd},ET (K:=K) (a:=d) (xs:=ys) (λj σ H4=>∃(zs:A6 V)(v5 v6:Option V),σ=[⇑(.int n),some<|.ref a,some<|.ref d,some<|.int<|0+(i:A0),some<|.ref e,v5,v6]/\Same H2 H4/\H4 e=⇑(.lst zs)/\TupsV H4 zs (((Uc ps⁻¹ i).R j).flatMap (VC ps⁻¹)))
    {[],_,_,Z,s3,XS,TupsV.nil} (λj σ H4 _ zz=>by let(_,_,_,_,e,_):=zz;show SqL.of<|e _ _ hd) ?_ ?_⟩
   .rintro j v σ H4 hj ⟨zs,v5,v6,rfl,s4,DH,hZ⟩;let(l,hl,tt,rfl,FL):=hL.at hj;let TY:=s4 _ _ FL
    let(ll,hI):=WY.Y (Xo hl);let zl:zs.f<=9*6561:=by
     rw[hZ.1];let h1:=sJ (m:=ps.f) ((Uc ps⁻¹ i).R j) λs hs=>(WY.Y<|Pd hs).2
     let h2:=big i J;let h3:((Uc ps⁻¹ i).R j).f<=6561:=by rw[Yx];lia
     show Ym h1 (Lb p9 h3)
    let nx0:0<=Ux l:=by
     unfold Ux;cases q:l.getLast? with
     |none=>lia
     |some x=>have:=(hI.all x<|Dz q).1;lia
    let nx1:Ux l<=30:=by
     unfold Ux;cases q:l.getLast? with
     |none=>ext
     |some x=>have:=(hI.all x<|Dz q).2;lia
    exists _,Z,_,_,Z,Z,_,Z,?_;show Xk (λhk=>?_) (λhk=>?_)
    .let XH:l.f-1<l.f:=J;obtain⟨y,hy⟩:∃y,l[l.f-1]?=⇑y:={_,Xv XH};let gl:l.getLast?=⇑y:=by rwa[List.getLast?_eq_getElem?]
     let hF:y+1=Ux l:=by unfold Ux;rw[gl]
     let vk:VQ (IL l) (0+(i:A0)-1)=⇑(.int y):=Zv (n:=l.f-1) J (SH hy);exists _,Z,_,Z,_,_,Z,Z,tt,_,_,_,Z,Z,SqT.of TY,vk,_,_,Z,Z,?_;exists _,Z,.inl {Z,_,SqL.of DH},_,Z,_,Z,a,xs,Z,.inl<|(s2.l s4).seq hA,(y+1),xs⁻¹,Z,{B,J,by ext,J},EI (lo:=(y+1)) (n:=(xs⁻¹-(y+1)).j) (λi2 ws H5=>Same H4 H5/\TupsV H5 ws ((List.range i2).Q λ(t:A5)=>l++[(y+1)+(t:A0)])) {Same.refl _,TupsV.nil} (Zl J) (λi2 ws H5 _ zz=>by let(_,e):=zz;rw[e.1,Yb,MZ];lia) ?_ ?_
     .rintro i2 ws H5 Wq ⟨s5,hW⟩ S Xt;show nm ?_;exists _,Z,_,Z,one,λp2 VW=>?_;let s6:=XM (o:=.tup<|IL [(y+1)+(i2:A0)]) VW
      let Nf:=s5.l s6;exists tt,p2,IL l,IL [(y+1)+(i2:A0)],Z,Z,SqT.of<|Nf _ _ TY,SqT.of XS,Mr B,λe=>?_,λ_ e=>(nomatch e),λ_ _ p3 Sd=>?_
      .ext
      .show Xt _ _ {Nf.l<|XM Sd,?_};rw[NC,Yz];show((hW.same s6).same (XM Sd)).snoc {p3,Z,by rw[XS];ext}
     .rintro ws H5 ⟨s5,hW⟩ p hp;let s6:=s5.l (XM (o:=.lst ws) hp)
      let vh:=s6 _ _ DH;let wl:ws.f<=100:=by rw[hW.1,Yb,MZ];grind
      exists e,p,zs,ws,Z,Z,vh,XS,Mr B,?_;exists _,_,_,Z,Zr he<|s4.l s6,XS,?_;rw[Zd6 hl];let ee:VC ps⁻¹ l=(List.range (xs⁻¹-(y+1)).j).Q λ(t:A5)=>l++[(y+1)+(t:A0)]:=by unfold VC;rw[<-hF,JH]
      rw[ee];show(((hZ.same s6).app (hW.same<|XM hp))).mut vh
    .let hF:(0:A0)=Ux l:=by have:l=[]:=Ur.Y (by ext);rw[this];rfl
     exists _,Z,.inl {Z,_,SqL.of DH},_,Z,_,Z,a,xs,Z,.inl<|(s2.l s4).seq hA,(0:A0),xs⁻¹,Z,{B,B,by ext,J},EI (lo:=(0:A0)) (n:=(xs⁻¹-(0:A0)).j) (λi2 ws H5=>Same H4 H5/\TupsV H5 ws ((List.range i2).Q λ(t:A5)=>l++[(0:A0)+(t:A0)])) {Same.refl _,TupsV.nil} (Zl J) (λi2 ws H5 _ zz=>by let(_,e):=zz;rw[e.1,Yb,MZ];lia) ?_ ?_
     .rintro i2 ws H5 Wq ⟨s5,hW⟩ S Xt;show nm ?_;exists _,Z,_,Z,one,λp2 VW=>?_;let s6:=XM (o:=.tup<|IL [(0:A0)+(i2:A0)]) VW
      let Nf:=s5.l s6;exists tt,p2,IL l,IL [(0:A0)+(i2:A0)],Z,Z,SqT.of<|Nf _ _ TY,SqT.of XS,Mr B,λe=>?_,λ_ e=>(nomatch e),λ_ _ p3 Sd=>?_
      .show Xt _ _ {Nf,?_};let e0:l=[]:=by cases h:l with|nil=>rfl|cons x r=>rw[h]at e;cases e
       rw[NC,Yz];show(hW.same s6).snoc {p2,Z,by rw[e0];show XS}
      .show Xt _ _ {Nf.l<|XM Sd,?_};rw[NC,Yz];show((hW.same s6).same (XM Sd)).snoc {p3,Z,by rw[XS];grind}
     .rintro ws H5 ⟨s5,hW⟩ p hp;let s6:=s5.l (XM (o:=.lst ws) hp)
      let vh:=s6 _ _ DH;let wl:ws.f<=100:=by rw[hW.1,Yb,MZ];lia
      exists e,p,zs,ws,Z,Z,vh,XS,Mr B,?_;exists _,_,_,Z,Zr he<|s4.l s6,XS,?_;rw[Zd6 hl];let ee:VC ps⁻¹ l=(List.range (xs⁻¹-(0:A0)).j).Q λ(t:A5)=>l++[(0:A0)+(t:A0)]:=by unfold VC;rw[<-hF,JH]
      rw[ee];show(((hZ.same s6).app (hW.same<|XM hp))).mut vh
   .rintro σ H4 ⟨zs,v5,v6,rfl,s4,DH,hZ⟩;exists _,Z,e,zs,_,_,_,_,Z,s2.l s4,DH,?_;rwa[hL.1,Ys]at hZ
  .rintro σ H2 ⟨d,ys,v3,v4,v5,v6,rfl,s2,hd,hL⟩;show⟨_,Z,d,Z,{_,SqL.of hd},SG (K:=K) (a:=d) (xs:=ys) (λi ws H3=>Same H2 H3/\i<=ys.f/\TupsV H3 ws (((Uc ps⁻¹ (n-1).j).R i).filter λl=>decide<|(L2.seen<|Xa n.j<|XO ps l).f=1)) {Same.refl _,XC _,TupsV.nil} (Zl<|by rw[hL.1];grind)
    (λi ws H3 hi zz=>by let(e,Wq,ey):=zz;show{SqL.of<|e _ _ hd,by rw[ey.1];grind}) ?_ ?_⟩
   .rintro i v ws H3 hi ⟨s3,TN,hW⟩ S Xt;let(l,hl,tt,rfl,FL):=hL.at hi;let TY:=s3 _ _ FL
    let Wr:i<ys.f:=(Xr.Y hi).1;let(ll,hI):=WY.Y (Xo hl);let QV:=s2.l s3
    show nm ?_;exists _,Z,_,Z,_,Z,n,a,tt,xs,ps,true,l,Z,QV.seq hA,hP.same QV,hG,SqT.of TY,hI.all,λm H7 s7 Qh cP=>?_;let lL:(Xa n.j<|XO ps l).f=n.j:=ZC _ _
    let sl1:(L2.seen<|Xa n.j<|XO ps l).f<=(Xa n.j<|XO ps l).f:=PyProof.Rows.firstMet_length_le _ _;exists m,Xa n.j<|XO ps l,Z,SqL.of cP,(by change(Xa n.j<|XO ps l).f+1<4096;grind),λst Wo=>?_;let s8:=XM (o:=.set (λk=>(L2.seen<|Xa n.j<|XO ps l).any (· == k)) (L2.seen<|Xa n.j<|XO ps l).f) Wo
    exists st,_,_,Z,XS,B,Z,_,Z,?_;rw[Wn];show Xk (λhc=>?_) (λhc=>?_)
    .exists _,Z,Xt _ _ {(s3.l s7).l s8,Wr,?_};rw[ZG4 hl,Yk (YU B)];show((hW.same s7).same s8).snoc {tt,Z,s8 _ _<|s7 _ _ TY}
    .show Xt _ _ {(s3.l s7).l s8,Wr,?_};rw[ZG4 hl,Yj J,Wc];show(hW.same s7).same s8
   .rintro ws H3 ⟨s3,_,hW⟩ p hp;rw[hL.1,Ys]at hW;show q p ws _ _ ((s2.l s3).l (XM hp)) XS (hW.same<|XM hp) ?_ (λl=>?_) ((kL _ _).sublist MQ)
    .grind
    .rw[Yq,WY,YY];constructor
     .rintro⟨⟨h1,h2⟩,h3⟩;exists h2,J,(ZM5 J<|ZY hG h2.all).Y h3
     .rintro⟨h1,h2,h3⟩;exists ⟨J,h1⟩,(ZM5 J<|ZY hG h1.all).X h3
inductive spZ61(K:Ad):_
 |mk (a:A7) (ns:Ac) (c:A5) (_:vs=[.ref a,.int c]) (_:SqL K H a (IL ns)) (_:ns.f<=63) (_:c<=30) (_:∀r l H',Same H H'->H r=A8->H' r=⇑(.lst<|IL l)->l.f=c->Told l->Q ↑r H')
def vg:FnScope ["script","count","folded","k","told","m"] ["script","count"] (Zc (top 116)):=TF CC
def ae(T:Txt K mg t):Xp P w base Xx T.qZ61 2 (spZ61 K):=by
 show T.qZ61.okI ["script","count","folded","k","told","m"] CC ⋯
 .let⟨a,ns,c,rfl,hA,Ru,hc,q⟩:=h;show⟨_,(XR (Uh (i:=2) Z vg.nd Z Z (sc0:=Zc<|top 116) (N0:=["script","count","folded","k","told","m"]) (N':=["k"]) (o:=1) (fr:=[]) ⟨Z,CC,CC,CC,Z,CC⟩ (ZO Z T.n_range<|XZ (pv 1) XX) (Zu D) (λ_ _ _ _=>(Zb 0)) (λ_ _ _ _=>ZI) λ_ _ _ _=>(Zp Tv (Zp UM XN<|pv 0) XN))
   (XR (WU YD Z (ZO Z T.n_range<|XZ (Zf (Zh K) pq T.n_len Boot.«len»<|XZ (pv 0) XX) XX) (Zb 3)
   (XJ (WO (Zk QG (pv 1) XN<|Zq _)
   (XJ<|EW (Zp ZR (Zp Tv (Zp UM (ZB (Zg K) (pv 2) (Zp ZR (pv 3)<|pv 1) λ_ _=>rfl) XN)<|ZB (Zg K) (pv 0) (pv 3) λ_ _=>rfl)<|Zp RQ XN XN)<|t5 (pv 2) (Zp ZR (pv 3)<|pv 1) KH)
   Zn)))
   (XR (Zd 4<|UL XX)
   (XR (WU YD Z (ZO Z T.n_range<|XZ (pv 1) XX) (Zb 3)
   (XR (Zd 5<|XD (vo T) hr T.qZZ Zt<|XZ (ZB (Zg K) (pv 2) (pv 3) λ_ _=>rfl)<|XZ (Zp Tv XN<|pv 3) XX)
   (XJ<|ZV<|WT K YH Us Ut Ul (pv 4)<|XZ (ZB (Zg K) (UL<|XZ (Zp ZR (Zp RR (pv 5) XN) XN)<|XZ (Zp PF (Zp ZR (Zp RR (pv 5) XN) XN) XN)<|XZ XN<|XZ (Zp PF (Zp ZR (ZB (Zg K) (pv 2) (pv 3) λ_ _=>rfl)<|Zp UM XN<|Zp RQ XN XN)<|Zp RQ XN XN) XX) (Zp ZR (pv 5) XN) λ_ _=>rfl) XX)))
   (XJ<|Zm<|pv 4))))),?_⟩
  let four:4<=sizeLine:=D;exists _,Z,(c:A0),Z,by ext,J,EI (lo:=0) (n:=((c:A0)).j) (λi ys H3=>H3=H/\∃fs:Ac,ys=IL fs/\fs.f=i) {Z,[],Z,Z} (Zl J) (λi ys H3 _ zz=>by let(_,fs,e,el):=zz;ext) ?_ ?_
  .rintro i ys H3 hi ⟨rfl,fs,rfl,DK⟩ S Xt;show QC ?_;exists _,Z,_,_,Z,Z,.inl ⟨D,D⟩,_,_,Z,Z,?_;show Xt _ _ {Z,fs++[5*(0+(i:A0))+2],?_,?_}
   .show(RL _ _).symm
   .rw[Ya,DK];rfl
  rintro ys H3 ⟨rfl,fs,rfl,DK⟩ l3 NM;let s3:=XM (o:=.lst<|IL fs) NM
  show nm ?_;exists _,Z,a,_,Z,.inl<|s3.seq hA,_,Z,by ext,B,UN (lo:=0) (n:=((IL ns).f:A0).j) (λj σ H4=>∃fs v3,σ=[some ↑a,some<|.int c,some<|.ref l3,v3,none,none]/\Same H3 H4/\H4 l3=⇑(.lst<|IL fs)/\fs.f=c) {fs,none,Z,s3,XS,by ext} ?_ ?_
  .rintro j σ H4 hj ⟨gs,v3,rfl,s4,h4,eg⟩;show nm ?_;exists _,Z,_,_,Z,Z,_,Z,?_;show Xk (λGv=>?_) λ_=>{gs,_,Z,s4,h4,eg};let at0:0<=(0+(j:A0))%(c:A0):=OY _ J
   let EB:(0+(j:A0))%(c:A0)<(c:A0):=RY _ Gv;generalize vk:(0+(j:A0))%(c:A0)=at' at *;obtain⟨f,hf⟩:∃f,gs[at'.j]?=⇑f:={_,Xv<|by ext};obtain⟨z,hz⟩:∃z,ns[j]?=⇑z:={_,Xv<|by ext};show{_,Z,_,Z,_,Z,_,_,Z,Z,Gv,l3,_,_,_,Z,Z,SqL.of h4,by show Zv (n:=at'.j) J<|SH hf,_,_,Z,Z,.inr ⟨D,D⟩,_,Z,_,Z,a,_,_,_,Z,Z,s4.seq hA,Zv (n:=j) (by ext)<|SH hz,_,_,Z,Z,_,_,Z,Z,⟨D,D,D⟩,_,_,Z,Z,(by ext),?_};exists _,Z,_,Z,_,Z,_,_,Z,Z,Gv,l3,_,_,at'.j,Z,Z,h4,?_,?_
   .try rw[vk]
    unfold QE
    ext
   .show{gs.set at'.j<|(f*7+z)%(10:A0)^((60:A0).j),_,Z,Zr NM s4,?_,by ext};rw[XS,Ig]
  intro σ H4 Ω;let⟨gs,v3,rfl,s4,h4,eg⟩:=Ω;exists XC _,λl5 Qc=>?_;let DJ:l3≠l5:=Ze h4 Qc
  let Rv:H3 l5=A8:=s4.free Qc;let u5:=XM (o:=.lst []) Qc
  let s5:=s4.l u5;let h35:=u5 _ _ h4
  let h55:(upd H4 l5<|.lst []) l5=⇑(.lst<|IL []):=XS;show nm ?_;show{_,Z,_,Z,by ext,J,UN (lo:=0) (n:=((c:A0)).j) (λj σ H6=>∃L v3 v5,σ=[some ↑a,some<|.int c,some<|.ref l3,v3,some<|.ref l5,v5]/\Same H3 H6/\H6 l3=⇑(.lst<|IL gs)/\H6 l5=⇑(.lst<|IL L)/\L.f=j/\Told L) {[],v3,none,Z,s5,h35,h55,Z,λz hz=>(by cases hz)} ?_ ?_};rotate_left
  .rintro σ H6 ⟨L,w3,w5,rfl,s6,_,qD,hL,hT⟩;exists _,Z,q l5 L H6 s6 Rv qD (by ext) hT
  intro j σ H6 hj Ω;let⟨L,w3,w5,rfl,s6,ab,qD,hL,hT⟩:=Ω;obtain⟨f,hf⟩:∃f,gs[j]?=⇑f:={_,Xv<|by ext};let hfa:VQ (IL gs) (0+(j:A0))=⇑(.int f):=Zv (n:=j) J (SH hf)
  show nm ?_;exists _,Z,_,Z,l3,_,_,_,Z,Z,SqL.of ab,hfa,_,Z,_,_,Z,Z,_,_,Z,λm m0 m1=>?_;show nm ?_;exists _,Z,.inl {Z,_,SqL.of qD},_,Z,_,_,Z,Z,⟨D,D⟩,_,_,Z,Z,(by ext),_,Z,_,_,Z,Z,⟨D,D⟩,_,_,Z,Z,(by ext),_,_,Z,Z,_,Z,_,Z,l3,_,_,_,Z,Z,SqL.of ab,hfa,_,_,Z,Z,⟨D,D,D⟩,_,_,Z,Z,.inl ⟨D,D⟩,_,_,Z,Z,(by ext),_,_,Z,Z,⟨D,D,D⟩,_,_,Z,Z,four,λc4 hc4=>?_;obtain⟨x,hx,hxb⟩:∃x:A0,VQ (IL [m/8%5,m/8%19-9,1,f%(2*10^(59:A0).j)-10^(59:A0).j]) (m%4)=⇑(.int x)/\(-(10^60)<x/\x<(10:A0)^60):=by
   rcases(by lia:m%4=0\/m%4=1\/m%4=2\/m%4=3) with e|e|e|e<;>rw[e]
   .exists _,Z,J
   .exists _,Z,J
   .exists _,Z,by ext
   .exists _,Z,?_;lia
  let w1:=XM (o:=.lst<|IL [m/8%5,m/8%19-9,1,f%(2*10^(59:A0).j)-10^(59:A0).j]) hc4;exists _,Z,_,_,Z,Z,(by ext),c4,_,_,.int x,Z,Z,SqL.of XS,hx,?_;show{l5,_,_,Z,Z,w1 _ _ qD,Zl B,L++[x],_,_,Z,Zr Rv<|s6.l w1,?_,by rw[XS,RL],by ext,λz hz=>(Xi.Y hz).elim (hT z) λh=>by rwa[Xn.Y h]};rw[Za DJ];show w1 _ _ ab
inductive spZ71(K:Ad):_
 |mk (n a b xs ps ls:_) (_:vs=[.int n,.ref a,.ref b]) (_:SqL K H a xs) (_:PairsV H xs ps) (_:SqL K H b (IL ls)) (_:Zz n ps) (_:ls.f=ps.f) (_:Told ls) (_:∀H':Hp,Same H H'->Q (.str<|RA n ps ls) H')
def aa(T:Txt K mg t):Xp P w base Xx T.qZ71 1 (spZ71 K):=by
 show T.qZ71.okI ["places","ties","lengths","lines","k","words"] CC ⋯
 .let⟨n,a,b,xs,ps,ls,rfl,hA,hP,hB,hG,hl,hT,q⟩:=h;show⟨_,(XR (Zd 3<|UL<|XZ (Zp ZJ ZP<|Zi Zx pq T.n_str Boot.«str»<|XZ (pv 0) XX) XX)
   (XR (WU YD Z (ZO Z T.n_range<|XZ (Zf (Zh K) pq T.n_len Boot.«len»<|XZ (pv 1) XX) XX) (Zb 4)
   (XR (Zd 5<|UL<|XZ ZP<|XZ (Zi Zx pq T.n_str Boot.«str»<|XZ (ZB (ZA K) (ZB (Zg K) (pv 1) (pv 4) λ_ _=>rfl) XN λ_ _=>rfl) XX)<|XZ (Zi Zx pq T.n_str Boot.«str»<|XZ (ZB (ZA K) (ZB (Zg K) (pv 1) (pv 4) λ_ _=>rfl) XN λ_ _=>rfl) XX) XX)
   (XJ<|ZV<|WT K YH Us Ut Ul (pv 3)<|XZ (WT K Uq Fx Fy (Ef K) ZP<|XZ (Zp tJ (pv 5)<|UL<|XZ (Zi Zx pq T.n_str Boot.«str»<|XZ (ZB (Zg K) (pv 2) (pv 4) λ_ _=>rfl) XX) XX) XX) XX)))
   (XJ<|Zm<|WT K Uq Fx Fy (Ef K) ZP<|XZ (pv 3) XX))),?_⟩
  let wA:=hP.1;let vt:=hG.2.2.1
  let Ke:=hG.1;let PD:=hG.2.1
  let one:1<=sizeLine:=D;let three:3<=sizeLine:=D
  let z1:100000<=sizeLine:=D;let nl:=Se (i:=n) (k:=60) D J J
  exists _,Z,n,Z,J,J,_,_,Z,Z,?_,one,λd hd=>?_
  .change 7+(nT n).f<=_;lia
  let u1:=XM (o:=.lst<|TL<|Wk n (ps.R 0)<|ls.R 0) hd;show nm ?_;exists _,Z,a,_,Z,.inl<|u1.seq hA,_,Z,by ext,J,UN (lo:=0) (n:=(xs.f:A0).j) (λi σ H4=>∃v4 v5,σ=[⇑(.int n),some<|.ref a,some<|.ref b,some<|.ref d,v4,v5]/\Same H H4/\H4 d=⇑(.lst<|TL<|Wk n (ps.R i)<|ls.R i)) ⟨none,none,Z,u1,XS⟩ ?_ ?_
  .rintro i σ H4 hi ⟨v4,v5,rfl,s4,h4⟩;obtain⟨v,hv⟩:∃v,xs[i]?=⇑v:={_,Xv<|by ext};let(p,hp,tt,rfl,TY):=hP.at hv;obtain⟨l,WE⟩:∃l,ls[i]?=⇑l:={_,Xv<|by ext};let QT:=fO hG hT hp WE
   let b1:=QT p.1 AP;let b2:=QT p.2 AP
   let b3:=QT l AP;show nm ?_;let ia:VQ xs (0+(i:A0))=some ↑tt:=Zv (n:=i) (by ext) hv
   exists _,Z,_,Z,a,_,_,.ref tt,Z,Z,s4.seq hA,ia,tt,_,0,.int p.1,Z,Z,SqT.of<|s4 _ _ TY,Z,p.1,Z,J,J,_,Z,_,Z,a,_,_,.ref tt,Z,Z,s4.seq hA,ia,tt,_,1,.int p.2,Z,Z,SqT.of<|s4 _ _ TY,Z,p.2,Z,J,J,three,λc hc=>?_;let u2:=XM (o:=.lst<|TL [Str.H "tie",nT p.1,nT p.2]) hc
   let s5:=s4.l u2;let h5:=u2 _ _ h4
   let hc5:(upd H4 c<|.lst<|TL [Str.H "tie",nT p.1,nT p.2]) c=⇑(.lst<|TL [Str.H "tie",nT p.1,nT p.2]):=XS;show nm ?_;exists _,Z,.inl {Z,_,SqL.of h5},Z,_,Z,_,Z,_,Z,b,_,_,.int l,Z,Z,s5.seq hB,Zv (n:=i) J<|SH WE,l,Z,J,J,one,λc2 Vt=>?_;let u3:=XM (o:=.lst<|TL [nT l]) Vt
   exists c,c2,_,TL [nT l],Z,Z,u3 _ _ hc5,XS,(show 3+1<=sizeLine by decide),λc3 hc3=>?_;let u4:=XM (o:=.lst<|TL [Str.H "tie",nT p.1,nT p.2]++TL [nT l]) hc3
   let u34:=u3.l u4;let wl:(Wk n (ps.R i)<|ls.R i).f<=31:=by rw[GU (by ext),Yx];lia
   exists _,c3,[Str.H "tie",nT p.1,nT p.2,nT l],Z,Z,SqL.of XS,?_,?_
   .show Eb (o8:=61) (λa ha=>?_) (by change 4*61+4<=_;decide);rcases Yu.Y ha with e|e
    .rw[e];decide
    .show GW QT a e
   exists d,_,_,Z,Z,u34 _ _ h5,Zl (by rw[ZH];lia),_,_,Z,Zr hd<|s5.l u34,?_;rw[XS];change some (HO.lst<|TL (Wk n (ps.R i)<|ls.R i)++[.str (UZ p l)])=_
   rw[xw,fQ hp WE]
  intro σ H4 Ω;let⟨v4,v5,rfl,s4,h4⟩:=Ω;rw[show(xs.f:A0).j=ps.f by ext,Ys,<-hl,Ys]at h4;exists Z,_,Z,_,d,_,Z,Z,SqL.of h4,?_,q H4 s4;show Eb (o8:=400) (xu hG hT) (by rw[GU hl];lia)
inductive spZ81(K:Ad):_
 |mk (a:A7) (l:Ac) (_:vs=[.ref a]) (_:H a=⇑(.tup<|IL l)) (_:l.f<=1000) (_:Told l) (_:∀H':Hp,Same H H'->Q (.str<|TJ l) H')
def Sq(T:Txt K mg t):Xp P w base Xx T.qZ81 2 (spZ81 K):=by
 show T.qZ81.okI ["tree"] CC ⋯
 .let⟨a,l,rfl,hA,WE,hl,q⟩:=h;show⟨_,(XR (WO (Zk (my K<|Ie hr) (pv 0) (ZZ XX)<|Zq _)
   (XJ<|Zm ZP)
   Zn)
   (XJ<|Zm<|WT K Uq Fx Fy (Ef K) ZP<|XZ (UW Z (sc0:=Zc<|top 118) (N0:=["tree"]) (N':=["tie"]) (o:=1) (fr:=[]) ⟨Z,CC,CC,CC,Z,CC⟩ (HZ K<|pv 0) (Zu D) (λ_ _ _ _=>(Zb 0)) (λ_ _ _ _=>ZI) λ_ _ _ _=>(Zi Zx pq T.n_str Boot.«str»<|XZ (pv 0) XX)) XX)),?_⟩
  exists _,Z,XC _,λe he=>?_;let s1:=XM (o:=.tup []) he
  let Ow:=s1 _ _ hA;exists 1,_,a,e,Z,Z,D,Ox (SqT.of Ow) (ms:=[])<|SqT.of XS,_,Z,?_;show Xk (λh=>?_) (λh=>?_)
  .have:=q _ s1
   unfold TJ at this;rwa[Yk h]at this
  generalize upd H e (.tup [])=H1 at *;show Rc ?_;exists Z,_,Z,a,Z,{_,SqT.of Ow},OB (K:=K) (a:=a) (xs:=IL l) (λi ys H3=>H3=H1/\ys=TL ((l.R i).Q nT)) ⟨Z,Z⟩ (Zl B) (λi ys H3 _ zz=>by let(e,ey):=zz;show{e▸SqT.of Ow,by rw[ey,ZH,Yb,Yx];ext}) ?_ ?_
  .rintro i v ys H3 hi ⟨rfl,rfl⟩ S Xt;let(z,rfl,hz):=Vj hi;let hb:=hl z (Xo hz)
   show QC ?_;exists _,Z,z,Z,J,J,Xt _ _ {Z,?_};rw[Yw,hz,Yz];show xw _ _
  rintro ys H3 ⟨rfl,rfl⟩ p hp;rw[Xd,Ys];exists _,p,l.Q nT,Z,Z,SqL.of XS,?_,?_
  .show Eb (o8:=61) (GW hl) B
  .have:=q _ (s1.l<|XM (o:=.lst<|TL<|l.Q nT) hp)
   unfold TJ at this;rwa[Yj h]at this
inductive spZ91(K:Ad):_
 |mk (c d:A5) (_:vs=[.int c,.int d]) (_:0<d) (_:c<=d) (_:d<10^9) (_:∀(p q:A0)(H':Hp),Tf c d p q->Same H H'->Q (.str<|GS p q) H')
def ZB12(a b:A5):Nat.gcd b (a%b)=Nat.gcd a b:=by rw[Ff b,<-Nat.gcd_rec,Ff]
def Zn14{c d:A5}(h:0<d):Tf c d ((c:A0)/(Nat.gcd d c:A5)) ((d:A0)/(Nat.gcd d c:A5)):=by let(_,h2):=xY (x:=(c:A0)) (y:=(d:A0)) J rfl;rw[Yj (by ext),qv _<|Int.natCast_nonneg _,qv _ (Int.natCast_nonneg _)]at h2;rwa[Ff]
def Zs17(T:Txt K mg t):Xp P w base Xx T.qZ91 2 (spZ91 K):=by
 show T.qZ91.okI ["top","bottom","one","other","rest"] CC ⋯
 .let⟨c,d,rfl,d0,cd,d20,q⟩:=h;show⟨_,(XR (Zd 2<|pv 1)
   (XR (Zd 3<|pv 0)
   (XR (tX YD (Zk QG (pv 3) XN<|Zq _)
   (XR (Zd 4<|Zp ZR (pv 2)<|pv 3)
   (XR (Zd 2<|pv 3)
   (XJ<|Zd 3<|pv 4))))
   (XJ<|Zm<|Zp ZJ (Zp ZJ (Zi Zx pq T.n_str Boot.«str»<|XZ (Zp RR (pv 0)<|pv 2) XX) ZP)<|Zi Zx pq T.n_str Boot.«str»<|XZ (Zp RR (pv 1)<|pv 2) XX)))),?_⟩
  exists _,Z,?_;exists _,Z,?_;exists λm σ H2=>H2=H/\∃(a b:A5)(v4:Option V),σ=[⇑(.int c),some<|.int d,some<|.int a,some<|.int b,v4]/\b=m/\Nat.gcd a b=Nat.gcd d c,⟨c,Z,d,c,none,Z,Z,Z⟩,?_;intro m σ H2 Ω;let⟨rfl,a,b,v4,rfl,rfl,hg⟩:=Ω;exists _,Z,_,_,Z,Z,_,Z,?_;show Xk (λhb=>?_) (λhb=>?_)
  .let bp:0<b:=by ext
   exists _,λσ' H' h=>h,?_;exists _,Z,_,Z,_,_,Z,Z,(by omega:(0:A0)<(b:A0)),?_;exists _,Z,?_;exists _,Z,?_;exists a%b,Dc _ bp,Z,b,a%b,_,Z,Z,by rwa[ZB12]
  .let b0:b=0:=by ext
   subst b0;rw[Nat.gcd_zero_right]at hg;subst hg;let gp:0<Nat.gcd d c:=Nat.gcd_pos_of_pos_left _ d0
   let lg:=Zn14 (c:=c) d0;let(b1,b2):=xX (W:=(d:A0)) (by ext) lg;let q0:=lg.1
   let g9:Nat.gcd d c<=d:=Nat.gcd_le_left _ d0;exists _,Z,_,Z,_,_,Z,Z,{by ext,J},_,Z,J,B,_,_,Z,Z,?_,_,Z,_,Z,_,_,Z,Z,{by ext,B},_,Z,J,J,_,_,Z,Z,?_,q _ _ _ lg<|Same.refl _
   .let l1:=Se (i:=(c:A0)/(Nat.gcd d c:A5)) (k:=60) D J B;let z2:100000<=sizeLine:=D
    change(nT _).f+1<=_;lia
   .let l1:=Se (i:=(c:A0)/(Nat.gcd d c:A5)) (k:=60) D B B;let l2:=Se (i:=(d:A0)/(Nat.gcd d c:A5)) (k:=60) D J J
    let z2:100000<=sizeLine:=D;rw[show ∀a b:B8,(a++b).f=a.f+b.f from λa b=>Fe a b];change(nT _).f+1+(nT _).f<=_
    lia
def RkV(H:Hp)(v:V)(x:A0×Ac):(Prop):=∃a q,v=.ref a/\H a=⇑(.tup [.int x.1,.ref q])/\H q=⇑(.tup<|IL x.2)
def Lm(ls:Ac)(L:Ab):(A6 (A0×Ac)):=L.Q λT=>(XQ ls T,T)
def RkV.same{H H':Hp}{v:V}{x:A0×Ac}(s:Same H H')(h:RkV H v x):RkV H' v x:=by let(a,q,e,h1,h2):=h;exists a,q,e,s _ _ h1,s _ _ h2
def RkV.mut{H:Hp}{v:V}{x:A0×Ac}{l:A7}{ys zs:A6 V}(h:RkV H v x)(hl:H l=⇑(.lst ys)):RkV (upd H l (.lst zs)) v x:=by let(a,q,e,h1,h2):=h;exists a,q,e,by rw[Za (RS h1 hl (λz=>nomatch z))];show h1,by rwa[Za (RS h2 hl (λz=>nomatch z))]
inductive spZa1(K:Ad):_
 |mk (a b:A7) (ys:A6 V) (L:Ab) (ls:Ac) (_:vs=[.ref a,.ref b]) (_:SqL K H a ys) (_:TupsV H ys L) (_:SqL K H b (IL ls)) (_:L.f<128) (_:(∀T∈L,T.f<=100/\∀z∈T,0<=z/\z<ls⁻¹)) (_:∀zs M r H',Bears (RkV H') zs M->M.Perm (Lm ls L)->M.U (λa b=>HT.Vv b a=B0)->Same H H'->H r=A8->H' r=⇑(.lst zs)->Q ↑r H')
def Zr17(T:Txt K mg t):Xp P w base Xx T.qZa1 9 (spZa1 K):=by
 show T.qZa1.okI ["trees","lengths","told","tree"] CC ⋯
 .let⟨a,b,ys,L,ls,rfl,hA,hL,hB,hl,VP,k⟩:=h;show⟨_,(XR (Zd 2<|UL XX)
   (XR (WU YD Z (ZE K<|pv 0) (Zb 3)
   (XJ<|ZV<|WT K YH Us Ut Ul (pv 2)<|XZ (ZZ<|XZ (Zf (OA K Z) pq T.n_sum Boot.«sum»<|XZ (UW Z (sc0:=Zc<|top 120) (N0:=["trees","lengths","told","tree"]) (N':=["tie","lengths"]) (o:=1) (fr:=[1]) ⟨Z,CC,CC,CC,Z,CC⟩ (HZ K<|pv 3) (Zu D) (λ_ _ _ _=>(Zb 0)) (λ_ _ _ _=>ZI) λ_ _ _ _=>(ZB (Zg K) (pv 1) (pv 0) λ_ _=>rfl)) XX)<|XZ (pv 3) XX) XX))
   (XJ<|Zm<|Zf (ZL4 K<|Ie hr) pq T.n_sorted Boot.«sorted»<|XZ (pv 2) XX))),?_⟩
  let SR:=hL.1;let two:2<=sizeLine:=D
  exists XC _,λt ht=>?_;exists _,Z,a,Z,{_,(XM ht).seq hA},ET (K:=K) (a:=a) (xs:=ys) (λi σ H2=>∃(us:A6 V)(v3:Option V),σ=[some ↑a,some<|.ref b,some<|.ref t,v3]/\Same H H2/\H2 t=⇑(.lst us)/\Bears (RkV H2) us (Lm ls<|L.R i)/\i<=L.f) {[],_,Z,XM ht,XS,{Z,λi x e=>by cases e},XC _} (λi σ H2 _ h=>by let(_,_,_,e,_):=h;show e.seq hA) ?_ ?_
  .rintro i v σ H2 hi ⟨us,v3,rfl,s2,h2,hU,TN⟩;let(T,hT,c,rfl,hc):=(hL.same s2).at hi;let Rw:=VP T (Xo hT)
   show nm ?_;exists _,Z,.inl {Z,_,SqL.of h2},_,Z,c,Z,{_,SqT.of hc},OB (K:=K) (a:=c) (xs:=IL T) (λj ws H3=>H3=H2/\ws=IL ((T.R j).Q (Xw ls))) ⟨Z,Z⟩ (Zl<|by rw[Xd];lia) (λj ws H3 _ h=>by let(e,ey):=h;show{e▸SqT.of hc,by ext}) ?_ ?_
   .rintro j v ws H3 hj ⟨rfl,rfl⟩ S Xt;let(z,rfl,hz):=Vj hj;let(z0,z1):=Rw.2 z (Xo hz);obtain⟨y,hy⟩:∃y,ls[z.j]?=⇑y:={_,Xv<|by ext};let e:Xw ls z=y:=XF hy
    show nm ?_;exists _,Z,_,Z,b,_,z,.int y,Z,Z,s2.seq hB,Zv (n:=z.j) J (by ext),Xt _ _ {Z,?_};rw[Yw,hz,Yz,<-e];show(RL _ _).symm
   rintro ws H3 ⟨rfl,rfl⟩ p hp;rw[Xd,Ys];let u1:=XM (o:=.lst<|IL<|T.Q<|Xw ls) hp
   exists p,T.Q<|Xw ls,Z,SqL.of XS,_,Z,two,λq hq=>?_;let u2:=XM (o:=.tup [.int (T.Q<|Xw ls).sum,.ref c]) hq
   let u:=u1.l u2;let h4:=u _ _ h2
   exists t,us,_,Z,Z,h4,Zl (by have:=hU.1;rw[show(Lm ls<|L.R i).f=_ from Yb _,Yx]at this;lia),?_;let Wu:=(Xr.Y hT).1
   exists us++[.ref q],_,Z,Zr ht<|s2.l u,XS,?_,Wu;let e:Lm ls (L.R<|i+1)=Lm ls (L.R i)++[(XQ ls T,T)]:=by unfold Lm;rw[Yw,hT,Yz];rfl
   rw[e];let h5:RkV (upd (upd H3 p<|.lst<|IL<|T.Q<|Xw ls) q<|.tup [.int (T.Q<|Xw ls).sum,.ref c]) ↑q (XQ ls T,T):={q,c,Z,XS,u _ _ hc}
   show((hU.imp λ_ _ h=>h.same u).snoc h5).imp λ_ _ h=>h.mut h4
  intro σ H2 Ω;let⟨us,v3,rfl,s2,h2,hU,TN⟩:=Ω;rw[SR,Ys]at hU;let tF:=hU.1
  show{_,Z,t,us,Lm ls L,RkV H2,Z,SqL.of h2,hU,λv x h=>by let(a,q,e,h1,h2):=h;show{a,q,e,SqT.of h1,SqT.of h2},by rw[tF,show(Lm ls L).f=_ from Yb _];show hl,λzs M hZ hp hM r hr=>?_};show k zs M r _ (hZ.imp λ_ _ h=>h.same<|XM hr) hp hM (s2.l<|XM hr) (s2.free hr) XS
inductive spZb1(K:Ad)(CD C Pt:A7):_
 |mk (a x d l e:A7) (ns:Ac) (zs:A6 V) (z:V) (T:Tr) (xs ys:A6 V) (L:Ab) (_:vs=[.ref a,.ref x,.ref l,.ref e]) (_:SqL K H a (IL ns)) (_:ns.f<=63) (_:DeskAt CD H x d (zs++[z])) (_:StageV C H z T) (_:rE T) (_:zs.f<=1000) (_:SqL K H l xs) (_:xs.f=T.2.1.f) (_:SqL K H e ys) (_:TupsV H ys L) (_:L.f<128) (_:L≠[]) (_:L.Nodup) (_:(∀U,U∈L↔Zj T.1 T.2.1 U)) (_:Ws H Pt) (_:∀H',Q (.bl true) H')
def FK{CD Pt:A7}{H H2:Hp}{x d:A7}{zs:A6 V}(t:Ws H Pt)(sx:SameX Pt H H2)(h:DeskAt CD H x d zs):DeskAt CD H2 x d zs:=
 by let(dx,h1,h2):=h;exists dx,sx _ _ (t.ne h1 AP) h1,sx _ _ (t.ne h2 AP) h2
def FJ{C Pt:A7}{H H2:Hp}{v:V}{T:Tr}(t:Ws H Pt)(sx:SameX Pt H H2)(h:StageV C H v T):StageV C H2 v T:=
 by let(a,w,b,e,h1,h2,h3):=h;exists a,w,b,e,sx _ _ (t.ne h1 AP) h1,h2.samex t sx,sx _ _ (t.ne h3 AP) h3
def DG{Pt:A7}{H H2:Hp}{xs:A6 V}{L:Ab}(t:Ws H Pt)(sx:SameX Pt H H2)(h:TupsV H xs L):TupsV H2 xs L:=
 {h.1,λi l e=>by let(v,hv,c,rfl,hc):=h.2 i l e;exists _,hv,c,Z,sx _ _ (t.ne hc AP) hc}
def Ze15{m:A5}{U:Ac}(h:IsSet m U)(lo hi:Option A0):∃W,Xl (IL U) lo hi=IL W/\IsSet m W:=by let(h1,h2):=XY.Y h;exists (U.drop<|HT.Uy (IL U).f 0 lo).R (HT.Uy (IL U).f (IL U).f hi-HT.Uy (IL U).f 0 lo),?_,XY.X {λz hz=>h1 z<|List.mem_of_mem_drop<|Pd hz,h2.sublist<|(RX ..).l (List.drop_sublist ..)};unfold Xl;rw[mH,Bq]
def ZF12{f:Ac->B2}{L:Ab}{T:Ac}(hT:L[k]?=⇑T):((L.R (k+1)).filter f).f=((L.R k).filter f).f+if f T=A9 then 1 else 0:=by
 rw[Yw,hT,Pc,Ya];change _+(List.filter f [T]).f=_
 rw[OS];split<;>rfl
def Zb16{n:A0}{ps:Aa}{L:Ab}{f:Ac->B2}(hn:L.Nodup)(hm:∀l,l∈L↔Zj n ps l)(hf:∀T,f T=A9↔(∀z∈I,z∈T)/\∀z∈O,z∉T):PC n ps I O (L.filter f).f:=
 {L.filter f,hn.filter _,λl=>by ext,Z}
def NI:FnScope ["script","desk","ties","trees","k","some","having"] ["script","desk","ties","trees"] (Zc (top 121)):=TF CC
def Zq17(T:Txt K mg t)(hB:Te K mg base (t.d 1) Pt):Xp P w base Xx T.qZb1 13 (spZb1 K t.A_Desk t.A_Web Pt):=by
 show T.qZb1.okI ["script","desk","ties","trees","k","some","having"] CC ⋯
 .let⟨a,x,d,l,e,ns,zs,z,T',xs,ys,L,rfl,hS,Ru,hD,hZ,hO,hz,hX,wA,hE,hL,q9,qC,Jx,NZ,hT,k⟩:=h;show⟨_,(XR (WU YD Z (ZO Z T.n_range<|XZ (Zf (tR Z) pq T.n_max Boot.«max»<|XZ XN<|XZ (Zf (II Z) pq T.n_min Boot.«min»<|XZ (Zf (Zh K) pq T.n_len Boot.«len»<|XZ (pv 0) XX)<|XZ XN XX) XX) XX) (Zb 4)
   (XR (PH (i:=5) NI.nd Z (Or.inr Z)<|XD (ai T) hr T.qZ31 Zt<|XZ (Zp RR (XD (FP T) hr T.qZY Zt<|XZ (pv 0)<|XZ (pv 4) XX) XN)<|XZ (Zf (Zh K) pq T.n_len Boot.«len»<|XZ (pv 2) XX) XX)
   (XR (WO (Zk QG (Zf (Zh K) pq T.n_len Boot.«len»<|XZ (pv 5) XX) XN<|Zq _)
   (XJ<|PH (i:=5) NI.nd Z (Or.inr Z)<|VH (Vr K) (pv 5) (RO<|Zp ZR (pv 4) XN)<|RO<|Zp Tv (Zp ZR (pv 4) XN) XN)
   Zn)
   (XR (yp (i:=6) Z NI.nd Z Z (sc0:=Zc<|top 121) (N0:=["script","desk","ties","trees","k","some","having"]) (N':=["tree","some"]) (o:=1) (fr:=[5]) (xo:="tree") ⟨Z,pq,CC,CC,Z,CC⟩ (ZE K<|pv 3) (Zu D) (λ_ _ _ _=>(t6 (i:=0) (show List.Nodup (["tree","some"]:A6 B8) by decide +kernel) Z<|Or.inr Z)) (λ_ _ _ _=>(KA<|MK<|Zf (Bb K Z) pq T.n_all Boot.«all»<|XZ (UW Z (sc0:=({kind:=PySem.ScopeKind.function,names:=[ (PySem.Str.H ".0",PySem.NameKind.local),(PySem.Str.H "tree",PySem.NameKind.cell),(PySem.Str.H "all",PySem.NameKind.globalImplicit),(PySem.Str.H "some",PySem.NameKind.cell)],isGenerator:=B0,isCoroutine:=B0,more:=[]:PySem.Scope})) (N0:=["tree","some"]) (N':=["tie","tree"]) (o:=1) (fr:=[0]) ⟨Z,CC,CC,CC,Z,CC⟩ (ZE K<|pv 1) (Zu D) (λ_ _ _ _=>(Zb 0)) (λ_ _ _ _=>ZI) λ_ _ _ _=>(KO (tD K) (pv 0) (pv 1) Z)) XX)) λ_ _ _ _=>(pv 0))
   (XJ (WO (Zk Sk (EO (pv 1) T.cl_Desk T.me_Desk_asked (Qa T hB) (hr.mono D) T.bZX .nil Zt<|XZ (Zp ZJ ZP<|XD (Sq T) hr T.qZ81 Zt<|XZ (Zi (Bm K) pq T.n_tuple Boot.«tuple»<|XZ (pv 5) XX) XX) XX) (XD (Zs17 T) hr T.qZ91 Zt<|XZ (Zf (Zh K) pq T.n_len Boot.«len»<|XZ (pv 6) XX)<|XZ (Zf (Zh K) pq T.n_len Boot.«len»<|XZ (pv 3) XX) XX)<|Zq _)
   (XJ<|Zm Uo)
   Zn))))))
   (XJ<|Zm Uo)),?_⟩
  let(hG,WE,Rw):=id hO;let vt:=hG.2.2.1
  let SR:=hL.1;obtain⟨F,vy⟩:∃F,L[0]?=⇑F:={_,Xv<|Dx.X qC};let hF:=(NZ F).Y (Xo vy)
  let hJ:Kk T'.1 T'.2.1:=λi j hi hj=>(hF.2.2 i j hi hj).mono (ZG λz hz=>Xy.X<|hF.1.all z hz);let vf:TC T'.1 T'.2.1 L.f:=⟨L,Jx,NZ,Z⟩
  exists _,Z,a,_,Z,.inl hS,_,_,Z,_,_,Z,_,Z,lY (k:=8) Ru D,lX (k:=8) Ru D,?_;show UN (λi σ H6=>∃v4 v5 v6:Option V,σ=[some ↑a,some<|.ref x,some<|.ref l,some<|.ref e,v4,v5,v6]/\SameX Pt H H6/\Ws H6 Pt) {none,none,none,Z,SameX.same<|Same.refl _,hT} ?_ ?_
  .rintro i σ H6 hi ⟨v4,v5,v6,rfl,Sb,Ll⟩;let hS6:=SqL.samexT hS hT Sb
   let hX6:=SqL.samexT hX hT Sb;let DF:=SqL.samexT hE hT Sb
   let hD6:=FK hT Sb hD;let hZ6:=FJ hT Sb hZ
   let qB:=DG hT Sb hL;show{_,Z,_,Z,a,ns,_,Z,hS6,by ext,λc c0 c1=>{_,_,Z,Z,⟨D,D⟩,_,Z,l,xs,Z,.inl hX6,_,xs.f,Z,J,λb U0 H7 hI0 s7 SD hb=>?_}};show nm ?_;dsimp only[List.set];show LW (λσ H8=>∃(b2:A7)(U:Ac),σ=[some ↑a,some<|.ref x,some<|.ref l,some<|.ref e,some<|.int<|0+(i:A0),some<|.ref b2,v6]/\Same H6 H8/\H8 b2=⇑(.lst<|IL U)/\IsSet xs.f U) ?_ ?_;rotate_left
   .intro Kn hK;exists _,Z,b,_,Z,.inl<|SqL.of hb,_,_,Z,Z,_,Z,?_;show Xk (λ_=>?_) λ_=>hK _ _ ⟨b,U0,Z,s7,hb,hI0⟩;exists _,Z,_,Z,_,_,Z,Z,J,_,Z,_,Z,_,_,Z,Z,J,_,_,Z,Z,_,Z,b,_,Z,SqL.of hb,λb2 SU=>?_;let(W,hW,hWs):=Ze15 hI0 (some<|(0+(i:A0))%3) (some<|(0+(i:A0))%3+2);rw[hW];show hK _ _ {b2,W,Z,s7.l<|XM SU,XS,hWs}
   intro σ H8 Ω;let⟨b2,U,rfl,s8,SU,hU⟩:=Ω;let Lk:=s8.seq DF
   let DE:=qB.same s8;exists _,Z,e,Z,{_,Lk},SG (K:=K) (a:=e) (xs:=ys) (λk us H9=>Same H8 H9/\k<=ys.f/\us.f=((L.R k).filter λT=>(U.Q λz=>decide<|z∈T).all id).f) {Same.refl _,XC _,Z} (Zl J) (λk us H9 hk h=>by let(s9,h1,h2):=h;exists s9.seq Lk,B) ?_ ?_
   .rintro k v us H9 hk ⟨s9,hkl,qA⟩ S Xt;let VX:=(Xr.Y hk).1
    let(T,iV,c,rfl,hc):=(DE.same s9).at hk;let e1:=ZF12 (f:=λT=>(U.Q λz=>decide<|z∈T).all id) iV
    show nm ?_;exists _,Z,b2,Z,{_,SqL.of<|s9 _ _ SU},SG (K:=K) (a:=b2) (xs:=IL U) (λj ws Lr=>Lr=H9/\ws=((U.R j).Q λz=>decide<|z∈T).Q V.bl) ⟨Z,Z⟩ (Zl<|by rw[Xd];have:=hU.len;lia) (λj ws Lr hj h=>by let(e,ey):=h;show{e▸SqL.of (s9 _ _ SU),by ext}) ?_ ?_
    .rintro j v ws Lr hj ⟨rfl,rfl⟩ S2 hSS2;let(z,rfl,hz):=Vj hj;show nm ?_;exists _,Z,_,Z,c,_,Z,.inr<|SqT.of hc,Z,Oy _,?_;rw[Oz];show hSS2 _ _ {Z,?_};rw[Yw,hz];simp
    rintro ws Lr ⟨rfl,rfl⟩ p1 WB;rw[Xd,Ys];let u1:=XM (o:=.lst<|(U.Q λz=>decide<|z∈T).Q V.bl) WB
    exists p1,_,Z,SqL.of XS,_,Z,?_;show mG (λhall=>?_) (λhall=>?_)
    .exists _,Z,Xt _ _ {s9.l u1,VX,by rw[e1,Ya,qA,Yk hall];rfl}
    .show Xt _ _ {s9.l u1,VX,by ext}
   rintro us H9 ⟨s9,_,qA⟩ p hp;rw[SR,Ys]at qA;let u2:=XM (o:=.lst us) hp
   let ve:=s8.l (s9.l u2);let WB:=XS (H:=H9) (a:=p) (o:=.lst us)
   let hbA:=u2 _ _ (s9 _ _ SU);let txA:=SameX.same (Pt:=Pt) ve
   show nm ?_;let vd:=hD6.same ve
   let Rt:=Ll.same ve;let(dx,hx,hd):=id vd;let hUl:U.f<=30:=Ym hU.len (by ext)
   let hUt:Told U:=λz hz=>by have:=hU.all z hz;lia
   exists _,Z,x,dx,_,Z,hx,pq,_,Z,b2,IL U,Z,.inl {SqL.of hbA,λq hq=>?_};let u3:=XM (o:=.tup<|IL U) hq
   exists q,U,Z,XS,J,hUt,λHB sB=>?_;let qz:=u3.l sB
   let FI:=Rt.same qz;exists _,_,Z,Z,?_,x,d,zs,z,T',.share U,?_,vd.same qz,hZ6.same<|ve.l qz,hO,hz,{by ext,hJ},FI,λs HC hs sxC FH=>?_
   .have:=xt (l:=U) J hUt
    show Ym (show 6+(TJ U).f<=100000 by lia) D
   .rw [show Str.H "share "=Str.H "share"++TK from Z,ZV7];rfl
   let(c',d',p',q',VV,uf,d0,hlow,rfl):=hs;let sx:=(SameX.same (Pt:=Pt) qz).l sxC
   let pcU:PC T'.1 T'.2.1 U [] us.f:=by rw[qA];show Zb16 Jx NZ λT=>by ext
   let rfl:=VV.uniq pcU;let rfl:=uf.uniq vf;let hle:=He pcU vf
   show{_,Z,p,us,Z,.inl<|SqL.of<|sx _ _ (Rt.ne WB AP) WB,_,Z,e,ys,Z,.inl<|SqL.samexT (ve.seq DF) Rt sx,us.f,L.f,by rw[SR];rfl,d0,hle,J,λp2 q2 HD vc sD=>?_};let(rfl,rfl):=gE (by ext) hlow vc;exists Z,_,Z,?_;rw[YU Z];show MA {_,_,_,Z,Sb.l<|txA.l<|sx.l<|SameX.same sD,FH.same sD}
  intro σ H6 Ω;let⟨v4,v5,v6,rfl,Sb,Ll⟩:=Ω;show k H6
def Zf9:∀k,k<=4->((subs 9).filter λl=>decide (l.f=k)).f<128:=by decide +kernel
def ZV9{n:A0}{ps:Aa}{L:Ab}(g:Zz n ps)(hm:n<=5)(hp:ps.f<=9)(hn:L.Nodup)(h:∀l∈L,Zj n ps l):L.f<128:=by
 show Fu (hn.length_le_of_subset (l₂:=(subs 9).filter λl=>decide<|l.f=(n-1).j) λl hl=>?_) (Zf9 _<|by ext);let t:=h l hl
 show Yq.X {Vz.X<|XY.X {λz hz=>?_,(XY.Y t.1).2},YU (by have:=t.2.1;lia)}
 have:=t.1.all z hz
 lia
def Zi11{n:A0}{ps:Aa}{L:Ab}(h:L≠[])(hm:∀l,l∈L↔Zj n ps l):Kk n ps/\0<L.f:=by
 obtain⟨F,vy⟩:∃F,L[0]?=⇑F:={_,Xv<|Dx.X h};let hF:=(hm F).Y (Xo vy)
 exists λi j hi hj=>(hF.2.2 i j hi hj).mono (ZG λz hz=>Xy.X<|hF.1.all z hz),Dx.X h
def Zl5{n:A0}{ps:Aa}{ls F:Ac}{L:Ab}{M:A6 (A0×Ac)}(hm:∀l,l∈L↔Zj n ps l)(hn:L.Nodup)(hM:M.Perm (Lm ls L))(hs:M.U λa b=>HT.Vv b a=B0)(hF:GD n ps ls F):M[0]?=⇑(XQ ls F,F):=by
 let h:Rkd n ps ls 1 [F]:={λT hT=>by rw[Xn.Y hT];show hF.1,UQ ..,XI 1,λW hW=>(hF.2 W hW).imp (λe=>by ext) λe=>{Z,λT hT=>by ext}};let e:=Zt7 hm hn hM hs h
 cases M with
 |nil=>cases e
 |cons y M=>show YF some (Jk e).1.symm
def Zd4{R:V->α->Prop}{xs:A6 V}{l:A6 α}(h:Bears R xs l)(k:A5):Bears R (xs.R k) (l.R k):=by
 show{by rw[Yx,Yx,h.1],λi a e=>?_};cases c:i<k
 .rw[qp c]at e ⊢;show h.2 i a e
 .rw[Jr,Yj c]at e;cases e
def Zp17(T:Txt K mg t)(hB:Te K mg base (t.d 1) Pt):Xp P w base Xx T.qZc1 14 (spZc1 K Pt):=by
 show T.qZc1.okI ["script","places","ties","lengths","desk","trees","number","ranks","most","due"] CC ⋯
 .let⟨a,ns,rfl,hS,Ru,aE,k⟩:=h;show⟨_,(XR (EW (XD (ao T) hr T.qZ21 Zt<|XZ (pv 0)<|XZ XN<|XZ XN XX)<|Pw (n:=2) K Z<|Zw (Zb 1)<|Zw (Zb 2) PJ)
   (XR (Zd 3<|XD (ae T) hr T.qZ61 Zt<|XZ (pv 0)<|XZ (Zf (Zh K) pq T.n_len Boot.«len»<|XZ (pv 2) XX) XX)
   (XR (Zd 4<|tQ T.k_Desk (aK T) (hr.mono D) Z T.c_Desk T.bZU .nil Zt<|XZ (XD (aa T) hr T.qZ71 Zt<|XZ (pv 1)<|XZ (pv 2)<|XZ (pv 3) XX) XX)
   (XR (Zd 5<|XD (af T) hr T.qZ51 Zt<|XZ (pv 1)<|XZ (pv 2) XX)
   (XR (WO (Zk Sk (EO (pv 4) T.cl_Desk T.me_Desk_asked (Qa T hB) (hr.mono D) T.bZX .nil Zt<|XZ ZP XX) (Zi Zx pq T.n_str Boot.«str»<|XZ (Zf (Zh K) pq T.n_len Boot.«len»<|XZ (pv 5) XX) XX)<|Zq _)
   (XJ<|Zm Uo)
   Zn)
   (XR (WO (Zk (my K<|Ie hr) (pv 5) (UL XX)<|Zq _)
   (XJ<|Zm Uo)
   Zn)
   (XR (WU YD Z (ZO Z T.n_range<|XZ (Zf (Zh K) pq T.n_len Boot.«len»<|XZ (pv 5) XX) XX) (Zb 6)
   (XR (WO (Zk Sk (EO (pv 4) T.cl_Desk T.me_Desk_asked (Qa T hB) (hr.mono D) T.bZX .nil Zt<|XZ (Zp ZJ ZP<|Zi Zx pq T.n_str Boot.«str»<|XZ (pv 6) XX) XX) (XD (Sq T) hr T.qZ81 Zt<|XZ (ZB (Zg K) (pv 5) (pv 6) λ_ _=>rfl) XX)<|Zq _)
   (XJ<|Zm Uo)
   Zn)
   (XJ (WO (Zk Sk (EO (pv 4) T.cl_Desk T.me_Desk_asked (Qa T hB) (hr.mono D) T.bZX .nil Zt<|XZ (Zp ZJ ZP<|XD (Sq T) hr T.qZ81 Zt<|XZ (ZB (Zg K) (pv 5) (pv 6) λ_ _=>rfl) XX) XX) (Zi Zx pq T.n_str Boot.«str»<|XZ (pv 6) XX)<|Zq _)
   (XJ<|Zm Uo)
   Zn))))
   (XR (Zd 7<|XD (Zr17 T) hr T.qZa1 Zt<|XZ (pv 5)<|XZ (pv 3) XX)
   (XR (WO (Zk Sk (EO (pv 4) T.cl_Desk T.me_Desk_asked (Qa T hB) (hr.mono D) T.bZX .nil Zt<|XZ ZP XX) (XD (Sq T) hr T.qZ81 Zt<|XZ (ZB (ZA K) (ZB (Zg K) (pv 7) XN λ_ _=>rfl) XN λ_ _=>rfl) XX)<|Zq _)
   (XJ<|Zm Uo)
   Zn)
   (XR (Zd 8<|Zp ZR (XD (FP T) hr T.qZY Zt<|XZ (pv 0)<|XZ XN XX) XN)
   (XR (Zd 9<|WT K Uq Fx Fy (Ef K) ZP<|XZ (UW Z (sc0:=Zc sZc1) (N0:=["script","places","ties","lengths","desk","trees","number","ranks","most","due"]) (N':=["length","tree"]) (o:=2) (fr:=[]) ⟨Z,CC,CC,CC,Z,CC⟩ (ZE K<|VH (Vr K) (pv 7) QF<|RO<|pv 8) (Ir<|VG D<|VG D RM) (λ_ _ _ _=>(Pw (n:=2) K Z<|Zw (Zb 0)<|Zw (Zb 1) PJ)) (λ_ _ _ _=>ZI) λ_ _ _ _=>(Zp ZJ (Zp ZJ (Zi Zx pq T.n_str Boot.«str»<|XZ (pv 0) XX) ZP)<|XD (Sq T) hr T.qZ81 Zt<|XZ (pv 1) XX)) XX)
   (XJ<|Zm<|IY (KO TU (EO (pv 4) T.cl_Desk T.me_Desk_asked (Qa T hB) (hr.mono D) T.bZX .nil Zt<|XZ (Zp ZJ ZP<|Zi Zx pq T.n_str Boot.«str»<|XZ (pv 8) XX) XX) (pv 9)<|Zq _)<|IZ<|XD (Zq17 T hB) hr T.qZb1 Zt<|XZ (pv 0)<|XZ (pv 4)<|XZ (pv 2)<|XZ (pv 5) XX)))))))))))),?_⟩
  exists _,Z,a,ns,5,9,Z,hS,Ru,D,D,D,D,λr l n xs ps H1 s1 Uu Pk Qg hP hG hnm CG=>?_;exists r,_,Z,SqT.of Uu,Z,_,_,Z,_,_,Z,Z,?_;let JH:=hP.1
  let hm9:ps.f<=9:=J;exists _,Z,_,Z,l,xs,Z,.inl<|SqL.of Qg,a,ns,xs.f,Z,s1.seq hS,Ru,J,λb ls H2 s2 SD hb WE Rw=>?_;show nm ?_;let WE:ls.f=ps.f:=WE.l JH
  exists _,Z,_,Z,_,Z,n,l,b,xs,ps,ls,Z,SqL.of<|s2 _ _ Qg,hP.same s2,SqL.of hb,hG,WE,Rw,λH3 s3=>?_;intro x dx nx DQ wa;let t1:Same H3 (upd (upd H3 dx<|.own x) x<|.ins t.A_Desk dx []):=ZD (XM DQ) (by rwa[Za (YX wa)])
  exists x,dx,(n,ps,ls),Z,XS,⟨hG,WE,Rw⟩,λd z H4 k4 Eg hD hZ=>{Z,?_};let wz:Same H3 H4:=λb o e=>k4 b o (t1 b o e) (Ze e nx)
  show nm ?_;let FY:=s2.l (s3.l wz)
  let JF:=FY _ _ Qg;let qF:=hP.same FY
  let hb4:=(s3.l wz) _ _ hb;exists _,Z,_,Z,n,l,xs,ps,Z,SqL.of JF,qF,hG,hnm,hm9,λeA ys L H5 s5 heA hL q9 Xh Qp=>?_;show nm ?_;let Jx:=Zq4 Qp
  let few:=ZV9 hG hnm hm9 Jx λl hl=>(Xh l).Y hl;let SR:=hL.1
  let vf:TC n ps L.f:=⟨L,Jx,Xh,Z⟩;let qH:Same H H5:=s1.l (FY.l s5)
  let So:=aE.same qH;let hS5:=qH.seq hS
  let Qc:=s5 _ _ JF;let wk:=s5 _ _ hb4
  let hD5:DeskAt t.A_Desk H5 x d ([]++[z]):=hD.same s5;let hZ5:=hZ.same s5
  let hO:rE (n,ps,ls):=⟨hG,WE,Rw⟩;let(dx5,hx5,df):=id hD5;exists _,Z,x,dx5,_,Z,hx5,pq,x,d,[],z,(n,ps,ls),.count,Z,hD5,hZ5,hO,XC _,trivial,So,λs6 H6 hs Sb Ll=>?_;let DF:=Sb _ _ (So.ne heA AP) heA
  let DS:=Sb _ _ (So.ne Qc AP) Qc;let hb6:=Sb _ _ (So.ne wk AP) wk
  let hS6:=SqL.samexT hS5 So Sb;let qB:=DG So Sb hL
  let hD6:=FK So Sb hD5;let hZ6:=FJ So Sb hZ5
  let(c,hc,rfl):=hs;let rfl:=hc.uniq vf;exists _,Z,eA,ys,Z,.inl<|SqL.of DF,_,Z,J,J,?_;exists Z,_,Z,?_;rw[SR];show Kx Z ?_;show nm ?_;exists _,Z,XC _,λe1 jl=>?_;let s7:=XM (o:=.lst []) jl
  exists 2,_,eA,e1,Z,Z,D,ZW9 (SqL.of<|s7 _ _ DF) (SqL.of XS) (qB.same s7) TupsV.nil,_,Z,?_;show Xk (λ_=>k _) λqC=>?_;show nm ?_;let hF:=Zi11 qC Xh
  let va:=s7 _ _ DF;let hS7:=s7.seq hS6
  let hL7:=qB.same s7;let hD7:=hD6.same s7
  let JE:=hZ6.same s7;let hb7:=s7 _ _ hb6
  let hl7:=s7 _ _ DS;let UY:=Ll.same s7
  generalize upd H6 e1 (.lst [])=H7 at *;let told:=λT (h:T∈L)=>DW hG ((Xh T).Y h)
  show{_,Z,eA,ys,Z,.inl<|SqL.of va,_,Z,by ext,J,?_};show UN (λi σ H8=>∃v6:Option V,σ=[some ↑a,some<|.int n,some<|.ref l,some<|.ref b,some<|.ref x,some<|.ref eA,v6,none,none,none]/\SameX Pt H7 H8/\Ws H8 Pt) {none,Z,SameX.same<|Same.refl _,UY} ?_ ?_
  .rintro i σ H8 hi ⟨v6,rfl,PZ,Rr⟩;let Lk:=PZ _ _ (UY.ne va AP) va
   let DE:=DG UY PZ hL7;let uZ:=FK UY PZ hD7
   let Lz:=FJ UY PZ JE;let hiL:i<L.f:=by ext
   obtain⟨U,hUi⟩:∃U,L[i]?=⇑U:={_,Xv hiL};let(v,hv,c,rfl,hc8):=DE.2 i U hUi;let hUm:=Xo hUi
   let hU:=(Xh U).Y hUm;let(t1,t2):=told U hUm;let rkU:=ik Xh Qp hUi
   let tU:=xt t1 t2;let e0:((0:A0)+(i:A0)).j=i:=by ext
   let nL:(nT<|0+(i:A0)).f<=61:=Se (k:=60) D J J;let(dx8,hx8,hd8):=id uZ;exists _,Z,x,dx8,_,Z,hx8,pq,_,Z,_,Z,J,J,_,_,Z,Z,?_,x,d,[],z,(n,ps,ls),.tree<|0+(i:A0),?_,uZ,Lz,hO,XC _,{by ext,L.f,vf,by ext},Rr,λs9 H9 hs uY Vw=>?_
   .show Ym (show 5+(nT<|0+(i:A0)).f<=100 by lia) D
   .rfl
   let(W,hW,rkW,rfl):=hs;rw[e0]at rkW;let rfl:=ij hU hW rkU rkW;let hE9:=uY _ _ (Rr.ne Lk AP) Lk
   let hc9:=uY _ _ (Rr.ne hc8 AP) hc8;exists _,Z,_,Z,eA,ys,_,.ref c,Z,Z,SqL.of hE9,Zv (n:=i) (by ext) hv,c,U,Z,hc9,t1,t2,λHA sA=>{Z,_,Z,?_};show Kx Z ?_;show nm ?_;let vd:=(FK Rr uY uZ).same sA
   let hZA:=(FJ Rr uY Lz).same sA;let Rt:=Vw.same sA
   let(dxA,hxA,hdA):=id vd;exists _,Z,x,dxA,_,Z,hxA,pq,_,Z,_,Z,eA,ys,_,.ref c,Z,Z,SqL.of<|sA _ _ hE9,Zv (n:=i) J hv,c,U,Z,sA _ _ hc9,t1,t2,λHB sB=>?_;let FI:=Rt.same sB
   exists _,_,Z,Z,?_,x,d,[],z,(n,ps,ls),.number U,?_,vd.same sB,hZA.same sB,hO,XC _,hU,FI,λsC HC hs sxC FH=>?_
   .show Ym (show 7+(TJ U).f<=100000 by lia) D
   .rw [show Str.H "number "=Str.H "number"++TK from Z,ZV7];rfl
   let(r',vD,rfl):=hs;let rfl:=vD.uniq rkU;exists _,Z,_,Z,J,J,Z,_,Z,?_;show Kx (by rw[KY];rfl) ?_;show nm {_,Z,PZ.l<|uY.l<|(SameX.same<|sA.l sB).l sxC,FH}
  intro σ H8 Ω;let⟨v6,rfl,PZ,Rr⟩:=Ω;let Lk:=PZ _ _ (UY.ne va AP) va
  let hb8:=PZ _ _ (UY.ne hb7 AP) hb7;let hl8:=PZ _ _ (UY.ne hl7 AP) hl7
  let hS8:=SqL.samexT hS7 UY PZ;let DE:=DG UY PZ hL7
  let uZ:=FK UY PZ hD7;let Lz:=FJ UY PZ JE
  exists _,Z,_,Z,eA,b,ys,L,ls,Z,SqL.of Lk,DE,SqL.of hb8,few,?_,λzs M r9 H9 hM QS Jw s9 hr9 hrM=>?_
  .intro T hT;let h:=(Xh T).Y hT
   let a1:=h.2.1;exists J,λz hz=>by have:=h.1.all z hz;ext
  show nm ?_;let EJ:=uZ.same s9
  let hZ9:=Lz.same s9;let Vw:=Rr.same s9
  let(dx9,hx9,hd9):=id EJ;exists _,Z,x,dx9,_,Z,hx9,pq,x,d,[],z,(n,ps,ls),.cheap,Z,EJ,hZ9,hO,XC _,hF.1,Vw,λsA HA hs NH Rt=>?_;let(F,hFt,DR,rfl):=hs;let hM0:=Zl5 Xh Jx QS Jw (wW hG WE hFt DR)
  let hFL:F∈L:=(Xh F).X (wW hG WE hFt DR).1;let(v0,hv0,tp,tq,rfl,h1,h2):=hM.2 0 _ hM0;let LC:=NH _ _ (Vw.ne hrM AP) hrM
  let h1A:=NH _ _ (Vw.ne h1 AP) h1;let h2A:=NH _ _ (Vw.ne h2 AP) h2
  let hMA:Bears (RkV HA) zs M:={hM.1,λi y e=>by let(v,hv,p,q,e,k1,k2):=hM.2 i y e;exists v,hv,p,q,e,NH _ _ (Vw.ne k1 AP) k1,NH _ _ (Vw.ne k2 AP) k2};exists _,Z,r9,_,_,.ref tp,Z,Z,SqL.of LC,Zv (n:=0) Z hv0,tp,_,1,.ref tq,Z,Z,SqT.of h1A,Z,tq,F,Z,h2A,(told F hFL).1,(told F hFL).2,λHB sB=>{Z,_,Z,?_};show Kx Z ?_;let uX:=Rt.same sB
  let hDB:=(FK Vw NH EJ).same sB;let hZB:=(FJ Vw NH hZ9).same sB
  let hSB:=sB.seq (SqL.samexT (s9.seq hS8) Vw NH);let hEB:=sB _ _ (NH _ _ (Vw.ne (s9 _ _ Lk) AP)<|s9 _ _ Lk)
  let hlB:=sB _ _ (NH _ _ (Vw.ne (s9 _ _ hl8) AP)<|s9 _ _ hl8);let hLB:=(DG Vw NH<|DE.same s9).same sB
  let hMB:Bears (RkV HB) zs M:={hMA.1,λi y e=>by let(v,hv,e):=hMA.2 i y e;exists v,hv,e.same sB};let hrB:=sB _ _ LC
  show{_,Z,a,ns,_,Z,hSB,by ext,λc c0 c1=>{_,_,Z,Z,(by ext),?_}};show nm ?_;dsimp only[List.set];obtain⟨mo,emo,m0,m1⟩:∃mo,mo=c%61/\0<=mo/\mo<=60:={_,Z,B,B};rw[<-emo];exists Z,_,Z,_,Z,_,Z,r9,zs,Z,SqL.of hrB,λp hp=>?_;rw[lF m0];let sC:=XM (o:=.lst<|zs.R mo.j) hp
  let hpC:=XS (H:=HB) (a:=p) (o:=.lst<|zs.R mo.j);let zl:(zs.R mo.j).f<=60:=Ym (List.length_take_le ..) (by ext)
  exists p,Z,{_,SqL.of hpC},SG (K:=K) (a:=p) (xs:=zs.R mo.j) (λi us H3=>Same HB H3/\H3 p=⇑(.lst<|zs.R mo.j)/\us=TL (((M.R mo.j).R i).Q λy=>lenT y.1 y.2)) ⟨sC,hpC,Z⟩ (Zl J) (λi us H3 _ h=>by let(_,e,ey):=h;show{SqL.of e,by rw[ey,ZH,Yb,Yx];show uJ ..}) ?_ ?_
  .rintro i v us H3 hi ⟨s3,h3,rfl⟩ S Xt;let(y,hy,up,uq,rfl,k1,k2):=(Zd4 hMB mo.j).at hi;let(T,hT,rfl):=Yp.Y (QS.mem_iff.Y<|Pd<|Xo hy);let(t1,t2):=told T hT;let(b1,b2):=dZ Rw t1;let tT:=xt t1 t2
   let nl:(nT<|XQ ls T).f<=66:=Se (k:=65) D b1 b2;exists up,_,Z,SqT.of<|s3 _ _ k1,Z,_,_,Z,_,_,Z,Z,?_;exists _,Z,_,Z,J,J,_,_,Z,Z,Ym (show(nT<|XQ ls T).f+2<=1000 by lia) D,_,Z,uq,T,Z,s3 _ _ k2,t1,t2,λH4 s4=>{_,_,Z,Z,?_,Xt _ _ {s3.l s4,s4 _ _ h3,?_}}
   .rw [show(Str.H (toString<|XQ ls T)++Str.H ": ").f=(nT<|XQ ls T).f+2 from Fe ..];show Ym (show(nT<|XQ ls T).f+2+(TJ T).f<=100000 by lia) D
   .rw[Yw (l:=M.R mo.j),hy,Yz];show xw _ _
  rintro us H3 ⟨s3,h3,rfl⟩ p2 VW;let eT:=(Zd4 hMB mo.j).1
  rw[eT,Ys];obtain⟨tB,eD⟩:∃tB,tB=(M.R mo.j).Q λy=>lenT y.1 y.2:={_,Z};rw[<-eD];let sD:=s3.l (XM (o:=.lst<|TL tB) VW)
  let hpD:=XS (H:=H3) (a:=p2) (o:=.lst<|TL tB);exists _,p2,tB,Z,Z,SqL.of hpD,?_,?_
  .show Eb (o8:=70000) (λq hq=>?_) B;rw[eD]at hq;let(y,hy,rfl):=Yp.Y hq;let(T,hT,rfl):=Yp.Y (QS.mem_iff.Y<|Pd hy);let(t1,t2):=told T hT;let(b1,b2):=dZ Rw t1;show ZY7 b1 b2 t1 t2
  show nm ?_;let hDD:=hDB.same sD
  let hZD:=hZB.same sD;let Rq:=uX.same sD
  let hSD:=sD.seq hSB;let hED:=sD _ _ hEB
  let hlD:=sD _ _ hlB;let hLD:=hLB.same sD
  let nL:(nT mo).f<=61:=Se (k:=60) D B B;let(dxD,hxD,oz):=id hDD;exists _,Z,x,dxD,_,Z,hxD,pq,_,Z,_,Z,B,B,_,_,Z,Z,?_,x,d,[],z,(n,ps,ls),.rank mo,?_,hDD,hZD,hO,XC _,⟨m0,m1⟩,Rq,λsE HE hs DD tabE=>?_
  .show Ym (show 5+(nT mo).f<=100 by lia) D
  .rfl
  let(R,hR,rfl):=hs;let eR:=Zt7 Xh Jx QS Jw hR
  rw[<-eR,MT]at eD;let eS:(Str.H "\n").join tB=Ec.join (R.Q λT=>lenT (XQ ls T) T):=by rw[eD];rfl
  exists _,Z,Z,_,Z,?_;show Ky (YF V.str eS.symm) ?_;exists _,Z,_,Z,_,Z,_,Z,a,x,d,l,eA,ns,[],z,(n,ps,ls),xs,ys,L,Z,SqL.samexT hSD Rq DD,Ru,FK Rq DD hDD,FJ Rq DD hZD,hO,XC _,SqL.samexT (SqL.of hlD) Rq DD,JH,SqL.samexT (SqL.of hED) Rq DD,DG Rq DD hLD,few,qC,Jx,Xh,tabE,k
def FG{P:Program}{w:World}{K:Ad}{mg:Af}{base:Heap}{t:Adr}{Pt:A7}(T:Txt K mg t)(hB:Te K mg base (t.d 1) Pt):Xp P w base Xx T.qZc1 14 (spZc1 K Pt):=JJ.choose_spec Zp17 ⟨P,w,K,mg,base,t,Pt⟩ T hB
end My
namespace My
open PySem L2
def PY{K:Ad}{f:A7}{fd:B7}(F:Fun K "law" "law" sZc1 f fd)(s:B5)(u:B1):BindsTo s fd {[u],[]} [("script",u)]:=by let(oc,od,kV,doc,pm,an,XG,ct,UA,rfl,lk,Sl):=F.ex;show .of_eq rfl
def qy(K:Ad)(mg:Af)(L:A6 (B8×B6×A6 B8)):(Prop):=∃(a:A5->A7)(d:A5->B7),∀i,Nat.blt i L.f=A9->DfA K mg (L.S i ("",top 0,[])).1 (L.S i ("",top 0,[])).2.1 (a i) (d i) (L.S i ("",top 0,[])).2.2
def FF{K:Ad}{mg:Af}:qy K mg []:={λ_=>0,λ_=>default,λ_ h=>nomatch h}
def Lj{K:Ad}{mg:Af}{x:B8}{st:B6}{ps:A6 B8}{L:A6 (B8×B6×A6 B8)}(h:FQ K mg x st ps)(r:qy K mg L):qy K mg ((x,st,ps)::L):=by
 let(f,fd,q):=h;let(a,d,k):=r;exists λi=>i.casesOn f a,λi=>i.casesOn fd d,λi h=>?_;cases i with
 |zero=>show q
 |succ i=>show k i h
def qx(mg:Af)(L:A6 B8):(Prop):=∀i,Nat.blt i L.f=A9->mg (L.S i "")=A8
def FE{mg:Af}:qx mg []:=λ_ h=>nomatch h
def Li{mg:Af}{x:B8}{L:A6 B8}(h:mg x=A8)(r:qx mg L):qx mg (x::L):=λi k=>by
 cases i with
 |zero=>show h
 |succ i=>show r i k
end My
end
open PySem PySem.W PyProof.Rows
set_option maxRecDepth 100000 in
set_option maxHeartbeats 0 in
theorem PySem.Challenge.cw_spanrow_k86_answers_by_trial_holds : PySem.Challenge.rw_spanrow_k86_answers_by_trial.Holds := by
 w_on;o_law;k_head;(case hw=>w_witness2)
 k_fill
 refine L2.NT (l:=PySem.Challenge.rw_spanrow_k86_answers_by_trial) (n:=63) (k:=14) (x:="script") (CX:=L2.Xx) (sp:=λK=>My.spZc1 K 420) (c:=424) (Pt:=420) rfl (by decide) rfl ⟨rfl,by decide,by decide⟩ (λw h Y=>⟨PySem.W.km_in_of Y,PySem.W.km_tabs_of Y 420 (by decide)⟩) ?C ?P ?F (λ_ H a ns hl hO hS=>⟨a,ns,rfl,hS,hl,⟨#[],hO.1,trivial,.inl rfl⟩,λ_=>rfl⟩) (λ_ _ _ _ z=>z)
 case C=>intro w;kernel_rfl
 case P=>intro w;kernel_rfl
 case F =>
  intro w mg fa h KX G BH;obtain⟨ta,td,tq⟩:My.qy (L2.Uk KX) mg (("refuse_not_square",My.top 13,["table"]) :: ("row_taken_off",My.top 14,["row","pivot","last"]) :: ("first_with_some",My.top 15,["rows"]) :: ("determinant",My.top 16,["table"]) :: ("row_without",My.top 17,["row","number"]) :: ("table_without",My.top 18,["table","number"]) :: ("common_divisor",My.top 19,["one","other"]) :: ("fraction",My.top 20,["top","bottom"]) :: ("is_tie",My.top 26,["web","number"]) :: ("refuse_bad_web",My.top 25,["places","ties"]) :: ("refuse_bad_row",My.top 27,["web","numbers"]) :: ("all_ties",My.top 28,["web"]) :: ("ties_beside",My.top 29,["web","ties"]) :: ("is_set",My.top 31,["web","ties"]) :: ("made_set",My.top 32,["web","ties"]) :: ("merged_marks",My.top 33,["web","marks","ties"]) :: ("piece_marks",My.top 34,["web","ties"]) :: ("pieces_of",My.top 35,["web","ties"]) :: ("is_joined",My.top 36,["web","ties"]) :: ("refuse_parted",My.top 37,["web"]) :: ("weighted_table",My.top 39,["web","weights"]) :: ("pull_table",My.top 40,["web"]) :: ("tree_count",My.top 41,["web"]) :: ("part_count",My.top 42,["web","inside","outside"]) :: ("is_tree",My.top 44,["web","ties"]) :: ("refuse_no_tree",My.top 45,["web","tree"]) :: ("grown_tree",My.top 46,["web","inside","order"]) :: ("least_tree",My.top 47,["web"]) :: ("tree_at",My.top 52,["web","number"]) :: ("lesser_ties",My.top 53,["ties","bound"]) :: ("number_of",My.top 54,["web","tree"]) :: ("length_of",My.top 57,["web","lengths","ties"]) :: ("cheapest_web",My.top 58,["web","lengths"]) :: ("cheapest_tree",My.top 59,["web","lengths"]) :: ("first_of",My.top 61,["web","lengths","order","inside","outside"]) :: ("firsts_behind",My.top 62,["web","lengths","order","taken"]) :: ("share_of",My.top 81,["web","ties"]) :: ("is_number",My.top 85,["word"]) :: ("read_number",My.top 86,["word"]) :: ("read_line",My.top 87,["line","name","many"]) :: ("read_web",My.top 88,["text"]) :: ("numbers_text",My.top 89,["numbers"]) :: ("ties_text",My.top 91,["ties"]) :: ("fraction_text",My.top 92,["pair"]) :: ("length_text",My.top 93,["length","tree"]) :: ("answer_alone",My.top 98,["web","lengths","name"]) :: ("rank_text",My.top 99,["web","lengths","most"]) :: ("row_at",My.top 77,["web","number"]) :: ("answer_of_number",My.top 100,["web","lengths","name","number"]) :: ("row_number",My.top 78,["web","tree"]) :: ("next_text",My.top 101,["web","tree"]) :: ("answer_of_ties",My.top 102,["web","name","ties"]) :: ("read_ties",My.top 103,["words"]) :: ("answer_to",My.top 104,["web","lengths","line"]) :: ("_law_cell",My.top 108,["script","k"]) :: ("_law_mixed",My.top 109,["cell","k"]) :: ("_law_draws",My.top 110,["script","start","count","way"]) :: ("_law_ties",My.top 111,["draws","places","hang"]) :: ("_law_web",My.top 112,["script","most","count"]) :: ("_law_some",My.top 113,["cell","count"]) :: ("_law_marks",My.top 114,["places","ties","some"]) :: ("_law_all",My.top 115,["places","ties"]) :: ("_law_lengths",My.top 116,["script","count"]) :: ("_law_text",My.top 117,["places","ties","lengths"]) :: ("_law_tree_text",My.top 118,["tree"]) :: ("_law_share_text",My.top 119,["top","bottom"]) :: ("_law_ranked",My.top 120,["trees","lengths"]) :: ("_law_shares_good",My.top 121,["script","desk","ties","trees"]) :: ("law",My.sZc1,["script"]) :: []):=by
   dsimp only [L2.Uk]
   repeat' (first | exact My.FF | refine My.Lj ?_ ?_)
   all_goals (refine' My.wV KX G ?a ?l ?c ?k ?b;(case a | l | c | k=>k_is);(case b=>first | exact λ_ _ _ _ _ _=>My.eX λ_=>rfl | exact λ_ _ _ _ _ _=>My.Ip λ_ _=>rfl | exact λ_ _ _ _ _ _=>My.eW λ_ _ _=>rfl | exact λ_ _ _ _ _ _=>My.un4 λ_ _ _ _=>rfl | exact λ_ _ _ _ _ _=>My.un5 λ_ _ _ _ _=>rfl))
  obtain⟨aZB,dZB,uW,mZB,fZB,uV,uU⟩:My.FXL (L2.Uk KX) mg "ranked" "ranked" My.sZB 420:=by dsimp only [L2.Uk];refine' My.GH KX G ?a ?l ?c ?k ?z;(case a | l | c | k=>k_is);(case z=>kernel_rfl)
  have uT:My.mE (L2.Uk KX) mg "Web" "Web.__init__" My.sZa ["places","ties"]:=by
   dsimp only [L2.Uk];refine' My.Kv KX G ?aC ?a ?i ?l ?c ?k ?pg ?hd ?po ?sa ?mk ?kc ?na
   (case aC | a | i | l | c | k | pg | hd | po | sa | mk | kc=>k_is)
   (case na=>(intro f hf;simp only [Yu,List.not_mem_nil,or_false]at hf;rcases hf with rfl | rfl <;> k_is))
  have FC:My.mE (L2.Uk KX) mg "Desk" "Desk.__init__" My.sZU ["stages"]:=by
   dsimp only [L2.Uk];refine' My.Kv KX G ?aC ?a ?i ?l ?c ?k ?pg ?hd ?po ?sa ?mk ?kc ?na
   (case aC | a | i | l | c | k | pg | hd | po | sa | mk | kc=>k_is)
   (case na=>(intro f hf;simp only [Yu,List.not_mem_nil,or_false]at hf;rcases hf with rfl <;> k_is))
  have hZV:My.rF (L2.Uk KX) mg "Desk" "web_now" "Desk.web_now" My.sZV:=by
   dsimp only [L2.Uk];refine' My.NW KX G ?aC ?a ?i ?l ?c ?k
   (case aC=>k_is);(case a=>k_is);(case i=>k_is);(case l=>k_is);(case c=>k_is);(case k=>k_is)
  have hZW:My.rF (L2.Uk KX) mg "Desk" "lengths_now" "Desk.lengths_now" My.sZW:=by
   dsimp only [L2.Uk];refine' My.NW KX G ?aC ?a ?i ?l ?c ?k
   (case aC=>k_is);(case a=>k_is);(case i=>k_is);(case l=>k_is);(case c=>k_is);(case k=>k_is)
  have hZX:My.rF (L2.Uk KX) mg "Desk" "asked" "Desk.asked" My.sZX:=by
   dsimp only [L2.Uk];refine' My.NW KX G ?aC ?a ?i ?l ?c ?k
   (case aC=>k_is);(case a=>k_is);(case i=>k_is);(case l=>k_is);(case c=>k_is);(case k=>k_is)
  have Lh:∃ a,mg "ALONE"=some (.ref a)/\My.TupC (L2.Uk KX) a [L2.V.str "count",L2.V.str "cheapest"]:=by
   dsimp only [L2.Uk];refine' My.Vl KX G ?a ?l ?z ?r
   (case a | l=>k_is);(case z=>decide);(case r=>exact .cons ⟨_,rfl⟩ (.cons ⟨_,rfl⟩ .nil))
  have h_OF_A_NUMBER:∃ a,mg "OF_A_NUMBER"=some (.ref a)/\My.TupC (L2.Uk KX) a [L2.V.str "tree",L2.V.str "row",L2.V.str "rank"]:=by
   dsimp only [L2.Uk];refine' My.Vl KX G ?a ?l ?z ?r
   (case a | l=>k_is);(case z=>decide);(case r=>exact .cons ⟨_,rfl⟩ (.cons ⟨_,rfl⟩ (.cons ⟨_,rfl⟩ .nil)))
  have h_OF_TIES:∃ a,mg "OF_TIES"=some (.ref a)/\My.TupC (L2.Uk KX) a [L2.V.str "number",L2.V.str "place",L2.V.str "next",L2.V.str "share"]:=by
   dsimp only [L2.Uk];refine' My.Vl KX G ?a ?l ?z ?r
   (case a | l=>k_is);(case z=>decide);(case r=>exact .cons ⟨_,rfl⟩ (.cons ⟨_,rfl⟩ (.cons ⟨_,rfl⟩ (.cons ⟨_,rfl⟩ .nil))))
  have h_MOST_PLACES:∃ tk,mg "MOST_PLACES"=some (.int 14 tk):=by
   refine' My.UH KX G ?a ?b
   (case a=>k_is);(case b=>exact⟨_,rfl⟩)
  have h_MOST_TIES:∃ tk,mg "MOST_TIES"=some (.int 30 tk):=by
   refine' My.UH KX G ?a ?b
   (case a=>k_is);(case b=>exact⟨_,rfl⟩)
  have h_FIGURES:∃ tk,mg "FIGURES"=some (.str "0123456789" tk):=by
   refine' My.Qn KX G ?a ?b
   (case a=>k_is);(case b=>exact⟨_,rfl⟩)
  have h_MOST_FIGURES:∃ tk,mg "MOST_FIGURES"=some (.int 60 tk):=by
   refine' My.UH KX G ?a ?b
   (case a=>k_is);(case b=>exact⟨_,rfl⟩)
  have hn:My.qx mg ["abs","all","any","enumerate","int","len","list","max","min","range","set","sorted","str","sum","tuple","zip"]:=by
   repeat' (first | exact My.FE | refine My.Li ?_ ?_)
   all_goals (refine' PySem.W.mg_none_of KX G ?_;k_is)
  obtain⟨A_Web,aZa,dZa,c_Web,fZa,cl_Web,k_Web,NG⟩:=uT;obtain⟨A_Desk,aZU,dZU,c_Desk,fZU,cl_Desk,k_Desk,Lg⟩:=FC;obtain⟨C_Desk_web_now,aZV,dZV,cc_Desk_web_now,fZV,me_Desk_web_now⟩:=hZV;obtain rfl:A_Desk=C_Desk_web_now:=by have e0:=cc_Desk_web_now.symm.trans c_Desk;cases e0;rfl
  obtain⟨C_Desk_lengths_now,aZW,dZW,cc_Desk_lengths_now,fZW,me_Desk_lengths_now⟩:=hZW;obtain rfl:A_Desk=C_Desk_lengths_now:=by have e0:=cc_Desk_lengths_now.symm.trans c_Desk;cases e0;rfl
  obtain⟨C_Desk_asked,aZX,dZX,cc_Desk_asked,fZX,me_Desk_asked⟩:=hZX;obtain rfl:A_Desk=C_Desk_asked:=by have e0:=cc_Desk_asked.symm.trans c_Desk;cases e0;rfl
  have T:My.Txt (L2.Uk KX) mg ⟨λi=>[aZa,aZB,aZU,aZV,aZW,aZX].getD i (ta (i - 6)),λi=>[dZa,dZB,dZU,dZV,dZW,dZX].getD i (td (i - 6)),A_Web,A_Desk⟩:=⟨⟨⟨⟨⟨⟨⟨(tq 0 rfl),(tq 1 rfl)⟩,⟨(tq 2 rfl),(tq 3 rfl)⟩⟩,⟨⟨(tq 4 rfl),(tq 5 rfl)⟩,⟨(tq 6 rfl),(tq 7 rfl)⟩⟩⟩,⟨⟨⟨(tq 8 rfl),(tq 9 rfl)⟩,⟨fZa,fZa.binds (λ_ _ _ _ _ _=>My.eW λ_ _ _=>rfl)⟩⟩,⟨⟨(tq 10 rfl),(tq 11 rfl)⟩,(tq 12 rfl)⟩⟩⟩,⟨⟨⟨⟨(tq 13 rfl),(tq 14 rfl)⟩,⟨(tq 15 rfl),(tq 16 rfl)⟩⟩,⟨⟨(tq 17 rfl),(tq 18 rfl)⟩,(tq 19 rfl)⟩⟩,⟨⟨⟨(tq 20 rfl),(tq 21 rfl)⟩,⟨(tq 22 rfl),(tq 23 rfl)⟩⟩,⟨⟨(tq 24 rfl),(tq 25 rfl)⟩,(tq 26 rfl)⟩⟩⟩⟩,⟨⟨⟨⟨⟨(tq 27 rfl),(tq 28 rfl)⟩,⟨(tq 29 rfl),(tq 30 rfl)⟩⟩,⟨⟨(tq 31 rfl),(tq 32 rfl)⟩,⟨(tq 33 rfl),(tq 34 rfl)⟩⟩⟩,⟨⟨⟨(tq 35 rfl),⟨fZB,fZB.binds (λ_ _ _ _ _ _=>My.eW λ_ _ _=>rfl),mZB⟩⟩,⟨(tq 36 rfl),(tq 37 rfl)⟩⟩,⟨⟨(tq 38 rfl),(tq 39 rfl)⟩,(tq 40 rfl)⟩⟩⟩,⟨⟨⟨⟨(tq 41 rfl),(tq 42 rfl)⟩,⟨(tq 43 rfl),(tq 44 rfl)⟩⟩,⟨⟨(tq 45 rfl),(tq 46 rfl)⟩,(tq 47 rfl)⟩⟩,⟨⟨⟨(tq 48 rfl),(tq 49 rfl)⟩,⟨(tq 50 rfl),(tq 51 rfl)⟩⟩,⟨⟨(tq 52 rfl),(tq 53 rfl)⟩,fZU⟩⟩⟩⟩⟩,⟨⟨⟨⟨⟨⟨fZU.binds (λ_ _ _ _ _ _=>My.Ip λ_ _=>rfl),fZV⟩,⟨fZV.binds (λ_ _ _ _ _ _=>My.eX λ_=>rfl),fZW⟩⟩,⟨⟨fZW.binds (λ_ _ _ _ _ _=>My.eX λ_=>rfl),fZX⟩,⟨fZX.binds (λ_ _ _ _ _ _=>My.Ip λ_ _=>rfl),(tq 54 rfl)⟩⟩⟩,⟨⟨⟨(tq 55 rfl),(tq 56 rfl)⟩,⟨(tq 57 rfl),(tq 58 rfl)⟩⟩,⟨⟨(tq 59 rfl),(tq 60 rfl)⟩,(tq 61 rfl)⟩⟩⟩,⟨⟨⟨⟨(tq 62 rfl),(tq 63 rfl)⟩,⟨(tq 64 rfl),(tq 65 rfl)⟩⟩,⟨⟨(tq 66 rfl),(tq 67 rfl)⟩,(tq 68 rfl)⟩⟩,⟨⟨⟨c_Web,cl_Web⟩,⟨k_Web,NG _ (by simp)⟩⟩,⟨⟨NG _ (by simp),c_Desk⟩,cl_Desk⟩⟩⟩⟩,⟨⟨⟨⟨⟨k_Desk,Lg _ (by simp)⟩,⟨me_Desk_web_now,me_Desk_lengths_now⟩⟩,⟨⟨me_Desk_asked,Lh⟩,h_OF_A_NUMBER⟩⟩,⟨⟨⟨h_OF_TIES,h_MOST_PLACES⟩,⟨h_MOST_TIES,h_FIGURES⟩⟩,⟨⟨h_MOST_FIGURES,(hn 0 rfl)⟩,(hn 1 rfl)⟩⟩⟩,⟨⟨⟨⟨(hn 2 rfl),(hn 3 rfl)⟩,⟨(hn 4 rfl),(hn 5 rfl)⟩⟩,⟨⟨(hn 6 rfl),(hn 7 rfl)⟩,(hn 8 rfl)⟩⟩,⟨⟨⟨(hn 9 rfl),(hn 10 rfl)⟩,⟨(hn 11 rfl),(hn 12 rfl)⟩⟩,⟨⟨(hn 13 rfl),(hn 14 rfl)⟩,(hn 15 rfl)⟩⟩⟩⟩⟩⟩;have e0:=BH.symm.trans (tq 68 rfl).mm
  cases e0;exact⟨(td 68),λs u=>My.PY (tq 68 rfl).fn s u,λbase _ _ HB=>My.FG T ⟨uW,uV,uU,HB,by decide⟩⟩
#print axioms PySem.Challenge.cw_spanrow_k86_answers_by_trial_holds
