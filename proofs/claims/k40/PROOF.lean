import PyProof.Rows.All
import Wide.All
import OpenK.AllK
import Wide.FinOn
import Lean
import PyProof.EqAt
import PyProof.EqKinds
import PyProof.TupleCall
import PySem.Challenge.RW_spanrow_k40_trees_beside_one_another
set_option Elab.async false
set_option linter.all false
set_option bootstrap.genMatcherCode false
set_option genSizeOf false
set_option compiler.extract_closed false
set_option compiler.reuse false
set_option maxRecDepth 100000
section
def zN(t:Bool)(k:Lean.Name)(a:Array Lean.Syntax):(Lean.Syntax):=.node .none ((if t then `Lean.Parser.Tactic else `Lean.Parser.Term)++k) a
def zU(a:Array Lean.Syntax):(Lean.Syntax):=.node .none `null a
def zC:(Nat→Lean.Syntax→Lean.Syntax)
|0,s=>s
|n+1,s=>zN true `rcasesPatMed #[zU #[if s.isIdent then zN true `rcasesPat.one #[s] else if s[1].isMissing then zN true `rcasesPat.ignore #[s[0]] else zN true `rcasesPat.tuple #[s[0],zU ((if s.isOfKind `Lean.Parser.Term.tuple then #[s[1][0],s[1][1]]++s[1][2].getArgs else s[1].getArgs).map λx=>if x.isAtom then x else zN true `rcasesPatLo #[zC n x,zU #[]]),s[2]]]]
def zL(s:Lean.Syntax):(Lean.MacroM Lean.Syntax):=
 let d:=s[2][0]
 let p:=if d[0].isOfKind `Lean.Parser.Term.letId then d[0][0] else d[0]
 if d[1].getNumArgs != 0 then Lean.Macro.throwUnsupported else if p.isIdent&&p.getId != `rfl then pure (zN true `tacticHave__ #[s[0],s[1],s[2]]) else pure (zN true `obtain #[s[0],zU #[zC 9 p],zU d[2][0].getArgs,zU #[d[3],zU #[d[4]]]])
local macro_rules(kind:=Lean.Parser.Tactic.tacticLet__)|s=>zL s
local macro_rules(kind:=Lean.Parser.Tactic.show)|s=>pure (zN true `refine #[s[0],s[1]])
local macro_rules(kind:=Lean.Parser.Tactic.«tacticExists_,,»)|s=>pure (zN true `refine #[s[0],zN false `anonymousCtor #[s[0],s[1],s[0]]])
local macro_rules(kind:=Lean.Parser.Tactic.cases)|s=>if s[3].getNumArgs==0&&s[1][0][0].getNumArgs==2 then pure (.node .none `«tacticBy_cases_:_» #[s[0],zU #[s[1][0][0][0][0],s[1][0][0][1]],s[1][0][1]]) else Lean.Macro.throwUnsupported
local macro_rules(kind:=«term~~~_»)|s=>pure (zN false `proj #[s[1],s[0],Lean.mkIdent `heap.objs.size])
local macro_rules(kind:=coeNotation)|s=>pure (zN false `app #[zN false `dotIdent #[s[0],Lean.mkIdent `ref],zU #[s[1]]])
local macro_rules
|`($x⁻¹)=>`((($x).length:Int))
def zG:List (String×String):=[("f","length"),("j","toNat"),("l","toList"),("m","trans"),("t","size"),("C","toArray"),("E","Pairwise"),("G","heap"),("H","get?"),("L","mp"),("M","take"),("Q","filter"),("R","map"),("S","getD"),("U","mpr"),("X","extract"),("Y","lookup")]
def zF(s:String):(Option String):=zG.lookup s
def zJ:Lean.Name→Lean.Name
|.str p s=>.str (zJ p) ((zF s).getD s)
|n=>n
def zI:Lean.Name→Lean.Name
|.str p s=>if p.isAnonymous then .str p s else .str (zI p) ((zF s).getD s)
|n=>n
def zR:Nat→Lean.Syntax→Option Lean.Syntax
|_,.ident i r n p=>if n.hasMacroScopes then none else let m:=zI n;if m==n then none else some (.ident i r m p)
|e+1,.node i k a=>if k== `Lean.Parser.Term.app then (zR e a[0]!).map λx=>.node i k (a.set! 0 x) else if k== `Lean.Parser.Term.proj then let f:Option Lean.Syntax:=if a[2]!.isIdent then let n:=a[2]!.getId;let m:=zJ n;if m==n then none else some (Lean.mkIdent m) else none
 match zR e a[0]!,f with
 |none,none=>none
 |x,f=>some (.node i k #[x.getD a[0]!,a[1]!,f.getD a[2]!])
 else none
|_,_=>none
def zS(s:Lean.Syntax):Lean.MacroM Lean.Syntax:=(zR 20 s).elim Lean.Macro.throwUnsupported pure
local macro_rules(kind:=ident)|s=>zS s
local macro_rules(kind:=Lean.Parser.Term.proj)|s=>zS s
local macro_rules(kind:=Lean.Parser.Term.app)|s=>zS s
local macro_rules(kind:=«term{_}»)|s=>pure (zN false `anonymousCtor #[s[0],s[1],s[2]])
def zE(s:Lean.Syntax)(x:List Char):Lean.Syntax:=s.setArg 1 (s[1].setArg 1 (s[1][1].setArg 0 (Lean.mkIdent (.mkSimple ("tw"++(x.foldl (λn c=>n*57+c.toNat-if c<'a' then 48 else 54) 0).repr)))))
def zK(s:Lean.Syntax):Nat→List Char→Array Lean.Syntax→Array Lean.Syntax
|0,_,a=>a
|n+1,l,a=>zK s n (l.drop 11) (if l.isEmpty then a else a.push (zE s (l.take 11)))
def zH(s:Lean.Syntax)(k:Lean.Name):Bool:=s.isOfKind (`Lean.Parser.Command++k)
def zB(s:Lean.Syntax):Option Lean.Syntax:=
 let d:=s[1]
 if s.getPos?.isNone||zH d `theorem then none else
 let t:=d[2][1][0][1]
 let q:=zH d `definition
 let s:=if q&&!(t.isMissing||t.isOfKind `Lean.Parser.Term.paren) then s.setArg 1 (.node .none `Lean.Parser.Command.theorem #[d[0],d[1],.node .none `Lean.Parser.Command.declSig #[d[2][0],d[2][1][0]],d[3]]) else if q||zH d `abbrev||zH d `instance then s.setArg 0 (s[0].setArg 4 (zU #[.node .none `Lean.Parser.Command.noncomputable #[s[0]]])) else s
 let s:=s.rewriteBottomUp (·.setInfo .none)
 some (if d[1][0].getId==`twz then zU (zK s 999 (d[3][1].isStrLit?.getD "").toList #[]) else s)
def zD(s:Lean.Syntax):Lean.MacroM Lean.Syntax:=(zB s).elim Lean.Macro.throwUnsupported pure
local macro_rules(kind:=Lean.Parser.Command.declaration)|s=>zD s
namespace PySem.W.Fast
def twz:="55i:<O4PcM<cV7bSNbaQH<S:cE:hnbY4KeQhgJd9IlhnZf9n0HbIgIj=KW6gk4FLVL:<ML9C8gSRC<DMPbYT?gXQ39;8ID:4eKKcOPDWEPTjLkBjOM?AM0iA1>bFcgEiFMm5gOfhAN@OXMHek5@C?Dd4cLKK5aLgS8G86HmEH;LdniWM9cRbAYCWYhd>3lfg?ieEjk>2m01l=WJA=:fIO5=cV@=;Tljjbcn>WM49l2QB0nPW55>DmZ4hZFMJXKJUAbGU:@mgJ76UTAbXE0KR0>lK>1GK?3SgNIL5khif1ZPVhTFAg58LLYTC1WU61MgZNQY0Q3Yea8;3FJ8R02jP9FQBY=6WURE7K75@6Qb16;UHG1nfc=>EiU4j=S@LIMSS6Sd=5;bOdfZ@UQ9JbcHHVLAP;23=nATEI4bc7PVFCBNHW0EKWC68ddf8hO3aE3SCbWeYFKF;iD9HO?bkNGkXFl65QUMY7Pl<0nbe:T;1=S=ZAalO3B1ZPNh>gYNaO1:E:VB6@7BcAQ9Ym8ZfBkQhK<fBRl4KfDI3lIXa5mSW<35<HaBW2=SN<F;287>fP@UJF:e4PYO:8Pd>Z4dmPkA<?I;7Hd1B95aIN=a0gS?>P=FG9QOn39Khd:O:2j58I65IVfET3MBFjDj1Odj4f4UAElZOcIi8Vm=g7:XVGj1VlMEF@ZkfDAW658KBcR=PC;V0DLaXD@iill?bjRe707nRlBG1gmQ4dejDAK0m;F93Gj>8LYXj<I=OU>B@SgmGYd:9ZcNEF:ANK8X61eL2:P<MZO3c;T283DeQG7l53PjMJFkShQXIZb@E0eWniGLnnm5776=NgCLKMj83Tb?A>FEXX6lIk=H7JASRfE1Z7QhS>57CUNXAbDmGm3Nn1?P8?l6FN=IQRDU>SD85fehRj7NZLek2@ABAbCaEUaEIWjKPkTBJ0E61F59nbFkM<Hh3<82d;fcn6D27VOlicnWOL1<g::SYFcNgE@FKdBMEkE7gGGfCZVW47=i5U39aO@g7C7Q71M?EBc9;6ahMaK?>WfLA8fK:2:cCSGnm1KkcQjEGSOUW75k@mX5W4kO=Z4bS5HbP0SHZaTCiVBHNJAf19YTdeajeHT9LZ<DmDa?S:A6g=6YgBRMMI7=dLiPYLJdfD0bI73n3QT59nT>kECfG765QcmDGOh9@9cbWjiLcXV>eMHFNE:FANXYlnPl218eXGXAD4QSaGACgMTFUaJ<caY7<7:hQNdB?hZ9LE==9?@R<jZihi?TR4J4N;42XkSM1H17c:LKg0A:H?nK6eGc@C=>B=HJ69::WLhUbkALVnX=lX=NN8HhB;GMOlCM8@WhBONUJT<?=RBDBO>VUPZQknlmnLXHnYbH@2Eme5>c8ISWgI>1gASnf5n<Sj9NH;BHfJIA?CPC@d1XSK7bgFTc57;8@PgcS>42QS8bGROL4ED=;FTn;9Lh@;N4aaPSW3kJRXEEWH4MCIXC8MTXh5cHCifRTNdA0ah2F0@07WBk6eK2KF6VBflTnhl0I@dWb1?9J3;C>HVLHhYOfPFcCAAHS>DRN98j0bM3SfO@DgmGajP?Qi1<96l=VP11U3eeaTJ>3>V:@O?5PfEN=1@@8jn0fmC:7CL9DNP4IfNkWfiTiZaSeZiigJYCRVPgBhm2NMLdj98@bnUcDh6Kneh15MH5G=hc@K?<fHb1;H4XL0Ujl:V:l9UX9JliiEdEMaIALRlB7lfGRm>EUhB:SNNH<AE4PDA36jCXEX2m5XOZbGecPFRBLU=E@Z3SljXJWmDARWKNmA6NcP46<F9Tg0?;aCc6P@<VNSGMhXBBPi4R@ldcbnVEWFDHE1hK<cU@;nS7EQMQT>W2bR7PJh2ZghgQ1gOg:?fjLJK29MbcQMM?YEX?O2ZRL6l1TWUYAdeJDGLW@S>?kH;K6T@BNb7Pd>C@BWZ68c0?5lF<mb9Nb=<Te>kM<J81I1@FkP1hZ0:d06>BQb4e6=AleHnnmV@nNMnR8ja;N>ZdfX=G<X5Smg6a6k;aT2IDMDnVPi=J8l@8IldgCf8b7Z8<AjmYnk=<6A:2Om>QPXK:jhFU:k8FS@UchTNSIe=IE8g@BFgBmG:JW:Y3fI=clRH;>dXKS@fc0@nQ2fd@DJN0gP9JJgLJRJagTmbER2HWbRJkd00?i=m4DGlfhVdLj:3hHEl<R7P;RAA70?EIMH2dSYFm:Oj:T;a<SH?bD8ISkVQHaFZOZGf5N:k31hY=f3WLDWY629ShnVGQkA7Dd<Q835FDj2;9VMAEX1XBAGX8PAAdeUj?M0U0gL@F53baCFAF6H3@O0B<1G@Vn47OVO9@j2jiA>>n=VR8Ebed13nc2E@9=G?AbiG=59K=7@XkAdGQI2alZ3i<G4EOibIRB5EHWQ8Y>d3O;1;3IP@11;nn53N@g<LIW3XlDJH4TP9WIem@FhfBh9MCeSLOFB5a?fnNZYd>cfaBmnm7AXPJjGjEfIUNI4EbPQe6Akg;MEIJFj=m3Kac0N2WAGR4NK7:2k4OU;U>6HDI34fc<YVCI<;5c>MEXd6EP7Cc78UAh9JEZ8j=31ZB6R7dd?abnU6b:=47GjXdfC2FRHb<T?PNHAeb>X<aSgfBY4G7H0f144K5XiWRjOei;DGU>ES6G<QA8Ajb<BB@dmJ;RWFKVUQR16KRCjW;4QXTeneamQFX=JWgZZ6>5JnUX<Oa9>9J9ll4Pjh;<CmEB@W0:nVLJnRSjiYKkIcX;<h2Gn9bWTOLk<cNAGe6eaLh:8?5LD6A>NOJ5WBV6c7PX8DHW3J3MaBbWFHmVA1GLUBG>4MWDfh:6JZGPUAKKQ<=Lg@@kcfK5dZiK04Of7WOn?X4XafJU;IA5P5HNn6X<0mV=fG=YJYcbV7QWVlfaWk1kn4JBF;>gNDZFn00FS0Bb3nSC68H2U8f1D7=LWeaJJSgL>L<laFmdSZ5@e2QL1m@N3YN;E=Abb9<F@aRPYP773BIbWWU5?UHNFg>>Ye6>TQgU45D:Sl6LjkZMBIfjiMIO6>AROnHQ@43bZVXOO>HL:YgTX:BhHJ2;aOAJeZ9WHe5jn@ZSlI@LCHTbGbaH9RRL9=II5JEEPfOnA9WM=XAn84Th:G<V2>48YlK74Fa2OIhDDaCOAW=>LH8Zan=6hDT2@MC7SAF@3cd;k;<iaD653RZZcfnaCX=NPg0KRQ7CO4<Td;RAM?eFZQffe@QGLT5GhgVeBP8:CZMDSB>Bm3;C6m:El:6OkgaKGT7i<82IIGf<1On:a6b4Ak@RRc;7aeB8G8AlbZSKK10TZ;CiT=BkIg;4D>SZ4i2gUKTL8POSB?MMNL=nT8l?=UL80lgmeU8Yj>Y7FGj>BNb<AXTMkOX?k@cbYPfZgAX??GR2IIiNGFWDJLBMSadGMg>HA3hj1?GmL9L1@hM>@iCNK19ZDUQHic6jK>TFlQ96fSV<b=@6iRk85n;a50e<7>bKa;fb02bi>7g=<EI8AR8c1FIPh2Z0K4Ec;Y5SYg1XCCG07696Ij?FR8mW6g96TN2d63iLHNXh:;N<ZV0FVQDh4D71dG7c>D5DRd3MFh>A3VcDNAYhe7dn9:I3T;ZcU7NR:ae@0bcEZHBJfkjYXP;P:VBi0gaZOd5K>jdJbY;?km6YUJI=UQ1524:e2BC2::W5==RGaGeD8AXl7<<?SnghX:aNc6mOn54ejRS<W>fnZZ80aY<PcU0=UjRYAJTUS1BQDISahF:eP4N15VUbnRK06TWW7jOF2P9VDRMcKIRFeITdj0AG;3H3UH4J8XMZQYU:AaiBK92Dg1Oi4B2:P?8LRP?S9QBIDiFCLmGh;7bbf6;RK8kTjldUVh?8hNXk?ikhW:0elQ7Slb8f0ae53:;dT2AFdbCbUWn6h9<SVXhn@Tm5;m9TKiUXIS4X<3RP9cNe?MfYJKK4Y57U;gU6In3JThmcWhkIe?n>NdJgja2NhJfUXgl1@I>LS6ZULK<HHk@k5KcW6N3HRUT0GH441eHH0kIbdn2deGiR4Wnl8gA6GAiEGhemI3T2AIf6kKj6F6FlSFVS=JMgLFl4U6hcVj2X2>LKgc@JTPaEhU2E=bjD9LER69?T2CeZTEQNBDbmNMBFEOgjCW:C47P274mfbAZl:DDgclM<<8G5;DAFdh4RRChaCjjkmDL=5@LCUH2POB8WEKCPFTT4;XDSUBYO2QBNd>Zc1f0l2n0YX?NBAQTBVTO9DmB?=cgU9:iQdB=F0Qe0fWSKB5=YPdRhAYeB1AW?g>BhCMAj:c5NMCiS?A6:3UJKEk08@j;3UjMV9Ge@cahBhedU9h?RI=37;UcZl?K30K5MKn5I00eHTXnIg4j>MK1WJTeC6j>D?X1fBBC@G=RVmDHEnYlG=IneIZ54=;P=6bYJ7RSkT3=4DTe4iejH@<b5V:WWHJI=<L1l=6UHC<E<K==F8QYQ?c<?c@nk9<:PT;iK=Icm11iG173:miOVDCi:k8PdMbDROf:Xl8XBmB9@c:I7FdD5>fJ@:GTb9PQaG>T9Db2eaL;OE88NhUH=2D:An8?aJdJkbAj97XcUOaX;lN:7L5HJ7P>bVY7AHJWJ7C?;R0Vg4SMT9@dn6LD1>K>2RV668P@0mUO9m15neNnA5F?EW5FC8beK>HPmhdlLaTj0lNJhccgJKGO?gnhIYiH9E<eKmgfQOJX>JFHYgN@AmR2j:klgLTPTV11;5>eNNRZ>cZBC4dTTO1eUjhAgd?2cU9VR4aEcj2l>9OfEX4cgLgCXB1B@DcLNfd1FE3TQcJ?JOf<Pn78cIK=9gDjYD;bJ0<;nITTk@b3ScI3AETkDa2ENYL<DQd?Zmf8A=Bik4TZO>5N:d=Ob>4=BkYlgK8lAZA3aLkbhK57YNhY1:6S0X8Y:;7OdmmShGXaB>XNI9?X?XEd<njH@jDS0F>daLea=FW0Eh>RLg0kJhUiEf9>DKg>T3a0@DSHjY<B3Wlmdg:bI;1TnWAHIeCSgA3V?l=Q7L0L;T<gLX847TCeSU@=6X4CUJlSFK9Y7XO3d1RhcAhTX5;BjRab5WRMCeHRR?=<TbkZgQKQlH3DD:Tk8N0Be;eeLLHND3<f4X=E7P6GP8baYPjZGhX3;?cK3laL:<OCIXBWZijceNld4mL4jL?QL>8QjnO6T1eL2c;QO5j??7KnOUdE<30OfKhK9Lkch73kKgW3ekTRVBR"
end PySem.W.Fast
def Z{α:Sort _}{a:α}:a=a:=rfl
abbrev Aa:=List (Int×Int)
abbrev Ab:=List (List Int)
abbrev Ac:=List Int
abbrev Ad:=PySem.W.Frag
abbrev Ae:=PySem.Value->PySem.Shared->Prop
abbrev Af:=PySem.Str->Option PySem.Value
abbrev Ag:=List PySem.Value
def J{p:Prop}(h:p:=by lia):p:=h
def D{p:Prop}(h:p:=by decide +kernel):p:=h
def oY{p:Prop}(h:p:=by decide):p:=h
def B{p:Prop}(h:p:=by simp):p:=h
def oW{p:Prop}(h:p:=by omega):p:=h
def oZ{p:Prop}(h:p:=by grind):p:=h
def o3{p:Prop}(h:p:=by rfl):p:=h
def o4{p:Prop}(h:p:=by kernel_rfl):p:=h
def XF:=@List.getElem?_eq_some_iff
def Xr:=@List.getElem?_eq_getElem
def XB:=@List.mem_singleton
def XU:=@PySem.wpAny_bind
def Xt:=@List.length_append
def Xm:=@List.mem_of_getElem?
def WY:=@PySem.Heap.get?_push_of_some
def Xz:=@List.mem_append
def Wv:=@List.getD_eq_getElem?_getD
def XJ:=@Nat.le_refl
def Ya:=@List.mem_filter
def Yb:=@List.size_toArray
def Yc:=@List.length_map
def Yd:=@List.mem_cons_self
def Ye:=@Option.some.inj
def Yf:=@List.length_take
def Yg:=@List.mem_append_left
def Yh:=@List.mem_cons_of_mem
def Yi:=@List.mem_cons
def Yj:=@Nat.zero_le
def Yk:=@List.mem_append_right
def Yl:=@Nat.le_trans
def Ym:=@List.getElem?_append_right
def Yn:=@PySem.wpAny_pure
def Yo:=@List.length_filter_le
def Yp:=@List.getElem?_append_left
def Yq:=@decide_eq_true
def Yr:=@PySem.Heap.get?_push_size
def Ys:=@List.append_nil
def Yt:=@PySem.Heap.lt_size
def Yu:=@of_decide_eq_true
def Yv:=@List.getElem?_map
def Yw:=@List.length_singleton
def Yx:=@Array.length_toList
def Yy:=@Classical.byContradiction
def Yz:=@List.take_length
def YA:=@List.append_assoc
def YB:=@Array.getD_eq_getD_getElem?
def YC:=@PyProof.Rows.wpS_bind
def YD:=@Nat.lt_of_lt_of_le
def YE:=@List.getElem?_of_mem
def YF:=@Nat.ne_of_lt
def YG:=@List.length_cons
def YH:=@Bool.false_ne_true
def YI:=@Array.getElem?_toList
def YJ:=@List.pairwise_append
def YK:=@List.length_reverse
def YL:=@decide_eq_true_iff
def YM:=@PyProof.Rows.wpS_pure
def YN:=@List.map_append
def YO:=@Int.toNat_natCast
def QP:=@List.take_of_length_le
def YQ:=@List.drop_eq_nil_of_le
def YR:=@Array.getElem?_eq_getElem
def YS:=@congrArg
def YT:=@List.mem_map
def YU:=@List.filter_cons
def YV:=@List.length_eq_zero_iff
def YW:=@List.mem_range
def YX:=@List.length_replicate
def YY:=@List.take_succ
def YZ:=@List.pairwise_cons
def VN:=@PySem.Heap.get?_update_other
def WA:=@List.length_drop
def Wt:=@List.nodup_append
def VG:=@List.getElem?_eq_none
def VF:=@List.mem_of_mem_take
def VE:=@List.map_congr_left
def US:=@PySem.F.plainAttrs_list
def Ws:=@PySem.PassesOwn.never
def Ul:=@List.perm_ext_iff_of_nodup
def Uk:=@Array.perm_iff_toList_perm
def SA:=@List.mem_reverse
def SO:=@PyProof.Rows.KeyOrd.kle_trans
def WX:=@Ne.symm
def ME:=@List.pairwise_iff_getElem
def Ur:=@List.map_cons
def QU:=@List.filter_append
def QT:=@Bool.false_eq_true
def RE:=@Array.toList_push
def Sz:=@decide_eq_false
def Sy:=@Nat.not_lt_zero
def Pp:=@Array.toList_append
def OR:=@PySem.Heap.get?_update_self
def MD:=@List.Perm.append_left
def JF:=@List.drop_eq_getElem_cons
def OQ:=@List.getElem?_take
def Sx:=@PySem.wpAny_holding
def HY:=@PyProof.Rows.callWith_type1
def QS:=@PySem.codeAny_builtin
def SN:=@getElem?_pos
def SM:=@Nat.zero_add
def LM:=@List.take_append_drop
def LL:=@List.getElem?_reverse
def TN:=@Nat.le_succ
def JE:=@List.pairwise_singleton
def ET:=@List.eq_nil_iff_forall_not_mem
def Po:=@PyProof.Rows.KeyOrd.kle_of_klt
def LK:=@List.mem_of_mem_drop
def TM:=@PySem.sizeLine_eq
def ES:=@List.take_append_of_le_length
def Pn:=@List.nodup_cons
def MC:=@PySem.wpAny_Call_Name_kw
def MB:=@PySem.Obj.data_mapFields
def OP:=@List.all_eq_true
def MA:=@List.pairwise_map
def Mz:=@List.length_range
def Mw:=@List.filter_congr
def Mv:=@List.ext_getElem?
def QR:=@Int.mul_assoc
def Sw:=@PyProof.Rows.wpS_forRange
def RD:=@Nat.ne_of_gt
def OO:=@PySem.W.kia_one
def ON:=@List.nil_append
def OM:=@Bool.eq_iff_iff
def Mu:=@Nat.lt_succ_self
def Qi:=@Nat.lt_irrefl
def Pm:=@PyProof.Rows.KeyOrd.kle_refl
def JD:=@PySem.Around.under_plainId
def ER:=@List.extract_eq_take_drop
def LJ:=@List.take_sublist
def LI:=@List.getElem?_set
def LH:=@List.flatten_cons
def QQ:=@Int.mul_zero
def Uj:=@PySem.wpAny_call_entry
def OL:=@List.drop_append_of_le_length
def Sv:=@PySem.Heap.SameBut.update
def Tj:=@PySem.wpAny_truthy_bool
def Su:=@List.getElem?_drop
def VD:=@Int.one_mul
def Ss:=@Int.emod_lt_of_pos
def Vi:=@Int.add_zero
def Sr:=@Nat.lt_succ_of_lt
def Sq:=@List.getElem?_inj
def HW:=@PySem.mem_of_lookup
def HV:=@List.replicate_succ
def EO:=@List.length_pos_of_mem
def LG:=@PySem.F.plain_min_loop
def Pl:=@Nat.le_of_lt
def LF:=@List.length_set
def LD:=@Int.emod_nonneg
def JC:=@PySem.wpAny_newObj_type
def EN:=@List.getElem?_zipWith
def RX:=@PySem.wpAny_mono
def JB:=@List.lookup_cons
def JA:=@List.getElem_mem
def Du:=@PySem.F.type_list_append
def Dt:=@PySem.F.slot_list_append
def OJ:=@List.map_map
def Ds:=@List.Pairwise.imp_of_mem
def OI:=@Int.mul_comm
def EM:=@Array.toList_extract
def EL:=@PySem.builtinLookup_eq_fast
def HU:=@decide_eq_true_eq
def Jz:=@List.length_nil
def Mt:=@PySem.wpAny_newList
def LC:=@PySem.Heap.size_push
def HS:=@decide_eq_decide
def HR:=@beq_self_eq_true
def Qh:=@beq_iff_eq
def Ms:=@Nat.sub_self
def Dr:=@List.pairwise_lt_range
def Dq:=@List.Perm.append_right
def HQ:=@Bool.and_eq_true
def Mr:=@PyProof.Rows.listUpdate_at
def Dp:=@List.perm_append_comm
def LB:=@PySem.plainId_quiet
def HP:=@Nat.min_eq_left
def EK:=@List.reverse_perm
def LA:=@Nat.succ.inj
def Lz:=@Int.le_of_lt
def vd:=@List.getElem?_eq_none_iff
def Pk:=@PySem.wpAny_rule
def HN:=@PySem.wpAny_passesOwn
def Dn:=@beq_eq_false_iff_ne
def HM:=@Nat.mul_le_mul
def Dm:=@List.map_eq_nil_iff
def Dl:=@List.length_zipWith
def vc:=@List.eq_of_mem_replicate
def HL:=@List.drop_zero
def EJ:=@PySem.wpAny_setState_of
def va:=@List.getElem?_replicate
def uZ:=@PySem.Calls.call_function_entry
def Dk:=@Nat.lt_of_le_of_lt
def EI:=@List.find?_cons
def Dj:=@PySem.wpAny_setEntries_of
def RC:=@PySem.wpAny_seqItems
def Qg:=@PySem.wpAny_askSetting
def RB:=@List.any_cons
def Ly:=@Array.getElem?_eq_none
def Vw:=@if_false
def OH:=@List.reverse_cons
def OG:=@List.drop_sublist
def Lx:=@PySem.wpAny_callSpecial?_slot
def Lw:=@List.pairwise_reverse
def Lv:=@List.Pairwise.sublist
def Lu:=@PySem.wpAny_of_eq
def Jy:=@PySem.codeAny_mono
def Jx:=@PySem.F.called_set
def EH:=@PySem.typeLookup_type
def Jw:=@Int.mul_one
def Jv:=@Int.le_refl
def uY:=@Nat.pow_le_pow_right
def Di:=@List.cons_append
def Dh:=@List.any_eq_true
def HK:=@Int.pow_zero
def OF:=@PyProof.Rows.wpS_modify
def uX:=@PySem.Obj.isFreed_of_fields
def uW:=@List.flatten_append
def uV:=@List.filter_eq_self
def uU:=@List.filterMap_cons
def EG:=@PySem.wpAny_setField
def Dg:=@Option.map_some
def qm:=@Nat.mod_two_eq_zero_or_one
def Df:=@List.range_succ
def De:=@List.foldl_cons
def Dc:=@Array.Perm.refl
def RA:=@PyProof.Rows.wpS_mono
def HJ:=@Int.mul_add
def ql:=@PySem.F.type_list_extend
def qk:=@PySem.F.slot_list_extend
def qj:=@PySem.F.args_tuple_add_2
def qi:=@Option.isSome_iff_exists
def qh:=@List.length_erase_of_mem
def CZ:=@List.drop_drop
def EF:=@Int.zero_add
def EE:=@Int.le_trans
def ED:=@PySem.wpAny_attempt
def uS:=@List.foldl_append
def uR:=@Int.mul_left_comm
def uQ:=@Bool.not_eq_true'
def qg:=@PySem.F.plainAttrs_dict
def qf:=@PySem.F.entry_tuple_add
def qd:=@Nat.add_sub_cancel_left
def qc:=@Int.eq_ofNat_of_zero_le
def Ju:=@PySem.call_meets
def qb:=@PySem.F.slot_tuple_add
def uP:=@Nat.le_of_not_lt
def CY:=@List.sum_cons
def qa:=@List.length_eq_one_iff
def p7:=@List.getElem?_eraseIdx
def uN:=@List.flatten_nil
def pZ:=@List.drop_of_length_le
def uM:=@List.drop_append
def uL:=@PySem.Code.quiet_builtin
def CW:=@PySem.wpAny_tryCatch
def uK:=@beq_false_of_ne
def uJ:=@Int.min_eq_left
def HI:=@List.mem_of_getLast?
def HH:=@List.mem_erase_of_ne
def HG:=@List.length_eraseIdx
def OE:=@Int.zero_mul
def OD:=@Int.pow_succ
def HF:=@Array.toList_reverse
def Hz:=@Array.toArray_toList
def OC:=@PyProof.Rows.get?_update_seq
def OB:=@PyProof.Rows.entry_list_sort
def Ls:=@PySem.wpAny_isInstance
def pW:=@List.getElem_of_mem
def pV:=@List.getElem?_range
def pU:=@List.filter_sublist
def EC:=@Int.not_lt
def uH:=@PySem.F.entry_min_loop
def EB:=@PySem.wpAny_letGo
def pT:=@Nat.add_sub_cancel
def pS:=@List.filter_filter
def pR:=@Bool.not_eq_false'
def uG:=@PySem.wpAny_updateSeq
def uE:=@PySem.wpAny_execs_nil
def CV:=@PyProof.Rows.slot_list_sort
def uC:=@PySem.W.mg_of
def uz:=@List.take_nil
def pQ:=@bne_self_eq_false
def aO:=@PyProof.Rows.callWith_builtin1
def pP:=@PyProof.Rows.F.plain_set_update_loop
def uw:=@PySem.wpAny_runValue
def uu:=@PySem.wpAny_fieldsOf
def ur:=@PySem.isSubtype_type
def aN:=@PySem.F.slot_dict_setdefault
def uq:=@Nat.sub_zero
def uo:=@Nat.mul_comm
def pO:=@Nat.min_eq_right
def um:=@Nat.le_of_eq
def pN:=@List.not_mem_nil
def uj:=@List.map_nil
def aL:=@List.dropLast_concat_getLast
def pM:=@Int.min_eq_right
def pL:=@Int.max_eq_right
def Qf:=@PyProof.Rows.wpS_get
def pK:=@PySem.SeqAt.EqAt.of_refs
def pJ:=@Nat.le_antisymm
def pI:=@List.of_mem_zip
def aK:=@List.length_eraseIdx_of_lt
def pH:=@List.filter_nil
def pG:=@Int.max_eq_left
def pF:=@PySem.Calls.spliced_cons
def pE:=@Bool.or_eq_true
def aJ:=@Array.toList_setIfInBounds
def aI:=@Array.getElem?_eq_some_iff
def aH:=@PySem.F.plain_extend_loop
def aG:=@List.mem_or_eq_of_mem_set
def aE:=@List.getElem?_zip_eq_some
def ui:=@Int.neg_mul
def az:=@Int.eq_of_mul_eq_mul_left
def uh:=@Int.add_mul
def pD:=@PySem.wpAny_pyIter_list
def aw:=@PySem.F.slot_dict_values
def pC:=@PySem.Obj.cls_mapFields
def pB:=@List.take_zero
def pq:=@List.take_take
def CU:=@List.mem_of_mem_eraseIdx
def Hy:=@List.drop_take
def CT:=@List.append_cancel_right
def Hx:=@List.Perm.refl
def CS:=@List.Perm.eq_of_pairwise
def Hw:=@Int.natAbs_mul
def Hv:=@PySem.Calls.spliced_nil
def OA:=@PyProof.Rows.plain_sorted
def Oz:=@PyProof.Rows.listItems_at
def Oy:=@PyProof.Rows.entry_sorted
def pj:=@PyProof.Rows.entry_proto_collect'
def av:=@PySem.F.type_list_index
def au:=@PySem.F.slot_list_index
def aq:=@List.pairwise_mergeSort
def ug:=@PySem.wpAny_typeOf
def CQ:=@PySem.wpAny_call
def ph:=@PySem.noFill_tuple_add
def Hu:=@if_true
def ak:=@PySem.W.cellsFrom_some
def aj:=@PySem.F.slot_dict_keys
def ai:=@List.getElem?_set_self
def pf:=@PySem.Heap.size_update
def EA:=@PyProof.Rows.size_push'
def pd:=@PyProof.Rows.getElem?_mirror_all
def uf:=@PyProof.Rows.args_list_sort
def ah:=@List.set_append_right
def ag:=@List.pairwise_and_iff
def af:=@List.getElem?_toArray
def ae:=@Classical.choose_spec
/-! THE HAND aa,for ints,bools,texts,own classes,LISTS and tuples (index,o9,in,append,pop ..),calls,loops. Paste it whole ahead of o8 own text;what o8 proof does not reach may be deleted. -/
namespace L2
open PySem PySem.Spec PyProof.Rows
abbrev Key:=Sum Int Str
def Rz:(Key->Value->Bool)
 | .inl k,v=>Value.isInt k v
 | .inr x,v=>Value.isStrOf x v
def Zaa(w:World):(Key->Int)
 | .inl k=>hashInt k
 | .inr x=>hashStr w x
def ZJ:∀{k:Key}{v:Value},Rz k v=true->(∃i t,k=Sum.inl i/\v=Value.int i t)\/(∃x t,k=Sum.inr x/\v=Value.str x t)
 | .inl i,v,h=>by let(t,e):=Value.isInt_shape (k:=i) (v:=v) h;show .inl ⟨i,t,Z,e⟩
 | .inr x,v,h=>by let(t,e):=Value.isStrOf_shape (x:=x) (v:=v) h;show .inr ⟨x,t,Z,e⟩
def Zab(i:Int)(t:Tok):Rz (.inl i) (.int i t)=true:=by simp[Rz,Value.isInt]
def Zac(x:Str)(t:Tok):Rz (.inr x) (.str x t)=true:=by simp[Rz,Value.isStrOf]
def Zad(a b:Int):decide ((Sum.inl a:Key)=Sum.inl b)=(a == b):=by
 cases e:a=b
 .subst e;simp
 .let h:¬(Sum.inl a:Key)=Sum.inl b:=λq=>e (Sum.inl.inj q);rw[Sz h];show(Dn.U e).symm
def Zae(a b:Str):decide ((Sum.inr a:Key)=Sum.inr b)=decide (a=b):=by
 cases e:a=b
 .subst e;simp
 .let h:¬(Sum.inr a:Key)=Sum.inr b:=λq=>e (Sum.inr.inj q);rw[Sz h,Sz e]
def Zaf(a:Int)(b:Str):decide ((Sum.inl a:Key)=Sum.inr b)=false:=Sz (λq=>nomatch q)
def Zag(a:Str)(b:Int):decide ((Sum.inr a:Key)=Sum.inl b)=false:=Sz (λq=>nomatch q)
def ZV(prog:Program)(w:World):(PySem.KeyKind prog w Key) where
 is:=Rz
 hash:=Zaa w
 inj:=λv a b ha hb=>by
  rcases ZJ ha with ⟨i,t,rfl,rfl⟩|⟨x,t,rfl,rfl⟩
  .rcases ZJ hb with ⟨j,u,rfl,e⟩|⟨y,u,rfl,e⟩
   .injection e with e1 _;rw[e1]
   .show nomatch e
  .rcases ZJ hb with ⟨j,u,rfl,e⟩|⟨y,u,rfl,e⟩
   .show nomatch e
   .injection e with e1 _;rw[e1]
 byValue:=λk v h=>by rcases ZJ h with ⟨i,t,rfl,rfl⟩|⟨x,t,rfl,rfl⟩<;>rfl
 pyHash:=λhv h=>by
  rcases ZJ hv with ⟨i,t,rfl,rfl⟩|⟨x,t,rfl,rfl⟩
  .show wpAny_pyHash_int h
  .show wpAny_pyHash_str h
 eqBool:=λhu hv h=>by
  rcases ZJ hu with ⟨i,t,rfl,rfl⟩|⟨x,t,rfl,rfl⟩
  .rcases ZJ hv with ⟨j,u,rfl,rfl⟩|⟨y,u,rfl,rfl⟩
   .rw[Zad]at h;show wpAny_eqBool_int h
   .rw[Zaf]at h;show SeqAt.EqAt.int_str i t y u _ _ _ _ h
  .rcases ZJ hv with ⟨j,u,rfl,rfl⟩|⟨y,u,rfl,rfl⟩
   .rw[Zag]at h;show SeqAt.EqAt.str_int x t j u _ _ _ _ h
   .rw[Zae]at h;show wpAny_eqBool_str h
 «strs»:=λk x t v h=>by
  rcases ZJ h with ⟨i,u,rfl,e⟩|⟨y,u,rfl,e⟩
  .show nomatch e
  .injection e with e1 _;subst e1;cases v<;>rfl
def Zm6(prog:Program)(w:World)(i:Int)(t:Tok):(ZV prog w).is (.inl i) (.int i t)=true:=Zab i t
def Zl6(prog:Program)(w:World)(x:Str)(t:Tok):(ZV prog w).is (.inr x) (.str x t)=true:=Zac x t
inductive V where
 |non|bl (b:Bool)|int (i:Int)|str (x:Str)|byt (b:Array UInt8)|flt (b:UInt64)|ref (a:Addr)|ty (n:String)
 deriving DecidableEq
def RelV:(V->Value->Prop)
 | .non,u=>u=Value.none
 | .bl b,u=>u=Value.bool b
 | .int i,u=>∃t,u=Value.int i t
 | .str x,u=>∃t,u=Value.str x t
 | .byt b,u=>∃t,u=Value.bytes b t
 | .flt b,u=>∃t,u=Value.float b t
 | .ref a,u=>u=Value.ref a
 | .ty n,u=>u=Value.type n
abbrev Vals:List V->List Value->Prop:=Paired RelV
def Vals.length{xs:List V}{us:Ag}(r:Vals xs us):xs.f=us.f:=Paired.f r
def Vals.get{xs:List V}{us:Ag}{i:Nat}{x:V}(h:Vals xs us)(e:xs[i]?=some x):∃u,us[i]?=some u/\RelV x u:=by
 induction h generalizing i with
 |nil=>simp at e
 |cons r t ih=>
  cases i with
  |zero=>simp at e;subst e;exists _,Z,r
  |succ i=>
   let(u,h1,h2):=ih (i:=i) (by simpa using e);exists u,by simpa using h1,h2
def Vals.set(r:RelV x u){xs:List V}{us:Ag}(i:Nat)(h:Vals xs us):Vals (xs.set i x) (us.set i u):=by
 induction h generalizing i with
 |nil=>show .nil
 |cons q t ih=>
  cases i with
  |zero=>show .cons r t
  |succ i=>show .cons q (ih i)
def Vals.append{xs ys:List V}{us ws:Ag}(h:Vals xs us)(s:Vals ys ws):Vals (xs++ys) (us++ws):=by
 induction h with
 |nil=>show s
 |cons r t ih=>show .cons r ih
def Vals.take{xs:List V}{us:Ag}(n:Nat)(h:Vals xs us):Vals (xs.M n) (us.M n):=by
 induction h generalizing n with
 |nil=>cases n<;>show .nil
 |cons r t ih=>
  cases n with
  |zero=>show .nil
  |succ n=>show .cons r (ih n)
def Vals.drop{xs:List V}{us:Ag}(n:Nat)(h:Vals xs us):Vals (xs.drop n) (us.drop n):=by
 induction h generalizing n with
 |nil=>cases n<;>show .nil
 |cons r t ih=>
  cases n with
  |zero=>show .cons r t
  |succ n=>show ih n
def RelO:(Option V->Option Value->Prop)
 |some v,some u=>RelV v u
 |none,none=>True
 |_,_=>False
def KV{κ:Type}:(List (κ×V)->List (κ×Value)->Prop):=Paired λ(p:κ×V) (q:κ×Value)=>p.1=q.1/\RelV p.2 q.2
def kV:(Key->V)
 | .inl i=>.int i
 | .inr x=>.str x
inductive HO where
 |lst (xs:List V)
 |tup (xs:List V)
 |dK (kvs:List (Key×V))|dT (kvs:List (List Key×V))
 |set (S:Int->Bool) (n:Nat)
 |ins (C dx:Addr) (fs:List (Str×V))
 |own (x:Addr)
 |xd (fs:List (Str×V))
 |met (f x:Addr)
 |rng (lo hi:Int)
 |frz (o:Obj) (u:HO)
 |tbl (ps:Array Value)
 |ext (φ:Heap->Prop)
abbrev Hp:=Addr->Option HO
def upd(H:Hp)(a:Addr)(o:HO):(Hp):=λb=>if b=a then some o else H b
def XT:upd H a o a=some o:=by unfold upd;rw[if_pos Z]
def Zb(h:b≠a):upd H a o b=H b:=by unfold upd;rw[if_neg h]
def Ry{H:Hp}{a b:Addr}{o u:HO}(h:H a=some o)(h':H b=some u)(d:o≠u):a≠b:=by intro e;subst e;rw[h]at h';show d (Ye h')
def WC{H:Hp}{a b:Addr}{o:HO}(h:H a=some o)(h':H b=none):a≠b:=by intro e;subst e;rw[h]at h';cases h'
section
variable(P:Program)(w:World)
def ObjOk(H:Hp)(h:Heap)(a:Addr):(HO->Prop)
 | .lst xs=>xs.f<=sizeLine/\∃(XW:Ag)(n:Nat),Vals xs XW/\h.H a=some {cls:=.type "list",data:=.seq XW.C n}
 | .tup xs=>xs.f<=sizeLine/\∃XW:Ag,Vals xs XW/\IsTup h a XW.C
 | .dK kvs=>kvs.f<=sizeLine/\(a == sysModules)=false/\∃vs,KV kvs vs/\h.DictOf (ZV P w) a vs
 | .dT kvs=>kvs.f<=sizeLine/\(a == sysModules)=false/\∃xs:List (List Key×Addr×Value),
   Paired (λ(p:List Key×V) (q:List Key×Addr×Value)=>p.1=q.1/\H q.2.1=some (.tup<|p.1.R kV)/\RelV p.2 q.2.2) kvs xs/\
   ∃o es ep,h.H a=some o/\o.ExactDict/\o.data=.dict es ep/\es.l=xs.R (entryOfKey<|tupleKind<|ZV P w)/\(xs.R (·.1)).Nodup
 | .set S n=>h.SetOf (intKind P w) a S n
 | .ins C dx fs=>H dx=some (.own a)/\fs.f<=1000/\dx≠a/\h.H a=some (PySem.W.instObj C dx)/\
   ∃mA,h.Ns1 dx mA/\(∀f,RelO (fs.Y f)<|mA f)/\PySem.Within mA (fs.R (·.1))
 | .own _=>∃o,h.H a=some o
 | .xd fs=>∃mA,h.Ns1 a mA/\∀f,RelO (fs.Y f) (mA f)
 | .rng lo hi=>∃t u v,h.H a=some {cls:=.type "range",data:=.fields #[.int lo t,.int hi u,.int 1 v]}
 | .frz o u=>h.H a=some o/\ObjOk H h a u
 | .tbl ps=>h.H a=some {cls:=.none,data:=.fields ps}
 | .met f x=>h.H a=some (PySem.W.methodObj ↑f<|.ref x)
 | .ext φ=>φ h/\(∃o,h.H a=some o)/\∀h1 h2:Heap,φ h1->(∀o,h1.H a=some o->h2.H a=some o)->φ h2
def HOk(H:Hp)(h:Heap):(Prop):=∀a o,H a=some o->ObjOk P w H h a o
end
section
variable{P:Program}{w:World}{H H':Hp}{h h':Heap}{a:Addr}{o:HO}
def ObjOk.lt(x:ObjOk P w H h a o):a<h.objs.t:=by
 cases o with
 |lst xs=>let(_,_,_,_,e):=x;show Yt e
 |tup xs=>let(_,_,_,p):=x;show p.lt
 |dK kvs=>let(_,_,_,_,o,_,_,e,_):=x;show Yt e
 |dT kvs=>let(_,_,_,_,o,_,_,e,_):=x;show Yt e
 |set S n=>let(o,_,_,_,e,_):=x;show Yt e
 |ins C dx fs=>let(_,_,_,e,_):=x;show Yt e
 |own y=>let(_,e):=x;show Yt e
 |xd fs=>let(_,(_,_,_,e,_),_):=x;show Yt e
 |rng lo hi=>let(_,_,_,e):=x;show Yt e
 |frz ob u=>let(e,_):=x;show Yt e
 |tbl ps=>show Yt (show h.H a=some _ from x)
 |met f y=>show Yt (show h.H a=some _ from x)
 |ext φ=>let(_,(_,e),_):=x;show Yt e
def Paired.mapP{α β:Type}{F G:α->β->Prop}{l₁:List α}{l₂:List β}(h:Paired F l₁ l₂)(f:∀a b,F a b->G a b):Paired G l₁ l₂:=by
 induction h with
 |nil=>show .nil
 |cons r t ih=>show .cons (f _ _ r) ih
def ObjOk.stay(x:ObjOk P w H h a o)(k:∀b u,(b=a\/H b=some (.own a))->h.H b=some u->h'.H b=some u)
  (ho:∀b,H b=some (.own a)->H' b=some (.own a))(ht:∀b xs,H b=some (.tup xs)->H' b=some (.tup xs)):ObjOk P w H' h' a o:=by
 induction o with
 |lst xs=>let(z,XW,n,r,e):=x;exists z,XW,n,r,k _ _ (.inl Z) e
 |tup xs=>let(z,XW,r,ob,e,c):=x;exists z,XW,r,ob,k _ _ (.inl Z) e,c
 |dK kvs=>let(z,y,vs,r,ob,es,ep,e,c):=x;exists z,y,vs,r,ob,es,ep,k _ _ (.inl Z) e,c
 |dT kvs=>
  let(z,y,xs,r,ob,es,ep,e,c):=x;exists z,y,xs,Paired.mapP r λp q z=>{z.1,ht _ _ z.2.1,z.2.2},ob,es,ep,k _ _ (.inl Z) e,c
 |set S n=>let(ob,es,ep,t,e,c):=x;exists ob,es,ep,t,k _ _ (.inl Z) e,c
 |ins C dx fs=>
  let(d,z,ne,e,mA,(od,es,ep,e2,c),r):=x;exists ho _ d,z,ne,k _ _ (.inl Z) e,mA,{od,es,ep,k _ _ (.inr d) e2,c},r
 |own y=>let(ob,e):=x;exists ob,k _ _ (.inl Z) e
 |xd fs=>let(mA,(od,es,ep,e,c),r):=x;exists mA,{od,es,ep,k _ _ (.inl Z) e,c},r
 |rng lo hi=>let(t,u,v,e):=x;exists t,u,v,k _ _ (.inl Z) e
 |frz ob u ih=>let(e,q):=x;exists k _ _ (.inl Z) e,ih q
 |tbl ps=>
  let e:h.H a=some {cls:=.none,data:=.fields ps}:=x;change h'.H a=some {cls:=.none,data:=.fields ps}
  show k a _ (.inl Z) e
 |met f y=>
  let e:h.H a=some (PySem.W.methodObj ↑f<|.ref y):=x;change h'.H a=some (PySem.W.methodObj ↑f<|.ref y)
  show k a _ (.inl Z) e
 |ext φ=>let(p,(o,e),st):=x;exists st _ _ p λo q=>k _ _ (.inl Z) q,{o,k _ _ (.inl Z) e},st
def HOk.lt(x:HOk P w H h)(e:H a=some o):a<h.objs.t:=(x a o e).lt
def HOk.fresh(x:HOk P w H h)(e:h.objs.t<=a):H a=none:=by
 cases q:H a with
 |none=>rfl
 |some u=>show absurd (YD (x.lt q) e) (Qi _)
def HOk.kept(x:HOk P w H h)(k:∀b u,h.H b=some u->h'.H b=some u):HOk P w H h':=λa o e=>
 (x a o e).stay (λb u _ q=>k b u q) (λ_ q=>q) λ_ _ q=>q
def HOk.laid(x:HOk P w H h)(k:∀b u,h.H b=some u->h'.H b=some u)(hp:h.objs.t<=a)(new:ObjOk P w (upd H a o) h' a o):HOk P w (upd H a o) h':=λb u e=>by
 let hn:=x.fresh hp;cases hb:b=a
 .subst hb;rw[XT]at e;cases e;show new
 .rw[Zb hb]at e;show(x b u e).stay (λc v _ q=>k c v q) (λc q=>by rwa[Zb (WC q hn)]) λc xs q=>by rwa[Zb (WC q hn)]
end
def Rd(H:Hp)(a:Addr)(u:HO):(Prop):=H a=some u\/∃o,H a=some (.frz o u)
def Rd.ok(r:Rd H a u)(x:HOk P w H h):ObjOk P w H h a u:=by
 rcases r with r|⟨o,r⟩
 .show x a u r
 .let⟨_,q⟩:=x a _ r;show q
def CO:(Option HO->Prop)
 |some (.lst _)=>True
 |some (.dK _)=>True
 |some (.dT _)=>True
 |some (.set _ _)=>True
 |some (.ins _ _ _)=>True
 |some (.ext _)=>True
 |_=>False
section
variable{P:Program}{w:World}{H:Hp}{h h':Heap}{x e:Addr}{o':HO}
def HOk.write(ok:HOk P w H h)(mu:CO (H x))(he:e=x\/H e=some (.own x))(k:∀b u,b≠e->h.H b=some u->h'.H b=some u)(Ez:∃u,h'.H e=some u)
  (new:ObjOk P w (upd H x o') h' x o'):HOk P w (upd H x o') h':=λb u q=>by
 let CN:∀c y,H c=some (.own y)->c≠x:=λc y r z=>by subst z;rwa[r]at mu
 let oX:∀c xs,H c=some (.tup xs)->c≠x:=λc xs r z=>by subst z;rwa[r]at mu
 cases hb:b=x
 .subst hb;rw[XT]at q;cases q;show new
 .rw[Zb hb]at q;cases Ht:b=e
  .let q':H b=some (.own x):=by
    rcases he with z|z
    .show absurd (Ht.m z) hb
    .rw[Ht];show z
   rw[q]at q';cases q';let(v,hv):=Ez;exists v,by rwa[Ht]
  .show(ok b u q).stay (λc v hc r=>k c v ?_ r) (λc r=>by rwa[Zb (CN c b r)]) λc xs r=>by rwa[Zb (oX c xs r)]
   rcases hc with rfl|hc
   .show Ht
   .rintro rfl;rcases he with z|z
    .show CN c b hc z
    .rw[hc]at z;cases z;show hb rfl
end
structure Un(fs ex:List Addr)(H H':Hp)(h h':Heap):Prop where
 keep:∀b o,h.H b=some o->H b=none->b∉fs->b∉ex->h'.H b=some o
 slot:∀b o,h.H b=some o->H b=none->b∈fs->b∉ex->∃sl,h'.H b=some {o with slots:=sl}
 free:∀b o,h.H b=some o->H b=none->b∉ex->H' b=none
 there:∀b o,h.H b=some o->b∉ex->∃o',h'.H b=some o'
 tups:∀b xs,H b=some (.tup xs)->H' b=some (.tup xs)
 frzs:∀b o u,H b=some (.frz o u)->H' b=some (.frz o u)
 tbls:∀b ps,H b=some (.tbl ps)->∃more,H' b=some (.tbl<|ps++more)
section
variable{fs ex:List Addr}{H H1:Hp}{h h1 h':Heap}{a x e:Addr}{o:HO}
def Un.any(u:Un fs ex H H1 h h1){ob:Obj}(q:h.H b=some ob)(n:H b=none)(hx:b∉ex):∃sl,h1.H b=some {ob with slots:=sl}:=by
 cases hb:b∈fs
 .show u.slot b ob q n hb hx
 .exists ob.slots,u.keep b ob q n hb hx
def Un.kept(k:∀b u,h.H b=some u->h'.H b=some u):Un fs ex H H h h':=
 {λb ob q _ _ _=>k b ob q,λb ob q _ _ _=>{ob.slots,k b ob q},λ_ _ _ n _=>n,λb ob q _=>{ob,k b ob q},λ_ _ q=>q,λ_ _ _ q=>q,λ_ ps q=>{#[],by rw[q];simp}}
def Un.refl:Un fs ex H H h h:=Un.kept λ_ _ q=>q
def Un.laid(k:∀b u,h.H b=some u->h'.H b=some u)(hp:h.objs.t<=a)(hn:H a=none):Un fs ex H (upd H a o) h h' where
 keep:=λb u q _ _ _=>k b u q
 slot:=λb u q _ _ _=>{u.slots,k b u q}
 free:=λb u q n _=>by rwa[Zb (YF<|YD (Yt q) hp)]
 there:=λb u q _=>{u,k b u q}
 tups:=λb xs q=>by rwa[Zb (WC q hn)]
 frzs:=λb u xs q=>by rwa[Zb (WC q hn)]
 tbls:=λb ps q=>{#[],by rw[Zb (WC q hn),q];simp}
def Un.write(mu:CO (H x))(he:e=x\/H e=some (.own x))(k:∀b u,b≠e->h.H b=some u->h'.H b=some u)(Ez:∃u,h'.H e=some u):Un fs ex H (upd H x o) h h':=by
 let hx:∀b,H b=none->b≠x:=λb n z=>by subst z;rwa[n]at mu
 let hb:∀b,H b=none->b≠e:=λb n z=>by
  subst z;rcases he with r|r
  .show hx b n r
  .rw[n]at r;cases r
 let hm:∀b u,H b=some u->¬CO (some u)->b≠x:=λb u q nm z=>by subst z;rw[q]at mu;show nm mu
 show⟨λb u q n _ _=>k b u (hb b n) q,λb u q n _ _=>{u.slots,k b u (hb b n) q},λb u q n _=>by rw[Zb (hx b n)];show n,λb u q _=>?_,
  λb xs q=>by rw[Zb (hm b _ q λz=>z)];show q,λb u xs q=>by rw[Zb (hm b _ q λz=>z)];show q,λb ps q=>{#[],by rw[Zb (hm b _ q λz=>z),q];simp}⟩
 cases Ht:b=e
 .subst Ht;show Ez
 .exists u,k b u Ht q
end
def ue(h:Heap)(H:Hp):(List Addr):=(List.range h.objs.t).Q λa=>(H a).isSome
def Ui(h:Heap)(H:Hp):(Heap):=PySem.W.hideAll h (ue h H)
def Zb9(h:Heap)(H:Hp):(Ui h H).objs.t=h.objs.t:=PySem.W.hideAll_size _ _
def Zah{b:Addr}{o:Obj}(e:h.H b=some o)(n:H b=none):(Ui h H).H b=some o:=
 PySem.W.hideAll_get _ e λhm=>by let q:(H b).isSome=true:=(Ya.L hm).2;rw[n]at q;simp at q
def Zai{b:Addr}{o:Obj}(e:(Ui h H).H b=some o):h.H b=some o/\H b=none:=by
 let e':h.H b=some o:=PySem.W.of_hideAll (ue h H) e;exists e',?_;cases q:H b with
 |none=>rfl
 |some x=>
  let hm:b∈ue h H:=Ya.U {YW.U<|Yt e',by simp[q]};let z:(Ui h H).H b=none:=PySem.W.hideAll_none (ue h H) hm
  rw[z]at e;cases e
def Zaj(g h:Heap)(L:Addr):(List (Addr×Obj)):=(List.range h.objs.t).filterMap λa=>if a=L\/(g.H a).isSome=true then none else (h.H a).R λo=>(a,o)
def rest(g h:Heap)(L d:Addr):(List (Addr×Obj)):=(Zaj g h L).Q λp=>decide (p.1≠d)
structure Mod(K:Ad)(mg:Af)(base:Heap):Prop where
 kin:K.In base
 glob:base.Ns mainGlobals mg
 blt:∃mb,base.Ns builtinsNs mb/\∀x:Str,x≠"__name__"->mb x=bootBuiltins x
 nolimit:base.NoLimit
structure Cx where
 prog:Program
 w:World
 K:Ad
 mg:Af
 base:Heap
 A:Around
 N:List Str
 s₀:Shared
 H₀:Hp
 env:Env
 outer:List Env
 stack:List Env
 ex:List Addr
 fn:Str->Bool
 calm:Bool
 pn:List (Addr×Obj)
 xe:Ae
def Ti(l:List Env):(List Addr):=l.filterMap (·.frame)
abbrev Cx.fs(X:Cx):List Addr:=Ti X.outer
def oV(sc:Scope)(x:Str):(Prop):=sc.names.Y x=some .local\/sc.names.Y x=some .cell\/sc.names.Y x=some .free
def Loc(sc:Scope)(x:Str):(Prop):=sc.names.Y x=some .local\/sc.names.Y x=some .cell
def Look(env:Env)(h:Heap)(m:Af)(x:Str)(u:Value):(Prop):=
 (env.kindOf x=some .local/\m x=some u)\/((env.kindOf x=some .cell\/env.kindOf x=some .free)/\∃c,env.cells.Y x=some c/\h.IsCell c (some u))
structure Cx.Ok(X:Cx):Prop where
 mod:Mod X.K X.mg X.base
 kind:X.env.scope.kind=.function
 glob:X.env.globals=mainGlobals
 blt:X.env.builtins=builtinsNs
 above:(~~~X.s₀)<=X.env.locals
 inj:∀x y c,X.env.cells.Y x=some c->X.env.cells.Y y=some c->x=y
 has:∀x,(X.env.kindOf x=some .cell\/X.env.kindOf x=some .free)->∃c,X.env.cells.Y x=some c
 cab:∀x c,X.fn x=true->X.env.cells.Y x=some c->(~~~X.s₀)<=c
 hd:X.calm=true->X.A.handled=none
 frames:X.A.frames=some X.stack
 stk:X.stack=X.outer\/(X.stack=X.env::X.outer/\X.env.frame=some X.env.locals)
 exf:∀b∈X.ex,b≠X.env.locals/\∀x c,X.env.cells.Y x=some c->c≠b
 bs:∀b o,X.base.H b=some o->X.s₀.G.H b=some o/\X.H₀ b=none
 bsz:X.base.objs.t<=(~~~X.s₀)
 noex:∀b o,X.base.H b=some o->b∉X.ex
 exfs:∀b∈X.ex,b∉X.fs
 funs:X.s₀.G.FunFrames X.base X.outer
 frf:∀b∈X.fs,X.H₀ b=none
structure Inv(X:Cx)(pins:List (Addr×Obj))(σ:List (Option V))(H:Hp)(s:Shared):Prop where
 ok:X.Ok
 os:s.os=X.s₀.os
 bare:AllBare s.gens
 base:Un X.fs X.ex X.H₀ H X.s₀.G s.G
 loc:∃m,s.G.Ns X.env.locals m/\∀(i:Nat)(x:Str)(v:V),X.N[i]?=some x->σ[i]?=some (some v)->oV X.env.scope x->∃u,RelV v u/\Look X.env s.G m x u
 cell:∀x c,X.env.cells.Y x=some c->∃v,s.G.IsCell c v
 free:H X.env.locals=none
 freeC:∀x c,X.env.cells.Y x=some c->H c=none
 pin:∀p∈X.pn++pins,s.G.H p.1=some p.2/\H p.1=none/\p.1≠X.env.locals/\p.1∉X.fs/\∀v,p.2.data≠.cell v
 hok:HOk X.prog X.w H s.G
 len:σ.f=X.N.f
section
variable{X:Cx}{pins:List (Addr×Obj)}{σ:List (Option V)}{H H':Hp}{s:Shared}{h':Heap}
def Cx.Ok.nofr(ok:X.Ok){b:Addr}{o:Obj}(e:X.base.H b=some o):b∉X.fs:=λhb=>by
 have:=(ok.funs.mem hb).1
 rw[e]at this;cases this
def Inv.bs(I:Inv X pins σ H s):∀b o,X.base.H b=some o->s.G.H b=some o/\H b=none:=λb o e=>
 {I.base.keep b o (I.ok.bs b o e).1 (I.ok.bs b o e).2 (I.ok.nofr e) (I.ok.noex b o e),I.base.free b o (I.ok.bs b o e).1 (I.ok.bs b o e).2 (I.ok.noex b o e)}
def Inv.bk(I:Inv X pins σ H s):∀b o,X.base.H b=some o->s.G.H b=some o:=λb o e=>(I.bs b o e).1
def Inv.mod(I:Inv X pins σ H s):Mod X.K X.mg X.base:=I.ok.mod
def Inv.kIn(I:Inv X pins σ H s):X.K.In s.G:=I.ok.mod.kin.keeps I.bk
def Inv.lt(I:Inv X pins σ H s):X.env.locals<(~~~s):=by let(_,hn,_):=I.loc;show hn.lt
def Inv.sz(I:Inv X pins σ H s):(~~~X.s₀)<=(~~~s):=Yl I.ok.above (Pl I.lt)
def Inv.nofs(I:Inv X pins σ H s){a:Addr}(h:(~~~s)<=a):a∉X.fs:=λhb=>by let(_,o,ho,_):=I.ok.funs.mem hb;show absurd (YD (Yt ho)<|Yl I.sz h) (Qi _)
def Inv.cne(I:Inv X pins σ H s):∀x c,X.env.cells.Y x=some c->c≠X.env.locals:=λx c e z=>by let(v,o,ho,hd):=I.cell x c e;let(m,(o',es,ep,UI,Mq,_),_):=I.loc;rw[z,UI]at ho;cases ho;rw[Mq]at hd;cases hd
def Inv.funs(I:Inv X pins σ H s):s.G.FunFrames X.base X.outer:=by
 let all:∀(l:List Env),(∀b∈Ti l,b∈X.fs)->X.s₀.G.FunFrames X.base l->s.G.FunFrames X.base l:=by
  intro l
  induction l with
  |nil=>intro _ _;trivial
  |cons env r ih=>
   intro hs hl;let(hk,(L,o,hf,hn,ho,hd),hr):=hl;let hL:L∈X.fs:=hs L (by unfold Ti;rw[uU,hf];show Yd)
   let(sl,e):=I.base.slot L o ho (I.ok.frf L hL) hL λz=>I.ok.exfs L z hL;exists hk,{L,_,hf,hn,e,hd},ih (λb hb=>hs b<|by unfold Ti;rw[uU,hf];show Yh _ hb) hr
 show all X.outer (λ_ hb=>hb) I.ok.funs
def Inv.stack(I:Inv X pins σ H s):s.G.FunFrames X.base X.stack:=by
 rcases I.ok.stk with e|⟨e,hf⟩
 .rw[e];show I.funs
 .rw[e];let(m,hn,_):=I.loc;show .cons (by rw[I.ok.kind];decide) hf hn ?_ I.funs;show Heap.get?_none_of_le (Yl I.ok.bsz I.ok.above)
def Inv.stkSub(I:Inv X pins σ H s):∀b∈Ti X.stack,b∈X.env.locals::X.fs:=λb hb=>by
 rcases I.ok.stk with e|⟨e,hf⟩
 .rw[e]at hb;show Yh _ hb
 .rw[e]at hb;unfold Ti at hb;rwa[uU,hf]at hb
def Inv.stkFree(I:Inv X pins σ H s):∀b∈Ti X.stack,H b=none:=λb hb=>by
 rcases Yi.L (I.stkSub b hb) with e|hb
 .rw[e];show I.free
 .let⟨_,o,ho,_⟩:=I.ok.funs.mem hb;show I.base.free b o ho (I.ok.frf b hb) λz=>I.ok.exfs b z hb
def Inv.step{g':Array GenState}{t':Nat}{d':Drawn}{ch:List Addr}(I:Inv X pins σ H s)
  (Mp:∀b∈ch,(b∈X.ex\/(~~~X.s₀)<=b)/\b≠X.env.locals/\(∀x c,X.env.cells.Y x=some c->c≠b)/\∀p∈X.pn++pins,p.1≠b)
  (keep:∀b o,b≠X.env.locals->b∉X.fs->b∉ch->s.G.H b=some o->H b=none->h'.H b=some o)
  (slot:∀b o,b≠X.env.locals->b∈X.fs->b∉ch->s.G.H b=some o->H b=none->∃sl,h'.H b=some {o with slots:=sl})(free:∀b o,b∉ch->s.G.H b=some o->H b=none->H' b=none)
  (there:∀b o,b∉ch->s.G.H b=some o->∃o',h'.H b=some o')
  (tups:∀b xs,H b=some (.tup xs)->H' b=some (.tup xs))(frzs:∀b o u,H b=some (.frz o u)->H' b=some (.frz o u))(tbls:∀b ps,H b=some (.tbl ps)->∃more,H' b=some (.tbl<|ps++more))
  (ns:∀m,s.G.Ns X.env.locals m->h'.Ns X.env.locals m)(hok:HOk X.prog X.w H' h')(hg:AllBare g'):
  Inv X pins σ H' {s with heap:=h',gens:=g',drawn:=d',toks:=t'}:=by
 let neL:∀b o,X.s₀.G.H b=some o->b≠X.env.locals:=λb o e=>YF (YD (Yt e) I.ok.above);let ud:∀b o,X.s₀.G.H b=some o->b∉X.ex->b∉ch:=λb o e hx hb=>by
  rcases(Mp b hb).1 with z|z
  .show hx z
  .show absurd (YD (Yt e) z) (Qi _)
 let cellK:∀x c,X.env.cells.Y x=some c->∀v,s.G.IsCell c v->h'.IsCell c v:=λx c e v ⟨o,ho,hd⟩=>by
  let CK:c∉ch:=λz=>(Mp c z).2.2.1 x c e rfl;cases hc:c∈X.fs
  .let⟨sl,q⟩:=slot c o (I.cne x c e) hc CK ho (I.freeC x c e);exists _,q,hd
  .exists o,keep c o (I.cne x c e) hc CK ho<|I.freeC x c e,hd
 exists I.ok,I.os,hg,{λb o e n hb hx=>?_,λb o e n hb hx=>?_,λb o e n hx=>?_,λb o e hx=>?_,λb xs e=>tups b xs<|I.base.tups b xs e,λb o xs e=>frzs b o xs<|I.base.frzs b o xs e,λb ps e=>?_},?_,λx c e=>?_,?_,λx c e=>?_,λp hp=>?_,hok,I.len
 .show keep b o (neL b o e) hb (ud b o e hx) (I.base.keep b o e n hb hx) (I.base.free b o e n hx)
 .let⟨sl,e1⟩:=I.base.slot b o e n hb hx;let(sl',e2):=slot b _ (neL b o e) hb (ud b o e hx) e1 (I.base.free b o e n hx);exists sl',e2
 .let⟨o',e1⟩:=I.base.there b o e hx;show free b o' (ud b o e hx) e1 (I.base.free b o e n hx)
 .let⟨o',e1⟩:=I.base.there b o e hx;show there b o' (ud b o e hx) e1
 .let⟨m1,e1⟩:=I.base.tbls b ps e;let(m2,e2):=tbls b _ e1;exists m1++m2,by rw[e2,Array.append_assoc]
 .let⟨m,hn,hl⟩:=I.loc;exists m,ns m hn,λi x v e1 e2 e3=>?_;let(u,r,l):=hl i x v e1 e2 e3;exists u,r,?_;rcases l with l|⟨k,c,e,z⟩
  .show .inl l
  .show .inr {k,c,e,cellK x c e _ z}
 .let⟨v,z⟩:=I.cell x c e;exists v,cellK x c e v z
 .let⟨m,⟨o,_,_,ho,_⟩,_⟩:=I.loc;show free _ o (λz=>(Mp _ z).2.1 Z) ho I.free
 .let⟨v,o,ho,hd⟩:=I.cell x c e;show free c o (λz=>(Mp c z).2.2.1 x c e Z) ho (I.freeC x c e)
 .let⟨e,n,ne,nf,d⟩:=I.pin p hp;let CK:p.1∉ch:=λz=>(Mp p.1 z).2.2.2 p hp rfl
  exists keep p.1 p.2 ne nf CK e n,free p.1 p.2 CK e n,ne,nf,d
def Inv.un{t':Nat}(I:Inv X pins σ H s)(u:Un X.fs [] H H' s.G h')(hok:HOk X.prog X.w H' h'):Inv X pins σ H' {s with heap:=h',toks:=t'}:=by
 let(m,(o,es,ep,ho,r),_):=id I.loc;let(sl,hL):=u.any ho I.free B;show I.step (g':=s.gens) (d':=s.drawn) (ch:=[]) (λ_ z=>nomatch z) (λb o _ hb _ e n=>u.keep b o e n hb B) (λb o _ hb _ e n=>u.slot b o e n hb B) (λb o _ e n=>u.free b o e n B) (λb o _ e=>u.there b o e B) u.tups u.frzs u.tbls (λm' hm=>by let(o',oU,oS,UI,r'):=hm;rw[ho]at UI;cases UI;exists _,oU,oS,hL,r') hok I.bare
def Inv.call{t':Nat}{d':Drawn}(I:Inv X pins σ H s)(u:Un (Ti X.stack) ch H H' s.G h')(hok:HOk X.prog X.w H' h')(hg:AllBare g')
  (Mp:∀b∈ch,(b∈X.ex\/(~~~X.s₀)<=b)/\b≠X.env.locals/\(∀x c,X.env.cells.Y x=some c->c≠b)/\∀p∈X.pn++pins,p.1≠b):
  Inv X pins σ H' {s with heap:=h',gens:=g',drawn:=d',toks:=t'}:=by
 let(m,(o,es,ep,ho,r),_):=id I.loc;let(sl,hL):=u.any ho I.free λz=>(Mp _ z).2.1 rfl;show I.step (ch:=ch) Mp (λb o hL hb hc e n=>u.keep b o e n (λz=>(Yi.L<|I.stkSub b z).elim hL hb) hc) (λb o _ _ hc e n=>u.any e n hc) (λb o hc e n=>u.free b o e n hc) (λb o hc e=>u.there b o e hc) u.tups u.frzs u.tbls (λm' hm=>by let(o',oU,oS,UI,r'):=hm;rw[ho]at UI;cases UI;exists _,oU,oS,hL,r') hok hg
def Inv.turned{t':Nat}(I:Inv X pins σ H s)(k:∀b o,b≠it->s.G.H b=some o->h'.H b=some o)(hn:H it=none)(hL:it≠X.env.locals)
  (h1:it∈X.ex\/(~~~X.s₀)<=it)(h2:∀x c,X.env.cells.Y x=some c->c≠it)(h3:∀p∈X.pn++pins,p.1≠it):Inv X pins σ H {s with heap:=h',toks:=t'}:=by
 let nit:∀b u,H b=some u->b≠it:=λb u e z=>by rw[z,hn]at e;cases e
 show I.step (g':=s.gens) (d':=s.drawn) (ch:=[it]) (λb hb=>?_) (λb o _ _ hc e _=>k b o (λz=>hc<|by simp[z]) e) (λb o _ _ hc e _=>{o.slots,k b o (λz=>hc<|by simp[z]) e}) (λ_ _ _ _ n=>n)
  (λb o hc e=>{o,k b o (λz=>hc<|by simp[z]) e}) (λ_ _ e=>e) (λ_ _ _ e=>e) (λb ps e=>{#[],by rw[e];simp}) (λm hm=>?_) (λb u e=>?_) I.bare
 .let e:b=it:=by simpa using hb
  subst e;exists h1,hL,h2,h3
 .let⟨o,es,ep,ho,r⟩:=hm;exists o,es,ep,k _ o (WX hL) ho,r
 .show(I.hok b u e).stay (λc v hc q=>k c v ?_ q) (λ_ q=>q) λ_ _ q=>q;rcases hc with z|z
  .rw[z];show nit b u e
  .show nit c _ z
def Inv.tok(I:Inv X pins σ H s)(t:Nat):Inv X pins σ H {s with toks:=t}:=I.un (h':=s.G) (t':=t) Un.refl I.hok
def Inv.kept{t':Nat}(I:Inv X pins σ H s)(k:∀b u,s.G.H b=some u->h'.H b=some u):Inv X pins σ H {s with heap:=h',toks:=t'}:=I.un (Un.kept k) (I.hok.kept k)
def Inv.laid{t':Nat}(I:Inv X pins σ H s)(k:∀b u,s.G.H b=some u->h'.H b=some u)(hp:(~~~s)<=a)(new:ObjOk X.prog X.w (upd H a o) h' a o):
  Inv X pins σ (upd H a o) {s with heap:=h',toks:=t'}:=I.un (Un.laid k hp<|I.hok.fresh hp) (I.hok.laid k hp new)
def Inv.write{t':Nat}(I:Inv X pins σ H s)(mu:CO (H x))(he:e=x\/H e=some (.own x))(k:∀b u,b≠e->s.G.H b=some u->h'.H b=some u)(Ez:∃u,h'.H e=some u)
  (new:ObjOk X.prog X.w (upd H x o) h' x o):Inv X pins σ (upd H x o) {s with heap:=h',toks:=t'}:=I.un (Un.write mu he k Ez) (I.hok.write mu he k Ez new)
def Inv.weak(I:Inv X pins σ H s)(hl:σ'.f=σ.f)(w:∀(i:Nat) v,σ'[i]?=some (some v)->σ[i]?=some (some v)):Inv X pins σ' H s:=
 {I.ok,I.os,I.bare,I.base,by let(m,hn,Ox):=I.loc;show{m,hn,λi x v e1 e2 e3=>Ox i x v e1 (w i v e2) e3},I.cell,I.free,I.freeC,I.pin,I.hok,hl.m I.len}
def Inv.pins_of(I:Inv X pins σ H s)(h:∀p∈pins',s.G.H p.1=some p.2/\H p.1=none/\p.1≠X.env.locals/\p.1∉X.fs/\∀v,p.2.data≠.cell v):Inv X pins' σ H s:=
 {I.ok,I.os,I.bare,I.base,I.loc,I.cell,I.free,I.freeC,λp hp=>(Xz.L hp).elim (λz=>I.pin p<|Yg _ z) (h p),I.hok,I.len}
def Zg7{N:List Str}(hN:N.Nodup){i j:Nat}{x:Str}(a:N[i]?=some x)(b:N[j]?=some x):i=j:=by let(h1,e1):=XF.L a;let(h2,e2):=XF.L b;show(List.getElem_inj hN).L (e1.m e2.symm)
def Zx8{E:Ae}{i:Nat}{x:Str}{Q:Unit->Shared->Prop}(I:Inv X pins σ H s)(hN:X.N.Nodup)(hi:X.N[i]?=some x)(hx:Loc X.env.scope x)(r:RelV v u)
  (h:∀s',Inv X pins (σ.set i<|some v) H s'->(∃a,Heap.SameBut a s.G s'.G/\(a=X.env.locals\/X.env.cells.Y x=some a))->Q () s')(hf:X.fn x=true\/X.env.scope.names.Y x=some .local:=by first|show .inl rfl|show .inr rfl|assumption):wpAny M A (storeName X.env x u) Q E s:=by
 let(m,hn,hl):=id I.loc;let oR:(X.env.scope.kind == .class||(X.env.scope.kind == .module&&X.env.locals != X.env.globals))=false:=by rw[I.ok.kind];rfl
 let CJ:i<σ.f:=by rw[I.len];show(XF.L hi).1
 let cne:=I.cne;let tracked:∀{a:Addr}{h':Heap},(∃o,s.G.H a=some o/\H a=none)->Heap.SameBut a s.G h'->HOk X.prog X.w H h':=λ{a h'} ha hs b ob e=>by
  let(_,_,Jt):=ha;show(I.hok b ob e).stay (λc w' hc q=>(hs.2 c ?_).m q) (λ_ q=>q) λ_ _ q=>q;rintro rfl;rcases hc with rfl|hc
  .rw[Jt]at e;cases e
  .rw[Jt]at hc;cases hc
 rcases hx with hk|hk
 .show wpAny_storeName_local hk hn (λh' Qe hs=>?_) oR;let(oL,_,_,Mo,_):=id hn;show h _ {I.ok,I.os,I.bare,{λb o e n hb hx=>?_,λb o e n hb hx=>?_,I.base.free,λb o e hx=>?_,I.base.tups,I.base.frzs,I.base.tbls},{_,Qe,λj y v' e1 e2 e3=>?_},λy c e=>?_,I.free,I.freeC,λp hp=>?_,tracked ⟨oL,Mo,I.free⟩ hs,by simpa using I.len} {_,hs,.inl Z}
  .show(hs.2 b<|YF<|YD (Yt e) I.ok.above).m (I.base.keep b o e n hb hx)
  .let⟨sl,e1⟩:=I.base.slot b o e n hb hx;exists sl,(hs.2 b<|YF<|YD (Yt e) I.ok.above).m e1
  .let⟨o',e1⟩:=I.base.there b o e hx;exists o',(hs.2 b<|YF<|YD (Yt e) I.ok.above).m e1
  .cases hj:j=i
   .subst hj;rw[hi]at e1;cases e1;rw[ai CJ]at e2;cases e2;exists u,r,.inl ⟨hk,B⟩
   .rw[List.getElem?_set_ne (WX hj)]at e2;let(u',r',q):=hl j y v' e1 e2 e3;exists u',r',?_;rcases q with ⟨k,e⟩|⟨k,c,e,z⟩
    .show .inl {k,?_}
     have:y≠x:=λe=>hj (Zg7 hN e1<|e▸hi)
     simp[this,e]
    .show .inr {k,c,e,z.sameBut hs<|cne y c e}
  .let⟨w',z⟩:=I.cell y c e;exists w',z.sameBut hs<|cne y c e
  .let⟨e,n,ne,nf,d⟩:=I.pin p hp;exists (hs.2 p.1 ne).m e,n,ne,nf,d
 .let Ey:X.fn x=true:=by
   rcases hf with z|z
   .show z
   .rw[z]at hk;cases hk
  let(c,hc):=I.ok.has x (.inl hk);let(w',z):=I.cell x c hc;show wpAny_storeName_cell I.ok.kind hk hc z λh' WS hs=>?_;let(oc,uc,oQ):=id z;show h {s with heap:=h'} {I.ok,I.os,I.bare,{λb o e n hb hx=>?_,λb o e n hb hx=>?_,I.base.free,λb o e hx=>?_,I.base.tups,I.base.frzs,I.base.tbls},{m,hn.sameBut hs<|WX<|cne x c hc,λj y v' e1 e2 e3=>?_},λy c' e=>?_,I.free,I.freeC,λp hp=>?_,tracked {oc,uc,I.freeC x c hc} hs,by simpa using I.len} {c,hs,.inr hc}
  .show(hs.2 b<|YF<|YD (Yt e)<|I.ok.cab x c Ey hc).m (I.base.keep b o e n hb hx)
  .let⟨sl,e1⟩:=I.base.slot b o e n hb hx;exists sl,(hs.2 b<|YF<|YD (Yt e)<|I.ok.cab x c Ey hc).m e1
  .let⟨o',e1⟩:=I.base.there b o e hx;exists o',(hs.2 b<|YF<|YD (Yt e)<|I.ok.cab x c Ey hc).m e1
  .cases hj:j=i
   .subst hj;rw[hi]at e1;cases e1;rw[ai CJ]at e2;cases e2;exists u,r,.inr {.inl hk,c,hc,WS}
   .rw[List.getElem?_set_ne (WX hj)]at e2;let(u',r',q):=hl j y v' e1 e2 e3;exists u',r',?_;rcases q with q|⟨k,c',e,z'⟩
    .show .inl q
    .show .inr {k,c',e,z'.sameBut hs ?_};rintro rfl;show hj (Zg7 hN e1<|I.ok.inj _ _ _ e hc▸hi)
  .cases hcc:c'=c
   .subst hcc;exists _,WS
   .let⟨w2,z2⟩:=I.cell y c' e;exists w2,z2.sameBut hs hcc
  .let⟨e,n,ne,nf,d⟩:=I.pin p hp;exists (hs.2 p.1 ?_).m e,n,ne,nf,d;intro q;rw[q,uc]at e;let q':oc=p.2:=Ye e
   show d w' (by rwa[<-q'])
def oP{E:Ae}{i:Nat}{x:Str}{Q:Unit->Shared->Prop}(I:Inv X pins σ H s)(hN:X.N.Nodup)(hi:X.N[i]?=some x)(hx:Loc X.env.scope x)(r:RelV v u)
  (h:∀s',Inv X pins (σ.set i<|some v) H s'->Q () s')(hf:X.fn x=true\/X.env.scope.names.Y x=some .local:=by first|show .inl rfl|show .inr rfl|assumption):wpAny M A (storeName X.env x u) Q E s:=
 Zx8 I hN hi hx r (λs' I' _=>h s' I') hf
def Inv.call'(I:Inv X pins σ H s)(ho:s'.os=s.os)(u:Un (Ti X.stack) ch H H' s.G s'.G)(hok:HOk X.prog X.w H' s'.G)(hg:AllBare s'.gens)
  (Mp:∀b∈ch,(b∈X.ex\/(~~~X.s₀)<=b)/\b≠X.env.locals/\(∀x c,X.env.cells.Y x=some c->c≠b)/\∀p∈X.pn++pins,p.1≠b):Inv X pins σ H' s':=by
 let(h',g',d',t',o'):=s';let e:o'=s.os:=ho
 subst e;show I.call (g':=g') (t':=t') (d':=d') u hok hg Mp
end
abbrev XK:=Value->Option Addr->Hp->Prop
abbrev St:=List (Option V)
abbrev VK:=V->Hp->Prop
abbrev TE:=St->Hp->VK->Prop
abbrev TT:=St->Hp->(Bool->Hp->Prop)->Prop
abbrev TA:=St->Hp->(List V->Hp->Prop)->Prop
structure Ends where
 nx:St->Hp->Prop
 rt:VK
 bk:St->Hp->Prop:=λ_ _=>False
 ct:St->Hp->Prop:=λ_ _=>False
abbrev TS:=Ends->St->Hp->Prop
def EP(X:Cx)(pins:List (Addr×Obj))(σ:St)(Q:VK)(u:Value)(s':Shared):(Prop):=∃v H',Inv X pins σ H' s'/\RelV v u/\Q v H'
def TP(X:Cx)(pins:List (Addr×Obj))(σ:St)(Q:Bool->Hp->Prop)(b:Bool)(s':Shared):(Prop):=∃H',Inv X pins σ H' s'/\Q b H'
def Zak(X:Cx)(pins:List (Addr×Obj))(σ:St)(Q:List V->Hp->Prop)(us:Ag)(s':Shared):(Prop):=∃vs H',Inv X pins σ H' s'/\Vals vs us/\Q vs H'
def SP(X:Cx)(pins:List (Addr×Obj))(CM:Ends)(f:Flow)(s':Shared):(Prop):=
 match f with
 | .next=>∃σ' H',Inv X pins σ' H' s'/\CM.nx σ' H'
 | .brk=>∃σ' H',Inv X pins σ' H' s'/\CM.bk σ' H'
 | .cont=>∃σ' H',Inv X pins σ' H' s'/\CM.ct σ' H'
 | .ret u=>∃v σ' H',Inv X pins σ' H' s'/\RelV v u/\CM.rt v H'
def PE(X:Cx)(e:Expr)(t:TE):(Prop):=
 ∀(pins:List (Addr×Obj))(s:Shared)(σ:St)(H:Hp)(Q:VK),Inv X pins σ H s->t σ H Q->wpAny (model X.prog X.w) X.A (eval e X.env) (EP X pins σ Q) X.xe s
def PT(X:Cx)(e:Expr)(t:TT):(Prop):=
 ∀(pins:List (Addr×Obj))(s:Shared)(σ:St)(H:Hp)(Q:Bool->Hp->Prop),Inv X pins σ H s->t σ H Q->wpAny (model X.prog X.w) X.A (isTrue e X.env<|eval e X.env) (TP X pins σ Q) X.xe s
def PW(X:Cx)(e:Expr)(t:TT):(Prop):=
 ∀(whole:Sem Value)(pins:List (Addr×Obj))(s:Shared)(σ:St)(H:Hp)(Q:Bool->Hp->Prop),Inv X pins σ H s->t σ H Q->wpAny (model X.prog X.w) X.A (isTrue e X.env whole) (TP X pins σ Q) X.xe s
def PW.pt(h:PW X e t):PT X e t:=h _
def PA(X:Cx)(es:List Expr)(t:TA):(Prop):=
 ∀(pos:Pos)(pins:List (Addr×Obj))(s:Shared)(σ:St)(H:Hp)(Q:List V->Hp->Prop),Inv X pins σ H s->t σ H Q->wpAny (model X.prog X.w) X.A (spliced<|backTo pos<|starEach es X.env) (Zak X pins σ Q) X.xe s
def PS(X:Cx)(st:Stmt)(t:TS):(Prop):=
 ∀(pins:List (Addr×Obj))(s:Shared)(σ:St)(H:Hp)(CM:Ends),Inv X pins σ H s->t CM σ H->wpAny (model X.prog X.w) X.A (exec st X.env) (SP X pins CM) X.xe s
def PSs(X:Cx)(st:List Stmt)(t:TS):(Prop):=
 ∀(pins:List (Addr×Obj))(s:Shared)(σ:St)(H:Hp)(CM:Ends),Inv X pins σ H s->t CM σ H->wpAny (model X.prog X.w) X.A (execs st X.env) (SP X pins CM) X.xe s
def thn{α:Type}{t:Sem α}{Q Q':α->Shared->Prop}{M:Model}{A:Around}{E:Ae}{s:Shared}(h:wpAny M A t Q E s)(hQ:∀a s,Q a s->Q' a s):wpAny M A t Q' E s:=RX h hQ λ_ _ x=>x
section
variable{X:Cx}
inductive isB(x:V)(H:Hp)(Q:Bool->Hp->Prop):Prop
 |mk (k:Bool) (_:x=.bl k) (_:Q k H)
inductive tVar(i:Nat)(σ:St)(H:Hp)(Q:VK):Prop
 |mk (v:_) (_:σ[i]?=some (some v)) (_:Q v H)
def tC(v:V):(TE):=λ_ H Q=>Q v H
def Zal{x:Str}{pos:Pos}(hN:X.N[i]?=some x)(hv:oV X.env.scope x)(hd:(x == ("__debug__":Str))=false:=by decide)(RW:(x == ("__classdict__":Str))=false:=by decide):PE X (.Name x pos) (tVar i):=by
 intro pins s σ H Q I h;let(v,e,h):=h;let(m,hn,hl):=I.loc;let(u,r,l):=hl i x v hN e hv;let fin:EP X pins σ Q u s:=⟨v,H,I,r,h⟩
 rcases l with ⟨hk,hm⟩|⟨hk,c,hc,QO⟩
 .show wpAny_Name (wpAny_loadName_local I.ok.kind hk hn hm fin) hd
 .rcases hk with hk|hk
  .show wpAny_Name (wpAny_loadName_cell I.ok.kind hk hc QO fin) hd
  .show wpAny_Name (wpAny_loadName_free I.ok.kind hk hc QO fin RW) hd
def Zc{i j pos}:PE X (.Constant (.int i) j pos) (tC (.int i)):=λ_ _ _ H _ I h=>wpAny_Constant_int {.int i,H,I.tok _,{_,Z},h}
def Lr{b j pos}:PE X (.Constant (.bool b) j pos) (tC (.bl b)):=λ_ _ _ H _ I h=>Constant_bool {.bl b,H,I,Z,h}
def Pj{j pos}:PE X (.Constant .none j pos) (tC .non):=λ_ _ _ H _ I h=>Constant_none ⟨.non,H,I,Z,h⟩
def Gl(X:Cx)(x:Str):(Prop):=X.env.kindOf x=some .globalImplicit
def oN{E:Ae}{u:Value}{pos:Pos}{Q:Ae}(I:Inv X pins σ H s)(hg:Gl X x)(hm:X.mg x=some u)(h:Q u s)
  (hd:(x == ("__debug__":Str))=false:=by decide):wpAny (model X.prog X.w) X.A (eval (.Name x pos) X.env) Q E s:=
 Calls.Name_function_global I.ok.kind hg (Calls.loadGlobal_global (by rw[I.ok.glob];show I.mod.glob.keeps I.bk) hm h) hd
def Ph{E:Ae}{u:Value}{pos:Pos}{Q:Ae}(I:Inv X pins σ H s)(hg:Gl X x)(hm:X.mg x=none)(hv:bootBuiltins x=some u)(h:Q u s)
  (hn:x≠"__name__":=by decide)(hd:(x == ("__debug__":Str))=false:=by decide):wpAny (model X.prog X.w) X.A (eval (.Name x pos) X.env) Q E s:=by let(mb,h1,h2):=I.mod.blt;show Calls.Name_function_global I.ok.kind hg (Calls.loadGlobal_builtin (by rw[I.ok.glob];show I.mod.glob.keeps I.bk) hm (by rw[I.ok.blt];show h1.keeps I.bk) ((h2 x hn).m hv) h) hd
def ZM9{u:Value}{pos:Pos}(hg:Gl X x)(hm:X.mg x=some u)(r:RelV v u)(hd:(x == ("__debug__":Str))=false:=by decide):PE X (.Name x pos) (tC v):=
 λ_ _ _ H _ I h=>oN I hg hm ⟨v,H,I,r,h⟩ hd
def ZN9{u:Value}{pos:Pos}(hg:Gl X x)(hm:X.mg x=none)(hv:bootBuiltins x=some u)(r:RelV v u)(hn:x≠"__name__":=by decide)(hd:(x == ("__debug__":Str))=false:=by decide):PE X (.Name x pos) (tC v):=
 λ_ _ _ H _ I h=>Ph I hg hm hv ⟨v,H,I,r,h⟩ hn hd
variable{a b:Expr}{ta tb:TE}{pos:Pos}
def PC(X:Cx)(op:CmpOp)(a b:Expr)(t:TE):(Prop):=
 ∀(pins:List (Addr×Obj))(s:Shared)(σ:St)(H:Hp)(Q:VK),Inv X pins σ H s->t σ H Q->
  wpAny (model X.prog X.w) X.A (eval a X.env) (λv s₁=>wpAny (model X.prog X.w) X.A (eval b X.env) (λu s₂=>wpAny (model X.prog X.w) X.A (compareOp op v u) (EP X pins σ Q) X.xe s₂) X.xe s₁) X.xe s
def tB(t:TE):(TT):=λσ H Q=>t σ H λx H1=>isB x H1 Q
def Jr{e:Expr}{t:TE}(h:PE X e t)(he:∀whole,isTrue e X.env whole=(do let v <-whole;standAt e.pos;holding [v] (truthy v)):=by intro _;rfl):PT X e (tB t):=by intro pins s σ H Q I hw;show isTrue_plain (thn (h pins s σ H _ I hw) λv s1 zz=>?_) (he _);let(x,H1,I1,r1,q1):=zz;let(d,rfl,q):=q1;cases r1;show Tj ⟨H1,I1,q⟩
variable{tA t9:TT}{rest:List Expr}
def oM(t u:TT):(TT):=λσ H Q=>t σ H λc H1=>if c=true then u σ H1 Q else Q false H1
def tOr(t u:TT):(TT):=λσ H Q=>t σ H λc H1=>if c=true then Q true H1 else u σ H1 Q
def oK(t:TT):(TT):=λσ H Q=>t σ H λc H1=>Q (!c) H1
def t8(ha:PT X a tA):PW X (.BoolOp .And [a] pos) tA:=by
 intro wh pins s σ H Q I h;show isTrue_and (thn (ha pins s σ H Q I h) λc s1 e=>?_);cases c with
 |true=>show isTrue_and_nil e
 |false=>show e
def Ex(ha:PT X a tA):PW X (.BoolOp .Or [a] pos) tA:=by
 intro wh pins s σ H Q I h;show isTrue_or (thn (ha pins s σ H Q I h) λc s1 e=>?_);cases c with
 |false=>show isTrue_or_nil e
 |true=>show e
def t7(ha:PT X a tA)(hb:PW X (.BoolOp .And (b::rest) pos) t9):PW X (.BoolOp .And (a::b::rest) pos) (oM tA t9):=by
 intro wh pins s σ H Q I h;show isTrue_and (thn (ha pins s σ H _ I h) λc s1 Xs=>?_);let(H1,I1,q1):=Xs;cases c with
 |true=>show hb wh pins s1 σ H1 Q I1 q1
 |false=>exists H1,I1,q1
def TL(ha:PT X a tA)(hb:PW X (.BoolOp .Or (b::rest) pos) t9):PW X (.BoolOp .Or (a::b::rest) pos) (tOr tA t9):=by
 intro wh pins s σ H Q I h;show isTrue_or (thn (ha pins s σ H _ I h) λc s1 Xs=>?_);let(H1,I1,q1):=Xs;cases c with
 |true=>exists H1,I1,q1
 |false=>show hb wh pins s1 σ H1 Q I1 q1
def Lq(ha:PT X a tA):PT X (.UnaryOp .Not a pos) (oK tA):=by intro pins s σ H Q I h;show isTrue_not (ha pins s σ H (λc H1=>Q (!c) H1) I h)
def oJ(ta tb:TE):(TE):=λσ H Q=>ta σ H λx H1=>∃c,x=.bl c/\if c=true then tb σ H1 Q else Q (.bl false) H1
def oH(ta:TE):(TE):=λσ H Q=>ta σ H λx H1=>∃c,x=.bl c/\Q (.bl<|!c) H1
def CI{op}(h:PE X a t):PE X (.BoolOp op [a] pos) t:=λpins s σ H Q I hw=>BoolOp_one (h pins s σ H Q I hw)
def Ow(ha:PE X a ta)(hb:PE X (.BoolOp .And (b::rest) pos) tb):PE X (.BoolOp .And (a::b::rest) pos) (oJ ta tb):=by
 intro pins s σ H Q I h;show BoolOp_and (thn (ha pins s σ H _ I h) λv s1 Xs=>?_);let(x,H1,I1,r1,q1):=Xs;let(c,rfl,q1):=q1;cases r1;show Tj ?_;cases c with
 |true=>show hb pins s1 σ H1 Q I1 q1
 |false=>exists .bl false,H1,I1,Z,q1
def CH(ha:PE X a ta):PE X (.UnaryOp .Not a pos) (oH ta):=by intro pins s σ H Q I h;show UnaryOp_ (thn (ha pins s σ H _ I h) λv s1 Xs=>?_);let(x,H1,I1,r1,q1):=Xs;let(c,rfl,q1):=q1;cases r1;show not_of (Tj {.bl<|!c,H1,I1,Z,q1})
def tIf(t:TT)(ta tb:TE):(TE):=λσ H Q=>t σ H λc H1=>if c=true then ta σ H1 Q else tb σ H1 Q
def t6{c:Expr}(hc:PT X c tA)(ha:PE X a ta)(hb:PE X b tb):PE X (.IfExp c a b pos) (tIf tA ta tb):=by
 intro pins s σ H Q I h;show wpAny_IfExp (thn (hc pins s σ H _ I h) λd s1 Xs=>?_);let(H1,I1,q1):=Xs;cases d with
 |true=>show ha pins s1 σ H1 Q I1 q1
 |false=>show hb pins s1 σ H1 Q I1 q1
end
def SqL(K:Ad)(H:Hp)(a:Addr)(xs:List V):(Prop):=
 Rd H a (.lst xs)\/
  ∃(o:Obj)(XW:Array Value)(n:Nat),K.Y a=some o/\o.cls=.type "list"/\o.dict=none/\o.data=.seq XW n/\XW.t<=sizeLine/\Vals xs XW.l
def SqT(K:Ad)(H:Hp)(a:Addr)(xs:List V):(Prop):=
 Rd H a (.tup xs)\/
  ∃(o:Obj)(XW:Array Value)(n:Nat),K.Y a=some o/\o.cls=.type "tuple"/\o.data=.seq XW n/\XW.t<=sizeLine/\Vals xs XW.l
def oG:(Value->Option V)
 | .none=>some .non
 | .bool b=>some (.bl b)
 | .int i _=>some (.int i)
 | .str x _=>some (.str x)
 | .bytes b _=>some (.byt b)
 | .float b _=>some (.flt b)
 | .ref a=>some ↑a
 | .type n=>some (.ty n)
 |_=>none
def RelV.abs(r:RelV x u):oG u=some x:=by
 cases x with
 |non=>cases r;rfl
 |bl _=>cases r;rfl
 |int _=>let(t,rfl):=r;rfl
 |str _=>let(t,rfl):=r;rfl
 |byt _=>let(t,rfl):=r;rfl
 |flt _=>let(t,rfl):=r;rfl
 |ref _=>cases r;rfl
 |ty _=>cases r;rfl
def RelV.inj(r:RelV x u)(q:RelV y u):x=y:=Ye (r.abs.symm.m q.abs)
def Vals.inj{xs ys:List V}{us:Ag}(h:Vals xs us)(h':Vals ys us):xs=ys:=by
 induction h generalizing ys with
 |nil=>cases h';rfl
 |cons r t ih=>cases h' with
  |cons r' t'=>rw[r.inj r',ih t']
section
variable{X:Cx}{pins:List (Addr×Obj)}{σ:St}{H:Hp}{s:Shared}{a:Addr}{xs ys:List V}
def SqL.of{K:Ad}(h:H a=some (.lst xs)):SqL K H a xs:=.inl (.inl h)
def SqT.of{K:Ad}(h:H a=some (.tup xs)):SqT K H a xs:=.inl (.inl h)
def Inv.list(I:Inv X pins σ H s)(h:SqL X.K H a xs):∃XW:Ag,Vals xs XW/\PlainL s.G a XW.C/\xs.f<=sizeLine:=by
 rcases h with h|⟨o,XW,n,hk,hc,hd,hs,hz,r⟩
 .let⟨z,XW,n,r,e⟩:=h.ok I.hok;exists XW,r,{_,n,e,Z,Z,Z},z
 .exists XW.l,r,{o,n,I.kIn a o hk,hc,hd,by simpa using hs},?_;let e:=r.f
  simp only[Yx]at e;lia
def Inv.tuple(I:Inv X pins σ H s)(h:SqT X.K H a xs):∃XW:Ag,Vals xs XW/\IsTup s.G a XW.C/\xs.f<=sizeLine:=by
 rcases h with h|⟨o,XW,n,hk,hc,hs,hz,r⟩
 .let⟨z,XW,r,p⟩:=h.ok I.hok;exists XW,r,p,z
 .exists XW.l,r,{o,I.kIn a o hk,hc,n,by simpa using hs},?_;let e:=r.f
  simp only[Yx]at e;omega
def Inv.list_inj(I:Inv X pins σ H s)(h:SqL X.K H a xs)(h':SqL X.K H a ys):xs=ys:=by
 let(XW,r,(o,n,e,_,_,d),_):=I.list h;let(its',r',(o',n',e',_,_,d'),_):=I.list h';rw[e]at e';cases e';rw[d]at d';injection d' with d1 _
 have:XW=its':=by simpa using YS Array.toList d1
 subst this;show r.inj r'
def Inv.tuple_inj(I:Inv X pins σ H s)(h:SqT X.K H a xs)(h':SqT X.K H a ys):xs=ys:=by
 let(XW,r,(o,e,_,n,d),_):=I.tuple h;let(its',r',(o',e',_,n',d'),_):=I.tuple h';rw[e]at e';cases e';rw[d]at d';injection d' with d1 _
 have:XW=its':=by simpa using YS Array.toList d1
 subst this;show r.inj r'
end
abbrev Cx.wish(X:Cx)(E:Ae):Cx:={X with xe:=E}
abbrev Cx.nox(X:Cx):Cx:=X.wish λ_ _=>False
def Cx.Ok.wish{X:Cx}(ok:X.Ok)(E:Ae):(X.wish E).Ok:=
 ⟨ok.mod,ok.kind,ok.glob,ok.blt,ok.above,ok.inj,ok.has,ok.cab,ok.hd,ok.frames,ok.stk,ok.exf,ok.bs,ok.bsz,ok.noex,ok.exfs,ok.funs,ok.frf⟩
def Cx.Ok.unwish{X:Cx}{E:Ae}(ok:(X.wish E).Ok):X.Ok:=
 ⟨ok.mod,ok.kind,ok.glob,ok.blt,ok.above,ok.inj,ok.has,ok.cab,ok.hd,ok.frames,ok.stk,ok.exf,ok.bs,ok.bsz,ok.noex,ok.exfs,ok.funs,ok.frf⟩
section
variable{X:Cx}{pins:List (Addr×Obj)}{σ:St}{H:Hp}{s:Shared}{E:Ae}
def Inv.wish(I:Inv X pins σ H s)(E:Ae):Inv (X.wish E) pins σ H s:={I.ok.wish E,I.os,I.bare,I.base,I.loc,I.cell,I.free,I.freeC,I.pin,I.hok,I.len}
def Inv.unwish(I:Inv (X.wish E) pins σ H s):Inv X pins σ H s:=⟨I.ok.unwish,I.os,I.bare,I.base,I.loc,I.cell,I.free,I.freeC,I.pin,I.hok,I.len⟩
def SP.unwish(h:SP (X.wish E) pins CM f s'):SP X pins CM f s':=by
 cases f with
 |next=>let(σ',H',I,q):=h;exists σ',H',I.unwish,q
 |brk=>let(σ',H',I,q):=h;exists σ',H',I.unwish,q
 |cont=>let(σ',H',I,q):=h;exists σ',H',I.unwish,q
 |ret u=>let(v,σ',H',I,r,q):=h;exists v,σ',H',I.unwish,r,q
def PSs.nox{st:List Stmt}{t:TS}(h:PSs X.nox st t):PSs X st t:=λpins s σ H CM I hw=>
 RX (h pins s σ H CM (I.wish _) hw) (λ_ _ q=>q.unwish) λ_ _ z=>False.elim z
end
section
variable{X:Cx}{st:Stmt}{rest:List Stmt}{t u:TS}{e:Expr}{te:TE}{pos:Pos}
def oE:(TS):=λCM σ H=>CM.nx σ H
def Uh(t u:TS):(TS):=λCM σ H=>t {CM with nx:=u CM} σ H
def Zq:PSs X [] oE:=λ_ _ σ H _ I h=>uE ⟨σ,H,I,h⟩
def XO(h1:PS X st t)(h2:PSs X rest u):PSs X (st::rest) (Uh t u):=by
 intro pins s σ H CM I h;show wpAny_execs_cons (thn (h1 pins s σ H {CM with nx:=u CM} I h) λf s1 q=>?_);cases f with
 |next=>
  let(σ',H',I',q):=q;show h2 pins s1 σ' H' CM I' q
 |ret v=>show q
 |brk=>show q
 |cont=>show q
def XI(h1:PS X st t):PSs X [st] t:=by
 intro pins s σ H CM I h;show wpAny_execs_cons (thn (h1 pins s σ H CM I h) λf s1 q=>?_);cases f with
 |next=>show uE q
 |ret v=>show q
 |brk=>show q
 |cont=>show q
def Inv.quiet(I:Inv X pins σ H s):interactive X.env=false:=by simp[interactive,I.ok.kind]
def oB(te:TE):(TS):=λCM σ H=>te σ H λ_ H1=>CM.nx σ H1
def QN(he:PE X e te)(hs:swapsWith e none pos.line X.env=pure false:=by rfl):PS X (.Expr e pos) (oB te):=by intro pins s σ H CM I h;show wpAny_Expr_any (thn (he pins s σ H _ I h) λv s1 zz=>by let(x,H1,I1,r1,q1):=zz;exists σ,H1,I1,q1) I.quiet hs
def Lp(te:TE):(TS):=λCM σ H=>te σ H CM.rt
def Zj(he:PE X e te):PS X (.Return (some e) pos) (Lp te):=by intro pins s σ H CM I h;show wpAny_Return_some (thn (he pins s σ H _ I h) λv s1 zz=>by let(x,H1,I1,r1,q1):=zz;exists x,σ,H1,I1,r1,q1)
def oz(c:TT)(t u:TS):(TS):=λCM σ H=>c σ H λb H1=>if b=true then t CM σ H1 else u CM σ H1
def Wl{c:Expr}{a b:List Stmt}{tc:TT}(hc:PT X c tc)(ha:PSs X a t)(hb:PSs X b u):PS X (.If c a b pos) (oz tc t u):=by
 intro pins s σ H CM I h;show wpAny_If (thn (hc pins s σ H _ I h) λd s1 Xs=>?_);let(H1,I1,q1):=Xs;cases d with
 |true=>show ha pins s1 σ H1 CM I1 q1
 |false=>show hb pins s1 σ H1 CM I1 q1
def ou:(TS):=λ_ _ _=>False
def Lo:PS X st ou:=λ_ _ _ _ _ _ h=>h.elim
end
abbrev TG:=V->St->Hp->(St->Hp->Prop)->Prop
abbrev Hs:=List V->St->Hp->(St->Hp->Prop)->Prop
def PG(X:Cx)(target:Expr)(t:TG):(Prop):=
 ∀(pins:List (Addr×Obj))(s:Shared)(σ:St)(H:Hp)(v:V)(u:Value)(Q:St->Hp->Prop),Inv X pins σ H s->RelV v u->t v σ H Q->
  wpAny (model X.prog X.w) X.A (assign target X.env u) (λ_ s'=>∃σ' H',Inv X pins σ' H' s'/\Q σ' H') X.xe s
def CG(X:Cx)(ts:List Expr)(t:Hs):(Prop):=
 ∀(pins:List (Addr×Obj))(s:Shared)(σ:St)(H:Hp)(vs:List V)(us:Ag)(Q:St->Hp->Prop),Inv X pins σ H s->Vals vs us->t vs σ H Q->
  wpAny (model X.prog X.w) X.A (assignInOrder ((assignEach ts X.env).R (·.2)) us) (λ_ s'=>∃σ' H',Inv X pins σ' H' s'/\Q σ' H') X.xe s
abbrev Ov:=V->V->V->Hp->(Hp->Prop)->Prop
def Hr(X:Cx)(t:Ov):(Prop):=
 ∀(pins:List (Addr×Obj))(s:Shared)(σ:St)(H:Hp)(o i v:V)(ov iv u:Value)(Q:Hp->Prop),Inv X pins σ H s->RelV o ov->RelV i iv->RelV v u->t o i v H Q->
  wpAny (model X.prog X.w) X.A (setItem ov iv u) (λ_ s'=>∃H',Inv X pins σ H' s'/\Q H') X.xe s
abbrev t5:=V->V->Hp->VK->Prop
def oq(X:Cx)(op:Operator)(t:t5):(Prop):=
 ∀(pins:List (Addr×Obj))(s:Shared)(σ:St)(H:Hp)(x y:V)(v u:Value)(Q:VK),Inv X pins σ H s->RelV x v->RelV y u->t x y H Q->
  wpAny (model X.prog X.w) X.A (inplaceOp op v u) (EP X pins σ Q) X.xe s
section
variable{X:Cx}{pos:Pos}
def Ln(i:Nat):(TG):=λv σ H Q=>Q (σ.set i<|some v) H
def ZK9{x:Str}(hN:X.N.Nodup)(hi:X.N[i]?=some x)(hx:Loc X.env.scope x)(hf:X.fn x=true\/X.env.scope.names.Y x=some .local:=by first|show .inl rfl|show .inr rfl|assumption):PG X (.Name x pos) (Ln i):=by intro pins s σ H v u Q I r h;show wpAny_assign_Name (oP I hN hi hx r (λs' I'=>{_,H,I',h}) hf)
def Za(i:Nat){x:Str}(hN:decide X.N.Nodup=true:=by kernel_rfl)(hi:X.N[i]?=some x:=by rfl)(hx:Loc X.env.scope x:=by show .inl rfl)(hf:X.fn x=true\/X.env.scope.names.Y x=some .local:=by first|show .inl rfl|show .inr rfl|assumption):PG X (.Name x pos) (Ln i):=ZK9 (Yu hN) hi hx hf
inductive gNil(vs:List V)(σ:St)(H:Hp)(Q:St->Hp->Prop):Prop
 |mk  (_:vs=[]) (_:Q σ H)
inductive gCons(t:TG)(u:Hs)(vs:List V)(σ:St)(H:Hp)(Q:St->Hp->Prop):Prop
 |mk (v r:_) (_:vs=v::r) (_:t v σ H λσ' H'=>u r σ' H' Q)
def QM:CG X [] gNil:=by intro pins s σ H vs us Q I r h;let(e,h):=h;subst e;cases r;show assignInOrder_nil ⟨σ,H,I,h⟩
def Zr{e:Expr}{es:List Expr}{t:TG}{u:Hs}(h1:PG X e t)(h2:CG X es u)
  (hs:(assignEach (e::es) X.env).R (·.2)=assign e X.env::(assignEach es X.env).R (·.2):=by rfl):CG X (e::es) (gCons t u):=by
 intro pins s σ H vs us Q I r h;let(v,vr,e1,h):=h;subst e1;cases r with
 |cons r rr=>
  rw[hs];show assignInOrder_cons (thn (h1 pins s σ H _ _ _ I r h) λ_ s1 Xs=>?_);let(σ1,H1,I1,q1):=Xs;show h2 pins s1 σ1 H1 _ _ Q I1 rr q1
inductive gTup(K:Ad)(n:Nat)(t:Hs)(v:V)(σ:St)(H:Hp)(Q:St->Hp->Prop):Prop
 |mk (a xs:_) (_:v=.ref a) (_:SqT K H a xs) (_:xs.f=n) (_:t xs σ H Q)
def oo{k:Nat}(hc:X.calm=true)(h:CG X es t)
  (hn:(assignEach es X.env).f=n:=by rfl)(Wk:(assignEach es X.env).findIdx? (·.1)=none:=by rfl):PG X (.Tuple es k pos) (gTup X.K n t):=by
 intro pins s σ H v u Q I r hw;let(a,xs,e1,hq,hl,hw):=hw;subst e1;cases r;let(XW,rv,ht,hz):=I.tuple hq;show assign_Tuple_tuple (I.ok.hd hc) ht (by simp[hn,<-hl,rv.length]) Wk λh' hx=>?_;let I1:Inv X pins σ H {s with heap:=h'}:=I.kept (t':=s.toks) λb o e=>hx b o (YF<|Yt e) e
 show h pins _ σ H xs _ Q I1 (by simpa using rv) hw
def om(to ti:TE)(t:Ov):(TG):=λv σ H Q=>to σ H λo H1=>ti σ H1 λi H2=>t o i v H2 λH3=>Q σ H3
def tZ{o i:Expr}{to ti:TE}{t:Ov}(ho:PE X o to)(hi:PE X i ti)(hs:Hr X t)
  (ha:∀v,assign (.Subscript o i pos) X.env v=(do
   let ov <-holding [v] (eval o X.env)
   let iv <-holding [v,ov] (eval i X.env)
   standAt pos
   holding [v,ov,iv] (setItem ov iv v)
   release [v,ov,iv] []):=by intro _;rfl):PG X (.Subscript o i pos) (om to ti t):=by intro pins s σ H v u Q I r h;rw[ha];show XU (Sx<|thn (ho pins s σ H _ I h) λov s1 Xs=>?_);let(x,H1,I1,r1,q1):=Xs;show XU (Sx<|thn (hi pins s1 σ H1 _ I1 q1) λiv s2 Xs=>?_);let(y,H2,I2,r2,q2):=Xs;show XU (wpAny_standAt<|XU<|Sx<|thn (hs pins s2 σ H2 x y v ov iv u _ I2 r1 r2 r q2) λ_ s3 Xs=>?_);let(H3,I3,q3):=Xs;show wpAny_release ⟨σ,H3,I3,q3⟩
def Lm(te:TE)(g:TG):(TS):=λCM σ H=>te σ H λx H1=>g x σ H1 CM.nx
def tY{tg e:Expr}{te:TE}{g:TG}(he:PE X e te)(hg:PG X tg g)(hs:swapsWithSole [tg] e pos.line X.env=pure false:=by rfl)(hw:swappedStores [tg] e X.env=pure none:=by rfl)
  (h1:(assignEach [tg] X.env).R (·.2)=[assign tg X.env]:=by rfl):PS X (.Assign [tg] e pos) (Lm te g):=by intro pins s σ H CM I h;show wpAny_Assign_stores (thn (he pins s σ H _ I h) λv s1 Xs=>?_) hs hw;let(x,H1,I1,r1,q1):=Xs;rw[h1];show thn (hg pins s1 σ H1 x v _ I1 r1 q1) λ_ s2 q=>q
def Th{i:Nat}{x:Str}{e:Expr}{te:TE}{pos':Pos}(hN:X.N.Nodup)(hi:X.N[i]?=some x)(hx:Loc X.env.scope x)(he:PE X e te)(hs:swapsWith e (some (.Name x pos')) pos.line X.env=pure false:=by rfl)(hf:X.fn x=true\/X.env.scope.names.Y x=some .local:=by first|show .inl rfl|show .inr rfl|assumption):
  PS X (.Assign [.Name x pos'] e pos) (Lm te<|Ln i):=by intro pins s σ H CM I h;show wpAny_Assign_Name (thn (he pins s σ H _ I h) λv s1 Xs=>?_) hs;let(y,H1,I1,r1,q1):=Xs;show oP I1 hN hi hx r1 (λs2 I2=>{_,H1,I2,q1}) hf
def Ze(i:Nat){x:Str}{e:Expr}{te:TE}{pos':Pos}(he:PE X e te)(hN:decide X.N.Nodup=true:=by kernel_rfl)(hi:X.N[i]?=some x:=by rfl)(hx:Loc X.env.scope x:=by show .inl rfl)(hs:swapsWith e (some<|.Name x pos') pos.line X.env=pure false:=by rfl)(hf:X.fn x=true\/X.env.scope.names.Y x=some .local:=by first|show .inl rfl|show .inr rfl|assumption):PS X (.Assign [.Name x pos'] e pos) (Lm te<|Ln i):=Th (Yu hN) hi hx he hs hf
def oj(to ti te:TE)(tget:V->V->Hp->VK->Prop)(tX:t5)(tset:Ov):(TS):=λCM σ H=>to σ H λo H1=>ti σ H1 λi H2=>tget o i H2 λx H3=>te σ H3 λy H4=>tX x y H4 λz H5=>tset o i z H5 λH6=>CM.nx σ H6
def CF(X:Cx)(t:V->V->Hp->VK->Prop):(Prop):=
 ∀(pins:List (Addr×Obj))(s:Shared)(σ:St)(H:Hp)(o i:V)(ov iv:Value)(Q:VK),Inv X pins σ H s->RelV o ov->RelV i iv->t o i H Q->
  wpAny (model X.prog X.w) X.A (getItem ov iv) (EP X pins σ Q) X.xe s
def tW{o i e:Expr}{to ti te:TE}{tget:V->V->Hp->VK->Prop}{tX:t5}{tset:Ov}{op:Operator}{Rx:Pos}(ho:PE X o to)(hi:PE X i ti)(hg:CF X tget)(he:PE X e te)(hp:oq X op tX)(hs:Hr X tset)
  (ha:∀ov iv new,augStore i ov iv new=(do holding [new,ov,iv] (setItem ov iv new);release [new,ov,iv] [];pure .next):=by intros;rfl):PS X (.AugAssign (.Subscript o i Rx) op e pos) (oj to ti te tget tX tset):=by intro pins s σ H CM I h;show wpAny_AugAssign_SubscriptAny (thn (ho pins s σ H _ I h) λov s1 Xs=>?_) ha;let(x1,H1,I1,r1,q1):=Xs;show thn (hi pins s1 σ H1 _ I1 q1) λiv s2 Xs=>?_;let(x2,H2,I2,r2,q2):=Xs;show thn (hg pins s2 σ H2 x1 x2 ov iv _ I2 r1 r2 q2) λold s3 Xs=>?_;let(x3,H3,I3,r3,q3):=Xs;show thn (he pins s3 σ H3 _ I3 q3) λv s4 Xs=>?_;let(x4,H4,I4,r4,q4):=Xs;show thn (hp pins s4 σ H4 x3 x4 old v _ I4 r3 r4 q4) λnew s5 Xs=>?_;let(x5,H5,I5,r5,q5):=Xs;show thn (hs pins s5 σ H5 x1 x2 x5 ov iv new _ I5 r1 r2 r5 q5) λ_ s6 zz=>by let(H6,I6,q6):=zz;exists σ,H6,I6,q6
def ipI(f:Int->Int->Int):(t5):=λx y H Q=>∃i j,x=.int i/\y=.int j/\Q (.int<|f i j) H
def CD:oq X .Add (ipI λi j=>i+j):=by intro pins s σ H x y v u Q I r1 r2 h;let(i,j,e1,e2,q):=h;subst e1;subst e2;let(t,rfl):=r1;let(t',rfl):=r2;show iadd_int {.int _,H,I.tok _,{_,Z},q}
def CC:oq X .Sub (ipI λi j=>i-j):=by intro pins s σ H x y v u Q I r1 r2 h;let(i,j,e1,e2,q):=h;subst e1;subst e2;let(t,rfl):=r1;let(t',rfl):=r2;show isub_int {.int _,H,I.tok _,{_,Z},q}
def oh(c:TT)(tb:TS):(TS):=λCM σ H=>∃W:Nat->St->Hp->Prop,(∃m,W m σ H)/\∀m σ H,W m σ H->
 c σ H λb H1=>if b=true then ∃N:St->Hp->Prop,(∀σ' H',N σ' H'->∃m',m'<m/\W m' σ' H')/\tb {CM with nx:=N,ct:=N,bk:=CM.nx} σ H1 else CM.nx σ H1
def og{c:Expr}{body:List Stmt}{tc:TT}{tb:TS}(hp:PassesOwn (model X.prog X.w) X.A X.env X.xe)(hc:PT X c tc)(hb:PSs X body tb):PS X (.While c body [] pos) (oh tc tb):=by
 intro pins s σ H CM I h;let(W,(m0,w0),turn):=h;show wpAny_While (codeAny_whileLoop (λn s'=>∃σ' H',Inv X pins σ' H' s'/\W n σ' H') ?_ m0 ⟨σ,H,I,w0⟩);rintro n s1 ⟨σ1,H1,I1,w1⟩;show HN hp (thn (hc pins s1 σ1 H1 _ I1<|turn n σ1 H1 w1) λb s2 Xs=>?_);let(H2,I2,q2):=Xs;cases b with
 |true=>
  let(N,hN,q2):=q2;rw[if_pos Z];show HN hp (thn (hb pins s2 σ1 H2 _ I2 q2) λf s3 q3=>?_);cases f with
  |next=>
   let(σ3,H3,I3,n3):=q3;let(m',hm,w3):=hN σ3 H3 n3;exists m',hm,σ3,H3,I3,w3
  |cont=>
   let(σ3,H3,I3,n3):=q3;let(m',hm,w3):=hN σ3 H3 n3;exists m',hm,σ3,H3,I3,w3
  |brk=>show q3
  |ret v=>show q3
 |false=>
  rw[if_neg YH];show uE ⟨σ1,H2,I2,q2⟩
end
structure It where
 go:Nat->Hp->Prop
 yld:Nat->Hp->V->Hp->Prop
 stop:Nat->Hp->Prop
def FpOk(X:Cx)(pins:List (Addr×Obj))(H:Hp)(b:Addr):(Prop):=
 H b=none/\b≠X.env.locals/\b∉X.fs/\(b∈X.ex\/(~~~X.s₀)<=b)/\(∀x c,X.env.cells.Y x=some c->c≠b)/\∀p∈X.pn++pins,p.1≠b
def Inv.fpOk{b:Addr}(I:Inv X pins σ H s)(hb:(~~~s)<=b)(hn:H' b=none):FpOk X pins H' b:=by
 exists hn,RD<|YD I.lt hb,I.nofs hb,.inr<|Yl I.sz hb,λx c e z=>?_,λp hp z=>?_
 .let⟨v,q⟩:=I.cell x c e;show absurd (YD q.lt<|by rwa[z]) (Qi _)
 .show absurd (YD (Yt (I.pin p hp).1)<|by rwa[z]) (Qi _)
structure Turn(P:Program)(w:World)(K:Ad)(tg:Expr)(AP:It)(fp:List Addr)(it:Addr)(tn:Nat->Heap->Prop):Prop where
 mem:it∈fp
 obj:∀i h,tn i h->∀b∈fp,∃o,h.H b=some o/\∀v,o.data≠.cell v
 keep:∀i h h',tn i h->(∀b∈fp,∀o,h.H b=some o->h'.H b=some o)->tn i h'
 item:∀(X:Cx),X.prog=P->X.w=w->X.K=K->X.calm=true->∀(i:Nat)(pins:List (Addr×Obj))(s:Shared)(σ:St)(H:Hp)(E:Ae),Inv X pins σ H s->(∀b∈fp,FpOk X pins H b)->tn i s.G->AP.go i H->
  wpAny (model P w) X.A (pyNext<|.ref it) (λr s1=>∃u,r=some u/\
   wpAny (model P w) X.A (letOwnedTupleGo tg ↑it u) (λ_ s2=>∃x H',Inv X pins σ H' s2/\RelV x u/\AP.yld i H x H'/\tn (i+1) s2.G/\∀b∈fp,H' b=none) E s1) E s
 done:∀(X:Cx),X.prog=P->X.w=w->X.K=K->X.calm=true->∀(i:Nat)(pins:List (Addr×Obj))(s:Shared)(σ:St)(H:Hp)(E:Ae),Inv X pins σ H s->(∀b∈fp,FpOk X pins H b)->tn i s.G->AP.stop i H->
  wpAny (model P w) X.A (pyNext<|.ref it) (λr s1=>r=none/\Inv X pins σ H s1) E s
 self:∀(A:Around)(i:Nat)(s:Shared)(Q:Ae)(E:Ae),tn i s.G->Q ↑it s->wpAny (model P w) A (pyIter<|.ref it) Q E s
abbrev TI:=St->Hp->(It->Hp->Prop)->Prop
def PIE(X:Cx)(pins:List (Addr×Obj))(σ:St)(tg:Expr)(R:It->Hp->Prop)(oe:Value)(s2:Shared):(Prop):=
 ∃(it:Addr)(fp:List Addr)(tn:Nat->Heap->Prop)(AP:It)(H':Hp),oe=.ref it/\Inv X pins σ H' s2/\Turn X.prog X.w X.K tg AP fp it tn/\tn 0 s2.G/\(∀b∈fp,FpOk X pins H' b)/\R AP H'
def PI(X:Cx)(tg iter:Expr)(wi:TI):(Prop):=
 ∀(pins:List (Addr×Obj))(s:Shared)(σ:St)(H:Hp)(R:It->Hp->Prop),Inv X pins σ H s->wi σ H R->
  wpAny (model X.prog X.w) X.A (eval iter X.env) (λv s1=>wpAny (model X.prog X.w) X.A (pyIter v) (PIE X pins σ tg R) X.xe s1) X.xe s
def Hq{E:Ae}{s:Shared}{it:Addr}{o:Obj}{n:String}{vs:Array Value}{Q:Unit->Shared->Prop}(ho:s.G.H it=some o)(hc:o.cls=.type n)(hd:o.data=.fields vs)
  (hn:["enumerate","zip","dict_itemiterator","dict_reverseitemiterator","odict_iterator","itertools.zip_longest","itertools.pairwise"].contains n=false)(hQ:Q () s):wpAny M A (letOwnedTupleGo tg ↑it u) Q E s:=by
 unfold letOwnedTupleGo;cases tg<;>first
  |show Yn hQ
  | (cases u<;>first
    |show Yn hQ
    | (show XU (wpAny_load ho ?_)
       rw[hc,hd];change wpAny M A (if (["enumerate","zip","dict_itemiterator","dict_reverseitemiterator","odict_iterator","itertools.zip_longest","itertools.pairwise"].contains n&&vs[0]? == some (rawInt _))=true then _ else _) Q E s
       rw[if_neg (by intro h;rw[hn,Bool.false_and]at h;cases h)];show Yn hQ))
def Ou(K:Ad)(a:Addr):(It):=
 {λi H=>∃xs x,SqL K H a xs/\xs[i]?=some x,λi H x H'=>H'=H/\∀xs,SqL K H a xs->xs[i]?=some x,λi H=>∃xs,SqL K H a xs/\xs.f<=i}
def Ot(K:Ad)(a:Addr):(It):=
 {λi H=>∃xs x,SqT K H a xs/\xs[i]?=some x,λi H x H'=>H'=H/\∀xs,SqT K H a xs->xs[i]?=some x,λi H=>∃xs,SqT K H a xs/\xs.f<=i}
def Ho(lo:Int)(n:Nat):(It):={λi _=>i<n,λi H x H'=>H'=H/\x=.int (lo+i),λi _=>n<=i}
def CB{P:Program}{w:World}{K:Ad}{tg:Expr}(a it:Addr):Turn P w K tg (Ou K a) [it] it (λi h=>h.IsListIter it a i) where
 mem:=B
 obj:=λi h st b hb=>by
  let e:b=it:=by simpa using hb
  subst e;let(o,e,c,d):=st;exists o,e,λv z=>by rw[d]at z;cases z
 keep:=λi h h' st k=>st.at λo e=>k it B o e
 item:=by
  intro X hP hw hK hc i pins s σ H E I hf st hg;subst hP hw hK;let(xs,x,hq,hx):=hg;let(XW,rv,p,hz):=I.list hq;let(u,hu,ru):=rv.get hx;let(f0,f1,f2,f3,f4,f5):=hf it B;show wpAny_pyNext_list_item st p.isList (x:=u) (by simpa using hu) λh' XQ sb=>?_;let I1:Inv X pins σ H {s with heap:=h'}:=I.turned (t':=s.toks) (λb o hb e=>(sb.2 b hb).m e) f0 f1 f3 f4 f5
  let(o,e,c,d):=id XQ;exists u,Z,Hq (s:={s with heap:=h'}) e c d oY {x,H,I1,ru,{Z,λys hy=>by rwa[I.list_inj hy hq]},XQ,λb hb=>(hf b hb).1}
 done:=by
  intro X hP hw hK hc i pins s σ H E I hf st hg;subst hP hw hK;let(xs,hq,hx):=hg;let(XW,rv,p,hz):=I.list hq;let(f0,f1,f2,f3,f4,f5):=hf it B;let hl:=rv.f
  show wpAny_pyNext_list_end (I.ok.hd hc) st p.isList (by simp;lia) λh' eb=>{Z,I.turned (t':=s.toks) (λb o hb e=>eb b o hb e) f0 f1 f3 f4 f5}
 self:=λ_ _ _ _ _ st h=>wpAny_pyIter_listiter st h
def CA{P:Program}{w:World}{K:Ad}{tg:Expr}(a it:Addr):Turn P w K tg (Ot K a) [it] it (λi h=>h.IsTupleIter it a i) where
 mem:=B
 obj:=λi h st b hb=>by
  let e:b=it:=by simpa using hb
  subst e;let(o,e,c,d):=st;exists o,e,λv z=>by rw[d]at z;cases z
 keep:=λi h h' st k=>st.at λo e=>k it B o e
 item:=by
  intro X hP hw hK hc i pins s σ H E I hf st hg;subst hP hw hK;let(xs,x,hq,hx):=hg;let(XW,rv,p,hz):=I.tuple hq;let(u,hu,ru):=rv.get hx;let(f0,f1,f2,f3,f4,f5):=hf it B;show wpAny_pyNext_tuple_item st (show s.G.IsTuple a XW.C from p) (x:=u) (by simpa using hu) λh' XQ sb=>?_;let I1:Inv X pins σ H {s with heap:=h'}:=I.turned (t':=s.toks) (λb o hb e=>(sb.2 b hb).m e) f0 f1 f3 f4 f5
  let(o,e,c,d):=id XQ;exists u,Z,Hq (s:={s with heap:=h'}) e c d oY {x,H,I1,ru,{Z,λys hy=>by rwa[I.tuple_inj hy hq]},XQ,λb hb=>(hf b hb).1}
 done:=by
  intro X hP hw hK hc i pins s σ H E I hf st hg;subst hP hw hK;let(xs,hq,hx):=hg;let(XW,rv,p,hz):=I.tuple hq;let(f0,f1,f2,f3,f4,f5):=hf it B;let hl:=rv.f
  show wpAny_pyNext_tuple_end (I.ok.hd hc) st (show s.G.IsTuple a XW.C from p) (by simp;omega) λh' eb=>{Z,I.turned (t':=s.toks) (λb o hb e=>eb b o hb e) f0 f1 f3 f4 f5}
 self:=λ_ _ _ _ _ st h=>wpAny_pyIter_tupleiter st h
def ZL6{P:Program}{w:World}{K:Ad}{tg:Expr}(it:Addr)(lo:Int)(n:Nat):Turn P w K tg (Ho lo n) [it] it (λi h=>IsRangeIter h it (lo+(i:Nat)*1) ((n:Int)-(i:Nat)) 1) where
 mem:=B
 obj:=λi h st b hb=>by
  let e:b=it:=by simpa using hb
  subst e;exists _,st,λv z=>by let z':Data.fields _=Data.cell v:=z;cases z'
 keep:=λi h h' st k=>k it B _ st
 item:=by
  intro X hP hw hK hc i pins s σ H E I hf st hg;subst hP hw hK;let(f0,f1,f2,f3,f4,f5):=hf it B;let W:=Walks.range (prog:=X.prog) (w:=X.w) (I.ok.hd hc) it lo 1 n
  show W.item i s _ _ hg st λv h' tk hv XQ kk=>?_;let(t,rfl):=hv;let I1:Inv X pins σ H {s with heap:=h',toks:=tk}:=I.turned (λb o hb e=>kk b o (by simpa using hb) e) f0 f1 f3 f4 f5
  exists _,Z,Hq (s:={s with heap:=h',toks:=tk}) (n:="range_iterator") XQ Z Z oY {.int<|lo+i,H,I1,{t,?_},⟨Z,Z⟩,XQ,λb hb=>(hf b hb).1};rw[Jw]
 done:=by intro X hP hw hK hc i pins s σ H E I hf st hg;subst hP hw hK;let(f0,f1,f2,f3,f4,f5):=hf it B;show wpAny_pyNext_range_end (I.ok.hd hc) st (by have:n<=i:=hg;lia) λh' eb=>{Z,I.turned (t':=s.toks) (λb o hb e=>eb b o hb e) f0 f1 f3 f4 f5}
 self:=λ_ _ _ _ _ st h=>wpAny_pyIter_rangeiter st h
section
variable{X:Cx}{tg:Expr}
inductive xList(K:Ad)(x:V)(H1:Hp)(R:It->Hp->Prop):Prop
 |mk (a:_) (_:x=.ref a) (_:∃xs,SqL K H1 a xs) (_:R (Ou K a) H1)
def Cz(K:Ad)(tl:TE):(TI):=λσ H R=>tl σ H λx H1=>xList K x H1 R
inductive xTpl(K:Ad)(x:V)(H1:Hp)(R:It->Hp->Prop):Prop
 |mk (a:_) (_:x=.ref a) (_:∃xs,SqT K H1 a xs) (_:R (Ot K a) H1)
def Cy(K:Ad)(tl:TE):(TI):=λσ H R=>tl σ H λx H1=>xTpl K x H1 R
def n9{l:Expr}{tl:TE}(hl:PE X l tl):PI X tg l (Cz X.K tl):=by
 intro pins s σ H R I h;show thn (hl pins s σ H _ I h) λv s1 Xs=>?_;let(x,H1,I1,r1,q1):=Xs;let(a,e,(xs,hq),q):=q1;subst e;cases r1;let(XW,rv,p,hz):=I1.list hq;show pD p.isList ?_;exists (~~~s1),[(~~~s1)],_,_,H1,Z,I1.kept (t':=s1.toks) λb o e=>WY _ e,CB a _,{_,Yr _ Z,Z,Z},λb hb=>?_,q;let e:b=(~~~s1):=by simpa using hb
 subst e;show I1.fpOk (XJ _) (I1.hok.fresh<|XJ _)
def n8{l:Expr}{tl:TE}(hl:PE X l tl):PI X tg l (Cy X.K tl):=by
 intro pins s σ H R I h;show thn (hl pins s σ H _ I h) λv s1 Xs=>?_;let(x,H1,I1,r1,q1):=Xs;let(a,e,(xs,hq),q):=q1;subst e;cases r1;let(XW,rv,p,hz):=I1.tuple hq;show wpAny_pyIter_tuple (show s1.G.IsTuple a XW.C from p) ?_;exists (~~~s1),[(~~~s1)],_,_,H1,Z,I1.kept (t':=s1.toks) λb o e=>WY _ e,CA a _,{_,Yr _ Z,Z,Z},λb hb=>?_,q;let e:b=(~~~s1):=by simpa using hb
 subst e;show I1.fpOk (XJ _) (I1.hok.fresh<|XJ _)
def n6{R:It->Hp->Prop}{E:Ae}{lo hi:Int}{t u v:Tok}{tk:Nat}(I:Inv X pins σ H s)(h1:-(2^62)<=lo)(h2:lo<2^62)(h3:-(2^62)<=hi)(h4:hi<2^62)
  (q:R (Ho lo (hi-lo).j) H):wpAny (model X.prog X.w) X.A (pyIter<|.ref (~~~s)) (PIE X pins σ tg R) E {s with heap:=s.G.push {cls:=.type "range",data:=.fields #[.int lo t,.int hi u,.int 1 v]},toks:=tk}:=by
 show wpAny_pyIter_range (IsRange.new ..) (small_one h1 h2 h3 h4) ?_;let I1:Inv X pins σ H {s with heap:=s.G.push {cls:=.type "range",data:=.fields #[.int lo t,.int hi u,.int 1 v]},toks:=tk}:=I.kept λb o e=>WY _ e
 show⟨(s.G.push {cls:=.type "range",data:=.fields #[.int lo t,.int hi u,.int 1 v]}).objs.t,[(s.G.push {cls:=.type "range",data:=.fields #[.int lo t,.int hi u,.int 1 v]}).objs.t],_,_,H,Z,
  I1.kept (t':=tk) λb o e=>WY _ e,ZL6 _ lo (hi-lo).j,?_,λb hb=>?_,q⟩
 .let e1:lo+((0:Nat):Int)*1=lo:=B;let e2:(((hi-lo).j:Nat):Int)-((0:Nat):Int)=Builtin.Range.rangeSize lo hi 1:=by rw[rangeSize_one];split<;>grind
  change IsRangeIter _ _ (lo+((0:Nat):Int)*1) ((((hi-lo).j:Nat):Int)-((0:Nat):Int)) 1;rw[e1,e2];show Yr _ rfl
 .let e:b=(s.G.push {cls:=.type "range",data:=.fields #[.int lo t,.int hi u,.int 1 v]}).objs.t:=by simpa using hb
  subst e;show I1.fpOk (XJ _) (I1.hok.fresh<|XJ _)
inductive xRng(vs:List V)(H1:Hp)(R:It->Hp->Prop):Prop
 |mk (j:Int) (_:vs=[.int j]) (_:-(2^62)<=j) (_:j<2^62) (_:R (Ho 0 j.j) H1)
def n5(ta:TA):(TI):=λσ H R=>ta σ H λvs H1=>xRng vs H1 R
def n4{a:Expr}{ta:TA}{p pos:Pos}(hg:Gl X "range")(hm:X.mg "range"=none)(ha:PA X [a] ta)(hs:starEach [a] X.env=[(false,eval a X.env)]:=by rfl):PI X tg (.Call (.Name "range" p) [a] [] pos) (n5 ta):=by
 intro pins s σ H R I h;show Call_ (Ph I hg hm boot_range<|HY (thn (ha pos pins s σ H _ I h) λus s1 Xs=>?_) hs Z);let(vs,H1,I1,r1,q1):=Xs;let(j,e,q1,q2,q):=q1;subst e;cases r1 with
 |cons r rr=>
  cases rr;let(t,rfl):=r;show call_range_1 (n6 I1 J oW q1 q2<|by simpa using q)
def nZ(wi:TI)(g:TG)(tb:TS):(TS):=λCM σ H=>wi σ H λAP H1=>∃W:Nat->Nat->St->Hp->Prop,(∃m,W 0 m σ H1)/\∀i m σ H,W i m σ H->
 (AP.stop i H/\CM.nx σ H)\/(AP.go i H/\∃N:St->Hp->Prop,(∀σ' H',N σ' H'->∃m',m'<m/\W (i+1) m' σ' H')/\∀x H',AP.yld i H x H'->g x σ H' λσ2 H2=>tb {CM with nx:=N,ct:=N,bk:=CM.nx} σ2 H2)
def Ll(fp:List Addr)(h:Heap):(List (Addr×Obj)):=fp.filterMap λb=>(h.H b).R λo=>(b,o)
def tT{b:Addr}{o:Obj}(hb:b∈fp)(e:h.H b=some o):(b,o)∈Ll fp h:=List.mem_filterMap.U {b,hb,by rw[e];rfl}
def Zj5{p:Addr×Obj}(hp:p∈Ll fp h):p.1∈fp/\h.H p.1=some p.2:=by
 let(b,hb,e):=List.mem_filterMap.L hp;cases q:h.H b with
 |none=>rw[q]at e;cases e
 |some o=>
  rw[q]at e;let e':(b,o)=p:=Ye e
  subst e';exists hb,q
def Inv.pinned(I:Inv X pins σ H s)(hf:∀b∈fp,FpOk X pins H b)(ho:∀b∈fp,∃o,s.G.H b=some o/\∀v,o.data≠.cell v):Inv X (pins++Ll fp s.G) σ H s:=
 I.pins_of λp hp=>(Xz.L hp).elim (λz=>I.pin p<|Yk _ z) λz=>by let(hb,e):=Zj5 z;let(f0,f1,f2,_):=hf p.1 hb;let(o,e',d):=ho p.1 hb;rw[e]at e';cases e';exists e,f0,f1,f2,d
def Inv.unpinned{pins pl:List (Addr×Obj)}(I:Inv X (pins++pl) σ H s):Inv X pins σ H s:=I.pins_of λp hp=>I.pin p (Yk _<|Yg _ hp)
def Tg{iter:Expr}{body:List Stmt}{wi:TI}{g:TG}{tb:TS}{pos:Pos}(hp:PassesOwn (model X.prog X.w) X.A X.env X.xe)(hc:X.calm=true)(hi:PI X tg iter wi)(hg:PG X tg g)(hb:PSs X body tb)
  (hs:∀x,foldedSetIterable iter X.env x=pure x:=by intro _;rfl):PS X (.For tg iter body [] pos) (nZ wi g tb):=by
 intro pins s σ H CM I h;show wpAny_For (thn (hi pins s σ H _ I h) λv s1 h1=>thn h1 λoe s2 h2=>?_) hs;let(it,fp,tn,AP,H2,e,I2,T,Xa,f2,W,(m0,w0),turn):=h2;subst e;let Hn:∀{H':Hp},(∀b∈fp,H' b=none)->∀b∈fp,FpOk X pins H' b:=λhn b hb=>{hn b hb,(f2 b hb).2}
 show codeAny_forLoop_any (λn s'=>∃i σ' H',Inv X pins σ' H' s'/\tn i s'.G/\(∀b∈fp,H' b=none)/\W i n σ' H') ?_ m0 {0,σ,H2,I2,Xa,λb hb=>(f2 b hb).1,w0};rintro n s3 ⟨i,σ3,H3,I3,WI,fr3,w3⟩;rcases turn i n σ3 H3 w3 with ⟨stop,qn⟩|⟨go,N,hN,step⟩
 .show HN hp (thn (T.done X Z Z Z hc i pins s3 σ3 H3 X.xe I3 (Hn fr3) WI stop) λr s4 zz=>?_);let(hr,I4):=zz;subst hr;show uE ⟨σ3,H3,I4,qn⟩
 .show HN hp (thn (T.item X Z Z Z hc i pins s3 σ3 H3 X.xe I3 (Hn fr3) WI go) λr s4 Xs=>?_);let(u,hr,h4):=Xs;subst hr;show HN hp (thn h4 λ_ s5 Xs=>?_);let(x,H5,I5,r5,y5,WQ,nY):=Xs;let nX:=I5.pinned (Hn nY) (T.obj _ _ WQ)
  show HN hp (thn (hg _ s5 σ3 H5 x u _ nX r5<|step x H5 y5) λ_ s6 Xs=>?_);let(σ6,H6,I6,q6):=Xs;show HN hp (thn (hb _ s6 σ6 H6 _ I6 q6) λf s7 q7=>?_);let again:∀{σ7:St}{H7:Hp},Inv X (pins++Ll fp s5.G) σ7 H7 s7->N σ7 H7->∃m,m<n/\∃i σ' H',Inv X pins σ' H' s7/\tn i s7.G/\(∀b∈fp,H' b=none)/\W i m σ' H':=λ{σ7 H7} I7 n7=>by let(m',hm,w7):=hN σ7 H7 n7;exists m',hm,i+1,σ7,H7,I7.unpinned,T.keep _ _ _ WQ λb hb o e=>(I7.pin (b,o)<|Yk _<|Yk _<|tT hb e).1,λb hb=>?_,w7;let(o,e,d):=T.obj _ _ WQ b hb;show(I7.pin (b,o)<|Yk _<|Yk _<|tT hb e).2.1
  cases f with
  |next=>let(σ7,H7,I7,n7):=q7;show again I7 n7
  |cont=>let(σ7,H7,I7,n7):=q7;show again I7 n7
  |brk=>let(σ7,H7,I7,q7):=q7;exists σ7,H7,I7.unpinned,q7
  |ret v=>let(x7,σ7,H7,I7,r7,q7):=q7;exists x7,σ7,H7,I7.unpinned,r7,q7
end
def Ew{K:Ad}{a:Addr}{xs:List V}{g:TG}{tb:TS}{CM:Ends}{σ:St}{H:Hp}(Pv:Nat->St->Hp->Prop)(h0:Pv 0 σ H)(hl:∀i σ H,i<=xs.f->Pv i σ H->SqL K H a xs)
  (hs:∀i x σ H,xs[i]?=some x->Pv i σ H->g x σ H λσ2 H2=>tb {CM with nx:=Pv<|i+1,ct:=Pv<|i+1,bk:=CM.nx} σ2 H2)(hd:∀σ H,Pv xs.f σ H->CM.nx σ H):
  ∃W:Nat->Nat->St->Hp->Prop,(∃m,W 0 m σ H)/\∀i m σ H,W i m σ H->
   ((Ou K a).stop i H/\CM.nx σ H)\/((Ou K a).go i H/\∃N:St->Hp->Prop,(∀σ' H',N σ' H'->∃m',m'<m/\W (i+1) m' σ' H')/\∀x H',(Ou K a).yld i H x H'->g x σ H' λσ2 H2=>tb {CM with nx:=N,ct:=N,bk:=CM.nx} σ2 H2):=by
 exists λi m σ H=>m=xs.f-i/\i<=xs.f/\Pv i σ H,{xs.f,B,Yj _,h0},?_;rintro i m σ H ⟨rfl,hi,p⟩;let q:=hl i σ H hi p
 cases Xh:i<xs.f
 .show .inr {{xs,xs[i],q,by simp[Xh]},Pv<|i+1,λσ' H' p'=>{xs.f-(i+1),oW,Z,Xh,p'},λx H' y=>?_};let(e,y):=y;subst e;show hs i x σ _ (y xs q) p
 .let e:i=xs.f:=J;subst e;show .inl {{xs,q,XJ _},hd σ H p}
def nW{K:Ad}{a:Addr}{xs:List V}{g:TG}{tb:TS}{CM:Ends}{σ:St}{H:Hp}(Pv:Nat->St->Hp->Prop)(h0:Pv 0 σ H)(hl:∀i σ H,i<=xs.f->Pv i σ H->SqT K H a xs)
  (hs:∀i x σ H,xs[i]?=some x->Pv i σ H->g x σ H λσ2 H2=>tb {CM with nx:=Pv<|i+1,ct:=Pv<|i+1,bk:=CM.nx} σ2 H2)(hd:∀σ H,Pv xs.f σ H->CM.nx σ H):
  ∃W:Nat->Nat->St->Hp->Prop,(∃m,W 0 m σ H)/\∀i m σ H,W i m σ H->
   ((Ot K a).stop i H/\CM.nx σ H)\/((Ot K a).go i H/\∃N:St->Hp->Prop,(∀σ' H',N σ' H'->∃m',m'<m/\W (i+1) m' σ' H')/\∀x H',(Ot K a).yld i H x H'->g x σ H' λσ2 H2=>tb {CM with nx:=N,ct:=N,bk:=CM.nx} σ2 H2):=by
 exists λi m σ H=>m=xs.f-i/\i<=xs.f/\Pv i σ H,{xs.f,B,Yj _,h0},?_;rintro i m σ H ⟨rfl,hi,p⟩;let q:=hl i σ H hi p
 cases Xh:i<xs.f
 .show .inr {{xs,xs[i],q,by simp[Xh]},Pv<|i+1,λσ' H' p'=>{xs.f-(i+1),oW,Z,Xh,p'},λx H' y=>?_};let(e,y):=y;subst e;show hs i x σ _ (y xs q) p
 .let e:i=xs.f:=oW;subst e;show .inl {{xs,q,XJ _},hd σ H p}
def Zk9{lo:Int}{n:Nat}{g:TG}{tb:TS}{CM:Ends}{σ:St}{H:Hp}(Pv:Nat->St->Hp->Prop)(h0:Pv 0 σ H)
  (hs:∀i σ H,i<n->Pv i σ H->g (.int<|lo+i) σ H λσ2 H2=>tb {CM with nx:=Pv<|i+1,ct:=Pv<|i+1,bk:=CM.nx} σ2 H2)(hd:∀σ H,Pv n σ H->CM.nx σ H):
  ∃W:Nat->Nat->St->Hp->Prop,(∃m,W 0 m σ H)/\∀i m σ H,W i m σ H->
   ((Ho lo n).stop i H/\CM.nx σ H)\/((Ho lo n).go i H/\∃N:St->Hp->Prop,(∀σ' H',N σ' H'->∃m',m'<m/\W (i+1) m' σ' H')/\∀x H',(Ho lo n).yld i H x H'->g x σ H' λσ2 H2=>tb {CM with nx:=N,ct:=N,bk:=CM.nx} σ2 H2):=by
 exists λi m σ H=>m=n-i/\i<=n/\Pv i σ H,{n,B,Yj _,h0},?_;rintro i m σ H ⟨rfl,hi,p⟩;cases Xh:i<n
 .show .inr {Xh,Pv<|i+1,λσ' H' p'=>{n-(i+1),oW,Z,Xh,p'},λx H' y=>?_};let(e,y):=y;subst e y;show hs i σ _ Xh p
 .let e:i=n:=J;subst e;show .inl {XJ _,hd σ H p}
abbrev R2:=V->V->Hp->VK->Prop
def Wu(X:Cx)(f:Value->Value->Sem Value)(r:R2):(Prop):=
 ∀(pins:List (Addr×Obj))(s:Shared)(σ:St)(H:Hp)(x y:V)(v u:Value)(Q:VK),Inv X pins σ H s->RelV x v->RelV y u->r x y H Q->
  wpAny (model X.prog X.w) X.A (f v u) (EP X pins σ Q) X.xe s
def nV(X:Cx)(f:Value->Sem Value)(r:V->Hp->VK->Prop):(Prop):=
 ∀(pins:List (Addr×Obj))(s:Shared)(σ:St)(H:Hp)(x:V)(v:Value)(Q:VK),Inv X pins σ H s->RelV x v->r x H Q->
  wpAny (model X.prog X.w) X.A (f v) (EP X pins σ Q) X.xe s
def TK(X:Cx)(f:Value)(r:List V->Hp->VK->Prop):(Prop):=
 ∀(pins:List (Addr×Obj))(s:Shared)(σ:St)(H:Hp)(xs:List V)(us:Ag)(Q:VK),Inv X pins σ H s->Vals xs us->r xs H Q->
  wpAny (model X.prog X.w) X.A (call f us) (EP X pins σ Q) X.xe s
def Cw(r:R2)(ta tb:TE):(TE):=λσ H Q=>ta σ H λx H1=>tb σ H1 λy H2=>r x y H2 Q
def tUn(r:V->Hp->VK->Prop)(ta:TE):(TE):=λσ H Q=>ta σ H λx H1=>r x H1 Q
inductive rI(C:Int->Int->Prop)(g:Int->Int->V)(x:V)(y:V)(H:Hp)(Q:VK):Prop
 |mk (i j:_) (_:x=.int i) (_:y=.int j) (_:C i j) (_:Q (g i j) H)
inductive rI0(g:Int->Int->V)(x:V)(y:V)(H:Hp)(Q:VK):Prop
 |mk (i j:_) (_:x=.int i) (_:y=.int j) (_:Q (g i j) H)
inductive rU(g:Int->V)(x:V)(H:Hp)(Q:VK):Prop
 |mk (i:_) (_:x=.int i) (_:Q (g i) H)
section
variable{X:Cx}{a b:Expr}{ta tb:TE}{pos:Pos}
def Hm(ha:PE X a ta)(hb:PE X b tb){pins:List (Addr×Obj)}{s:Shared}{σ:St}{H:Hp}{R:V->V->Hp->Prop}(I:Inv X pins σ H s)
  (h:ta σ H λx H1=>tb σ H1 λy H2=>R x y H2){Q:Ae}{f:Value->Value->Sem Value}
  (hf:∀v u s2 x y H2,Inv X pins σ H2 s2->RelV x v->RelV y u->R x y H2->wpAny (model X.prog X.w) X.A (f v u) Q X.xe s2):
  wpAny (model X.prog X.w) X.A (eval a X.env) (λv s₁=>wpAny (model X.prog X.w) X.A (eval b X.env) (λu s₂=>wpAny (model X.prog X.w) X.A (f v u) Q X.xe s₂) X.xe s₁) X.xe s:=by show thn (ha pins s σ H _ I h) λv s1 Xs=>?_;let(x,H1,I1,r1,q1):=Xs;show thn (hb pins s1 σ H1 _ I1 q1) λu s2 Xs=>?_;let(y,H2,I2,r2,q2):=Xs;show hf v u s2 x y H2 I2 r1 r2 q2
def Zy(ho:Wu X (binaryOp op) r)(ha:PE X a ta)(hb:PE X b tb):PE X (.BinOp a op b pos) (Cw r ta tb):=by intro pins s σ H Q I h;show wpAny_BinOp (Hm ha hb I h λv u s2 x y H2 I2 rx ry q=>ho pins s2 σ H2 x y v u Q I2 rx ry q)
def Cv{op:UnaryOp}{r:V->Hp->VK->Prop}(ho:nV X (unaryOp op) r)(ha:PE X a ta):PE X (.UnaryOp op a pos) (tUn r ta):=by intro pins s σ H Q I h;show UnaryOp_ (thn (ha pins s σ H _ I h) λv s1 zz=>by let(x,H1,I1,r1,q1):=zz;show ho pins s1 σ H1 x v Q I1 r1 q1)
def Hl{f:Value->Value->Sem Value}{C:Int->Int->Prop}{g:Int->Int->Int}
  (rule:∀(i j:Int)(t u:Tok)(s:Shared)(Q:Ae)(E:Ae),C i j->Q (.int (g i j) s.toks) {s with toks:=s.toks+1}->wpAny (model X.prog X.w) X.A (f (.int i t)<|.int j u) Q E s):
  Wu X f (rI C λi j=>.int<|g i j):=by intro pins s σ H x y v u Q I rx ry h;let(i,j,rfl,rfl,hc,q):=h;let(t,rfl):=rx;let(t',rfl):=ry;show rule i j t t' s _ _ hc {.int<|g i j,H,I.tok _,{_,Z},q}
def Cu{f:Value->Value->Sem Value}{g:Int->Int->Int}
  (rule:∀(i j:Int)(t u:Tok)(s:Shared)(Q:Ae)(E:Ae),Q (.int (g i j) s.toks) {s with toks:=s.toks+1}->wpAny (model X.prog X.w) X.A (f (.int i t)<|.int j u) Q E s):
  Wu X f (rI0 λi j=>.int<|g i j):=by intro pins s σ H x y v u Q I rx ry h;let(i,j,rfl,rfl,q):=h;let(t,rfl):=rx;let(t',rfl):=ry;show rule i j t t' s _ _ {.int<|g i j,H,I.tok _,{_,Z},q}
def Lk{f:Value->Value->Sem Value}{g:Int->Int->Bool}
  (rule:∀(i j:Int)(t u:Tok)(s:Shared)(Q:Ae)(E:Ae),Q (.bool<|g i j) s->wpAny (model X.prog X.w) X.A (f (.int i t)<|.int j u) Q E s):
  Wu X f (rI0 λi j=>.bl<|g i j):=by intro pins s σ H x y v u Q I rx ry h;let(i,j,rfl,rfl,q):=h;let(t,rfl):=rx;let(t',rfl):=ry;show rule i j t t' s _ _ {.bl<|g i j,H,I,Z,q}
def nU(i j:Int):(Prop):=0<j/\j<1073741824
def nT(i j:Int):(Prop):=0<=j/\j<=1000000/\i.natAbs<2^64
def CMul(i j:Int):(Prop):=(-(2^64)<i/\i<2^64)\/(-(2^64)<j/\j<2^64)
def CMul.ok(h:CMul i j):IntMulOk i j:=by
 rcases h with ⟨h1,h2⟩|⟨h1,h2⟩
 .show .of_left (intBits_le_64 h1 h2)
 .show .of_right (intBits_le_64 h1 h2)
def Tf:Wu X (binaryOp .Add) (rI0 λi j=>.int (i+j)):=Cu λ_ _ _ _ _ _ _ q=>add_int q
def VC:Wu X (binaryOp .Sub) (rI0 λi j=>.int (i-j)):=Cu λ_ _ _ _ _ _ _ q=>sub_int q
def Oq:Wu X (binaryOp .Mult) (rI CMul λi j=>.int (i*j)):=Hl λ_ _ _ _ _ _ _ hc q=>mul_int q hc.ok
def Jq:Wu X (binaryOp .FloorDiv) (rI nU λi j=>.int (i/j)):=Hl λi j _ _ _ _ _ hc q=>by
 let h1:(0:Int)<j:=hc.1;let h2:j<1073741824:=hc.2
 show floordiv_int J (by rwa[Int.fdiv_eq_ediv_of_nonneg i J]) (.inl<|PyProof.noPylong_small oW)
def TJ:Wu X (binaryOp .Mod) (rI (λ_ j=>0<j) λi j=>.int (i%j)):=Hl λi j _ _ _ _ _ hc q=>by let h1:(0:Int)<j:=hc;show mod_int' oW (by rwa[Int.fmod_eq_emod_of_nonneg i J])
def Oo:Wu X (binaryOp .Pow) (rI nT λi j=>.int (i^j.j)):=Hl λ_ _ _ _ _ _ _ hc q=>pow_int_small hc.1 hc.2.1 hc.2.2 q
def unI{f:Value->Sem Value}{g:Int->Int}
  (rule:∀(i:Int)(t:Tok)(s:Shared)(Q:Ae)(E:Ae),Q (.int (g i) s.toks) {s with toks:=s.toks+1}->wpAny (model X.prog X.w) X.A (f<|.int i t) Q E s):
  nV X f (rU λi=>.int<|g i):=by intro pins s σ H x v Q I rx h;let(i,rfl,q):=h;let(t,rfl):=rx;show rule i t s _ _ {.int<|g i,H,I.tok _,{_,Z},q}
def Ct:nV X (unaryOp .USub) (rU λi=>.int (-i)):=unI λ_ _ _ _ _ q=>neg_int q
end
def Cs:(V->V->Bool)
 | .non,.non=>true | .non,.int _=>true | .int _,.non=>true | .non,.bl _=>true | .bl _,.non=>true | .non,.str _=>true | .str _,.non=>true
 | .int _,.int _=>true | .bl _,.bl _=>true | .str _,.str _=>true | .byt _,.byt _=>true
 | .int _,.str _=>true | .str _,.int _=>true | .bl _,.str _=>true | .str _,.bl _=>true
 |_,_=>false
inductive rEq(x:V)(y:V)(H:Hp)(Q:VK):Prop
 |mk  (_:Cs x y=true) (_:Q (.bl<|decide<|x=y) H)
inductive rNe(x:V)(y:V)(H:Hp)(Q:VK):Prop
 |mk  (_:Cs x y=true) (_:Q (.bl<|!decide (x=y)) H)
def Zw:decide (V.int i=V.int j)=(i == j):=by rw[OM];simp
def Cr:decide (V.bl i=V.bl j)=(i == j):=by rw[OM];simp
def Cq:decide (V.str i=V.str j)=(i == j):=by rw[OM];simp
def Cp:decide (V.byt i=V.byt j)=(i.l == j.l):=by rw[OM];cases i;cases j;simp
section
variable{X:Cx}{a b c:Expr}{ta tb tc:TE}{pos:Pos}
def ZX{k k':Bool}(I:Inv X pins σ H s)(q:Q (.bl k) H)(e:k=k'):EP X pins σ Q (.bool k') s:=by subst e;exists .bl k,H,I,Z,q
def RV:Wu X (compareOp .Eq) rEq:=by
 intro pins s σ H x y v u Q I rx ry h;let(hs,q):=h;cases x with
 |non=>
  cases rx;cases y with
  |non=>cases ry;show PySem.EqNone.eq_none_none (ZX I q B)
  |bl j=>cases ry;show PySem.EqNone.eq_none_bool (ZX I q B)
  |int j=>let(t',rfl):=ry;show PySem.EqNone.eq_none_int (ZX I q B)
  |str j=>let(t',rfl):=ry;show PySem.EqNone.eq_none_str (ZX I q B)
  |_=>show absurd (show false=true from hs) YH
 |bl i=>
  cases rx;cases y with
  |non=>cases ry;show PySem.EqNone.eq_bool_none (ZX I q B)
  |bl j=>cases ry;show eq_bool (ZX I q Cr)
  |str j=>let(t',rfl):=ry;show PySem.EqMixed.eq_bool_str (ZX I q B)
  |_=>show absurd (show false=true from hs) YH
 |int i=>
  let(t,rfl):=rx;cases y with
  |non=>cases ry;show PySem.EqNone.eq_int_none (ZX I q B)
  |int j=>let(t',rfl):=ry;show eq_int (ZX I q Zw)
  |str j=>let(t',rfl):=ry;show PySem.EqMixed.eq_int_str (ZX I q B)
  |_=>show absurd (show false=true from hs) YH
 |str i=>
  let(t,rfl):=rx;cases y with
  |non=>cases ry;show PySem.EqNone.eq_str_none (ZX I q B)
  |bl j=>cases ry;show PySem.EqMixed.eq_str_bool (ZX I q B)
  |int j=>let(t',rfl):=ry;show PySem.EqMixed.eq_str_int (ZX I q B)
  |str j=>let(t',rfl):=ry;show eq_str (ZX I q Cq)
  |_=>show absurd (show false=true from hs) YH
 |byt i=>
  let(t,rfl):=rx;cases y with
  |byt j=>let(t',rfl):=ry;show PySem.W.eq_bytes (ZX I q Cp)
  |_=>show absurd (show false=true from hs) YH
 |_=>cases y<;>show absurd (show false=true from hs) YH
def Rw:Wu X (compareOp .NotEq) rNe:=by
 intro pins s σ H x y v u Q I rx ry h;let(hs,q):=h;cases x with
 |non=>
  cases rx;cases y with
  |non=>cases ry;show PySem.EqNone.ne_none_none (ZX I q B)
  |bl j=>cases ry;show PySem.EqNone.ne_none_bool (ZX I q B)
  |int j=>let(t',rfl):=ry;show PySem.EqNone.ne_none_int (ZX I q B)
  |str j=>let(t',rfl):=ry;show PySem.EqNone.ne_none_str (ZX I q B)
  |_=>show absurd (show false=true from hs) YH
 |bl i=>
  cases rx;cases y with
  |non=>cases ry;show PySem.EqNone.ne_bool_none (ZX I q B)
  |bl j=>cases ry;show ne_bool (ZX I q<|YS not Cr)
  |str j=>let(t',rfl):=ry;show PySem.EqMixed.ne_bool_str (ZX I q B)
  |_=>show absurd (show false=true from hs) YH
 |int i=>
  let(t,rfl):=rx;cases y with
  |non=>cases ry;show PySem.EqNone.ne_int_none (ZX I q B)
  |int j=>let(t',rfl):=ry;show ne_int (ZX I q<|YS not Zw)
  |str j=>let(t',rfl):=ry;show PySem.EqMixed.ne_int_str (ZX I q B)
  |_=>show absurd (show false=true from hs) YH
 |str i=>
  let(t,rfl):=rx;cases y with
  |non=>cases ry;show PySem.EqNone.ne_str_none (ZX I q B)
  |bl j=>cases ry;show PySem.EqMixed.ne_str_bool (ZX I q B)
  |int j=>let(t',rfl):=ry;show PySem.EqMixed.ne_str_int (ZX I q B)
  |str j=>let(t',rfl):=ry;show ne_str (ZX I q<|YS not Cq)
  |_=>show absurd (show false=true from hs) YH
 |byt i=>
  let(t,rfl):=rx;cases y with
  |byt j=>let(t',rfl):=ry;show PySem.W.ne_bytes (ZX I q<|YS not Cp)
  |_=>show absurd (show false=true from hs) YH
 |_=>cases y<;>show absurd (show false=true from hs) YH
def Lj:Wu X (compareOp .Lt) (rI0 λi j=>.bl (decide (i<j))):=Lk λ_ _ _ _ _ _ _ q=>lt_int q
def So:Wu X (compareOp .LtE) (rI0 λi j=>.bl (decide (i<=j))):=Lk λ_ _ _ _ _ _ _ q=>le_int q
def TH:Wu X (compareOp .Gt) (rI0 λi j=>.bl (decide (j<i))):=Lk λ_ _ _ _ _ _ _ q=>gt_int q
def Co:Wu X (compareOp .GtE) (rI0 λi j=>.bl (decide (j<=i))):=Lk λ_ _ _ _ _ _ _ q=>ge_int q
def tS:Wu X (compareOp .Is) (λx y H Q=>y=.non/\Q (.bl (decide (x=.non))) H):=by
 intro pins s σ H x y v u Q I rx ry h;let(rfl,q):=h;cases ry;show is_none_gen (ZX I q ?_);cases x<;>first
  | (cases rx;rfl)
  | (let(t,rfl):=rx;rfl)
def Zs(b:Expr)(h:op≠.In:=by decide)(h2:op≠.NotIn:=by decide):behindInMarks op b=false:=by
 let e1:(op == CmpOp.In)=false:=by cases op<;>first|rfl|show absurd rfl h
 let e2:(op == CmpOp.NotIn)=false:=by cases op<;>first|rfl|show absurd rfl h2
 cases b<;>simp[behindInMarks,e1,e2]
def Jp(ho:Wu X (compareOp op) r)(ha:PE X a ta)(hb:PE X b tb)(hm:behindInMarks op b=false):PE X (.Compare a [op] [b] pos) (Cw r ta tb):=by intro pins s σ H Q I h;show wpAny_Compare1 (Hm ha hb I h λv u s2 x y H2 I2 rx ry q=>ho pins s2 σ H2 x y v u Q I2 rx ry q) hm
def Jo(t:TE):(TT):=λσ H Q=>t σ H λx H'=>isB x H' Q
def Zf{op:CmpOp}{r:R2}(ho:Wu X (compareOp op) r)(ha:PE X a ta)(hb:PE X b tb)(hm:behindInMarks op b=false):PT X (.Compare a [op] [b] pos) (Jo (Cw r ta tb)):=by
 intro pins s σ H Q I h;show wpAny_isTrue_Compare1 (thn (ha pins s σ H _ I h) λv s1 ⟨x,H1,I1,r1,q1⟩=>thn (hb pins s1 σ H1 _ I1 q1) λu s2 ⟨y,H2,I2,r2,q2⟩=>
  thn (ho pins s2 σ H2 x y v u _ I2 r1 r2 q2) λc s3 ⟨z,H3,I3,r3,k,e,q3⟩=>?_) hm
 subst e;cases r3;show Tj ⟨H3,I3,q3⟩
def Cn(r r':R2)(ta tb tc:TE):(TE):=λσ H Q=>ta σ H λx H1=>tb σ H1 λy H2=>r x y H2 λz H3=>∃k,z=.bl k/\
 (if k=true then tc σ H3 λw' H4=>r' y w' H4 Q else Q (.bl false) H3)
def Cm{op Hk:CmpOp}{r r':R2}(ho:Wu X (compareOp op) r)(UI:Wu X (compareOp Hk) r')(ha:PE X a ta)(hb:PE X b tb)(hc:PE X c tc)
  (hm:lastMarks [op,Hk] [b,c]=false:=by with_unfolding_all rfl):PE X (.Compare a [op,Hk] [b,c] pos) (Cn r r' ta tb tc):=by
 intro pins s σ H Q I h;show Compare_chain (thn (ha pins s σ H _ I h) λv s1 ⟨x,H1,I1,r1,q1⟩=>chain_link (thn (hb pins s1 σ H1 _ I1 q1) λu s2 ⟨y,H2,I2,r2,q2⟩=>
  thn (ho pins s2 σ H2 x y v u _ I2 r1 r2 q2) λd s3 ⟨z,H3,I3,r3,k,e,q3⟩=>?_)) hm
 subst e;cases r3;show Tj ?_;cases k with
 |false=>show ite_ff {.bl false,H3,I3,Z,q3}
 |true=>show ite_tt (chain_last<|thn (hc pins s3 σ H3 _ I3 q3) λw' s4 zz=>by let(z',H4,I4,r4,q4):=zz;show UI pins s4 σ H4 y z' u w' Q I4 r2 r4 q4)
def Ck{op Hk:CmpOp}{r r':R2}(ho:Wu X (compareOp op) r)(UI:Wu X (compareOp Hk) r')(ha:PE X a ta)(hb:PE X b tb)(hc:PE X c tc)
  (hm:lastMarks [op,Hk] [b,c]=false:=by with_unfolding_all rfl):PT X (.Compare a [op,Hk] [b,c] pos) (Jo<|Cn r r' ta tb tc):=by
 intro pins s σ H Q I h;show isTrue_chain (thn (ha pins s σ H _ I h) λv s1 ⟨x,H1,I1,r1,q1⟩=>test_link (thn (hb pins s1 σ H1 _ I1 q1) λu s2 ⟨y,H2,I2,r2,q2⟩=>
  thn (ho pins s2 σ H2 x y v u _ I2 r1 r2 q2) λd s3 ⟨z,H3,I3,r3,k,e,q3⟩=>?_)) hm
 subst e;cases r3;show Tj ?_;cases k with
 |false=>
  let(k',e',q'):=q3;cases e';show ite_ff ⟨H3,I3,q'⟩
 |true=>
  show ite_tt (test_last<|thn (hc pins s3 σ H3 _ I3 q3) λw' s4 zz=>?_);let(z',H4,I4,r4,q4):=zz;show thn (UI pins s4 σ H4 y z' u w' _ I4 r2 r4 q4) λd' s5 Xs=>?_;let(z2,H5,I5,r5,k2,e2,q5):=Xs;subst e2;cases r5;show Tj ⟨H5,I5,q5⟩
def Cj:(sizeLine:Nat)<2^63:=by rw[TM];decide
def VZ{us:Ag}(r:Vals [x] us):∃u,us=[u]/\RelV x u:=by
 cases r with
 |cons r1 r2=>cases r2;exists _,Z,r1
def Hj{us:Ag}(r:Vals [x,y] us):∃u w',us=[u,w']/\RelV x u/\RelV y w':=by
 cases r with
 |cons r1 r2=>
  cases r2 with
  |cons r3 r4=>cases r4;exists _,_,Z,r1,r3
def ZW5(hc:X.calm=true):TK X (.builtin "max") (λxs H Q=>∃i j,xs=[.int i,.int j]/\Q (.int (if j>i then j else i)) H):=by
 intro pins s σ H xs us Q I r h;let(i,j,rfl,q):=h;let(u,w',rfl,(t,rfl),(t',rfl)):=Hj r;show max_two_ints (I.ok.hd hc) λh' tk k=>{_,H,I.kept k,?_,q};cases hj:j>i
 .rw[if_pos hj,if_pos hj];exists _,Z
 .rw[if_neg hj,if_neg hj];exists _,Z
def nS(hc:X.calm=true):TK X (.builtin "min") (λxs H Q=>∃i j,xs=[.int i,.int j]/\Q (.int (if j<i then j else i)) H):=by
 intro pins s σ H xs us Q I r h;let(i,j,rfl,q):=h;let(u,w',rfl,(t,rfl),(t',rfl)):=Hj r;show min_two_ints (I.ok.hd hc) λh' tk k=>{_,H,I.kept k,?_,q};cases hj:j<i
 .rw[if_pos hj,if_pos hj];exists _,Z
 .rw[if_neg hj,if_neg hj];exists _,Z
def ZY5:TK X (.type "int") (λxs H Q=>(∃i,xs=[.int i]/\Q (.int i) H)\/∃k,xs=[.bl k]/\Q (.int (if k then 1 else 0)) H):=by
 intro pins s σ H xs us Q I r h;rcases h with ⟨i,rfl,q⟩|⟨k,rfl,q⟩
 .let⟨u,rfl,t,rfl⟩:=VZ r;show call_int_int {.int i,H,I,{_,Z},q}
 .let⟨u,rfl,r1⟩:=VZ r;cases r1;show call_int_bool {.int<|if k then 1 else 0,H,I.tok _,{_,Z},q}
end
structure ObjM(h:Heap)(x dx C:Addr)(mA:Af):Prop where
 obj:h.H x=some (PySem.W.instObj C dx)
 ns:h.Ns1 dx mA
 ne:dx≠x
def ZX8{h:Heap}{mA:Af}(n:h.Ns1 dx mA):∃od,h.H dx=some od/\∀name,PySem.W.lookIn name od=some (mA name):=by
 let(o,es,ep,ho,hd,hk,_,hm):=n;exists o,ho,λname=>?_;let e:=hm name
 unfold nsFind findBy at e;rw[<-Array.find?_toList]at e;unfold PySem.W.lookIn;rw[hd];dsimp only;split
 .rename_i y q;rw[q]at e;show YS some e
 .rename_i q;rw[q]at e;let a:es.l.any (·.refKey)=false:=by rw[List.any_eq_false];intro y hy;let(z,t,nR):=hk y (Array.mem_toList_iff.L hy);simp[DictEntry.refKey,nR]
  let a':¬es.l.any (·.refKey)=true:=by rw[a];show YH
  rw[if_neg a'];show YS some e
def ObjM.look{mA:Af}(I:ObjM h x dx C mA):∃od,PySem.W.InstAt h x (PySem.W.instObj C dx) C (some od)/\∀name,PySem.W.lookIn name od=some (mA name):=
 let ⟨od,ho,hl⟩:=ZX8 I.ns
 {od,⟨I.obj,Z,Z,ho⟩,hl}
section
variable{prog:Program}{w:World}{A:Around}{E:Ae}{s:Shared}{K:Ad}{x dx C f:Addr}{mA:Af}{name:Str}{v:Value}
def nQ{Q:Ae}(X:K.In s.G)(I:ObjM s.G x dx C mA)(hg:PySem.W.plainGet K C name=true)(hh:PySem.W.hasDictIn K C=true)
  (ha:PySem.W.findIn K ↑C name=some none)(hv:mA name=some v)(tR:PySem.W.handedIn v=true)(h:Q v {s with toks:=s.toks+1}):
  wpAny (model prog w) A (getAttr ↑x name expr) Q E s:=by let(od,AP,hl):=I.look;show PySem.W.get_value X AP (PySem.W.plainGet_of hg).1 (PySem.W.findObj_own hh ha Z<|by rw[hl,hv]) tR h
def nP{Q:Unit->Shared->Prop}(X:K.In s.G)(I:ObjM s.G x dx C mA)
  (hs:PySem.W.findIn K ↑C "__setattr__"=some (some<|.builtin "object.__setattr__"))(hp:PySem.W.plainOver K C=true)(ht:PySem.W.takerIn K C name=some none)(hh:PySem.W.hasDictIn K C=true)
  (hw:PySem.Within mA ns)(hsz:ns.f<=sizeLine)
  (h:∀h',ObjM h' x dx C (λy=>if y=name then some v else mA y)->Heap.SameBut dx s.G h'->Q () {s with heap:=h',toks:=s.toks+2}):
  wpAny (model prog w) A (setAttr ↑x name v) Q E s:=by
 let(od,AP,hl):=I.look;show PySem.W.set_plain X AP hs (PySem.W.osa_open (s:={s with toks:=s.toks+1}) (r:=none) X AP hp ht λb=>?_);let(cd,hc,Mq):=PySem.W.any_some hh;let hx:s.G.H x=some ⟨.ref C,some dx,.plain,#[]⟩:=I.obj
 show XU (Yn<|XU<|XU<|wpAny_loadPart hx<|XU<|PySem.W.Looks.here (s:={s with toks:=s.toks+1}) (PySem.W.looks_clsIn X hc) ?_);rw[Mq];show Yn (a:=some dx) (XU<|Yn<|XU ?_);show wpAny_nsSet1 (s:={s with toks:=s.toks+1}) I.ns λh' Om Sn=>?_;let(oD,esD,epD,tQ,hdD,hcD):=Om.count (PySem.Within.cons name v hw);show XU (wpAny_lookBehind tQ (by rw[hdD];show pastItsLine_dict<|Yl hcD<|by rw[YG];lia) ?_);show Yn (h _ {(Sn.2 _<|WX I.ne).m I.obj,Om,I.ne} Sn)
def nO{R:Result->Shared->Prop}{vs:Ag}{kw:List (Str×Value)}(X:K.In s.G)(hm:PySem.W.makesIn K C=true)
  (hi:PySem.W.findIn K ↑C "__init__"=some (some<|.ref f))(hf:PySem.W.typeIn K ↑f=some (.type "function"))
  (h:codeAny (model prog w) (A.under<|.builtin "type.__call__" {.ref C::vs,kw}) (.call ↑f {.ref ((~~~s)+1)::vs,kw}) (PySem.W.InitBack ((~~~s)+1) R)
   {s with heap:=(s.G.push PySem.W.emptyDict).push (PySem.W.instObj C (~~~s))}):
  codeAny (model prog w) A (.call ↑C ⟨vs,kw⟩) R s:=by let(hh,g,d,t,os):=s;show PySem.W.make_core (PySem.W.makes_of X hm) (PySem.W.looks_findIn X hi) (λself=>PySem.W.bind_fn X self hf) (.inl Z) h
end
def XN(f:Str)(v:V):(List (Str×V)->List (Str×V))
 |[]=>[(f,v)]
 | (g,x)::r=>if g=f then (g,v)::r else (g,x)::XN f v r
def Ci(f g:Str)(v:V):∀fs:List (Str×V),(XN f v fs).Y g=if g=f then some v else fs.Y g
 |[]=>by
  change List.Y g [(f,v)]=_;cases h:g=f
  .let hb:(g == f)=true:=Qh.U h;simp only[List.lookup,hb,if_pos h]
  .let hb:(g == f)=false:=Dn.U h;simp only[List.lookup,hb,if_neg h]
 | (k,x)::r=>by
  let ih:=Ci f g v r;rw[show XN f v ((k,x)::r)=(if k=f then (k,v)::r else (k,x)::XN f v r) from Z];cases hk:k=f
  .rw[if_pos hk];cases h:g=k
   .let hb:(g == k)=true:=Qh.U h;simp only[List.lookup,hb,if_pos (h.trans hk)]
   .let hb:(g == k)=false:=Dn.U h;simp only[List.lookup,hb,if_neg λe:g=f=>h (e.trans hk.symm)]
  .rw[if_neg hk];cases h:g=k
   .let hb:(g == k)=true:=Qh.U h;simp only[List.lookup,hb,if_neg λe:g=f=>hk (h.symm.trans e)]
   .let hb:(g == k)=false:=Dn.U h;simp only[List.lookup,hb];show ih
def nN(f:Str)(v:V):∀fs:List (Str×V),f∈(XN f v fs).R (·.1)/\∀g,g∈fs.R (·.1)->g∈(XN f v fs).R (·.1)
 |[]=>{by simp[XN],λg h=>by simp at h}
 | (k,x)::r=>by
  let(i1,i2):=nN f v r;rw[show XN f v ((k,x)::r)=(if k=f then (k,v)::r else (k,x)::XN f v r) from Z];cases hk:k=f
  .rw[if_pos hk];subst hk;exists B,λg h=>by simpa using h
  .rw[if_neg hk];exists ?_,λg h=>?_
   .rw[Ur];show Yh _ i1
   .rw[Ur]at h ⊢;rcases Yi.L h with e|e
    .show Yi.U (.inl e)
    .show Yh _ (i2 g e)
def Zf3(f:Str)(v:V):∀fs:List (Str×V),(XN f v fs).f<=fs.f+1
 |[]=>by simp[XN]
 | (k,x)::r=>by
  let ih:=Zf3 f v r;rw[show XN f v ((k,x)::r)=(if k=f then (k,v)::r else (k,x)::XN f v r) from Z];cases hk:k=f
  .rw[if_pos hk,YG,YG];lia
  .rw[if_neg hk,YG,YG];lia
def RelO.some_of{v:V}(r:RelO (some v) o):∃u,o=some u/\RelV v u:=by
 cases o with
 |none=>show(show False from r).elim
 |some u=>exists u,Z,r
def Ze9(r:RelV v u):PySem.W.handedIn u=true:=by
 cases v with
 |non=>cases (show u=Value.none from r);rfl
 |bl b=>cases (show u=Value.bool b from r);rfl
 |int i=>let(t,e):=(show ∃t,u=Value.int i t from r);cases e;rfl
 |str x=>let(t,e):=(show ∃t,u=Value.str x t from r);cases e;rfl
 |byt b=>let(t,e):=(show ∃t,u=Value.bytes b t from r);cases e;rfl
 |flt b=>let(t,e):=(show ∃t,u=Value.float b t from r);cases e;rfl
 |ref a=>cases (show u=Value.ref a from r);rfl
 |ty n=>cases (show u=Value.type n from r);rfl
section
variable{P:Program}{w:World}{H:Hp}{h:Heap}{a C dx:Addr}{fs:List (Str×V)}
def nM(hok:HOk P w H h)(e:H a=some (.ins C dx fs)):∃mA,ObjM h a dx C mA/\(∀f,RelO (fs.Y f) (mA f))/\PySem.Within mA (fs.R (·.1))/\fs.f<=1000/\H dx=some (.own a):=by let(d,z,ne,ob,mA,n,r,q):=(show ObjOk P w H h a (.ins C dx fs) from hok a _ e);exists mA,⟨ob,n,ne⟩,r,q,z,d
end
structure Cls(K:Ad)(C:Addr):Prop where
 pg:PySem.W.plainGet K C Str.empty=true
 hd:PySem.W.hasDictIn K C=true
 po:PySem.W.plainOver K C=true
 sa:PySem.W.findIn K ↑C "__setattr__"=some (some<|.builtin "object.__setattr__")
def Cls.get{K:Ad}{C:Addr}(c:Cls K C)(f:Str):PySem.W.plainGet K C f=true:=c.pg
def NoAttr(K:Ad)(C:Addr)(f:Str):(Prop):=PySem.W.findIn K ↑C f=some none
def NoAttr.taker{K:Ad}{C:Addr}{f:Str}(n:NoAttr K C f):PySem.W.takerIn K C f=some none:=by unfold PySem.W.takerIn;rw[show PySem.W.findIn K ↑C f=some none from n];rfl
section
variable{X:Cx}{pins:List (Addr×Obj)}{σ:St}{H:Hp}{s:Shared}{a C dx:Addr}{fs:List (Str×V)}{f:Str}{v:V}{A:Around}{E:Ae}
def ZK7{Q:Ae}(I:Inv X pins σ H s)(e:H a=some (.ins C dx fs))(c:Cls X.K C)(n:NoAttr X.K C f)(l:fs.Y f=some v)
  (h:∀u s',Inv X pins σ H s'->RelV v u->Q u s'):wpAny (model X.prog X.w) A (getAttr ↑a f b) Q E s:=by let(mA,O,r,_,_,_):=nM I.hok e;let(u,hu,ru):=RelO.some_of (v:=v) (o:=mA f) (by rw[<-l];show r f);show nQ I.kIn O (c.get f) c.hd n hu (Ze9 ru) (h u _ (I.tok _) ru)
def nL{Q:Unit->Shared->Prop}(I:Inv X pins σ H s)(e:H a=some (.ins C dx fs))(c:Cls X.K C)(n:NoAttr X.K C f)(hl:fs.f<1000)(ry:RelV y u)
  (h:∀s',Inv X pins σ (upd H a<|.ins C dx<|XN f y fs) s'->Q () s'):wpAny (model X.prog X.w) A (setAttr ↑a f u) Q E s:=by
 let(mA,O,r,wi,_,ho):=nM I.hok e;let hz:(fs.R (·.1)).f<=sizeLine:=by rw[Yc,TM];lia
 show nP I.kIn O c.sa c.po n.taker c.hd wi hz λh' O' sb=>h _ ?_;let hd:∃o,h'.H dx=some o:=by let(o,_,_,e',_):=O'.ns;exists o,e'
 show I.write (x:=a) (e:=dx) (by rw[e];show True.intro) (.inr ho) (λb q hb z=>(sb.2 b hb).m z) hd ?_;exists by rw[Zb O.ne];show ho,?_,O.ne,O'.obj,_,O'.ns,λg=>?_,λg hg=>?_
 .have:=Zf3 f y fs;lia
 .change RelO ((XN f y fs).Y g) (if g=f then some u else mA g);rw[Ci];cases q:g=f
  .rw[if_pos q,if_pos q];show ry
  .rw[if_neg q,if_neg q];show r g
 .cases q:g=f
  .rw[q];show(nN f y fs).1
  .show(nN f y fs).2 g (wi g λz=>hg ?_);change(if g=f then some u else mA g)=none
   rwa[if_neg q]
def Inv.made(I:Inv X pins σ H s):Inv X pins σ (upd (upd H (~~~s) (.own ((~~~s)+1))) ((~~~s)+1) (.ins C (~~~s) []))
  {s with heap:=(s.G.push PySem.W.emptyDict).push (PySem.W.instObj C (~~~s))}:=by
 let e1:(s.G.push PySem.W.emptyDict).H (~~~s)=some PySem.W.emptyDict:=Yr s.G rfl;let e2:((s.G.push PySem.W.emptyDict).push (PySem.W.instObj C (~~~s))).H ((~~~s)+1)=some (PySem.W.instObj C (~~~s)):=by
  have:=Yr (s.G.push PySem.W.emptyDict) (o:=PySem.W.instObj C (~~~s)) rfl
  rwa[LC]at this
 let e3:(s.G.push PySem.W.emptyDict).Ns (~~~s) (λ_=>none):={PySem.W.emptyDict,#[],_,e1,Z,λe he=>absurd he B,λ_=>rfl};let I1:=I.laid (a:=(~~~s)) (o:=.own<|(~~~s)+1) (h':=s.G.push PySem.W.emptyDict) (t':=s.toks) (λb u q=>WY _ q) (XJ _) {_,e1}
 show I1.laid (a:=(~~~s)+1) (o:=.ins C (~~~s) []) (t':=s.toks) (λb u q=>WY _ q) (um<|LC _ _) ?_;let ne:(~~~s)≠(~~~s)+1:=YF (Mu _)
 exists by rw[Zb ne,XT],Yj _,ne,e2,λ_=>none,(Heap.Ns1.of_empty e3).at λo q=>WY _ q,λ_=>True.intro,λy hy=>absurd Z hy
def Cg{pos:Pos}{Q:Ae}(hb:attributeBase e f env (eval e env)=eval e env)
  (h:wpAny (model prog w) A (eval e env) (λo s₁=>wpAny (model prog w) A (getAttr o f true) Q E s₁) E s):wpAny (model prog w) A (eval (.Attribute e f pos) env) Q E s:=
 Attribute_any_ h (by rw[arm_eval_Attribute,hb])
end
inductive xFld(K:Ad)(f:Str)(x:V)(H1:Hp)(Q:VK):Prop
 |mk (a C dx fs v:_) (_:x=.ref a) (_:H1 a=some (.ins C dx fs)) (_:Cls K C) (_:NoAttr K C f) (_:fs.Y f=some v) (_:Q v H1)
def Cf(K:Ad)(ta:TE)(f:Str):(TE):=λσ H Q=>ta σ H λx H1=>xFld K f x H1 Q
def nK(K:Ad)(ta tv:TE)(f:Str):(TS):=λCM σ H=>tv σ H λy H1=>ta σ H1 λx H2=>∃a C dx fs,x=.ref a/\H2 a=some (.ins C dx fs)/\Cls K C/\NoAttr K C f/\fs.f<1000/\
 CM.nx σ (upd H2 a<|.ins C dx<|XN f y fs)
section
variable{X:Cx}{o e value:Expr}{f:Str}{pos pos':Pos}{ta tv:TE}
def nJ(he:PE X e ta)(hb:attributeBase e f X.env (eval e X.env)=eval e X.env):PE X (.Attribute e f pos) (Cf X.K ta f):=by intro pins s σ H Q I h;show Cg hb (thn (he pins s σ H _ I h) λu s1 Xs=>?_);let(x,H1,I1,rx,a,C,dx,fs,v,ex,ea,c,n,l,q):=Xs;subst ex;let rfl:u=Value.ref a:=rx;show ZK7 I1 ea c n l λu' s2 I2 ru=>⟨v,H1,I2,ru,q⟩
def Li(ha:PE X o ta)(hv:PE X value tv)(hs:swapsWith value (some (.Attribute o f pos')) pos.line X.env=pure false):PS X (.Assign [.Attribute o f pos'] value pos) (nK X.K ta tv f):=by intro pins s σ H CM I h;show plainObj_wpAny_Assign_Attribute (thn (hv pins s σ H _ I h) λu s1 zz=>?_) hs;let(y,H1,I1,ry,q):=zz;show thn (ha pins s1 σ H1 _ I1 q) λov s2 Xs=>?_;let(x,H2,I2,rx,a,C,dx,fs,ex,ea,c,n,l,q2):=Xs;subst ex;let rfl:ov=Value.ref a:=rx;show nL I2 ea c n l ry λs3 I3=>{σ,_,I3,q2}
end
section
variable{X:Cx}{pins:List (Addr×Obj)}{σ:St}{H:Hp}{s:Shared}{A:Around}{E:Ae}{Q:Ae}{c:Value}{b:Bool}
inductive TyOf(K:Ad)(H:Hp):V->Value->Prop where
 |non:TyOf K H .non (.type "NoneType")
 |bl (x:Bool):TyOf K H (.bl x) (.type "bool")
 |int (i:Int):TyOf K H (.int i) (.type "int")
 |str (x:Str):TyOf K H (.str x) (.type "str")
 |flt (x:UInt64):TyOf K H (.flt x) (.type "float")
 |lst {a:Addr} {xs:List V} (e:H a=some (.lst xs)):TyOf K H ↑a (.type "list")
 |frz {a:Addr} {o:Obj} {xs:List V} (e:H a=some (.frz o<|.lst xs)):TyOf K H ↑a (.type "list")
 |tup {a:Addr} {xs:List V} (e:H a=some (.tup xs)):TyOf K H ↑a (.type "tuple")
 |dK {a:Addr} {kvs:List (Key×V)} (e:H a=some (.dK kvs)):TyOf K H ↑a (.type "dict")
 |dT {a:Addr} {kvs:List (List Key×V)} (e:H a=some (.dT kvs)):TyOf K H ↑a (.type "dict")
 |ins {a C dx:Addr} {fs:List (Str×V)} (e:H a=some (.ins C dx fs)) (cl:Cls K C) (ha:PySem.W.findIn K ↑C "__class__"=some (some<|.builtin "object.__class__"))
   (hn:PySem.W.specialIn K (.builtin "object.__class__") "__get__"=some (some<|.builtin "getset_descriptor.__get__"))(htk:PySem.W.takesIn K (.builtin "object.__class__")=some true)
   (hm:PySem.W.mroIn K C (.type "object")=some true):TyOf K H ↑a ↑C
def nI(I:Inv X pins σ H s)(rx:RelV x u)(ty:TyOf X.K H x t)(e:PySem.W.kitOne X.K t c=some b)(h:∀tk,Q (.bool b) {s with toks:=tk}):
  wpAny (model X.prog X.w) A (call (.builtin "isinstance") [u,c]) Q E s:=by
 cases ty with
 |non=>cases (show u=Value.none from rx);show OO PySem.W.kitx_none I.kIn True.intro e (λz=>nomatch z) h
 |bl y=>cases (show u=Value.bool y from rx);show OO PySem.W.kitx_bool I.kIn True.intro e (λz=>nomatch z) h
 |int i=>let(t,q):=(show ∃t,u=Value.int i t from rx);cases q;show OO PySem.W.kitx_int I.kIn True.intro e (λz=>nomatch z) h
 |str y=>let(t,q):=(show ∃t,u=Value.str y t from rx);cases q;show OO PySem.W.kitx_str I.kIn True.intro e (λz=>nomatch z) h
 |flt y=>let(t,q):=(show ∃t,u=Value.float y t from rx);cases q;show OO PySem.W.kitx_float I.kIn True.intro e (λz=>nomatch z) h
 |@lst a xs ea=>
  cases (show u=Value.ref a from rx);let(_,_,n,_,h1):=(show ObjOk X.prog X.w H s.G a (.lst xs) from I.hok a _ ea);show OO PySem.W.kitx_list I.kIn {_,h1,Z} e (λz=>nomatch z) h
 |@frz a ob xs ea=>
  cases (show u=Value.ref a from rx);let(_,_,_,n,_,h1):=(show ObjOk X.prog X.w H s.G a (.frz ob<|.lst xs) from I.hok a _ ea);show OO PySem.W.kitx_list I.kIn {_,h1,Z} e (λz=>nomatch z) h
 |@tup a xs ea=>
  cases (show u=Value.ref a from rx);let(_,_,_,p):=(show ObjOk X.prog X.w H s.G a (.tup xs) from I.hok a _ ea);let(o,h1,h2,_):=p;show OO PySem.W.kitx_tuple I.kIn ⟨o,h1,h2⟩ e (λz=>nomatch z) h
 |@dK a kvs ea=>
  cases (show u=Value.ref a from rx);let(_,_,vs,_,p):=(show ObjOk X.prog X.w H s.G a (.dK kvs) from I.hok a _ ea);let(o,es,ep,h1,h2,_):=p;show OO PySem.W.kitx_dict I.kIn ⟨o,h1,h2.1⟩ e (λz=>nomatch z) h
 |@dT a kvs ea=>
  cases (show u=Value.ref a from rx);let(_,_,xs,_,o,es,ep,h1,h2,_):=(show ObjOk X.prog X.w H s.G a (.dT kvs) from I.hok a _ ea);show OO PySem.W.kitx_dict I.kIn ⟨o,h1,h2.1⟩ e (λz=>nomatch z) h
 |@ins a C dx fs ea cl ha hn htk hm=>
  cases (show u=Value.ref a from rx);let(mA,O,_):=nM I.hok ea;let(od,AP,_):=O.look;show OO (PySem.W.kitx_own (cl.get _) cl.hd ha hn htk hm) I.kIn AP e (λz=>nomatch z) h
end
structure Room(k:Nat)(A:Around):Prop where
 hd:A.handled=none
 dp:A.depth+3*k+5<recursionLimit
 un:A.units+16*k+200<cLine
def Room.mono(r:Room k A)(h:j<=k):Room j A:={r.hd,by have:=r.dp;lia,by have:=r.un;lia}
def Room.deeper(r:Room (k+1) A)(env:Env):Room k (A.deeper env):=
 {r.hd,by have:=r.dp;change A.depth+1+3*k+5<_;lia,by have:=r.un;change A.units+3+16*k+200<_;lia}
def Room.in1(r:Room (k+1) A):Room k A.in1:=
 {r.hd,by have:=r.dp;change A.depth+3*k+5<_;lia,by have:=r.un;change A.units+1+16*k+200<_;lia}
def Zp7{A:Around}{C:Addr}{us:Ag}{kw:List (Str×Value)}:(A.under (.builtin "type.__call__" {.ref C::us,kw})).depth=A.depth+1:=by
 first|rfl|simp[Around.under,Code.weight,Code.isCreation,Code.isGuard,Code.isCaller,Code.frames,Code.isFrame,guardIds]
def Zo7{A:Around}{C:Addr}{us:Ag}{kw:List (Str×Value)}:(A.under (.builtin "type.__call__" {.ref C::us,kw})).units=A.units+1:=by
 first|rfl|simp[Around.under,Code.cUnits,Code.frames,Code.isFrame]
def Room.make(r:Room (k+1) A)(C:Addr)(us:Ag)(kw:List (Str×Value)):Room k (A.under (.builtin "type.__call__" {.ref C::us,kw})):=
 {r.hd,by have:=r.dp;rw[Zp7];lia,by have:=r.un;rw[Zo7];lia}
def Room.depth(r:Room k A):A.depth<recursionLimit:=by have:=r.dp;lia
def Room.units(r:Room k A):A.units+64<cLine:=by have:=r.un;lia
def Qd:(TA):=λ_ H Q=>Q [] H
def Jn(ta:TE)(tr:TA):(TA):=λσ H Q=>ta σ H λx H1=>tr σ H1 λxs H2=>Q (x::xs) H2
section
variable{X:Cx}{e:Expr}{es:List Expr}{te:TE}{t:TA}{pos:Pos}
def XX:PA X [] Qd:=λ_ _ _ _ H Q I h=>Hv {[],H,I,.nil,h}
def XY(ha:PE X e te)(hr:PA X es t)(hs:starEach (e::es) X.env=(false,eval e X.env)::starEach es X.env:=by rfl):PA X (e::es) (Jn te t):=by
 intro pos pins s σ H Q I h;rw[hs];change wpAny _ _ (spliced<|(false,eval e X.env)::backTo pos (starEach es X.env)) _ _ s
 show pF (thn (ha pins s σ H _ I h) λu s1 Xs=>?_);let(x,H1,I1,r1,q1):=Xs;show thn (hr pos pins s1 σ H1 _ I1 q1) λus s2 zz=>by let(xs,H2,I2,r2,q2):=zz;exists x::xs,H2,I2,.cons r1 r2,q2
inductive xTup(xs:List V)(H1:Hp)(Q:VK):Prop
 |mk (_:xs.f<=sizeLine) (_:∀p,H1 p=none->Q ↑p (upd H1 p<|.tup xs))
def nH(t:TA):(TE):=λσ H Q=>t σ H λxs H1=>xTup xs H1 Q
inductive xLst(xs:List V)(H1:Hp)(Q:VK):Prop
 |mk (_:xs.f<=sizeLine) (_:∀p,H1 p=none->Q ↑p (upd H1 p<|.lst xs))
def Hi(t:TA):(TE):=λσ H Q=>t σ H λxs H1=>xLst xs H1 Q
def Ug{x1}(h:PA X es t):PE X (.Tuple es x1 pos) (nH t):=by
 intro pins s σ H Q I hq;show wpAny_Tuple_spliced (thn (h pos pins s σ H _ I hq) λus s1 ⟨xs,H1,I1,r,z,q⟩=>{by rw[<-r.f];show z,?_});let hf:H1 (~~~s1)=none:=I1.hok.fresh (XJ _)
 exists .ref (~~~s1),upd H1 (~~~s1)<|.tup xs,I1.laid (t':=s1.toks) (λb u e=>WY _ e) (XJ _) ?_,Z,q _ hf;exists z,us,r,{_,Yr _ Z,Z,_,Z}
def UR(h:PA X es t):PE X (.List es pos) (Hi t):=by
 intro pins s σ H Q I hq;show wpAny_List_spliced (thn (h pos pins s σ H _ I hq) λus s1 ⟨xs,H1,I1,r,z,q⟩=>{by rw[<-r.f];show z,?_});let hf:H1 (~~~s1)=none:=I1.hok.fresh (XJ _)
 exists .ref (~~~s1),upd H1 (~~~s1)<|.lst xs,I1.laid (t':=s1.toks) (λb u e=>WY _ e) (XJ _) ?_,Z,q _ hf;exists z,us,0,r,Yr _ Z
end
abbrev Sp:=List V->Hp->VK->XK->Prop
abbrev Pg:=List Env->Hp->Shared->XK->Ae
structure Env0(P:Program)(w:World)(K:Ad)(mg:Af)(base:Heap)(A:Around)(outer:List Env)(s:Shared)(H:Hp):Prop where
 frames:A.frames=some outer
 mod:Mod K mg base
 bs:∀b o,base.H b=some o->s.G.H b=some o/\H b=none
 bsz:base.objs.t<=(~~~s)
 funs:s.G.FunFrames base outer
 frf:∀b∈Ti outer,H b=none
 hok:HOk P w H s.G
 bare:AllBare s.gens
def CE(outer:List Env)(P:Program)(w:World)(H:Hp)(s:Shared)(Q:VK)(u:Value)(s':Shared):(Prop):=
 ∃v H',s'.os=s.os/\AllBare s'.gens/\Un (Ti outer) [] H H' s.G s'.G/\HOk P w H' s'.G/\RelV v u/\Q v H'
def CR(CX:Pg)(outer:List Env)(P:Program)(w:World)(H:Hp)(s:Shared)(Q:VK)(E:XK)(r:Result)(s':Shared):(Prop):=
 match r with
 | .ok (.ret u)=>CE outer P w H s Q u s'
 | .ok _=>False
 | .error e=>CX outer H s E e s'
structure FnOk(P:Program)(w:World)(K:Ad)(mg:Af)(base:Heap)(CX:Pg)(k:Nat)(f:Addr)(fd:FuncData)(ps:List Str)(sp:Sp):Prop where
 len:∀vs H Q E,sp vs H Q E->vs.f=ps.f
 run:∀(A:Around)(outer:List Env)(s:Shared)(H:Hp)(args:Args)(us:Ag)(vs:List V)(Q:VK)(E:XK),Room k A->Env0 P w K mg base A outer s H->BindsTo s fd args (ps.zip us)->Vals vs us->sp vs H Q E->
  codeAny (model P w) A (.call ↑f args) (CR CX outer P w H s Q E) s
def Env0.make{P:Program}{w:World}{K:Ad}{mg:Af}{base:Heap}{A:Around}{outer:List Env}{s:Shared}{H:Hp}(e:Env0 P w K mg base A outer s H)(C:Addr)(us:Ag)(kw:List (Str×Value)):
  Env0 P w K mg base (A.under<|.builtin "type.__call__" {.ref C::us,kw}) outer s H:={by first|show e.frames|(simpa[Around.under,Code.envs,Code.isFrame,pushEnvs] using e.frames),e.mod,e.bs,e.bsz,e.funs,e.frf,e.hok,e.bare}
def Env0.in1{P:Program}{w:World}{K:Ad}{mg:Af}{base:Heap}{A:Around}{outer:List Env}{s:Shared}{H:Hp}(e:Env0 P w K mg base A outer s H):
  Env0 P w K mg base A.in1 outer s H:=⟨e.frames,e.mod,e.bs,e.bsz,e.funs,e.frf,e.hok,e.bare⟩
section
variable{X:Cx}{pins:List (Addr×Obj)}{σ:St}{H:Hp}{s s':Shared}
def Inv.env0(I:Inv X pins σ H s):Env0 X.prog X.w X.K X.mg X.base X.A X.stack s H:=
 {I.ok.frames,I.ok.mod,I.bs,Yl I.ok.bsz I.sz,I.stack,I.stkFree,I.hok,I.bare}
def Inv.after(I:Inv X pins σ H s)(h:CE X.stack X.prog X.w H s Q u s'):EP X pins σ Q u s':=by let(v,H',os,bare,un,hok,r,q):=h;let(hh,g,d,t,nG):=s';let rfl:nG=s.os:=os;exists v,H',I.call (h':=hh) (g':=g) (d':=d) (t':=t) (ch:=[]) un hok bare λb z=>absurd z B,r,q
end
def Jm(sp:Sp)(Rv:List V)(E:XK)(t:TA):(TE):=λσ H Q=>t σ H λvs H1=>sp (vs++Rv) H1 Q E
def nF(C:Addr)(sp:Sp)(Rv:List V)(E:XK)(t:TA):(TE):=λσ H Q=>t σ H λvs H1=>∀x dx,H1 x=none->H1 dx=none->dx≠x->
 sp (.ref x::(vs++Rv)) (upd (upd H1 dx<|.own x) x<|.ins C dx []) (λv H2=>v=.non/\Q ↑x H2) E
def Binds(K:Ad)(fd:FuncData)(ps:List Str)(ds:Ag):(Prop):=
 ∀(s:Shared)(us:Ag),K.In s.G->(us++ds).f=ps.f->BindsTo s fd {us,[]} (ps.zip<|us++ds)
def Binds.all{K:Ad}{fd:FuncData}{ps:List Str}(h:∀us:Ag,us.f=ps.f->bindArgs fd {us,[]}=pure (ps.zip us)):Binds K fd ps []:=λs us _ hl=>by rw[Ys]at hl ⊢;show .of_eq (h us hl)
def Eu(CX:Pg)(X:Cx)(E:XK):(Prop):=∀(pins:List (Addr×Obj))(σ:St)(H:Hp)(s:Shared)(e:Value)(s':Shared),Inv X pins σ H s->CX X.stack H s E e s'->X.xe e s'
section
variable{X:Cx}{CX:Pg}{k:Nat}{f C:Addr}{fd:FuncData}{ps:List Str}{sp:Sp}{Rv:List V}{ds:Ag}{E:XK}{x:Str}{p pos:Pos}{e:Expr}{es:List Expr}{t:TA}
def nE(F:FnOk X.prog X.w X.K X.mg X.base CX k f fd ps sp)(hr:Room k X.A)(hb:Binds X.K fd ps ds)(hd:Vals Rv ds)(hx:Eu CX X E)
  (I:Inv X pins σ H s)(r:Vals vs us)(h:sp (vs++Rv) H Q E):wpAny (model X.prog X.w) X.A (call ↑f us) (EP X pins σ Q) X.xe s:=by
 let r2:Vals (vs++Rv) (us++ds):=r.append hd;let hl:(us++ds).f=ps.f:=by rw[<-r2.f];show F.len _ _ _ _ h
 show CQ (Jy (F.run X.A X.stack s H {us,[]} (us++ds) (vs++Rv) Q E hr I.env0 (hb s us I.kIn hl) r2 h) λr s' hq=>?_);cases r with
 |error e=>show hx pins σ H s e s' I hq
 |ok fl=>
  cases fl with
  |ret u=>show I.after hq
  |next=>show False.elim hq
  |brk=>show False.elim hq
  |cont=>show False.elim hq
def Wj(F:FnOk X.prog X.w X.K X.mg X.base CX k f fd ps sp)(hr:Room k X.A)(hg:Gl X x)(hm:X.mg x=some ↑f)(hk:PySem.W.keepIn X.K ↑f=true)(hb:Binds X.K fd ps ds)(hd:Vals Rv ds)(hx:Eu CX X E)
  (ha:PA X (e::es) t)(Ru:(x == ("__debug__":Str))=false:=by decide)(he:starEach (e::es) X.env=(false,eval e X.env)::starEach es X.env:=by rfl)(UG:(backTo pos<|starEach es X.env).any (·.1)=false:=by rfl):
  PE X (.Call (.Name x p) (e::es) [] pos) (Jm sp Rv E t):=by intro pins s σ H Q I h;show MC (oN I hg hm ?_ Ru);show PySem.W.callWith_K (h₀:=X.base) I.ok.mod.kin hk (thn (ha pos pins s σ H _ I h) λus s1 ⟨vs,H1,I1,r,q⟩=>{I1.kIn,?_}) he UG;show nE F hr hb hd hx I1 r q
structure Mk(K:Ad)(C f:Addr):Prop where
 makes:PySem.W.makesIn K C=true
 init:PySem.W.findIn K ↑C "__init__"=some (some<|.ref f)
 fn:PySem.W.isFn K ↑f=true
 kp:PySem.W.keepIn K ↑C=true
def nB(M:Mk X.K C f)(F:FnOk X.prog X.w X.K X.mg X.base CX k f fd ps sp)(hr:Room (k+1) X.A)(hb:Binds X.K fd ps ds)(hd:Vals Rv ds)
  (hx:Eu CX X E)(I:Inv X pins σ H s)(r:Vals vs us)
  (h:∀x dx,H x=none->H dx=none->dx≠x->sp (.ref x::(vs++Rv)) (upd (upd H dx<|.own x) x<|.ins C dx []) (λv H2=>v=.non/\Q ↑x H2) E):
  wpAny (model X.prog X.w) X.A (call ↑C us) (EP X pins σ Q) X.xe s:=by
 let hq:=h ((~~~s)+1) (~~~s) (I.hok.fresh<|TN _) (I.hok.fresh<|XJ _) (YF<|Mu _);let I2:=Inv.made (C:=C) I
 let r2:Vals (V.ref ((~~~s)+1)::(vs++Rv)) (Value.ref ((~~~s)+1)::(us++ds)):=.cons Z (r.append hd);let hl:(Value.ref ((~~~s)+1)::us++ds).f=ps.f:=by let e:=r2.f;rw[F.len _ _ _ _ hq]at e;show e.symm
 show CQ (nO (f:=f) I.kIn M.makes M.init (Qh.L M.fn) (Jy (F.run _ X.stack _ _ {Value.ref ((~~~s)+1)::us,[]} (Value.ref ((~~~s)+1)::(us++ds)) _ _ E (hr.make C us [])
  (I2.env0.make C us []) (hb _ (Value.ref ((~~~s)+1)::us) I2.kIn hl) r2 hq) λr s' Ce=>?_))
 cases r with
 |error e=>show hx pins σ _ _ e s' I2 Ce
 |ok fl=>
  cases fl with
  |ret u=>
   let(v,H',I3,rv,ev,q3):=I2.after Ce;subst ev;exists rv,{V.ref<|(~~~s)+1,H',I3,Z,q3}
  |next=>show False.elim Ce
  |brk=>show False.elim Ce
  |cont=>show False.elim Ce
def Cd(M:Mk X.K C f)(F:FnOk X.prog X.w X.K X.mg X.base CX k f fd ps sp)(hr:Room (k+1) X.A)(hg:Gl X x)(hm:X.mg x=some ↑C)(hb:Binds X.K fd ps ds)(hd:Vals Rv ds)(hx:Eu CX X E)
  (ha:PA X (e::es) t)(Ru:(x == ("__debug__":Str))=false:=by decide)(he:starEach (e::es) X.env=(false,eval e X.env)::starEach es X.env:=by rfl)(UG:(backTo pos<|starEach es X.env).any (·.1)=false:=by rfl):
  PE X (.Call (.Name x p) (e::es) [] pos) (nF C sp Rv E t):=by intro pins s σ H Q I h;show MC (oN I hg hm ?_ Ru);show PySem.W.callWith_K (h₀:=X.base) I.ok.mod.kin M.kp (thn (ha pos pins s σ H _ I h) λus s1 ⟨vs,H1,I1,r,q⟩=>{I1.kIn,?_}) he UG;show nB M F hr hb hd hx I1 r q
end
structure FnScope(N P:List Str)(sc:Scope):Prop where
 kind:sc.kind=.function
 co:sc.isCoroutine=false
 gen:sc.isGenerator=false
 nd:N.Nodup
 pre:N.M P.f=P
 par:∀x∈P,sc.names.Y x=some .local\/sc.names.Y x=some .cell
 nofree:∀y∈sc.names,y.2≠.free
def Cc{kindOf:Str->Option NameKind}:∀{binds:List (Str×Value)}{m:Af},(∀v,(x,v)∉binds)->bindL kindOf binds m x=m x
 |[],_,_=>rfl
 | (n,v)::r,m,h=>by
  unfold bindL;rw[Cc λw hw=>h w (Yh _ hw)];split
  .have:x≠n:=by rintro rfl;show h v Yd
   simp[this]
  .rfl
def Cb{kindOf:Str->Option NameKind}:∀{binds:List (Str×Value)}{m:Af},(∀v,(x,v)∉binds)->bindC kindOf binds m x=m x
 |[],_,_=>rfl
 | (n,v)::r,m,h=>by
  unfold bindC;rw[Cb λw hw=>h w (Yh _ hw)];split
  .rfl
  .have:x≠n:=by rintro rfl;show h v Yd
   simp[this]
def Ca{kindOf:Str->Option NameKind}{x:Str}{v:Value}:∀{P:List Str}{vs:Ag}{i:Nat}{m:Af},P.Nodup->P[i]?=some x->vs[i]?=some v->kindOf x=some .local->
  bindL kindOf (P.zip vs) m x=some v
 |[],_,_,_,_,h,_,_=>by simp at h
 |_::_,[],_,_,_,_,h,_=>by simp at h
 |p::P,w::vs,0,m,nd,h1,h2,hk=>by
  simp at h1 h2;subst h1;subst h2;change bindL kindOf ((p,w)::P.zip vs) m p=_
  unfold bindL;rw[Cc λv hv=>(Pn.L nd).1 (pI hv).1,if_pos hk];simp
 |p::P,w::vs,i+1,m,nd,h1,h2,hk=>by change bindL kindOf ((p,w)::P.zip vs) m x=_;unfold bindL;show Ca (i:=i) (Pn.L nd).2 (by simpa using h1) (by simpa using h2) hk
def BZ{kindOf:Str->Option NameKind}{x:Str}{v:Value}:∀{P:List Str}{vs:Ag}{i:Nat}{m:Af},P.Nodup->P[i]?=some x->vs[i]?=some v->kindOf x≠some .local->
  bindC kindOf (P.zip vs) m x=some v
 |[],_,_,_,_,h,_,_=>by simp at h
 |_::_,[],_,_,_,_,h,_=>by simp at h
 |p::P,w::vs,0,m,nd,h1,h2,hk=>by
  simp at h1 h2;subst h1;subst h2;change bindC kindOf ((p,w)::P.zip vs) m p=_
  unfold bindC;rw[Cb λv hv=>(Pn.L nd).1 (pI hv).1,if_neg hk];simp
 |p::P,w::vs,i+1,m,nd,h1,h2,hk=>by change bindC kindOf ((p,w)::P.zip vs) m x=_;unfold bindC;show BZ (i:=i) (Pn.L nd).2 (by simpa using h1) (by simpa using h2) hk
def start(N:List Str)(vs:List V):(St):=vs.R some++List.replicate (N.f-vs.f) none
def Te(CX:Pg)(P:Program)(w:World)(K:Ad)(mg:Af)(base:Heap)(N:List Str)(qual:Str)(scope:Scope)(f:Addr)(cd:Value)(A:Around)(outer:List Env)(s:Shared)(H:Hp)(E:XK):(Cx) where
 prog:=P
 w:=w
 K:=K
 mg:=mg
 base:=base
 A:=A.deeper (envOfC qual scope (~~~s) f cd)
 N:=N
 s₀:=s
 H₀:=H
 env:=envOfC qual scope (~~~s) f cd
 outer:=outer
 stack:=envOfC qual scope (~~~s) f cd::outer
 ex:=[]
 calm:=true
 fn:=λ_=>true
 pn:=[]
 xe:=λe s'=>wpAny (model P w) (A.deeper<|envOfC qual scope (~~~s) f cd) (leaving (envOfC qual scope (~~~s) f cd) e) (λ_ RU=>CX outer H s E e RU) (λe' RU=>CX outer H s E e' RU) s'
def Zi8{sc:Scope}(h:sc.names.Y x=some .cell):∃c,(cellsFrom n sc.names []).Y x=some c:=by let q:=ak sc.names n [] (.inl h);show qi.L q
def nz{CX:Pg}{P:Program}{w:World}{K:Ad}{mg:Af}{base:Heap}{N ps:List Str}{qual:Str}{scope:Scope}{f:Addr}{cd:Value}{A:Around}{outer:List Env}{s s1:Shared}{H:Hp}{E:XK}{us:Ag}{vs:List V}
  (S:FnScope N ps scope)(hd:A.handled=none)(e0:Env0 P w K mg base A outer s H)(hl:vs.f=ps.f)(r:Vals vs us)
  (x:InCallC s (~~~s) (bindL (envOfC qual scope (~~~s) f cd).kindOf (ps.zip us) λ_=>none) (cellsFrom ((~~~s)+1) scope.names []) (bindC (envOfC qual scope (~~~s) f cd).kindOf (ps.zip us) λ_=>none) s1):
  Inv (Te CX P w K mg base N qual scope f cd A outer s H E) [] (start N vs) H s1:=by
 let UG:ps.f<=N.f:=by have:=YS List.f S.pre;rw[Yf]at this;lia
 let(h1,tk,rfl,hk):=x.done;let Hh:∀b:Addr,b∉(Te CX P w K mg base N qual scope f cd A outer s H E).ex:=λb z=>absurd (show b∈([]:List Addr) from z) B
 show⟨{e0.mod,S.kind,Z,Z,XJ _,λy z c h1 h2=>?_,λy hy=>?_,λy c _ h=>?_,λ_=>hd,Around.frames_deeper e0.frames,.inr ⟨Z,Z⟩,λb z=>absurd z<|Hh b,e0.bs,e0.bsz,λb _ _=>Hh b,λb z=>absurd z<|Hh b,e0.funs,e0.frf},
  rfl,e0.bare,Un.kept hk,{_,x.toInCall.ns,λi y v h1 h2 h3=>?_},λy c h=>{_,x.cell y c h},e0.hok.fresh<|XJ _,λy c h=>?_,λp hp=>absurd (show p∈([]:List (Addr×Obj)) from hp) B,e0.hok.kept hk,?_⟩
 .show name_of_addr x.apart (HW h1) (HW h2)
 .let hy:scope.names.Y y=some .cell\/scope.names.Y y=some .free:=hy;rcases hy with hy|hy
  .show Zi8 hy
  .show absurd Z (S.nofree _<|HW hy)
 .show Pl (x.above y c<|HW h)
 .let hi:i<vs.f:=by
   unfold start at h2;cases hi:i<vs.f
   .show hi
   .rw[Ym (by simpa using hi)]at h2;rw[va]at h2;split at h2<;>cases h2
  let ha:vs[i]?=some v:=by
   unfold start at h2;rw[Yp (by simpa using hi),Yv]at h2;cases e:vs[i]? with
   |none=>rw[e]at h2;cases h2
   |some a=>rw[e]at h2;cases h2;rfl
  let(u,hu,rv):=r.get ha;let hp:ps[i]?=some y:=by rwa[<-S.pre,List.getElem?_take_of_lt J]
  let ndP:ps.Nodup:=by rw[<-S.pre];show S.nd.sublist (LJ _ _)
  exists u,rv,?_;rcases S.par y (Xm hp) with k|k
  .show .inl {k,Ca ndP hp hu k}
  .let⟨c,e⟩:=Zi8 (n:=(~~~s)+1) k;show .inr {.inl k,c,e,?_};let q:=x.cell y c e
   rwa[BZ ndP hp hu (by change scope.names.Y y≠_;rw[k];decide)]at q
 .show e0.hok.fresh (Pl<|x.above y c<|HW h)
 .unfold start;change _=N.f
  rw[Xt,Yc,YX];grind
def BY{CX:Pg}{P:Program}{w:World}{K:Ad}{mg:Af}{base:Heap}{k:Nat}{f:Addr}{name qual:Str}{params:Arguments}{body:List Stmt}{scope:Scope}{dV kV doc pm Xv ct oc:Value}{an od:Option Addr}
  {SK:Array (Option Value)}{N ps:List Str}{sp:Sp}(lk:K.Y f=some {oc,od,.func<|PySem.W.fnOf name qual params body scope dV kV doc pm an Xv ct,SK})(RW:PySem.W.codeIn K Xv qual=true)(S:FnScope N ps scope)
  (len:∀vs H Q E,sp vs H Q E->vs.f=ps.f)
  (Vv:∀(A:Around)(outer:List Env)(s:Shared)(H:Hp)(vs:List V)(Q:VK)(E:XK),Room k (A.deeper<|envOfC qual scope (~~~s) f Xv)->sp vs H Q E->
   ∃t,PSs (Te CX P w K mg base N qual scope f Xv A outer s H E) body t/\t {nx:=λ_ H'=>Q .non H',rt:=Q} (start N vs) H):
  FnOk P w K mg base CX (k+1) f (PySem.W.fnOf name qual params body scope dV kV doc pm an Xv ct) ps sp:=by
 exists len,λA outer s H args us vs Q E hr e0 hb r RT=>?_;let hl:=len _ _ _ _ RT
 let KX:K.In s.G:=e0.mod.kin.keeps λb o e=>(e0.bs b o e).1;let lim:s.G.NoLimit:=e0.mod.nolimit.keeps λb o e=>(e0.bs b o e).1
 let BX:∀y∈ps.zip us,scope.names.Y y.1=some .local\/(scope.names.Y y.1=some .cell/\((cellsFrom ((~~~s)+1) scope.names []).Y y.1).isSome=true):=λ⟨n,v⟩ hy=>by
  rcases S.par n (pI hy).1 with q|q
  .show .inl q
  .show .inr {q,ak _ _ _<|.inl q}
 show codeAny_call_function hr.depth (KX _ _ lk) Z S.co S.gen Z (PySem.W.codeRec_of KX RW) (hb _ _ _ _ ?_);show wpAny_newFunctionEnv_cells S.kind BX λenv he s1 x=>?_;subst he;exists lim.keeps x.toInCall.keep,codeAny_func ?_;let(t,ht,hq):=Vv A outer s H vs Q E (hr.deeper _) RT;let I:Inv (Te CX P w K mg base N qual scope f Xv A outer s H E) [] (start N vs) H s1:=nz S hr.hd e0 hl r x
 show RX (ht [] s1 (start N vs) H _ I hq) (λfl s' hs=>?_) λe s' hs=>hs;let fin:∀{σ':St}{H':Hp}{v:V}{u:Value},Inv (Te CX P w K mg base N qual scope f Xv A outer s H E) [] σ' H' s'->RelV v u->Q v H'->CE outer P w H s Q u s':=
  λ{σ' H' v u} AP rv q=>⟨v,H',AP.os,AP.bare,AP.base,AP.hok,rv,q⟩
 cases fl with
 |ret u=>
  let(v,σ',H',AP,rv,q):=hs;show fin AP rv q
 |next=>
  let(σ',H',AP,q):=hs;show fin (v:=V.non) (u:=Value.none) AP Z q
 |brk=>
  let(_,_,_,q):=hs;show False.elim q
 |cont=>
  let(_,_,_,q):=hs;show False.elim q
section
variable{X:Cx}{x:Str}{p pos:Pos}{e:Expr}{es:List Expr}{t:TA}{id T:String}{r:List V->Hp->VK->Prop}
def tCB(r:List V->Hp->VK->Prop)(t:TA):(TE):=λσ H Q=>t σ H λvs H1=>r vs H1 Q
def Zi(hc:TK X (.builtin id) r)(hg:Gl X x)(hm:X.mg x=none)(hv:bootBuiltins x=some (.builtin id))(ha:PA X (e::es) t)(hn:x≠"__name__":=by decide)(Ru:(x == ("__debug__":Str))=false:=by decide)
  (he:starEach (e::es) X.env=(false,eval e X.env)::starEach es X.env:=by rfl)(UG:(backTo pos<|starEach es X.env).any (·.1)=false:=by rfl):PE X (.Call (.Name x p) (e::es) [] pos) (tCB r t):=by intro pins s σ H Q I h;show MC (Ph I hg hm hv ?_ hn Ru);show aO (thn (ha pos pins s σ H _ I h) λus s1 zz=>by let(vs,H1,I1,r1,q1):=zz;show hc pins s1 σ H1 vs us Q I1 r1 q1) he UG
def Zk(hc:TK X (.type T) r)(hg:Gl X x)(hm:X.mg x=none)(hv:bootBuiltins x=some (.type T))(ha:PA X (e::es) t)(hn:x≠"__name__":=by decide)(Ru:(x == ("__debug__":Str))=false:=by decide)
  (he:starEach (e::es) X.env=(false,eval e X.env)::starEach es X.env:=by rfl)(UG:(backTo pos<|starEach es X.env).any (·.1)=false:=by rfl):PE X (.Call (.Name x p) (e::es) [] pos) (tCB r t):=by intro pins s σ H Q I h;show MC (Ph I hg hm hv ?_ hn Ru);show HY (thn (ha pos pins s σ H _ I h) λus s1 zz=>by let(vs,H1,I1,r1,q1):=zz;show hc pins s1 σ H1 vs us Q I1 r1 q1) he UG
end
end L2
namespace HT
open PySem PyProof.Rows
def lexLt:(Ac->Ac->Bool)
 |[],[]=>false
 |[],_::_=>true
 |_::_,[]=>false
 |x::xs,y::ys=>if x=y then lexLt xs ys else decide (x<y)
def Xo(x y:Int)(xs ys:Ac):lexLt (x::xs) (y::ys)=if x=y then lexLt xs ys else decide (x<y):=rfl
section
variable{prog:Program}{w:World}{A:Around}{E:Ae}{s:Shared}
def Lh{vs ws:Ag}{Q:Ae}(ht:IsTup s.G t vs.C)(hb:IsTup s.G b ws.C)(hv:vs≠[])
  (h1:ws=[]->Q ↑t s)(h2:ws≠[]->Q (.ref (~~~s)) {s with heap:=s.G.push {cls:=.type "tuple",data:=.seq (vs++ws).C} })
  (hsz:vs.f+ws.f<=sizeLine):wpAny (model prog w) A (binaryOp .Add ↑t<|.ref b) Q E s:=by
 let((cls,dd,data,sl),ho,hc,n,hd):=id ht;let((nu,tP,data2,tO),TF,UQ,n2,hd2):=id hb;simp only at hc hd UQ hd2;subst hc hd UQ hd2;let e:vs.C++ws.C=(vs++ws).C:=B
 cases hw:ws=[]
 .show concat_meets {_,ho,Z} {_,TF,Z} ph seq_tuple_add qb qf (qj _ _)
   (tuple_addW1 t b vs.C ws.C n n2 dd tP sl tO (by simpa using hv)<|by simp[hw]) {ho,TF,h1 hw}
 .show concat_meets {_,ho,Z} {_,TF,Z} ph seq_tuple_add qb qf (qj _ _)
   (tuple_addW2 t b vs.C ws.C n n2 dd tP sl tO (by simpa using hv) (by simpa using hw)<|by rwa[Yb,Yb]) {ho,TF,?_}
  rw[e];show h2 hw
def Td(n d:Nat):(Option Int->Nat)
 |none=>d
 |some v=>if v<0 then (v+(n:Int)).j else min v.j n
def Sm(n d:Nat):Td n d none=d:=rfl
end
end HT
namespace L2
open PySem PySem.Spec PyProof.Rows
abbrev TO:=St->Hp->(Option Int->Hp->Prop)->Prop
def PO(X:Cx)(e:Option Expr)(t:TO):(Prop):=
 ∀(pins:List (Addr×Obj))(s:Shared)(σ:St)(H:Hp)(Q:Option Int->Hp->Prop),Inv X pins σ H s->t σ H Q->
  wpAny (model X.prog X.w) X.A (evalPart e X.env) (λu s'=>∃o H',Inv X pins σ H' s'/\IsPart u o/\Q o H') X.xe s
def nt:(TO):=λ_ H Q=>Q none H
inductive xPart(x:V)(H1:Hp)(Q:Option Int->Hp->Prop):Prop
 |mk (i:Int) (_:x=.int i) (_:Q (some i) H1)
def nr(t:TE):(TO):=λσ H Q=>t σ H λx H1=>xPart x H1 Q
section
variable{X:Cx}{e:Expr}{te:TE}{lo hi:Option Expr}{tl th:TO}{pos p2:Pos}
def Jl:PO X none nt:=by intro pins s σ H Q I h;rw[evalPart_none];show Yn ⟨none,H,I,.none,h⟩
def Mn(h:PE X e te):PO X (some e) (nr te):=by intro pins s σ H Q I hw;rw[evalPart_some];show thn (h pins s σ H _ I hw) λu s1 Xs=>?_;let(x,H1,I1,r1,q1):=Xs;let(i,rfl,q):=q1;let(t,rfl):=r1;exists some i,H1,I1,.int i t,q
def nq(X:Cx)(r:V->Option Int->Option Int->Hp->VK->Prop):(Prop):=
 ∀(pins:List (Addr×Obj))(s:Shared)(σ:St)(H:Hp)(x:V)(v vl vu:Value)(lo hi:Option Int)(sl:Addr)(Q:VK),Inv X pins σ H s->RelV x v->s.G.IsSliceOf sl vl vu .none->IsPart vl lo->IsPart vu hi->r x lo hi H Q->
  ∃T id,typeLookup (.type T) "__getitem__"=pure (some<|.builtin id)/\s.TypeIs v T/\wpAny (model X.prog X.w) X.A (getItem v<|.ref sl) (EP X pins σ Q) X.xe s
def tSl(r:V->Option Int->Option Int->Hp->VK->Prop)(te:TE)(tl th:TO):(TE):=λσ H Q=>te σ H λx H1=>tl σ H1 λl H2=>th σ H2 λu H3=>r x l u H3 Q
def Lg{r:V->Option Int->Option Int->Hp->VK->Prop}(hr:nq X r)(he:PE X e te)(hl:PO X lo tl)(hu:PO X hi th):PE X (.Subscript e (.Slice lo hi none p2) pos) (tSl r te tl th):=by
 intro pins s σ H Q I h;show Subscript_ (thn (he pins s σ H _ I h) λv s1 Xs=>?_);let(x,H1,I1,r1,q1):=Xs;show wpAny_Slice (thn (hl pins s1 σ H1 _ I1 q1) λvl s2 zz=>?_);let(l,H2,I2,pl,q2):=zz;show thn (hu pins s2 σ H2 _ I2 q2) λvu s3 Xs=>?_;let(u,H3,I3,pu,q3):=Xs;rw[evalPart_none];show Yn ?_;let I4:Inv X pins σ H3 {s3 with heap:=s3.G.push {cls:=.type "slice",data:=.fields #[vl,vu,.none]} }:=I3.kept (t':=s3.toks) λb ob q=>WY _ q
 let(T,id,hT,ht,hg):=hr pins {s3 with heap:=s3.G.push {cls:=.type "slice",data:=.fields #[vl,vu,.none]} } σ H3 x v vl vu l u (~~~s3) Q I4 r1 (Heap.IsSliceOf.new ..) pl pu q3;change wpAny (model X.prog X.w) X.A (subscriptTail e (.Slice lo hi none p2) v<|.ref (~~~s3)) (EP X pins σ Q) X.xe {s3 with heap:=s3.G.push {cls:=.type "slice",data:=.fields #[vl,vu,.none]} }
 show tail_any (ops:=[.ref (~~~s3),v]) ht hT hg (by with_unfolding_all rfl)
def WH(xs:List V)(lo hi:Option Int):(List V):=(xs.drop<|HT.Td xs.f 0 lo).M (HT.Td xs.f xs.f hi-HT.Td xs.f 0 lo)
def BW(xs:List V)(lo hi:Option Int):(WH xs lo hi).f<=xs.f:=by unfold WH;rw[Yf,WA];lia
def BV(K:Ad):(R2):=λx y H Q=>∃a b xs ys,x=.ref a/\y=.ref b/\SqT K H a xs/\SqT K H b ys/\xs≠[]/\xs.f+ys.f<=sizeLine/\
 (ys=[]->Q ↑a H)/\(ys≠[]->∀p,H p=none->Q ↑p (upd H p<|.tup<|xs++ys))
def Vals.nil_iff(r:Vals xs us):us=[]↔xs=[]:=by
 cases r with
 |nil=>simp
 |cons _ _=>simp
def BU:Wu X (binaryOp .Add) (BV X.K):=by intro pins s σ H x y v u Q I rx ry h;let(a,b,xs,ys,rfl,rfl,ha,hb,hx,hz,q1,q2):=h;cases rx;cases ry;let(XW,r1,p1,_):=I.tuple ha;let(Vh,r2,p2,_):=I.tuple hb;show HT.Lh p1 p2 (λz=>hx<|r1.nil_iff.L z) (λz=>{.ref a,H,I,Z,q1<|r2.nil_iff.L z}) (λz=>?_) (by rwa[<-r1.f,<-r2.f]);exists .ref (~~~s),_,I.laid (t':=s.toks) (o:=.tup<|xs++ys) (λb ob q=>WY _ q) (XJ _) ?_,Z,q2 (λw=>z<|r2.nil_iff.U w) _<|I.hok.fresh<|XJ _;exists by rw[Xt];show hz,_,r1.append r2,IsTup.new _ _
end
def Lf(n:Nat)(i:Int):(Option Nat):=if 0<=i then (if i<n then some i.j else none) else if -(n:Int)<=i then some (i+n).j else none
def Wi{α:Type}(xs:List α)(i:Int):(Option α):=(Lf xs.f i).bind λj=>xs[j]?
def ZW9{j:Nat}(h:Lf n i=some j):seqIndex? i n=some j/\j<n/\-(n:Int)<=i/\i<n:=by
 unfold Lf at h;cases h0:0<=i
 .rw[if_pos h0]at h;cases h1:i<n
  .rw[if_pos h1]at h;let e:i.j=j:=Ye h
   exists by rw[seqIndex_of h0 h1,e],J,J,h1
  .rw[if_neg h1]at h;cases h
 .rw[if_neg h0]at h;cases h1:-(n:Int)<=i
  .rw[if_pos h1]at h;let e:(i+n).j=j:=Ye h
   exists by rw[seqIndex_neg J h1,e],J,h1,J
  .rw[if_neg h1]at h;cases h
def BS{α:Type}{xs:List α}{i:Int}{v:α}(h:Wi xs i=some v):∃j,seqIndex? i xs.f=some j/\xs[j]?=some v/\j<xs.f/\-xs⁻¹<=i/\i<xs.f:=by
 unfold Wi at h;cases e:Lf xs.f i with
 |none=>rw[e]at h;cases h
 |some j=>
  rw[e]at h;let(h1,h2,h3,h4):=ZW9 e;exists j,h1,h,h2,h3,h4
def BR(b:Expr):(Prop):=∀o i,subscripted b false o i=operate [o,i] (getItem o i)
def BQ(X:Cx)(r:R2):(Prop):=
 ∀(value slice:Expr)(pins:List (Addr×Obj))(s:Shared)(σ:St)(H:Hp)(x y:V)(v u:Value)(Q:VK),Inv X pins σ H s->RelV x v->RelV y u->r x y H Q->
  subscripted slice false v u=operate [v,u] (getItem v u)->wpAny (model X.prog X.w) X.A (subscriptTail value slice v u) (EP X pins σ Q) X.xe s
def tN(X:Cx)(id:String)(r:V->List V->Hp->VK->Prop):(Prop):=
 ∀(pins:List (Addr×Obj))(s:Shared)(σ:St)(H:Hp)(x:V)(xs:List V)(v:Value)(us:Ag)(Q:VK),Inv X pins σ H s->RelV x v->Vals xs us->r x xs H Q->
  wpAny (model X.prog X.w) X.A (call (.builtin id)<|v::us) (EP X pins σ Q) X.xe s
section
variable{X:Cx}{a b:Expr}{ta tb:TE}{pos:Pos}
def ZE(hr:BQ X r)(ha:PE X a ta)(hb:PE X b tb)(hs:BR b):PE X (.Subscript a b pos) (Cw r ta tb):=by intro pins s σ H Q I h;show Subscript_ (Hm ha hb I h λv u s2 x y H2 I2 rx ry q=>hr a b pins s2 σ H2 x y v u Q I2 rx ry q<|hs _ _)
inductive rIxL(K:Ad)(x:V)(y:V)(H:Hp)(Q:VK):Prop
 |mk (p xs i v:_) (_:x=.ref p) (_:y=.int i) (_:SqL K H p xs) (_:Wi xs i=some v) (_:Q v H)
inductive rIxT(K:Ad)(x:V)(y:V)(H:Hp)(Q:VK):Prop
 |mk (p xs i v:_) (_:x=.ref p) (_:y=.int i) (_:SqT K H p xs) (_:Wi xs i=some v) (_:Q v H)
def nj:BQ X (rIxL X.K):=by
 intro value slice pins s σ H x y v u Q I rx ry h hs;let(p,xs,i,z,rfl,rfl,hq,he,q):=h;cases rx;let(t,rfl):=ry;let(XW,r,pl,hz):=I.list hq;let(j,h1,h2,h3,h4,h5):=BS he;let(w,ew,Le):=r.get h2;let hl:=r.f
 let hn:=Cj;let fin:EP X pins σ Q w s:=⟨z,H,I,Le,q⟩
 cases h0:0<=i
 .let hj:i.j=j:=by rw[seqIndex_of h0 h5]at h1;show Ye h1
  show item_listR pl.isList h0 J (by rw[hj];simpa using ew) fin hs
 .let hj:(i+(XW.C.t:Int)).j=j:=by rw[seqIndex_neg J h4]at h1;rw[Yb,<-hl];show Ye h1
  show subscriptTail_builtinR (x:=w) pl.isList.typeIs slot_list_getitem.Y
   (wpAny_getItem_list_neg (Q:=λr s'=>r=w/\EP X pins σ Q r s') pl.isList oW (by rw[Yb]<;>lia) J (by rw[hj];simpa using ew) ⟨rfl,fin⟩) hs
def ni:BQ X (rIxT X.K):=by
 intro value slice pins s σ H x y v u Q I rx ry h hs;let(p,xs,i,z,rfl,rfl,hq,he,q):=h;cases rx;let(t,rfl):=ry;let(XW,r,pl,hz):=I.tuple hq;let(j,h1,h2,h3,h4,h5):=BS he;let(w,ew,Le):=r.get h2;let hl:=r.f
 let hn:=Cj;let fin:EP X pins σ Q w s:=⟨z,H,I,Le,q⟩
 show subscriptTail_builtinR (x:=w) pl.typeIs slot_tuple_getitem.Y
  (getItem_tuple (j:=j) (Q:=λr s'=>r=w/\EP X pins σ Q r s') pl J J (by rwa[Yb,<-hl]) (by simpa using ew) ⟨Z,fin⟩) hs
def Zn7(XW:Ag)(n j:Nat)(u:Value):Obj.mapSeq (·.setIfInBounds j u) {cls:=.type "list",data:=.seq XW.C n}={cls:=.type "list",data:=.seq (XW.set j u).C n}:=by simp[Obj.mapSeq]
def Inv.lst{pins:List (Addr×Obj)}{σ:St}{H:Hp}{s:Shared}{p:Addr}{xs:List V}(I:Inv X pins σ H s)(h:H p=some (.lst xs)):
  ∃(XW:Ag)(n:Nat),Vals xs XW/\s.G.H p=some {cls:=.type "list",data:=.seq XW.C n}/\xs.f<=sizeLine:=by let(z,XW,n,r,e):=I.hok p _ h;exists XW,n,r,e,z
def Inv.lstUpd{p:Addr}{xs ys:List V}{XW its':Ag}{f:Obj->Obj}(I:Inv X pins σ H s)(h:H p=some (.lst xs))
  (ho:s.G.H p=some {cls:=.type "list",data:=.seq XW.C n})(hf:f {cls:=.type "list",data:=.seq XW.C n}={cls:=.type "list",data:=.seq its'.C n'})(r:Vals ys its')(hz:ys.f<=sizeLine)(t:Nat):
  Inv X pins σ (upd H p<|.lst ys) {s with heap:=s.G.update p f,toks:=t}:=by
 let e:(s.G.update p f).H p=some {cls:=.type "list",data:=.seq its'.C n'}:=by rw[OR f ho (by rw[hf]<;>rfl),hf]
 show I.write (x:=p) (e:=p) (by rw[h];trivial) (.inl Z) (λb u hb q=>(VN _ _<|WX hb).m q) {_,e} ?_;exists hz,its',n',r,e
inductive rSetL(o:V)(i:V)(v:V)(H:Hp)(Q:Hp->Prop):Prop
 |mk (p xs k j:_) (_:o=.ref p) (_:i=.int k) (_:H p=some (.lst xs)) (_:Lf xs.f k=some j) (_:Q (upd H p<|.lst<|xs.set j v))
def Jk:Hr X rSetL:=by
 intro pins s σ H o i v ov iv u Q I ro ri rv h;let(p,xs,k,j,rfl,rfl,hp,hj,q):=h;cases ro;let(t,rfl):=ri;let(XW,n,r,ho,hz):=I.lst hp;let(h1,h2,h3,h4):=ZW9 hj;let hl:=r.f
 let hn:=Cj;let I':Inv X pins σ (upd H p<|.lst<|xs.set j v) {s with heap:=s.G.update p (Obj.mapSeq (·.setIfInBounds j u))}:=
  I.lstUpd hp ho (Zn7 XW n j u) (r.set rv j) (by rwa[LF]) s.toks
 cases h0:0<=k
 .let hk:k.j=j:=by rw[seqIndex_of h0 h4]at h1;show Ye h1
  show PySem.W.ki_setAt ho h0 J (by rwa[Yb,<-hl]) (by rw[hk];exists _,I',q)
 .let hk:(k+(XW.C.t:Int)).j=j:=by rw[seqIndex_neg J h3]at h1;rw[Yb,<-hl];show Ye h1
  show PySem.W.ki_setBack ho oW (by rwa[Yb,<-hl]) J (by rw[hk];exists _,I',q)
def BP(i:Int)(n:Nat):max 0 (min (if i<0 then i+n else i) n)=((if i<0 then (i+n).j else min i.j n:Nat):Int):=by
 cases h:i<0
 .rw[if_pos h,if_pos h,uJ J,Int.ofNat_toNat,Int.max_comm]
 .let⟨m,rfl⟩:=qc (EC.L h);rw[if_neg h,if_neg h,YO];lia
def Zx4(lo hi:Option Int)(n:Nat):(sliceBounds lo hi none n).1=((HT.Td n 0 lo:Nat):Int)/\(sliceBounds lo hi none n).2.1=((HT.Td n n hi:Nat):Int)/\(sliceBounds lo hi none n).2.2=1:=by exists by cases lo<;>first|rfl|show BP _ n,by cases hi<;>first|rfl|show BP _ n,rfl
def nh(XW:Ag)(lo hi:Option Int):slicePick XW.C lo hi none=((XW.drop (HT.Td XW.f 0 lo)).M (HT.Td XW.f XW.f hi-HT.Td XW.f 0 lo)).C:=by let(h1,h2,h3):=Zx4 lo hi XW.C.t;unfold slicePick;rw[h1,h2,h3];simp only[sliceRange_one,pick_run,Yb]<;>rfl
inductive rSlL(K:Ad)(x:V)(lo:Option Int)(hi:Option Int)(H:Hp)(Q:VK):Prop
 |mk (a xs:_) (_:x=.ref a) (_:SqL K H a xs) (_:∀p,H p=none->Q ↑p (upd H p<|.lst<|WH xs lo hi))
def ng:nq X (rSlL X.K):=by
 intro pins s σ H x v vl vu lo hi sl Q I rx hs pl pu h;let(a,xs,rfl,hx,q):=h;cases rx;let(XW,r,ht,hz):=I.list hx;let hlen:=r.f
 exists "list",_,slot_list_getitem.Y,ht.isList.typeIs,?_;show wpAny_getItem_list_slice ht.isList hs pl pu .none B ?_ (by rw[Yb]<;>lia)
 rw[nh,<-hlen];exists .ref (~~~s),_,I.laid (t':=s.toks) (o:=.lst<|WH xs lo hi) (λb ob q=>WY _ q) (XJ _) ?_,Z,q _<|I.hok.fresh<|XJ _;exists Yl (BW xs lo hi) hz,_,0,(r.drop<|HT.Td xs.f 0 lo).M (HT.Td xs.f xs.f hi-HT.Td xs.f 0 lo),Yr _ Z
def RS:(V->Bool)
 | .non=>true
 | .bl _=>true
 | .int _=>true
 | .str _=>true
 |_=>false
def Ol:(V->V->Bool)
 | .non,.non=>true
 | .bl a,.bl b=>a == b
 | .bl a,.int b=>(if a then 1 else 0) == b
 | .int a,.bl b=>a == (if b then 1 else 0)
 | .int a,.int b=>a == b
 | .str a,.str b=>a == b
 |_,_=>false
def BO(ry:RelV y u)(rx:RelV x v)(fy:RS y=true)(fx:RS x=true):SeqAt.EqAt A s u v (Ol y x):=by
 cases y with
 |non=>
  cases ry;cases x with
  |non=>cases rx;show SeqAt.EqAt.same _
  |bl b=>cases rx;show SeqAt.EqAt.none_bool b
  |int b=>let(t,rfl):=rx;show SeqAt.EqAt.none_int b t
  |str b=>let(t,rfl):=rx;show SeqAt.EqAt.none_str b t
  |_=>show absurd (show false=true from fx) YH
 |bl a=>
  cases ry;cases x with
  |non=>cases rx;show SeqAt.EqAt.bool_none a
  |bl b=>cases rx;show SeqAt.EqAt.bool_bool a b
  |int b=>let(t,rfl):=rx;show SeqAt.EqAt.bool_int a b t
  |str b=>let(t,rfl):=rx;show SeqAt.EqAt.bool_str a b t
  |_=>show absurd (show false=true from fx) YH
 |int a=>
  let(t',rfl):=ry;cases x with
  |non=>cases rx;show SeqAt.EqAt.int_none a t'
  |bl b=>cases rx;show SeqAt.EqAt.int_bool a t' b
  |int b=>let(t,rfl):=rx;show SeqAt.EqAt.int_int a t' b t
  |str b=>let(t,rfl):=rx;show SeqAt.EqAt.int_str a t' b t
  |_=>show absurd (show false=true from fx) YH
 |str a=>
  let(t',rfl):=ry;cases x with
  |non=>cases rx;show SeqAt.EqAt.str_none a t'
  |bl b=>cases rx;show SeqAt.EqAt.str_bool a t' b
  |int b=>let(t,rfl):=rx;show SeqAt.EqAt.str_int a t' b t
  |str b=>let(t,rfl):=rx;show SeqAt.EqAt.str_str a t' b t
  |_=>show absurd (show false=true from fx) YH
 |_=>show absurd (show false=true from fy) YH
def RR(x:V)(u:Value):(Bool):=match u with
 | .none=>Ol .non x
 | .bool b=>Ol (.bl b) x
 | .int i _=>Ol (.int i) x
 | .str z _=>Ol (.str z) x
 |_=>false
def BN(r:RelV y u)(f:RS y=true):RR x u=Ol y x:=by
 cases y with
 |non=>cases r;rfl
 |bl b=>cases r;rfl
 |int i=>let(t,rfl):=r;rfl
 |str z=>let(t,rfl):=r;rfl
 |_=>show absurd (show false=true from f) YH
def Ld{xs:List V}{us:Ag}(h:Vals xs us)(f:xs.all RS=true):us.any (RR x)=xs.any λy=>Ol y x:=by
 induction h with
 |nil=>rfl
 |cons r t ih=>
  rw[List.all_cons,HQ]at f;rw[RB,RB,BN r f.1,ih f.2]
def BM(rx:RelV x v)(fx:RS x=true){xs:List V}{us:Ag}(h:Vals xs us)(f:xs.all RS=true):∀u∈us,SeqAt.EqAt A s u v (RR x u):=by
 induction h with
 |nil=>intro u hu;cases hu
 |cons r t ih=>
  intro u' hu;rw[List.all_cons,HQ]at f;rcases Yi.L hu with rfl|hu
  .rw[BN r f.1];show BO r rx f.1 fx
  .show ih f.2 u' hu
def Et(x:V)(xs:List V):(Bool):=xs.any λy=>Ol y x
def rIn(K:Ad)(neg:Bool):(R2):=λx y H Q=>∃p xs,y=.ref p/\(SqL K H p xs\/SqT K H p xs)/\RS x=true/\xs.all RS=true/\Q (.bl<|if neg then !Et x xs else Et x xs) H
def ZM8:Wu X (compareOp .In) (rIn X.K false):=by
 intro pins s σ H x y v u Q I rx ry h;let(p,xs,rfl,hq,fx,fs,q):=h;cases ry;rcases hq with hq|hq
 .let⟨XW,r,pl,hz⟩:=I.list hq;show SeqAt.in_listAt (RR x) pl.isList (λw hw=>BM rx fx r fs w<|by simpa using hw) ⟨.bl _,H,I,Z,?_⟩;rwa[show XW.C.any (RR x)=XW.any (RR x) by simp,Ld r fs]
 .let⟨XW,r,pl,hz⟩:=I.tuple hq;show SeqAt.in_tupleAt (RR x) pl (λw hw=>BM rx fx r fs w<|by simpa using hw) ⟨.bl _,H,I,Z,?_⟩;rwa[show XW.C.any (RR x)=XW.any (RR x) by simp,Ld r fs]
def ZB4:Wu X (compareOp .NotIn) (rIn X.K true):=by
 intro pins s σ H x y v u Q I rx ry h;let(p,xs,rfl,hq,fx,fs,q):=h;cases ry;rcases hq with hq|hq
 .let⟨XW,r,pl,hz⟩:=I.list hq;show SeqAt.notIn_listAt (RR x) pl.isList (λw hw=>BM rx fx r fs w<|by simpa using hw) ⟨.bl _,H,I,Z,?_⟩;rwa[show XW.C.any (RR x)=XW.any (RR x) by simp,Ld r fs]
 .let⟨XW,r,pl,hz⟩:=I.tuple hq;show SeqAt.notIn_tupleAt (RR x) pl (λw hw=>BM rx fx r fs w<|by simpa using hw) ⟨.bl _,H,I,Z,?_⟩;rwa[show XW.C.any (RR x)=XW.any (RR x) by simp,Ld r fs]
inductive yR0(K:Ad)(xs:List V)(H:Hp)(Q:VK):Prop
 |mk (p ys:_) (_:xs=[.ref p]) (_:(SqL K H p ys\/SqT K H p ys)) (_:Q (.int ys.f) H)
def ZS4:TK X (.builtin "len") (yR0 X.K):=by
 intro pins s σ H xs us Q I r h;let(p,ys,rfl,hq,q):=h;let(u,rfl,rx):=VZ r;cases rx;let hn:=Cj
 rcases hq with hq|hq
 .let⟨XW,r',pl,hz⟩:=I.list hq;let hlen:=r'.f
  show Calls.call_len_list pl.isList (by simp only[Yb]<;>lia) {.int ys.f,H,I.tok _,{s.toks+1,by rw[Yb,hlen]},q}
 .let⟨XW,r',pl,hz⟩:=I.tuple hq;let hlen:=r'.f
  show len_tuple pl (by simp only[Yb]<;>omega) {.int ys.f,H,I.tok _,{s.toks+1,by rw[Yb,hlen]},q}
def ZR4:TK X (.type "list") (λxs H Q=>∃p ys,xs=[.ref p]/\(SqL X.K H p ys\/SqT X.K H p ys)/\∀l,H l=none->Q ↑l (upd H l (.lst ys))):=by
 intro pins s σ H xs us Q I r h;let(p,ys,rfl,hq,q):=h;let(u,rfl,rx):=VZ r;cases rx;let fin:∀(XW:Ag),Vals ys XW->ys.f<=sizeLine->∀(h':Heap)(c':Nat),(∀b o',s.G.H b=some o'->h'.H b=some o')->
   h'.H (~~~s)=some {cls:=.type "list",dict:=none,data:=.seq XW.C c',slots:=#[]}->EP X pins σ Q (.ref (~~~s)) {s with heap:=h'}:=λXW r' hz h' c' kp e=>
  {.ref (~~~s),_,I.laid (t':=s.toks) kp (XJ _)<|show ObjOk X.prog X.w _ h' _ (.lst ys) from⟨hz,XW,c',r',e⟩,Z,q _<|I.hok.fresh<|XJ _}
 rcases hq with hq|hq
 .let⟨XW,r',pl,hz⟩:=I.list hq;let hlen:=r'.f
  let(o,ho,hc,n,hd):=pl.isList;show call_list_seq p (.inl rfl) ho hc hd (λh' c' kp e=>fin XW r' hz h' c' kp e) (by simp only[Yb]<;>omega)
 .let⟨XW,r',pl,hz⟩:=I.tuple hq;let hlen:=r'.f
  let(o,ho,hc,n,hd):=pl;show call_list_seq p (.inr rfl) ho hc hd (λh' c' kp e=>fin XW r' hz h' c' kp e) (by simp only[Yb]<;>omega)
def Zn4:TK X (.type "tuple") (λxs H Q=>∃p ys,xs=[.ref p]/\((SqL X.K H p ys/\∀l,H l=none->Q ↑l (upd H l (.tup ys)))\/(SqT X.K H p ys/\Q ↑p H))):=by
 intro pins s σ H xs us Q I r h;let(p,ys,rfl,h):=h;let(u,rfl,rx):=VZ r;cases rx;rcases h with ⟨hq,q⟩|⟨hq,q⟩
 .let⟨XW,r',pl,hz⟩:=I.list hq;let hlen:=r'.f
  show call_tuple_list pl.isList (λh' kp=>?_) (by simp only[Yb]<;>omega)
  let I1:Inv X pins σ H {s with heap:=h'}:=I.kept (t':=s.toks) kp;let I2:Inv X pins σ (upd H h'.objs.t<|.tup ys) {s with heap:=h'.push {cls:=.type "tuple",data:=.seq XW.C} }:=
   I1.laid (t':=s.toks) (λb o e=>WY _ e) (XJ _) (show ObjOk X.prog X.w _ _ _ (.tup ys) from{hz,XW,r',IsTup.new _ _})
  exists .ref h'.objs.t,_,I2,Z,q _<|I1.hok.fresh<|XJ _
 .let⟨XW,r',pl,hz⟩:=I.tuple hq;show call_tuple_same pl {.ref p,H,I,Z,q}
def nc(K:Ad)(T:String)(x:V)(H:Hp):(Prop):=match x with
 | .str _=>T="str"
 | .int _=>T="int"
 | .ref p=>(T="list"/\∃xs,SqL K H p xs)\/(T="tuple"/\∃o,K.Y p=some o/\o.cls=.type "tuple"/\o.dict=none)\/
   (T="dict"/\((∃kvs,H p=some (.dK kvs))\/∃kvs,H p=some (.dT kvs)))\/(T="set"/\∃S n,H p=some (.set S n))
 |_=>False
def BL(I:Inv X pins σ H s)(r:RelV x v)(ty:nc X.K T x H):
  s.TypeIs v T/\∀a,v=.ref a->∃ob,s.G.H a=some ob/\ob.dict=none:=by
 cases x with
 |str z=>
  let(t,rfl):=r;cases (show T="str" from ty);exists typeIs_str s z t,λ_ e=>nomatch e
 |int i=>
  let(t,rfl):=r;cases (show T="int" from ty);exists typeIs_int s i t,λ_ e=>nomatch e
 |ref p=>
  cases r;rcases ty with ⟨rfl,xs,hq⟩|⟨rfl,o,hk,hc,hd⟩|⟨rfl,hk⟩|⟨rfl,S,n,hk⟩
  .let⟨XW,_,pl,_⟩:=I.list hq;exists pl.isList.typeIs,λa e=>?_;cases e;let(o,n,e,c,hd,_):=pl;exists o,e,hd
  .exists {o,I.kIn p o hk,hc},λa e=>?_;cases e;exists o,I.kIn _ o hk,hd
  .let z:∃o,s.G.H p=some o/\o.ExactDict:=by
    rcases hk with ⟨kvs,hk⟩|⟨kvs,hk⟩
    .let⟨_,_,_,_,o,_,_,e,ex,_⟩:=I.hok p _ hk;exists o,e,ex
    .let⟨_,_,_,_,o,_,_,e,ex,_⟩:=I.hok p _ hk;exists o,e,ex
   let(o,e,ex):=z;exists ⟨o,e,ex.1⟩,λa e2=>?_;cases e2;exists o,e,ex.2.1
  .let⟨o,_,_,_,e,ex,_⟩:=I.hok p _ hk;exists ⟨o,e,ex.1⟩,λa e2=>?_;cases e2;exists o,e,ex.2.1
 |_=>show False.elim ty
def BK(K:Ad)(T:String)(r:V->List V->Hp->VK->Prop)(to:TE):(TE):=λσ H Q=>to σ H λx H1=>nc K T x H1/\r x [] H1 Q
def tBM(K:Ad)(T:String)(r:V->List V->Hp->VK->Prop)(to:TE)(t:TA):(TE):=λσ H Q=>to σ H λx H1=>nc K T x H1/\t σ H1 λxs H2=>r x xs H2 Q
variable{o e:Expr}{es:List Expr}{to:TE}{t:TA}{name:Str}{apos WO:Pos}{T id:String}{r:V->List V->Hp->VK->Prop}
def m9(pa:PlainAttrs T)(slot:Slot T name id)(Hg:typeOf (.builtin id)=pure (.type "method_descriptor"))(hm:tN X id r)(ho:PE X o to)
  (UE:attributeBase o name X.env (eval o X.env)=eval o X.env:=by rfl)(UD:(apos.endLine == WO.line)=true:=by rfl):PE X (.Call (.Attribute o name apos) [] [] WO) (BK X.K T r to):=by intro pins s σ H Q I h;show wpAny_Call_method0_late UE UD (thn (ho pins s σ H _ I h) λv s1 Xs=>?_);let(x,H1,I1,r1,ty,q1):=Xs;let(h1,h2):=BL I1 r1 ty;exists T,id,pa,slot,Hg,h1,h2,Calls.callWith_builtin Z<|PySem.evalArgs_none<|hm pins s1 σ H1 x [] v [] Q I1 r1 .nil q1
def m8(pa:PlainAttrs T)(slot:Slot T name id)(Hg:typeOf (.builtin id)=pure (.type "method_descriptor"))(hm:tN X id r)(ho:PE X o to)(ha:PA X (e::es) t)
  (UE:attributeBase o name X.env (eval o X.env)=eval o X.env:=by rfl)
  (Hf:((backTo WO<|starEach (e::es) X.env).all (λx=>!x.1)&&(backToKw WO<|keywordEach [] X.env).all (λx=>x.1.isSome)
   && decide ((e::es).f+([]:List Keyword).f+(if ([]:List Keyword).isEmpty then 0 else 1)<30))=true:=by rfl)
  (UD:(apos.endLine == WO.line)=true:=by rfl)(hs:starEach (e::es) X.env=(false,eval e X.env)::starEach es X.env:=by rfl)(Rt:(backTo WO<|starEach es X.env).any (·.1)=false:=by rfl):
  PE X (.Call (.Attribute o name apos) (e::es) [] WO) (tBM X.K T r to t):=by
 intro pins s σ H Q I h;show wpAny_Call_method_late UE Hf UD Z (thn (ho pins s σ H _ I h) λv s1 Xs=>?_);let(x,H1,I1,r1,ty,q1):=Xs;let(h1,h2):=BL I1 r1 ty;exists T,id,pa,slot,Hg,h1,h2,?_;let hA:=ha WO pins s1 σ H1 _ I1 q1
 rw[hs]at hA ⊢;show Calls.callWith_builtin (by change(false||(backTo WO<|starEach es X.env).any (·.1))=false;rw[Rt]<;>rfl) (Calls.evalArgs_plain ?_)
 show thn hA λus s2 zz=>by let(vs,H2,I2,r2,q2):=zz;show hm pins s2 σ H2 x vs v us Q I2 r1 r2 q2
end
def Lc(X:Cx)(id:String)(r:V->List V->Hp->VK->Prop):(Prop):=
 ∀(pins:List (Addr×Obj))(s:Shared)(σ:St)(H:Hp)(x:V)(xs:List V)(v:Value)(us:Ag)(Q:VK),Inv X pins σ H s->RelV x v->Vals xs us->r x xs H Q->
  wpAny (model X.prog X.w) X.A (call (.builtin id)<|v::us) (EP X pins σ Q) X.xe s
def Vals.one{x:V}{us:Ag}(r:Vals [x] us):∃u,us=[u]/\RelV x u:=by
 cases r with
 |cons a r=>cases r;exists _,Z,a
def Vals.zero:∀{us:Ag},Vals [] us->us=[]
 |_,.nil=>rfl
def Vals.eraseIdx{xs:List V}{us:Ag}(i:Nat)(h:Vals xs us):Vals (xs.eraseIdx i) (us.eraseIdx i):=by
 induction h generalizing i with
 |nil=>show .nil
 |cons r t ih=>
  cases i with
  |zero=>show t
  |succ i=>show .cons r (ih i)
def Vals.reverse(h:Vals xs us):Vals xs.reverse us.reverse:=by
 induction h with
 |nil=>show .nil
 |cons r t ih=>rw[OH,OH];show Vals.append ih (.cons r .nil)
def Vals.rep(h:Vals xs us):∀k:Nat,Vals (List.replicate k xs).flatten (List.replicate k us).flatten
 |0=>.nil
 |k+1=>by rw[HV,HV,LH,LH];show Vals.append h (Vals.rep h k)
def Zn5{α:Type}:∀(l:List α)(i:Nat),(l.eraseIdx i).f<=l.f
 |[],_=>XJ _
 |_::_,0=>TN _
 |_::r,i+1=>Nat.succ_le_succ (Zn5 r i)
def ZD5(XW:Ag):∀(k:Nat)(acc:Ag),
  List.foldl (λx1 x2=>x1++x2) acc.C (List.replicate k XW.C)=(acc++(List.replicate k XW).flatten).C
 |0,acc=>B
 |k+1,acc=>by
  let e:acc.C++XW.C=(acc++XW).C:=B;let e2:(acc++XW)++(List.replicate k XW).flatten=acc++(List.replicate (k+1) XW).flatten:=by rw[HV,LH,YA]
  rw[<-e2,<-ZD5 XW k (acc++XW),<-e,HV,De]
section
variable{X:Cx}{pins:List (Addr×Obj)}{σ:St}{H:Hp}{s:Shared}{l:Addr}{xs ys:List V}
def Inv.lset{XW its':Ag}{f:Array Value->Array Value}{t':Nat}(I:Inv X pins σ H s)(hH:H l=some (.lst xs))
  (e:s.G.H l=some {cls:=.type "list",data:=.seq XW.C n})(hf:f XW.C=its'.C)(hv:Vals ys its')(hz:ys.f<=sizeLine):
  Inv X pins σ (upd H l<|.lst ys) {s with heap:=s.G.update l<|Obj.mapSeq f,toks:=t'}:=by let q:=PySem.IsL.update e f;rw[hf]at q;show I.write (x:=l) (e:=l) (by rw[hH];show trivial) (.inl Z) (λb' u hb hu=>(VN s.G (Obj.mapSeq f)<|WX hb).m hu) {_,q} ?_;exists hz,its',_,hv,q
def Inv.lnew{t':Nat}(I:Inv X pins σ H s)(hv:Vals ys XW)(hz:ys.f<=sizeLine):
  Inv X pins σ (upd H (~~~s)<|.lst ys) {s with heap:=s.G.push {cls:=.type "list",data:=.seq XW.C},toks:=t'}:=
 I.laid (λ_ _ q=>WY _ q) (XJ _) {hz,XW,0,hv,Yr _ Z}
def Inv.fresh(I:Inv X pins σ H s):H (~~~s)=none:=I.hok.fresh (XJ _)
def Inv.lstM(I:Inv X pins σ H s)(hH:H l=some (.lst xs)):xs.f<=sizeLine/\∃(XW:Ag)(n:Nat),Vals xs XW/\xs.f=XW.f/\s.G.H l=some {cls:=.type "list",data:=.seq XW.C n}:=by let(z,XW,n,r,e):=I.hok l _ hH;exists z,XW,n,r,r.f,e
def Zf7(h:n<=sizeLine):Builtin.List.listTooLong n=false:=by unfold Builtin.List.listTooLong;show Sz J
end
section
variable{X:Cx}
inductive rAppend(x:V)(vs:List V)(H:Hp)(Q:VK):Prop
 |mk (l xs y:_) (_:x=.ref l) (_:vs=[y]) (_:H l=some (.lst xs)) (_:xs.f<sizeLine) (_:Q .non (upd H l<|.lst<|xs++[y]))
def BJ:Lc X "list.append" rAppend:=by intro pins s σ H x vs v us Q I rx rv h;let(l,xs,y,rfl,rfl,hH,hz,q):=h;cases rx;let(u,rfl,ru):=rv.one;let(z,XW,n,r,hl,e):=I.lstM hH;show Ju F.slot_list_append {_,e,Z} F.entry_list_append (F.args_list_append_2 _ _) (PySem.list_append l XW.C n u<|by rw[Yb];lia) {e,?_};exists .non,_,I.lset (its':=XW++[u]) hH e B (r.append<|.cons ru .nil) ?_,Z,q;rw[Xt,Yw];lia
def m7:(V->List V->Hp->VK->Prop):=λx vs H Q=>∃l b xs zs,x=.ref l/\vs=[.ref b]/\H l=some (.lst xs)/\H b=some (.lst zs)/\xs.f+zs.f<=sizeLine/\Q .non (upd H l<|.lst<|xs++zs)
def m6:Lc X "list.extend" m7:=by
 intro pins s σ H x vs v us Q I rx rv h;let(l,b,xs,zs,rfl,rfl,hH,hB,hz,q):=h;cases rx;let(u,rfl,ru):=rv.one;cases ru;let(z,XW,n,r,hl,e):=I.lstM hH;let(z2,Vh,n2,r2,Vj,e2):=I.lstM hB;let hsz:XW.C.t+Vh.C.t<=sizeLine:=by rw[Yb,Yb];grind
 let Oj:¬(!XW.C.isEmpty&&Builtin.List.listTooLong (XW.C.t+Vh.C.t))=true:=by rw[Zf7 hsz,Bool.and_false];show YH
 show Ju F.slot_list_extend {_,e,Z} F.entry_list_extend (F.args_list_extend_2 _ _)
  (AutoSeq1.list_extend_list_list_0 l XW.C n b Vh.C n2 Oj (by rw[Yb];grind) J) {e,e2,?_}
 exists .non,_,I.lset (its':=XW++Vh) hH e B (r.append r2) ?_,Z,q;rw[Xt];lia
def mZ:(V->List V->Hp->VK->Prop):=λx vs H Q=>∃l xs i k y,x=.ref l/\vs=[.int i]/\H l=some (.lst xs)/\-(2^63)<=i/\i<2^63/\seqIndex? i xs.f=some k/\xs[k]?=some y/\Q y (upd H l<|.lst<|xs.eraseIdx k)
def mY:Lc X "list.pop" mZ:=by
 intro pins s σ H x vs v us Q I rx rv h;let(l,xs,i,k,y,rfl,rfl,hH,h1,h2,hk,hy,q):=h;cases rx;let(u,rfl,ru):=rv.one;let(t,rfl):=ru;let(z,XW,n,r,hl,e):=I.lstM hH;let(w,hw,Le):=r.get hy;show Ju F.slot_list_pop {_,e,Z} F.entry_list_pop (F.args_list_pop_2 _ _)
  (MeetsSeq.list_pop_at l XW.C n i t k w (fitsIndex_both h1 h2) (by rwa[Yb,<-hl]) (by rwa[<-YI])<|by rw[Yb];lia) {e,?_}
 exists y,_,I.lset (its':=XW.eraseIdx k) hH e ?_ (r.eraseIdx k) ?_,Le,q
 .change XW.C.eraseIdxIfInBounds k=(XW.eraseIdx k).C;rw[List.eraseIdxIfInBounds_toArray]
 .have:=Zn5 xs k
  lia
def mX:(V->List V->Hp->VK->Prop):=λx vs H Q=>∃l xs,x=.ref l/\vs=[]/\H l=some (.lst xs)/\Q .non (upd H l<|.lst xs.reverse)
def Zh7:Lc X "list.reverse" mX:=by
 intro pins s σ H x vs v us Q I rx rv h;let(l,xs,rfl,rfl,hH,q):=h;cases rx;let hus:=rv.zero
 subst hus;let(z,XW,n,r,hl,e):=I.lstM hH;show Ju F.slot_list_reverse {_,e,Z} F.entry_list_reverse (F.args_list_reverse_1 _) (AutoSeq1.list_reverse_list_0 l XW.C n<|by rw[Yb];omega) {e,?_};exists .non,_,I.lset (its':=XW.reverse) hH e B r.reverse ?_,Z,q;rw[YK];lia
inductive rCat(x:V)(y:V)(H:Hp)(Q:VK):Prop
 |mk (l b xs zs:_) (_:x=.ref l) (_:y=.ref b) (_:H l=some (.lst xs)) (_:H b=some (.lst zs)) (_:xs.f+zs.f<=sizeLine) (_:∀p,H p=none->Q ↑p (upd H p<|.lst<|xs++zs))
def Lb:Wu X (binaryOp .Add) rCat:=by
 intro pins s σ H x y v u Q I rx ry h;let(l,b,xs,zs,rfl,rfl,hH,hB,hz,q):=h;cases rx;cases ry;let(z,XW,n,r,hl,e):=I.lstM hH;let(z2,Vh,n2,r2,Vj,e2):=I.lstM hB;show PySem.P.add_list e e2 ?_ (by rw[Yb,Yb];omega);let ea:XW.C++Vh.C=(XW++Vh).C:=B
 rw[ea];exists .ref _,_,I.lnew (t':=s.toks) (r.append r2) (by rw[Xt];omega),Z,q _ I.fresh
def mW:(R2):=λx y H Q=>∃l k xs,x=.ref l/\y=.int k/\H l=some (.lst xs)/\-(2^63)<=k/\k<2^63/\xs.f*k.j<=sizeLine/\
 ∀p,H p=none->Q ↑p (upd H p<|.lst (List.replicate k.j xs).flatten)
def mV{α:Type}(xs:List α)(k:Nat):(List.replicate k xs).flatten.f=k*xs.f:=by
 induction k with
 |zero=>simp
 |succ k ih=>rw[HV,LH,Xt,ih,Nat.succ_mul,Nat.add_comm]
def Jj:Wu X (binaryOp .Mult) mW:=by
 intro pins s σ H x y v u Q I rx ry h;let(l,k,xs,rfl,rfl,hH,h1,h2,hz,q):=h;cases rx;let(t,rfl):=ry;let(z,XW,n,r,hl,e):=I.lstM hH;let hlen:XW.C.t*k.j<=sizeLine:=by rwa[Yb,<-hl]
 let mU:¬XW.C.t*k.j>(2^63-1)/8:=by
  have:(sizeLine:Nat)<=(2^63-1)/8:=oY
  grind
 let mT:¬(!Builtin.List.listFitsIndex k)=true:=by rw[fitsIndex_both h1 h2];show YH
 let Oj:¬Builtin.List.listTooLong (XW.C.t*k.j)=true:=by rw[Zf7 hlen];show YH
 let Qc:List.foldl (λx1 x2=>x1++x2) #[] (List.replicate (if XW.C.isEmpty=true then 0 else k.j) XW.C)=(List.replicate k.j XW).flatten.C:=by
  let f0:∀m:Nat,List.foldl (λx1 x2=>x1++x2) #[] (List.replicate m XW.C)=(List.replicate m XW).flatten.C:=λm=>by
   have:=ZD5 XW m []
   rwa[ON]at this
  rw[f0];cases XW with
  |nil=>simp
  |cons a r'=>rw[if_neg B]
 show wpAny_binaryOp_repeat_ref (T:="list") (U:="int") oY {_,e,Z} (λs'=>typeIs_int s' k t) noFill_list_mul F.fills_int_mul F.slot_int_rmul repeat_list F.slot_int_index.Y
  (Ju F.slot_int_rmul (typeIs_int s k t) F.entry_int_rmul (F.args_int_rmul_2 _ _) (int___rmul___int_list k t l XW.C n)
   {e,Z,{_,e,Z},Ju F.slot_list_mul {_,e,Z} F.entry_list_mul (F.args_list_mul_2 _ _) (AutoListH.list___mul___list_int_3 l XW.C n k t mT mU Oj) {e,?_}})
 rw[Qc];exists .ref _,_,I.lnew (t':=s.toks) (r.rep k.j) (by rwa[mV,uo]),Z,q _ I.fresh
end
section
variable{κ:Type}[DecidableEq κ]
def Wh(kvs:List (κ×V))(k:κ):(Option V):=(kvs.find? λkv=>decide<|kv.1=k).R (·.2)
def putK(kvs:List (κ×V))(k:κ)(v:V):(List (κ×V)):=
 if (kvs.any λkv=>decide<|kv.1=k)=true then kvs.R (λkv=>if kv.1=k then (kv.1,v) else kv) else kvs++[(k,v)]
def tL{p:κ×V}{r:List (κ×V)}(e:p.1=k):Wh (p::r) k=some p.2:=by simp[Wh,EI,e]
def tK{p:κ×V}(e:¬p.1=k):Wh (p::r) k=Wh r k:=by simp[Wh,EI,e]
def mS(k:κ):∀kvs:List (κ×V),(kvs.any λkv=>decide (kv.1=k))=(Wh kvs k).isSome
 |[]=>rfl
 |p::r=>by
  rw[RB];cases e:p.1=k
  .simp only[tL e,Yq e,Bool.true_or,Option.isSome_some]
  .rw[tK e,Sz e,Bool.false_or];show mS k r
def mR(kvs:List (κ×V))(k:κ)(v:V):(putK kvs k v).f<=kvs.f+1:=by
 unfold putK;split
 .rw[Yc];lia
 .rw[Xt,YG,Jz];lia
def mQ{kvs:List (κ×V)}{k:κ}(v:V)(h:Wh kvs k=none):putK kvs k v=kvs++[(k,v)]:=by unfold putK;rw[mS,h];show if_neg oY
def RelO.isSome_eq(r:RelO o u):o.isSome=u.isSome:=by
 cases o with
 |none=>cases u with
  |none=>rfl
  |some _=>show(show False from r).elim
 |some _=>cases u with
  |none=>show(show False from r).elim
  |some _=>rfl
def KV.val(r:KV kvs vs)(k:κ):RelO (Wh kvs k) (valueAt vs k):=by
 unfold KV at r
 induction r with
 |nil=>show True.intro
 |@cons p q ps qs h t ih=>
  let(h1,h2):=h;cases e:p.1=k
  .let e':q.1=k:=h1.symm.m e;let b:valueAt (q::qs) k=some q.2:=by simp[valueAt,EI,e']
   rwa[tL e,b]
  .let e':¬q.1=k:=λz=>e (h1.m z);let b:valueAt (q::qs) k=valueAt qs k:=by simp[valueAt,EI,e']
   rwa[tK e,b]
def KV.any(r:KV kvs vs)(k:κ):(kvs.any λkv=>decide (kv.1=k))=vs.any λkv=>decide (kv.1=k):=by
 unfold KV at r
 induction r with
 |nil=>rfl
 |cons h t ih=>rw[RB,RB,ih,h.1]
def KV.repl(r:KV kvs vs)(k:κ)(ry:RelV y u):
  KV (kvs.R λkv=>if kv.1=k then (kv.1,y) else kv) (vs.R λkv=>if kv.1=k then (kv.1,u) else kv):=by
 unfold KV at r ⊢
 induction r with
 |nil=>show .nil
 |@cons p q ps qs h t ih=>
  rw[Ur,Ur];show .cons ?_ ih;let(h1,h2):=h;cases e:p.1=k
  .rw[if_pos e,if_pos (h1.symm.m e)];exists h1,ry
  .rw[if_neg e,if_neg λz=>e (h1.m z)];exists h1,h2
def KV.put(r:KV kvs vs)(k:κ)(ry:RelV y u):KV (putK kvs k y) (stored vs k u):=by
 unfold putK stored;rw[r.any k];cases e:(vs.any λkv=>decide<|kv.1=k)=true
 .rw[if_pos e,if_pos e];show r.repl k ry
 .rw[if_neg e,if_neg e];show Paired.snoc r ⟨Z,ry⟩
def KV.length{kvs:List (κ×V)}{vs:List (κ×Value)}(r:KV kvs vs):kvs.f=vs.f:=Paired.f r
end
def He(r:RelV (kV k) u):(ZV P w).is k u=true:=by
 cases k with
 |inl i=>let(t,e):=(show ∃t,u=Value.int i t from r);subst e;show Zm6 P w i t
 |inr x=>let(t,e):=(show ∃t,u=Value.str x t from r);subst e;show Zl6 P w x t
def Zs5:∀{ks:List Key}{us:Ag},Vals (ks.R kV) us->ItemsAre (ZV P w) ks us
 |[],_,r=>by rw[uj]at r;cases r;show .nil
 |k::ks,_,r=>by
  rw[Ur]at r;cases r with
  |cons h t=>show .cons (He h) (Zs5 t)
abbrev KT(H:Hp):List (List Key×V)->List (List Key×Addr×Value)->Prop:=Paired λp q=>p.1=q.1/\H q.2.1=some (.tup<|p.1.R kV)/\RelV p.2 q.2.2
def KT.val(r:KT H kvs xs)(k:List Key):RelO (Wh kvs k) ((atKey xs k).R (·.2)):=by
 induction r with
 |nil=>show True.intro
 |@cons p q ps qs h t ih=>
  let(h1,_,h2):=h;cases e:p.1=k
  .let e':q.1=k:=h1.symm.m e;let b:atKey (q::qs) k=some q.2:=by simp[atKey,EI,e']
   rwa[tL e,b]
  .let e':¬q.1=k:=λz=>e (h1.m z);let b:atKey (q::qs) k=atKey qs k:=by simp[atKey,EI,e']
   rwa[tK e,b]
def KT.repl(r:KT H kvs xs)(k:List Key)(ry:RelV y u):
  KT H (kvs.R λkv=>if kv.1=k then (kv.1,y) else kv) (xs.R<|putAt k u):=by
 induction r with
 |nil=>show .nil
 |@cons p q ps qs h t ih=>
  rw[Ur,Ur];show .cons ?_ ih;let(h1,h2,h3):=h;unfold putAt;cases e:p.1=k
  .rw[if_pos e,if_pos (h1.symm.m e)];exists h1,h2,ry
  .rw[if_neg e,if_neg λz=>e (h1.m z)];exists h1,h2,h3
def KT.put(r:KT H kvs xs)(k:List Key){b:Addr}(hb:H b=some (.tup (k.R kV)))(ry:RelV y u):
  KT H (putK kvs k y) (storedH xs k b u):=by
 let e:(kvs.any λkv=>decide<|kv.1=k)=(atKey xs k).isSome:=by rw[mS,(r.val k).isSome_eq,Option.isSome_map]
 unfold putK storedH;rw[e];cases q:(atKey xs k).isSome=true
 .rw[if_pos q,if_pos q];show r.repl k ry
 .rw[if_neg q,if_neg q];show Paired.snoc r ⟨Z,hb,ry⟩
def KT.keeps(r:KT H kvs xs)(ht:∀b ys,H b=some (.tup ys)->H' b=some (.tup ys)):KT H' kvs xs:=
 Paired.mapP r λ_ _ z=>{z.1,ht _ _ z.2.1,z.2.2}
section
variable{P:Program}{w:World}{H:Hp}{h:Heap}{a:Addr}
def Ji(ok:HOk P w H h)(e:Rd H a u):ObjOk P w H h a u:=e.ok ok
def mP(ok:HOk P w H h)(e:Rd H a (.dK kvs)):kvs.f<=sizeLine/\(a == sysModules)=false/\∃vs,KV kvs vs/\h.DictOf (ZV P w) a vs:=
 show ObjOk P w H h a (.dK kvs) from Ji ok e
def Qb(ok:HOk P w H h)(e:H a=some (.dK kvs)):kvs.f<=sizeLine/\(a == sysModules)=false/\∃vs,KV kvs vs/\h.DictOf (ZV P w) a vs:=mP ok (.inl e)
def BI(ok:HOk P w H h)(e:H a=some (.tup (ks.R kV))):(tupleKind (ZV P w)).is h ks a:=by let(_,XW,r,o,h1,h2,n,h3):=(show ObjOk P w H h a (.tup<|ks.R kV) from ok a _ e);exists o,XW.C,n,h1,h2,h3,by simpa using Zs5 r
def mO(ok:HOk P w H h)(e:Rd H a (.dT kvs)):kvs.f<=sizeLine/\(a == sysModules)=false/\
  ∃xs,KT H kvs xs/\h.DictOfH (tupleKind<|ZV P w) a xs:=by
 let(z,y,xs,r,o,es,ep,h1,h2,h3,h4,h5):=(show ObjOk P w H h a (.dT kvs) from Ji ok e);exists z,y,xs,r,o,es,ep,h1,h2,h3,h4,λx hx=>?_,h5;let all:∀{l:List (List Key×V)}{m:List (List Key×Addr×Value)},KT H l m->∀x∈m,(tupleKind<|ZV P w).is h x.1 x.2.1:=by
  intro l m q
  induction q with
  |nil=>intro x hx;show nomatch hx
  |@cons p q ps qs hq t ih=>
   intro x hx;rcases Yi.L hx with e|hx
   .subst e;show BI ok (by rw[<-hq.1];show hq.2.1)
   .show ih x hx
 show all r x hx
def mN(ok:HOk P w H h)(e:H a=some (.dT kvs)):kvs.f<=sizeLine/\(a == sysModules)=false/\
  ∃xs,KT H kvs xs/\h.DictOfH (tupleKind<|ZV P w) a xs:=mO ok (.inl e)
end
def DPut(H:Hp)(a:Addr)(y v:V)(H':Hp):(Prop):=
 (∃kvs k,H a=some (.dK kvs)/\y=kV k/\kvs.f<sizeLine/\H'=upd H a (.dK<|putK kvs k v))\/
 ∃kvs k b,H a=some (.dT kvs)/\y=.ref b/\H b=some (.tup<|k.R kV)/\kvs.f<sizeLine/\H'=upd H a (.dT<|putK kvs k v)
def DPut.k{H:Hp}{a:Addr}{kvs:List (Key×V)}{k:Key}{v:V}(e:H a=some (.dK kvs))(hl:kvs.f<sizeLine):DPut H a (kV k) v (upd H a (.dK (putK kvs k v))):=.inl ⟨kvs,k,e,Z,hl,Z⟩
section
variable{X:Cx}{pins:List (Addr×Obj)}{σ:St}{H:Hp}{s:Shared}{a:Addr}{y v:V}{u r:Value}{A:Around}{E:Ae}
def Inv.big(I:Inv X pins σ H s):sysModules<(~~~s):=by let h:mainGlobals<(~~~s):=(I.mod.glob.keeps I.bk).lt;show Nat.lt_trans oY h
def Hd{t':Nat}(I:Inv X pins σ H s)(mu:CO (H a))(hs:Heap.SameBut a s.G h')(he:∃q,h'.H a=some q)(new:ObjOk X.prog X.w (upd H a ob) h' a ob):
  Inv X pins σ (upd H a ob) {s with heap:=h',toks:=t'}:=
 I.write (x:=a) (e:=a) mu (.inl Z) (λb q hb z=>(hs.2 b hb).m z) he new
def BH(z:kvs.f<=sizeLine)(hd:(a == sysModules)=false)(rel:KV kvs vs)(dd:h'.DictOf (ZV P w) a vs):
  ObjOk P w H' h' a (.dK kvs):=⟨z,hd,vs,rel,dd⟩
def Zr9{Q:Unit->Shared->Prop}(hu:A.units+1<cLine)(I:Inv X pins σ H s)(g:DPut H a y v H')(ry:RelV y u)(rv:RelV v r)(h:∀s',Inv X pins σ H' s'->Q () s'):
  wpAny (model X.prog X.w) A (setItem ↑a u r) Q E s:=by
 rcases g with ⟨kvs,k,e,ey,l,eH⟩|⟨kvs,k,b,e,ey,eb,l,eH⟩
 .subst ey eH;let(z,hd,vs,rel,dd):=Qb I.hok e;let hz:vs.f<=sizeLine:=by rwa[<-rel.f]
  let hl:(putK kvs k v).f<=sizeLine:=by have:=mR kvs k v;lia
  show wpAny_setItem_pairs (hsz:=hz) (He ry) dd λh' Hc hs=>h _ ?_;let he:∃q,h'.H a=some q:=by let(q,_,_,hq,_):=Hc;exists q,hq
  show Hd I (by rw[e];show True.intro) hs he (BH hl hd (rel.put k rv) Hc)
 .subst ey eH;cases (show u=Value.ref b from ry);let(z,hd,xs,rel,dd):=mN I.hok e;let hz:xs.f<=sizeLine:=by rwa[<-Paired.f rel]
  let hl:(putK kvs k v).f<=sizeLine:=by have:=mR kvs k v;lia
  show wpAny_setItem_heap (hsz:=hz) (tupleKind_room_in1 hu) (BI I.hok eb) dd λh' Hc hs=>h _ ?_;let(q,es,ep,hq,h2,h3,h4,_,h5):=Hc;show Hd I (by rw[e];show True.intro) hs ⟨q,hq⟩ {hl,hd,_,(rel.put k eb rv).keeps λc ys ec=>?_,q,es,ep,hq,h2,h3,h4,h5};rwa[Zb (Ry ec e (λz=>nomatch z))]
end
def mM(td ty tv:TE):(TS):=λCM σ H=>tv σ H λv H1=>td σ H1 λx H2=>ty σ H2 λy H3=>∃a H4,x=.ref a/\DPut H3 a y v H4/\CM.nx σ H4
section
variable{X:Cx}{o i value:Expr}{pos pos':Pos}{td ty tv:TE}
def mL(hu:X.A.units+1<cLine)(ho:PE X o td)(hi:PE X i ty)(hv:PE X value tv)(hs:swapsWith value (some (.Subscript o i pos')) pos.line X.env=pure false):
  PS X (.Assign [.Subscript o i pos'] value pos) (mM td ty tv):=by intro pins s σ H CM I h;show wpAny_Assign_Subscript (thn (hv pins s σ H _ I h) λr s1 zz=>?_) hs;let(v,H1,I1,rv,q1):=zz;show thn (ho pins s1 σ H1 _ I1 q1) λu s2 zz=>?_;let(x,H2,I2,rx,q2):=zz;show thn (hi pins s2 σ H2 _ I2 q2) λiv s3 Xs=>?_;let(y,H3,I3,ry,a,H4,ex,g,q3):=Xs;subst ex;let rfl:u=Value.ref a:=rx;show Zr9 hu I3 g ry rv λs4 I4=>⟨σ,H4,I4,q3⟩
end
def mK(h:Heap)(hb:sysModules<h.objs.t):ObjOk P w H (h.push {cls:=.type "dict",data:=.dict #[]}) h.objs.t (.dK []):=
 {Yj _,Dn.U<|WX<|YF hb,[],.nil,Heap.DictOf.new h}
def mJ:(TE):=λ_ H Q=>∀p,H p=none->Q ↑p (upd H p<|.dK [])
section
variable{X:Cx}{pos:Pos}
def Za7:PE X (.Dict [] [] pos) mJ:=λpins s σ H Q I h=>
 wpAny_Dict_empty {.ref (~~~s),_,I.laid (a:=(~~~s)) (o:=.dK []) (t':=s.toks) (λ_ _ q=>WY _ q) (XJ _)<|mK s.G I.big,Z,h _<|I.hok.fresh<|XJ _}
end
structure M1(X:Cx)(o:Expr)(m:Str)(apos:Pos)(e:Expr)(WO:Pos):Prop where
 base:attributeBase o m X.env (eval o X.env)=eval o X.env
 few:((backTo WO<|starEach [e] X.env).all (λx=>!x.1)&&(backToKw WO<|keywordEach [] X.env).all (λx=>x.1.isSome)
  && decide (([e]:List Expr).f+([]:List Keyword).f+(if ([]:List Keyword).isEmpty then 0 else 1)<30))=true
 line:(apos.endLine == WO.line)=true
 trees:backTo WO (starEach [e] X.env)=[(false,eval e X.env)]
structure M2(X:Cx)(o:Expr)(m:Str)(apos:Pos)(e f:Expr)(WO:Pos):Prop where
 base:attributeBase o m X.env (eval o X.env)=eval o X.env
 few:((backTo WO<|starEach [e,f] X.env).all (λx=>!x.1)&&(backToKw WO<|keywordEach [] X.env).all (λx=>x.1.isSome)
  && decide (([e,f]:List Expr).f+([]:List Keyword).f+(if ([]:List Keyword).isEmpty then 0 else 1)<30))=true
 line:(apos.endLine == WO.line)=true
 trees:backTo WO (starEach [e,f] X.env)=[(false,eval e X.env),(false,eval f X.env)]
end L2
namespace Att
open PySem PySem.W PySem.Calls PyProof.Rows
def mI:∀(ns:Ac)(vs:Ag),WellAll P h vs (ns.R WData.int)->IntsAre vs ns:=by
 intro ns
 induction ns with
 |nil=>
  intro vs w;rw[uj]at w;cases w;show .nil
 |cons n ns ih=>
  intro vs w;rw[Ur]at w;cases w with
  |cons a b=>
   cases a;show .cons _ _ (ih _ b)
def Yz8{l:OpenLaw}{n:Nat}(hn:l.most=some n) 
  (La:l.row.toRowW.claim.pre args=true)(KZ:WellAll P h vals args):
  ∃a vs ns,vals=[Value.ref a]/\args=[WData.list (ns.R WData.int)]/\h.H a=some {cls:=.type "list",data:=.seq vs.C}/\IntsAre vs ns/\ns.f<=n:=by
 let hsh:WShape.hasAll [] args [.list .int]=true:=(pre_splitW La).1;let hc:l.pre.holds [] {args:=args}=true:=(pre_splitW La).2
 let(d,r,rfl,h1,h2):=hasAllW_cons hsh;let rfl:=hasAllW_nil h2;let(xs,rfl,h3):=hasW_list h1;let(ns,rfl):=items_int h3;let hlen:ns.f<=n:=by
  unfold OpenLaw.pre at hc;let h4:(WTm.not<|.lt (.lit<|.int (n:Int))<|.len<|.arg 0).holds [] {args:=[.list (ns.R .int)]}=true:=by let h4:=(holds_andW hc).1;rwa[hn]at h4
  let h5:=condW_of h4 (w_not<|w_lt w_lit<|w_len_list<|w_arg Z);rw[Yc]at h5;show uP λq=>?_;let q':(n:Int)<((ns.f:Nat):Int):=oW
  first
   | (rw[Yq q']at h5;show absurd h5 oY)
   | (simp at h5;omega)
 cases KZ with
 |cons w1 w2=>
  cases w2;cases w1 with
  |list ho UC=>exists _,_,ns,Z,Z,ho,mI ns _ UC,hlen
def ZH8(l:OpenLaw)(args:List WData):l.row.toRowW.claim.post args (.bool true) args=true:=
 postW_of (r:=l.row.toRowW) (X:=(true == true))
  (show WShape.has [] (.bool true) .bool=true by first|rfl|decide|simp[WShape.has,WShape.arms,WShape.armsAll])
  (show(WTm.eq .res<|.lit<|.bool true).value [] {args:=args,res:=some<|.bool true,after:=args}=some (.bool<|true == true) from w_eq_bool (w_res Z) w_lit) rfl
def Sl{l:OpenLaw}{n:Nat}{XP:Af->Heap->Prop}{YP:World->Heap->Prop} 
  (hn:l.most=some n)(mH:d.params.defaults=[])
  (call:∀(w:World)(s₀ s₁:Shared)(mg mb:Af)(fa:Addr)(o:Obj)(pm cd doc:Value)(a:Addr)(vs:Ag)(ns:Ac),
   Ground q loose [] XP w s₀ mg mb s₁.G->YP w s₁.G->
   s₁.G.H fa=some o->o.data=.func (docDef d.name d.params d.body d.scope pm cd doc)->s₁.G.CodeRec cd d.name->mg d.name=some ↑fa->
   s₁.G.H a=some {cls:=.type "list",data:=.seq vs.C}->IntsAre vs ns->ns.f<=n->s₁.gens=#[]->
   codeAny (model l.prog w) callerA (.call ↑fa {[.ref a],[]}) (λr s'=>r=.ok (.ret<|.bool true)/\OldK s₁.G s'.G/\s'.os=s₁.os/\AllBare s'.gens) s₁):
  WalkO q loose XP YP l.row.toRowW d [] (λf vs=>PySem.call f vs):=by intro w s₀ s₁ mg mb G Y fa o pm cd doc dV kV ho hd RW hD BG hg args vals as La hlay hrd KZ Mm;let rfl:dV=.none:=Dflts.none hD mH;let rfl:kV=.none:=Dflts.noKw hD;let(a,vs,ns,rfl,rfl,Hb,hints,hlen):=Yz8 hn La KZ;show enter_call (Jy (call w s₀ s₁ mg mb fa o pm cd doc a vs ns G Y ho (fd_plain hd) RW BG Hb hints hlen hg) λr s' hq=>?_);let(rfl,h2,h3,h4):=hq;exists .inl {.bool true,.bool true,[],Z,λ_=>rfl,.bool true,ZH8 l _,λ_=>{List.E.nil,λ_ hm=>(nomatch hm)}},h2,h3,h4
section
def ZM15(h:Heap)(L d:Addr):(List (Addr×Obj)):=(List.range h.objs.t).filterMap λa=>if a=L\/a=d then none else (h.H a).R λo=>(a,o)
end
end Att
namespace L2
open PySem PySem.Spec PyProof.Rows
def Zq8{vs:Ag}{ns:Ac}(h:IntsAre vs ns):Vals (ns.R V.int) vs:=by
 induction h with
 |nil=>show .nil
 |cons n t h ih=>show .cons ⟨t,Z⟩ ih
abbrev Jh{K:Ad}{h:Heap}(_:K.In h):Ad:=K
def Jg(s:Stmt)(j:Nat):(Stmt):=match s with
 | .ClassDef _ _ _ body _ _ _ _ _ _ _=>body.S j (.Pass ⟨0,0,0,0⟩)
 |_=>.Pass ⟨0,0,0,0⟩
def Jf(s:Stmt):(Arguments):=match s with
 | .FunctionDef _ a _ _ _ _ _ _ _ _=>a
 |_=>{posonlyargs:=[],args:=[],vararg:=none,kwonlyargs:=[],kw_defaults:=[],kwarg:=none,defaults:=[]}
def Qa(s:Stmt):(List Stmt):=match s with
 | .FunctionDef _ _ b _ _ _ _ _ _ _=>b
 |_=>[]
def Xd(s:Stmt):(Scope):=match s with
 | .FunctionDef _ _ _ _ _ _ sc _ _ _=>sc
 |_=>{kind:=.function,names:=[],isGenerator:=false,isCoroutine:=false}
abbrev Xi:Pg:=λ_ _ _ _ _ _=>False
abbrev E0:XK:=λ_ _ _=>False
def Zt:Eu Xi X E0:=λ_ _ _ _ _ _ _ h=>h.elim
structure Fun(K:Ad)(x qual:Str)(st:Stmt)(f:Addr)(fd:FuncData):Prop where
 ex:∃(oc:Value)(od:Option Addr)(kV doc pm:Value)(an:Option Addr)(Xv ct:Value)(SK:Array (Option Value)),
  fd=PySem.W.fnOf x qual (Jf st) (Qa st) (Xd st) .none kV doc pm an Xv ct/\K.Y f=some {oc,od,.func fd,SK}/\PySem.W.codeIn K Xv qual=true
 kp:PySem.W.keepIn K ↑f=true
section
variable{P:Program}{w:World}{K:Ad}{mg:Af}{base:Heap}
def Fun.ok{x qual:Str}{st:Stmt}{f:Addr}{fd:FuncData}{N ps:List Str}{k:Nat}{sp:Sp}(F:Fun K x qual st f fd)(S:FnScope N ps (Xd st))(len:∀vs H Q E,sp vs H Q E->vs.f=ps.f)
  (Vv:∀(Xv:Value)(A:Around)(outer:List Env)(s:Shared)(H:Hp)(vs:List V)(Q:VK)(E:XK),Room k (A.deeper<|envOfC qual (Xd st) (~~~s) f Xv)->sp vs H Q E->
   ∃t,PSs (Te Xi P w K mg base N qual (Xd st) f Xv A outer s H E).nox (Qa st) t/\t {nx:=λ_ H'=>Q .non H',rt:=Q} (start N vs) H):FnOk P w K mg base Xi (k+1) f fd ps sp:=by let(oc,od,kV,doc,pm,an,Xv,ct,SK,rfl,lk,RW):=F.ex;show BY lk RW S len λA outer s H vs Q E hr RT=>?_;let(t,h,q):=Vv Xv A outer s H vs Q E hr RT;exists t,h.nox,q
def Fun.binds{x qual:Str}{st:Stmt}{f:Addr}{fd:FuncData}{ps:List Str}(F:Fun K x qual st f fd)
  (h:∀(kV doc pm:Value)(an:Option Addr)(Xv ct:Value)(us:Ag),us.f=ps.f->bindArgs (PySem.W.fnOf x qual (Jf st) (Qa st) (Xd st) .none kV doc pm an Xv ct) {us,[]}=pure (ps.zip us)):Binds K fd ps []:=by let(oc,od,kV,doc,pm,an,Xv,ct,SK,rfl,lk,RW):=F.ex;show .all (h kV doc pm an Xv ct)
def tJ{x qual:Str}{st:Stmt}{f:Addr}{oc:Value}{od an:Option Addr}{SK:Array (Option Value)}{kV doc pm Xv ct:Value}(l:K.Y f=some {oc,od,.func (PySem.W.fnOf x qual (Jf st) (Qa st) (Xd st) .none kV doc pm an Xv ct),SK})
  (c:PySem.W.codeIn K Xv qual=true)(k:PySem.W.keepIn K ↑f=true):Fun K x qual st f (PySem.W.fnOf x qual (Jf st) (Qa st) (Xd st) .none kV doc pm an Xv ct):={⟨oc,od,kV,doc,pm,an,Xv,ct,SK,Z,l,c⟩,k}
end
def mG(hr:Room k A):A.units+1<cLine:=Dk (Nat.add_le_add_left (by decide:1<=64) _) hr.units
section
variable{X:Cx}
def pv(i:Nat){x:Str}{pos:Pos}(hN:X.N[i]?=some x:=by rfl)(hv:oV X.env.scope x:=by first|show Or.inl rfl|show Or.inr (Or.inl rfl)|show Or.inr<|Or.inr rfl)(hd:(x == ("__debug__":Str))=false:=by decide)
  (RW:(x == ("__classdict__":Str))=false:=by decide):PE X (.Name x pos) (tVar i):=Zal hN hv hd RW
end
def UB{A CL:Prop}(h:CL):if false=true then A else CL:=by rwa[if_neg YH]
def UA{A CL:Prop}(h:A):if true=true then A else CL:=by rwa[if_pos Z]
def BF{c A CL:Prop}[Decidable c](h1:c->A)(h2:¬c->CL):if c then A else CL:=by
 cases h:c
 .rw[if_pos h];show h1 h
 .rw[if_neg h];show h2 h
def Same(H H':Hp):(Prop):=∀b o,H b=some o->H' b=some o
def Same.refl(H:Hp):Same H H:=λ_ _ h=>h
def Same.trans{H H1 H2:Hp}(a:Same H H1)(b:Same H1 H2):Same H H2:=λc o h=>b c o (a c o h)
def Same.free(e:Same H H'){l:Addr}(h:H' l=Option.none):H l=Option.none:=by
 cases q:H l with
 |none=>rfl
 |some o=>
  rw[e l o q]at h;cases h
def Same.seq{K:Ad}{H H':Hp}{a:Addr}{xs:List V}(e:Same H H')(h:SqL K H a xs):SqL K H' a xs:=by
 rcases h with (h|⟨o,h⟩)|h
 .show .inl (.inl<|e _ _ h)
 .show .inl (.inr {o,e _ _ h})
 .show .inr h
def BE(X:Cx)(ifs:List Expr)(t:TT):(Prop):=
 ∀pins s σ H Q,Inv X pins σ H s->t σ H Q->
  wpAny (model X.prog X.w) X.A (forIn ifs true λc r=>if r=true then do let ok <-isTrue c X.env (eval c X.env);pure (ForInStep.yield ok) else pure (ForInStep.yield r)) (TP X pins σ Q) X.xe s
def tYes:(TT):=λ_ H Q=>Q true H
def QL:BE X [] tYes:=λ_ _ _ H _ I h=>wpAny_tests_nil ⟨H,I,h⟩
def ZR(hc:PT X c t):BE X [c] t:=λpins s σ H Q I h=>wpAny_tests_one (hc pins s σ H Q I h)
def ZM4{R:Result->Shared->Prop}{elt target iter:Expr}{scope:Scope}{pos:Pos}{it acc:Value}(AP:Nat->Shared->Prop)
  (turn:∀n s,AP n s->wpAny (model prog w) A (pyNext it) (λr s1=>match r with
   |none=>R (.ok .next) s1
   |some v=>wpAny (model prog w) A (letOwnedTupleGo target it v) (λ_ s2=>wpAny (model prog w) A (assign target env v) (λ_ s3=>
     wpAny (model prog w) A (forIn ifs true λc r=>if r=true then do let ok <-isTrue c env (eval c env);pure (ForInStep.yield ok) else pure (ForInStep.yield r)) (λok s4=>
      if ok=true then wpAny (model prog w) A (eval elt env) (λx s5=>
       wpAny (model prog w) A (call (.builtin "list.append") [acc,x]) (λ_ s6=>∃m,m<n/\AP m s6) (λ_ _=>False) s5) (λ_ _=>False) s4
      else ∃m,m<n/\AP m s4) (λ_ _=>False) s3) (λ_ _=>False) s2) (λ_ _=>False) s1) (λ_ _=>False) s)
  (n:Nat)(h:AP n s):codeAny (model prog w) A (.compLoop (.ListComp elt [⟨target,iter,ifs,0⟩] scope pos) 0 it acc env) R s:=by
 show codeAny_loop Z AP (λn s hI=>?_) n h;change wpAny _ A ((compTurn (.ListComp elt [⟨target,iter,ifs,0⟩] scope pos) 0 it acc env).onRaise λx=>do noteFrame x env;theTreesLotGoes x) _ _ s
 show wpAny_noted ?_;rw[compTurn_list];show XU (wpAny_standAt<|XU<|RX (turn n s hI) (λr s1 h1=>?_) λ_ _ z=>z.elim);cases r with
 |none=>show Yn h1
 |some v=>
  show XU (RX h1 (λ_ s2 h2=>?_) λ_ _ z=>z.elim);show XU (RX h2 (λ_ s3 h3=>XU<|RX h3 (λok s4 h4=>?_) λ_ _ z=>z.elim) λ_ _ z=>z.elim);cases ok with
  |false=>show Yn ⟨Z,h4⟩
  |true=>
   show XU (XU<|RX h4 (λx s5 h5=>XU<|RX h5 (λ_ s6 h6=>Yn<|Yn ⟨Z,h6⟩) λ_ _ z=>z.elim) λ_ _ z=>z.elim)
def QK(cells:List (Str×Addr)):(List (Str×NameKind)->List (Str×Addr)->List (Str×Addr))
 |[],acc=>acc
 | (n,k)::r,acc=>if k == .free then QK cells r ((n,(cells.Y n).S 0)::acc) else QK cells r acc
def Zl4:∀names acc,(∀y∈names,y.2=.free->∃c,env.cells.Y y.1=some c)->
  (forIn names acc λ(x:Str×NameKind) (cs:List (Str×Addr))=>(if (x.2 == .free)=true then do let a <-cellOf env x.1;pure (ForInStep.yield<|(x.1,a)::cs) else pure (ForInStep.yield cs):Sem (ForInStep<|List<|Str×Addr)))=pure (QK env.cells names acc)
 |[],acc,_=>rfl
 | (n,k)::r,acc,h=>by
  let ih:=λacc=>Zl4 r acc λy hy=>h y (Yh _ hy);rw[List.forIn_cons];unfold QK;cases hk:(k == NameKind.free)=true
  .let⟨c,hc⟩:=h (n,k) Yd (by simpa using hk);let e:cellOf env n=pure c:=by unfold cellOf;rw[show env.cells.Y n=some c from hc]
   simp only[hk,Hu,e,pure_bind];rw[ih,show env.cells.Y n=some c from hc];rfl
  .simp only[hk,QT,Vw,pure_bind];show ih acc
def Zg8(h:∀y∈scope.names,y.2=.free->∃c,env.cells.Y y.1=some c):closureFor scope env=pure (QK env.cells scope.names []):=by let e:=Zl4 scope.names [] h;unfold closureFor;simp only[bind_pure]at e ⊢;show e
def mF{env:Env}:∀names acc,(∀y∈names,y.2=.free->∃c,env.cells.Y y.1=some c)->(∀x c,acc.Y x=some c->env.cells.Y x=some c)->
  ∀x c,(QK env.cells names acc).Y x=some c->env.cells.Y x=some c
 |[],acc,_,ha,x,c,e=>ha x c e
 | (n,k)::r,acc,h,ha,x,c,e=>by
  unfold QK at e;cases hk:(k == NameKind.free)=true
  .rw[if_pos hk]at e;let(d,hd):=h (n,k) Yd (by simpa using hk);show mF r _ (λy hy=>h y<|Yh _ hy) (λy b q=>?_) x c e;rw[JB]at q;cases hy:(y == n)=true
   .rw[hy]at q;let Ha:y=n:=by simpa using hy
    let Mq:env.cells.Y n=some d:=hd;rw[Mq]at q;let q':d=b:=Ye q
    rw[Ha,Mq,q']
   .let Ha:(y == n)=false:=by simpa using hy
    rw[Ha]at q;show ha y b q
  .rw[if_neg hk]at e;show mF r acc (λy hy=>h y<|Yh _ hy) ha x c e
def mE:∀names acc x,(acc.Y x).isSome=true->((QK cells names acc).Y x).isSome=true
 |[],_,_,h=>h
 | (n,k)::r,acc,x,h=>by
  unfold QK;cases hk:(k == NameKind.free)=true
  .rw[if_pos hk];show mE r _ x ?_;rw[JB];cases hx:(x == n)=true
   .rw[hx];rfl
   .let Xl:(x == n)=false:=by simpa using hx
    rwa[Xl]
  .rw[if_neg hk];show mE r acc x h
def tI:∀names acc x,(x,NameKind.free)∈names->((QK cells names acc).Y x).isSome=true
 |[],_,_,h=>nomatch h
 | (n,k)::r,acc,x,h=>by
  unfold QK;rcases Yi.L h with e|h
  .cases e;rw[if_pos o3];show mE r _ _ ?_;rw[JB];simp
  .cases hk:(k == NameKind.free)=true
   .rw[if_pos hk];show tI r _ x h
   .rw[if_neg hk];show tI r _ x h
def tH{env:Env}:∀{names:List (Str×NameKind)}{x:Str}{k:NameKind},(names.R λ(n,k)=>if (k == NameKind.free&&env.scope.kind == .function&&env.kindOf n == some .cell) then (n,NameKind.cell) else (n,k)).Y x=some k->
  (k=.cell\/k=.free)->(x,NameKind.free)∈names\/(x,NameKind.cell)∈names
 |[],_,_,h,_=>by simp at h
 | (n,q)::r,x,k,h,hk=>by
  let h':List.Y x ((if (q == NameKind.free&&env.scope.kind == .function&&env.kindOf n == some .cell)=true then (n,NameKind.cell) else (n,q))::r.R λ(n,k)=>if (k == NameKind.free&&env.scope.kind == .function&&env.kindOf n == some .cell) then (n,NameKind.cell) else (n,k))=some k:=h;cases hc:(q == NameKind.free&&env.scope.kind == .function&&env.kindOf n == some .cell)=true
  .rw[if_pos hc,JB]at h';let hq:q=.free:=by simp only[HQ,Qh]at hc;show hc.1.1
   cases hx:(x == n)=true
   .let Xl:x=n:=by simpa using hx
    subst Xl;subst hq;show .inl Yd
   .let Xl:(x == n)=false:=by simpa using hx
    rw[Xl]at h';rcases tH (env:=env) h' hk with z|z
    .show .inl (Yh _ z)
    .show .inr (Yh _ z)
  .rw[if_neg hc,JB]at h';cases hx:(x == n)=true
   .rw[hx]at h';let Xl:x=n:=by simpa using hx
    subst Xl;let e:q=k:=Ye h'
    subst e;rcases hk with rfl|rfl
    .show .inr Yd
    .show .inl Yd
   .let Xl:(x == n)=false:=by simpa using hx
    rw[Xl]at h';rcases tH (env:=env) h' hk with z|z
    .show .inl (Yh _ z)
    .show .inr (Yh _ z)
def GZ{env:Env}:∀{names:List (Str×NameKind)}{x:Str},names.Y x=some .free->
  (names.R λ(n,k)=>if (k == NameKind.free&&env.scope.kind == .function&&env.kindOf n == some .cell) then (n,NameKind.cell) else (n,k)).Y x=some .cell\/
  (names.R λ(n,k)=>if (k == NameKind.free&&env.scope.kind == .function&&env.kindOf n == some .cell) then (n,NameKind.cell) else (n,k)).Y x=some .free
 |[],_,h=>by simp at h
 | (n,q)::r,x,h=>by
  change List.Y x ((if (q == NameKind.free&&env.scope.kind == .function&&env.kindOf n == some .cell)=true then (n,NameKind.cell) else (n,q))::_)=_\/List.Y x ((if (q == NameKind.free&&env.scope.kind == .function&&env.kindOf n == some .cell)=true then (n,NameKind.cell) else (n,q))::_)=_;rw[JB]at h;cases hc:(q == NameKind.free&&env.scope.kind == .function&&env.kindOf n == some .cell)=true
  .rw[if_pos hc,JB];cases hx:(x == n)=true
   .rw[hx];show .inl rfl
   .let Xl:(x == n)=false:=by simpa using hx
    rw[Xl]at h ⊢;show GZ h
  .rw[if_neg hc,JB];cases hx:(x == n)=true
   .rw[hx]at h ⊢;show .inr h
   .let Xl:(x == n)=false:=by simpa using hx
    rw[Xl]at h ⊢;show GZ h
def TB(X:Cx)(N':List Str)(scope:Scope)(C:Addr)(s:Shared)(H:Hp)(fp:List Addr):(Cx) where
 prog:=X.prog
 w:=X.w
 K:=X.K
 mg:=X.mg
 base:=X.base
 A:=X.A
 N:=N'
 s₀:=s
 H₀:=H
 env:=compEnvC scope (QK X.env.cells scope.names []) C X.env
 outer:=X.stack
 stack:=X.stack
 ex:=fp
 fn:=λ_=>false
 calm:=X.calm
 pn:=[]
 xe:=λ_ _=>False
def σC(o:Nat)(fr:List Nat)(σ:St):(St):=List.replicate o none++fr.R λj=>(σ[j]?).join
structure CompScope(sc0:Scope)(N N':List Str)(o:Nat)(fr:List Nat)(scope:Scope):Prop where
 kind:scope.kind=.function
 nocell:(scope.names.all λy=>y.2 != .cell)=true
 loc:(scope.names.all λy=>y.2 != .local||scope.names.Y y.1 == some .local)=true
 free:(scope.names.all λy=>y.2 != .free||sc0.names.Y y.1 == some .cell||sc0.names.Y y.1 == some .free)=true
 len:N'.f=o+fr.f
 sees:((List.range fr.f).all λj=>match fr[j]? with
  |none=>false
  |some y=>match N[y]? with
   |none=>false
   |some x=>N'[o+j]? == some x&&scope.names.Y x == some .free)=true
def Je(AP:It)(g:TG)(tt:TT)(te:TE)(o:Nat)(fr:List Nat)(σ:St)(H1:Hp)(Q:VK):(Prop):=∃W:Nat->Nat->List V->Hp->Prop,(∃m,W 0 m [] H1)/\∀i m ys H,W i m ys H->
 (AP.stop i H/\ys.f<=sizeLine/\∀p,H p=none->Q ↑p (upd H p<|.lst ys))\/
 (AP.go i H/\ys.f<sizeLine/\∀x H',AP.yld i H x H'->g x (σC o fr σ) H' λσ2 H2=>tt σ2 H2 λb H3=>if b=true then te σ2 H3 λy H4=>∃m',m'<m/\W (i+1) m' (ys++[y]) H4 else ∃m',m'<m/\W (i+1) m' ys H3)
def mD(wi:TI)(g:TG)(tt:TT)(te:TE)(o:Nat)(fr:List Nat):(TE):=λσ H Q=>wi σ H λAP H1=>Je AP g tt te o fr σ H1 Q
def Oi(o:Nat)(g:TG):(Prop):=∀x ow fr H Q,ow.f=o->g x (ow++fr) H Q->g x (ow++fr) H λσ2 H2=>(∃BD,BD.f=o/\σ2=BD++fr)/\Q σ2 H2
def Zp(h:i<o):Oi o (Ln i):=λx ow fr H Q hl q=>{{ow.set i<|some x,by rw[LF];show hl,by rw[List.set_append_left _ _ J]},q}
def KY(o:Nat)(g:Hs):(Prop):=∀xs ow fr H Q,ow.f=o->g xs (ow++fr) H Q->g xs (ow++fr) H λσ2 H2=>(∃BD,BD.f=o/\σ2=BD++fr)/\Q σ2 H2
def Es:KY o gNil:=λ_ ow _ _ _ hl zz=>by let(e,q):=zz;exists e,⟨ow,hl,Z⟩,q
def Pf(h:i<o)(h2:KY o u):KY o (gCons (Ln i) u):=by
 rintro xs ow fr H Q hl ⟨v,r,rfl,q⟩;exists v,r,Z,?_;let q':u r ((ow++fr).set i (some v)) H Q:=q
 change u r ((ow++fr).set i (some v)) H _;rw[List.set_append_left _ _ oW]at q' ⊢;show h2 r (ow.set i<|some v) fr H Q (by rwa[LF]) q'
def Er{K:Ad}{o n:Nat}{u:Hs}(h:KY o u):Oi o (gTup K n u):=by rintro x ow fr H Q hl ⟨a,xs,rfl,hs,hn,q⟩;exists a,xs,Z,hs,hn,h xs ow fr H Q hl q
section
variable{X:Cx}{pins:List (Addr×Obj)}{σ:St}{H:Hp}{s:Shared}{N':List Str}{o:Nat}{fr:List Nat}{scope:Scope}{fp:List Addr}
abbrev Tz(us:Ag):Obj:={cls:=.type "list",data:=.seq us.C us.f}
def CompScope.nocell'(S:CompScope sc0 N N' o fr scope):∀y∈scope.names,y.2≠.cell:=λy hy e=>by let q:=OP.L S.nocell y hy;rw[e]at q;show absurd q oY
def CompScope.loc'(S:CompScope sc0 N N' o fr scope):∀y∈scope.names,y.2=.local->scope.names.Y y.1=some .local:=λy hy e=>by let q:=OP.L S.loc y hy;rw[e]at q;simpa using q
def CompScope.free'(S:CompScope sc0 N N' o fr scope)(hs:X.env.scope=sc0):∀y∈scope.names,y.2=.free->X.env.kindOf y.1=some .cell\/X.env.kindOf y.1=some .free:=λy hy e=>by
 let q:=OP.L S.free y hy;rw[e]at q;change X.env.scope.names.Y y.1=_\/X.env.scope.names.Y y.1=_
 rw[hs];simpa using q
def CompScope.sees'(S:CompScope sc0 N N' o fr scope):∀j y,fr[j]?=some y->∃x,N[y]?=some x/\N'[o+j]?=some x/\scope.names.Y x=some .free:=λj y e=>by
 let hj:j<fr.f:=(XF.L e).1;let q:=OP.L S.sees j (YW.U hj)
 rw[e]at q;dsimp only at q;cases ex:N[y]? with
 |none=>rw[ex]at q;cases q
 |some x=>
  rw[ex]at q;dsimp only at q;rw[HQ,Qh,Qh]at q;exists x,Z,q.1,q.2
def CompScope.cells(S:CompScope sc0 N0 N' o fr scope)(hs:X.env.scope=sc0)(I:Inv X pins σ H s):∀y∈scope.names,y.2=.free->∃c,X.env.cells.Y y.1=some c:=λy hy e=>I.ok.has y.1 (S.free' hs y hy e)
def CompScope.sub(S:CompScope sc0 N0 N' o fr scope)(hs:X.env.scope=sc0)(I:Inv X pins σ H s):∀x c,(QK X.env.cells scope.names []).Y x=some c->X.env.cells.Y x=some c:=
 mF (env:=X.env) scope.names [] (S.cells hs I) (λ_ _ z=>nomatch z)
def Inv.block(S:CompScope sc0 N0 N' o fr scope)(hs:X.env.scope=sc0)(hN:X.N=N0)(I:Inv X pins σ H s)(hf:∀b∈fp,FpOk X pins H b)(KW:∀b∈fp,b<(~~~s)){h1:Heap}{C CM:Addr}{m:Af}{t:Nat}
  (hC:(~~~s)<=C)(hD:(~~~s)<=CM)(Ml:CM≠C)
  (old:∀b ob,s.G.H b=some ob->h1.H b=some ob)(hn:h1.Ns C m)(ha:h1.H CM=some (Tz us)):Inv (TB X N' scope C s H fp) [(CM,Tz us)] (σC o fr σ) H {s with heap:=h1,toks:=t}:=by
 let sub:=S.sub hs I;let frC:∀b∈Ti X.stack,b<(~~~s):=λb hb=>by let(_,ob,ho,_):=I.stack.mem hb;show Yt ho
 show⟨{I.ok.mod,S.kind,I.ok.glob,I.ok.blt,hC,λx y c h1 h2=>I.ok.inj x y c (sub x c h1)<|sub y c h2,λx hx=>?_,λx c hfx _=>(nomatch hfx),I.ok.hd,I.ok.frames,.inl Z,λb hb=>?_,I.bs,Yl I.ok.bsz I.sz,λb ob e hb=>?_,λb hb Oh=>?_,I.stack,I.stkFree},
  rfl,I.bare,Un.kept old,{m,hn,λi x v e1 e2 e3=>?_},λx c e=>?_,I.hok.fresh hC,λx c e=>I.freeC x c<|sub x c e,λp hp=>?_,I.hok.kept old,?_⟩
 .let Xl:(relabel scope X.env).names.Y x=some .cell\/(relabel scope X.env).names.Y x=some .free:=hx;let key:(x,NameKind.free)∈scope.names:=by
   rcases Xl with z|z
   .rcases tH (env:=X.env) z (.inl rfl) with q|q
    .show q
    .show absurd Z (S.nocell' _ q)
   .rcases tH (env:=X.env) z (.inr rfl) with q|q
    .show q
    .show absurd Z (S.nocell' _ q)
  show qi.L (tI (cells:=X.env.cells) scope.names [] x key)
 .let⟨f0,f1,f2,f3,f4,f5⟩:=hf b hb;exists YF<|YD (KW b hb) hC,λx c e=>f4 x c<|sub x c e
 .let⟨f0,f1,f2,f3,f4,f5⟩:=hf b hb;rcases f3 with z|z
  .show I.ok.noex b ob e z
  .show absurd (YD (Yt e)<|Yl I.ok.bsz z) (Qi _)
 .let⟨f0,f1,f2,f3,f4,f5⟩:=hf b hb;rcases Yi.L (I.stkSub b Oh) with z|z
  .show f1 z
  .show f2 z
 .unfold σC at e2;cases hi:i<o
  .rw[Yp (by rwa[YX]),va,if_pos hi]at e2;cases e2
  .rw[Ym (by rw[YX];show Nat.not_lt.L hi),YX,Yv]at e2;cases hy:fr[i-o]? with
   |none=>rw[hy]at e2;cases e2
   |some y=>
    rw[hy]at e2;let tG:(σ[y]?).join=some v:=Ye e2
    let e3':σ[y]?=some (some v):=by
     cases q:σ[y]? with
     |none=>rw[q]at tG;cases tG
     |some z=>rw[q]at tG;show YS some tG
    let(x',s2,s1,s3):=S.sees' (i-o) y hy;rw[<-hN]at s2;rw[show o+(i-o)=i by grind]at s1;let ex:x=x':=by let e1':N'[i]?=some x:=e1;rw[e1']at s1;show Ye s1
    subst ex;let hmem:=HW s3
    let(m0,_,hl):=I.loc;let hk:=S.free' hs (x,.free) hmem rfl
    let(u,ru,lk):=hl y x v s2 e3' (by rcases hk with z|z;show .inr (.inl z);show .inr<|.inr z);exists u,ru,.inr {GZ (env:=X.env) s3,?_};let(c',WS):=qi.L (tI (cells:=X.env.cells) scope.names [] x hmem);exists c',WS,?_;rcases lk with ⟨z,_⟩|⟨_,c,e,ob,ho,hd⟩
    .rcases hk with z'|z'
     .rw[z]at z';cases z'
     .rw[z]at z';cases z'
    .let ec:c=c':=by
      have:=sub x c' WS
      rw[e]at this;show Ye this
     subst ec;exists ob,old _ _ ho,hd
 .let⟨v,ob,ho,hd⟩:=I.cell x c (sub x c e);exists v,ob,old _ _ ho,hd
 .let e:p=(CM,Tz us):=by simpa using (show p∈([]:List (Addr×Obj))++[(CM,Tz us)] from hp)
  subst e;exists ha,I.hok.fresh hD,Ml,λz=>absurd (YD (frC CM z) hD)<|Qi _,λv z=>nomatch z
 .change(σC o fr σ).f=N'.f;unfold σC;rw[Xt,YX,Yc,S.len]
def Inv.unblock(I:Inv X pins σ H s)(hf:∀b∈fp,FpOk X pins H b){σ':St}{s':Shared}(hC:(~~~s)<=C)(hD:(~~~s)<=CM)(Ml:CM≠C)
  (I':Inv (TB X N' scope C s H fp) [(CM,Tz us)] σ' H' s')(r:Vals ys us)(hz:ys.f<=sizeLine):∃oC m,s'.G.H C=some oC/\s'.G.Ns C m/\Inv X (pins++[(C,oC)]) σ (upd H' CM<|.lst ys) s':=by
 let(aD,nD,_,_,_):=I'.pin (CM,Tz us) B;let aD:s'.G.H CM=some (Tz us):=aD
 let nD:H' CM=none:=nD;let un:Un (Ti X.stack) fp H H' s.G s'.G:=I'.base
 let lt:∀b u,H b=some u->b≠CM:=λb u e=>YF (YD (I.hok.lt e) hD);let mC:Un (Ti X.stack) fp H (upd H' CM<|.lst ys) s.G s'.G:=by
  exists un.keep,un.slot,λb ob e n hx=>?_,un.there,λb xs e=>?_,λb ob u e=>?_,λb ps e=>?_
  .rw[Zb (YF<|YD (Yt e) hD)];show un.free b ob e n hx
  .rw[Zb (lt b _ e)];show un.tups b xs e
  .rw[Zb (lt b _ e)];show un.frzs b ob u e
  .let⟨more,q⟩:=un.tbls b ps e;exists more,by rwa[Zb (lt b _ e)]
 let hok:HOk X.prog X.w (upd H' CM<|.lst ys) s'.G:=λb u e=>by
  cases hb:b=CM
  .subst hb;rw[XT]at e;cases e;exists hz,us,us.f,r,aD
  .rw[Zb hb]at e;show(I'.hok b u e).stay (λc v _ q=>q) (λc q=>by rwa[Zb (WC q nD)]) λc xs q=>by rwa[Zb (WC q nD)]
 let os:s'.os=s.os:=I'.os;let AP:Inv X pins σ (upd H' CM<|.lst ys) s':=I.call' (ch:=fp) os mC hok I'.bare λb hb=>by let(f0,f1,f2,f3,f4,f5):=hf b hb;exists f3,f1,f4,f5
 let(m,hn,_):=I'.loc;let hn:s'.G.Ns C m:=hn
 let(oC,es,ep,mB,hdC,_):=id hn;exists oC,m,mB,hn,AP.pins_of λp hp=>?_;rcases Xz.L hp with z|z
 .show AP.pin p (Yk _ z)
 .let e:p=(C,oC):=by simpa using z
  subst e;let nC:H' C=none:=I'.free
  show{mB,by rw[Zb (WX Ml)];show nC,RD<|YD I.lt hC,I.nofs hC,λv z=>?_};let z':oC.data=.cell v:=z
  rw[hdC]at z';cases z'
end
section
variable{X:Cx}{N':List Str}{o:Nat}{fr:List Nat}{scope:Scope}{elt tg iter:Expr}{ifs:List Expr}{pos:Pos}{wi:TI}{g:TG}{tt:TT}{te:TE}
def BC(hc:X.calm=true)(S:CompScope sc0 N0 N' o fr scope)(hi:PI X tg iter wi)(ho:Oi o g)
  (hg:∀C s H fp,PG (TB X N' scope C s H fp) tg g)
  (ht:∀C s H fp,BE (TB X N' scope C s H fp) ifs tt)
  (he:∀C s H fp,PE (TB X N' scope C s H fp) elt te)
  (hs:∀x,foldedSetIterable iter X.env x=pure x)(Pe:X.env.scope=sc0)(BB:X.N=N0)(I:Inv X pins σ H s)(h:mD wi g tt te o fr σ H Qv)
  {use:Option (Value->Sem Unit)}{Q:Ae}{E:Ae}
  (hE:∀e s',X.xe e s'->E e s')
  (fin:∀C oC CM m H' ys s',Inv X (pins++[(C,oC)]) σ (upd H' CM<|.lst ys) s'->Qv ↑CM (upd H' CM<|.lst ys)->s'.G.Ns C m->H' C=none->C≠CM->
   C≠X.env.locals->(~~~X.s₀)<=C->(∀x c,X.env.cells.Y x=some c->c≠C)->(∀p∈X.pn++pins,p.1≠C)->compPost (model X.prog X.w) X.A E use Q ↑CM C (.ok .next) s'):
  wpAny (model X.prog X.w) X.A (comprehension (.ListComp elt [⟨tg,iter,ifs,0⟩] scope pos) scope X.env (firstIterPos [⟨tg,iter,ifs,0⟩] pos) (newList []) false (eval iter X.env) use) Q E s:=by
 show wpAny_comprehension_free (use:=use) Z hs (Zg8<|S.cells Pe I) S.kind S.loc' (RX (hi pins s σ H _ I h) (λxv s1 h1=>RX h1 (λoe s2 h2=>?_) hE) hE);let(it,fp,tn,AP,H2,rfl,I2,T,Xa,f2,W,(m0,w0),turn):=h2;let KW:∀b∈fp,b<(~~~s2):=λb hb=>by let(ob,e,_):=T.obj 0 _ Xa b hb;show Yt e
 show JC (wpAny_newFunctionEnv S.nocell' (by intro y hy;simp at hy) (λh1 GY KU=>?_) S.kind);dsimp only at GY KU ⊢;generalize mz:s2.G.push {cls:=.type "list",dict:=none,data:=.seq ([]:Ag).C}=G at GY KU ⊢;let hCe:G.objs.t=(~~~s2)+1:=by rw[<-mz,LC]
 let hC:(~~~s2)<=G.objs.t:=by rw[hCe];show TN _
 let Ml:(~~~s2)≠G.objs.t:=by rw[hCe];show YF (Mu _)
 let old:∀b ob,s2.G.H b=some ob->h1.H b=some ob:=λb ob e=>
  KU.extBut b ob (YF<|YD (Yt e) hC) (WY _<|mz▸WY _ e)
 let Vu:h1.H (~~~s2)=some (Tz []):=KU.extBut _ _ Ml (WY _<|mz▸Yr _ Z);let RQ:tn 0 h1:=T.keep _ _ _ Xa λb _ ob e=>old b ob e
 let my:∀{us:Ag}{H':Hp},(∀b∈fp,H' b=none)->∀b∈fp,FpOk (TB X N' scope G.objs.t s2 H2 fp) [((~~~s2),Tz us)] H' b:=λ{us H'} hn b hb=>by
  let(f0,f1,f3,f4,f5,f6):=f2 b hb;exists hn b hb,YF<|YD (KW b hb) hC,λz=>?_,.inl hb,λx c e=>f5 x c<|S.sub Pe I2 x c e,λp hp=>?_
  .rcases Yi.L (I2.stkSub b z) with q|q
   .show f1 q
   .show f3 q
  .let e:p=((~~~s2),Tz us):=by simpa using (show p∈([]:List (Addr×Obj))++[((~~~s2),Tz us)] from hp)
   subst e;show RD (KW b hb)
 let loop:∀s3:Shared,s3={s2 with heap:=h1,toks:=s2.toks+([]:List (Str×Value)).f}->
   codeAny (model X.prog X.w) X.A (.compLoop (.ListComp elt [⟨tg,iter,ifs,0⟩] scope pos) 0 ↑it (.ref (~~~s2))<|compEnvC scope (QK X.env.cells scope.names []) G.objs.t X.env)
    (compPost (model X.prog X.w) X.A E use Q (.ref (~~~s2)) G.objs.t) s3:=by
  rintro s3 rfl;show ZM4 (λn s'=>∃i σ' H' ys us,Inv (TB X N' scope G.objs.t s2 H2 fp) [((~~~s2),Tz us)] σ' H' s'/\σ'=σC o fr σ/\Vals ys us/\tn i s'.G/\(∀b∈fp,H' b=none)/\W i n ys H') ?_ m0
   {0,_,H2,[],[],I2.block S Pe BB f2 KW hC (XJ _) Ml old GY Vu,Z,.nil,RQ,λb hb=>(f2 b hb).1,w0}
  rintro n s' ⟨i,σ',H',ys,us,I',rfl,rv,XQ,fr',w'⟩;rcases turn i n ys H' w' with ⟨stop,hz,q⟩|⟨go,hz,step⟩
  .show thn (T.done (TB X N' scope G.objs.t s2 H2 fp) Z Z Z hc i _ s' _ H' _ I' (my fr') XQ stop) λr s4 zz=>?_;let(hr,I4):=zz;subst hr;let(oC,m,mB,hn,J4):=I2.unblock f2 hC (XJ _) Ml I4 rv hz;show fin _ oC _ m H' ys s4 J4 (q _ (I4.pin ((~~~s2),Tz us) B).2.1) hn I4.free (WX Ml) (RD<|YD I2.lt hC) (Yl I2.sz hC)
    (λx c e=>by let(v,z):=I2.cell x c e;show YF<|YD z.lt hC) λp hp=>YF (YD (Yt (I2.pin p hp).1) hC)
  .show thn (T.item (TB X N' scope G.objs.t s2 H2 fp) Z Z Z hc i _ s' _ H' _ I' (my fr') XQ go) λr s4 Xs=>?_;let(u,hr,h4):=Xs;subst hr;show thn h4 λ_ s5 Xs=>?_;let(x,H5,I5,r5,y5,WQ,nY):=Xs;let Wk:=step x H5 y5
   let mx:=ho x (List.replicate o none) (fr.R λj=>(σ[j]?).join) H5 _ (YX ..) Wk;let nX:=I5.pinned (my (us:=us) nY) (T.obj _ _ WQ)
   show thn (hg _ _ _ _ _ s5 _ H5 x u _ nX r5 mx) λ_ s6 Xs=>?_;let(σ6,H6,I6,(ow,QJ,e6),q6):=Xs;subst e6;show thn (ht _ _ _ _ _ s6 _ H6 _ I6 q6) λb s7 Xs=>?_;let(H7,I7,q7):=Xs;let back:∀{us':Ag}{σ8:St}{H8:Hp}{s8:Shared},Inv (TB X N' scope G.objs.t s2 H2 fp) ([((~~~s2),Tz us')]++Ll fp s5.G) (ow++fr.R λj=>(σ[j]?).join) H8 s8->
     Inv (TB X N' scope G.objs.t s2 H2 fp) [((~~~s2),Tz us')] (σC o fr σ) H8 s8/\tn (i+1) s8.G/\∀b∈fp,H8 b=none:=λ{us' σ8 H8 s8} I8=>by
    exists I8.unpinned.weak ?_ λj v e=>?_,T.keep _ _ _ WQ λb hb ob e=>(I8.pin (b,ob)<|Yk _<|Yk _<|tT hb e).1,λb hb=>?_
    .unfold σC;rw[Xt,Xt,YX,QJ]
    .unfold σC at e;cases hj:j<o
     .rw[Yp (by rwa[YX]),va,if_pos hj]at e;cases e
     .rw[Ym (by rw[YX];show Nat.not_lt.L hj),YX]at e;rwa[Ym (by rw[QJ];show Nat.not_lt.L hj),QJ]
    .let⟨ob,e,_⟩:=T.obj _ _ WQ b hb;show(I8.pin (b,ob)<|Yk _<|Yk _<|tT hb e).2.1
   cases b with
   |false=>
    rw[if_neg YH]at q7 ⊢;let(m',hm,w7):=q7;let(I8,st8,fr8):=back (us':=us) (σ8:=[]) I7;exists m',hm,i+1,_,H7,ys,us,I8,Z,rv,st8,fr8,w7
   |true=>
    rw[if_pos Z]at q7 ⊢;show thn (he _ _ _ _ _ s7 _ H7 _ I7 q7) λy s8 Xs=>?_;let(yv,H8,I8,r8,m',hm,w8):=Xs;let(aD,nD,_,_,_):=I8.pin ((~~~s2),Tz us) B;let aD:s8.G.H (~~~s2)=some (Tz us):=aD
    let nD:H8 (~~~s2)=none:=nD;let hul:us.f<=sizeLine:=by rw[<-rv.f];show Pl hz
    show append_at (hsz:=by change us.C.t<=sizeLine;rwa[Yb]) aD λh9 hs9 hD9=>?_;let mw:h9.H (~~~s2)=some (Tz<|us++[y]):=by
     rw[hD9];change some ({cls:=.type "list",data:=.seq (us.C.push y) (us.f+1)}:Obj)=some {cls:=.type "list",data:=.seq (us++[y]).C (us++[y]).f}
     rw[Xt,Yw,List.push_toArray]
    let I9:Inv (TB X N' scope G.objs.t s2 H2 fp) (Ll fp s5.G) (ow++fr.R λj=>(σ[j]?).join) H8 {s8 with heap:=h9}:=
     (I8.pins_of (pins':=Ll fp s5.G) λp hp=>I8.pin p<|Yk _<|Yk _ hp).turned (t':=s8.toks) (it:=(~~~s2)) (λb ob hb e=>hs9.extBut b ob hb e) nD Ml (.inr<|XJ _)
      (λx c e=>by let(v,z):=I2.cell x c (S.sub Pe I2 x c e);show YF z.lt)
      λp hp=>by let(hb,_):=Zj5 (show p∈Ll fp s5.G from by simpa[TB] using hp);show YF (KW p.1 hb)
    let I9':Inv (TB X N' scope G.objs.t s2 H2 fp) ([((~~~s2),Tz<|us++[y])]++Ll fp s5.G) (ow++fr.R λj=>(σ[j]?).join) H8 {s8 with heap:=h9}:=
     I9.pins_of λp hp=>by
      rcases Xz.L hp with z|z
      .let e:p=((~~~s2),Tz<|us++[y]):=by simpa using z
       subst e;exists mw,nD,Ml,λz=>?_,λv z=>nomatch z;let(_,ob,Og,_):=I2.stack.mem z;show Qi _ (Yt Og)
      .show I9.pin p (Yk _ z)
    let(I10,mr,mq):=back (us':=us++[y]) (σ8:=[]) I9';exists m',hm,i+1,_,H8,ys++[yv],us++[y],I10,Z,Vals.append rv<|.cons r8 .nil,mr,mq,w8
 show codeAny_compStart_list (loop _ Z) (T.self _ 0 _ _ _ RQ<|loop _ Z)
def Tc(hc:X.calm=true)(S:CompScope sc0 N0 N' o fr scope)(hi:PI X tg iter wi)(ho:Oi o g)
  (hg:∀C s H fp,PG (TB X N' scope C s H fp) tg g)
  (ht:∀C s H fp,BE (TB X N' scope C s H fp) ifs tt)
  (he:∀C s H fp,PE (TB X N' scope C s H fp) elt te)
  (hs:∀x,foldedSetIterable iter X.env x=pure x:=by intro _;rfl)(Pe:X.env.scope=sc0:=by rfl)(BB:X.N=N0:=by rfl):PE X (.ListComp elt [⟨tg,iter,ifs,0⟩] scope pos) (mD wi g tt te o fr):=by intro pins s σ H Q I h;rw[eval_ListComp];show BC hc S hi ho hg ht he hs Pe BB I h (use:=none) (λ_ _ z=>z) λC oC CM m H' ys s' AP q hn nC ml mj mi mh mf=>?_;exists m,hn,λh' Wb=>{.ref CM,upd H' CM<|.lst ys,?_,Z,q};show AP.unpinned.turned (t':=s'.toks) (it:=C) (λb ob hb e=>Wb.extBut b ob hb e) (by rwa[Zb ml]) mj (.inr mi) mh mf
def Sk{x:Str}{px:Pos}{BA:Pos}(hc:X.calm=true)(hN:X.N.Nodup)(hx:X.N[i]?=some x)(hl:X.env.kindOf x=some .local)(S:CompScope sc0 N0 N' o fr scope)(hi:PI X tg iter wi)(ho:Oi o g)
  (hg:∀C s H fp,PG (TB X N' scope C s H fp) tg g)
  (ht:∀C s H fp,BE (TB X N' scope C s H fp) ifs tt)
  (he:∀C s H fp,PE (TB X N' scope C s H fp) elt te)
  (hs:∀x,foldedSetIterable iter X.env x=pure x:=by intro _;rfl)(Pe:X.env.scope=sc0:=by rfl)(BB:X.N=N0:=by rfl)
  (hsw:swapsWith (.ListComp elt [⟨tg,iter,ifs,0⟩] scope pos) (some<|.Name x px) BA.line X.env=pure true:=by rfl):
  PS X (.Assign [.Name x px] (.ListComp elt [⟨tg,iter,ifs,0⟩] scope pos) BA) (Lm (mD wi g tt te o fr)<|Ln i):=by
 intro pins s σ H CM I h;rw[exec_Assign_Name_used _ _ _ _ hsw];show XU (wpAny_standAt<|XU ?_);change wpAny _ X.A (do let _ <-comprehension (.ListComp elt [⟨tg,iter,ifs,0⟩] scope pos) scope X.env (firstIterPos [⟨tg,iter,ifs,0⟩] pos) (newList []) false (eval iter X.env) (some<|assign (.Name x px) X.env)) _ _ s
 show XU (RX (BC (Q:=λ_ s'=>SP X pins CM .next s') hc S hi ho hg ht he hs Pe BB I h (use:=some<|assign (.Name x px) X.env) (λ_ _ z=>z) λC oC Dd m H' ys s' AP q hn nC ml mj mi mh mf=>?_) (λ_ s' hq=>Yn<|Yn hq) λ_ _ e=>e);change wpAny _ X.A (assign (.Name x px) X.env<|.ref Dd) _ _ _
 show wpAny_assign_Name (oP AP hN hx (.inl hl) (v:=.ref Dd) Z (λs2 I2=>?_)<|.inr hl);let g1:=(I2.pin (C,oC) B).1
 let g1:s2.G.H C=some oC:=g1;let n2:s2.G.Ns C m:=by
  let(oc,es,ep,e,r):=hn;let e0:=(AP.pin (C,oC) B).1
  let e0:s'.G.H C=some oC:=e0;rw[e]at e0;cases e0;exists _,es,ep,g1,r
 exists m,n2,λh' Wb=>{_,upd H' Dd<|.lst ys,?_,q};show I2.unpinned.turned (t':=s2.toks) (it:=C) (λb ob hb e=>Wb.extBut b ob hb e) (by rwa[Zb ml]) mj (.inr mi) mh mf
end
section
variable{X:Cx}
def ZD6{x y:V}{us:Ag}(r:Vals [x,y] us):∃u v,us=[u,v]/\RelV x u/\RelV y v:=by
 cases r with
 |cons a r=>
  cases r with
  |cons b r=>cases r;exists _,_,Z,a,b
def ZG:∀{ns:Ac}{us:Ag},Vals (ns.R V.int) us->IntsAre us ns
 |[],_,.nil=>.nil
 |n::ns,_,.cons r t=>by let(tk,rfl):=r;show .cons n tk (ZG t)
def me:TK X (.type "range") (λxs H Q=>∃j:Int,xs=[.int j]/\∀p,H p=none->Q ↑p (upd H p (.rng 0 j))):=by intro pins s σ H xs us Q I r h;let(j,rfl,q):=h;let(u,rfl,t,rfl):=VZ r;show call_range_1 ?_;exists .ref (~~~s),_,I.laid (o:=.rng 0 j) (λb u e=>WY _ e) (XJ _) {_,_,_,Yr _ Z},Z,q _<|I.hok.fresh<|XJ _
def Vg(lo hi:Int):(Ac):=(List.range (hi-lo).j).R λ(i:Nat)=>lo+(i:Int)
def Zi6(lo hi:Int):(Vg lo hi).f=(hi-lo).j:=by unfold Vg;rw[Yc,Mz]
def ma{lo:Int}:∀{us:Ag},us.f=n->(∀(j:Nat)(v:Value),us[j]?=some v->∃t,v=Value.int (lo+(j:Int)) t)->Vals (((List.range n).R λ(i:Nat)=>lo+(i:Int)).R V.int) us:=by
 induction n generalizing lo with
 |zero=>
  intro us h _;rw[YV.L h];show .nil
 |succ n ih=>
  intro us h hv;cases us with
  |nil=>cases h
  |cons u us=>
   rw[List.range_succ_eq_map,Ur,Ur];show .cons ?_ ?_
   .let⟨t,e⟩:=hv 0 u rfl;exists t,e
   .let q:=ih (lo:=lo+1) (us:=us) (LA h) λj v e=>by let(t,e'):=hv (j+1) v (by simpa using e);exists t,?_;rw[e'];congr 1;lia
    let e:(List.range n).R (λ(i:Nat)=>lo+1+(i:Int))=((List.range n).R Nat.succ).R (λ(i:Nat)=>lo+(i:Int)):=by
     rw[OJ];show VE λi _=>?_;change lo+1+(i:Int)=lo+((i+1:Nat):Int)
     lia
    rwa[e]at q
inductive yR1(xs:List V)(H:Hp)(Q:VK):Prop
 |mk (p lo hi:_) (_:xs=[.ref p]) (_:H p=some (.rng lo hi)) (_:(-(2^62)<=lo/\lo<2^62/\-(2^62)<=hi/\hi<2^62)) (_:(hi-lo).j<=16777216) (_:∀l,H l=none->Q ↑l (upd H l<|.lst<|(Vg lo hi).R V.int))
def l9(hc:X.calm=true):TK X (.type "list") (yR1):=by
 intro pins s σ H xs us Q I r h;let(p,lo,hi,rfl,hp,(b1,b2,b3,b4),hz,q):=h;let(u,rfl,ru):=VZ r;let rfl:u=Value.ref p:=ru;let(t,u,v,e):=(show ObjOk X.prog X.w H s.G p (.rng lo hi) from I.hok p _ hp);let hn:Builtin.Range.rangeSize lo hi 1=(((hi-lo).j:Nat):Int):=by rw[rangeSize_one];split<;>grind
 show call_list_range (I.ok.hd hc) (t:=t) (u:=u) (v:=v) e (small_one b1 b2 b3 b4) hn hz λh' tk acc c' hk hS ha=>?_;let hl:acc.l.f=(hi-lo).j:=by rw[Yx];show ha.1
 let rv:Vals ((Vg lo hi).R V.int) acc.l:=ma (lo:=lo) hl λj w ew=>by let(t,e):=ha.2 j w (by simpa using ew);exists t,by rw[e,Jw]
 exists .ref (~~~s),_,I.laid (o:=.lst<|(Vg lo hi).R V.int) hk (XJ _) {?_,acc.l,c',rv,?_},Z,q _<|I.hok.fresh<|XJ _
 .rw[Yc,Zi6]
  have:sizeLine=16777216:=TM
  lia
 .rw[hS]
def seen(ns:Ac):(Ac):=firstMet (λi=>ns.S i 0) ns.f
def l8{T:String}:TK X (.builtin "isinstance") (λxs H Q=>∃x t b,xs=[x,.ty T]/\TyOf X.K H x t/\PySem.W.kitOne X.K t (.type T)=some b/\Q (.bl b) H):=by intro pins s σ H xs us Q I r h;let(x,t,b,rfl,ty,e,q):=h;let(u,v,rfl,ru,rv):=ZD6 r;let rfl:v=Value.type T:=rv;show nI I ru ty e λtk=>{.bl b,H,I.tok tk,Z,q}
def Ep(K:Ad)(a:Addr):(It):=
 {λi H=>∃xs x,SqL K H a xs/\xs[i]?=some x,λi H v H'=>∃T x,H T=none/\v=.ref T/\H'=upd H T (.tup [.int i,x])/\∀xs,SqL K H a xs->xs[i]?=some x,λi H=>∃xs,SqL K H a xs/\xs.f<=i}
inductive xEnu(K:Ad)(vs:List V)(H1:Hp)(R:It->Hp->Prop):Prop
 |mk (a:_) (_:vs=[.ref a]) (_:∃xs,SqL K H1 a xs) (_:R (Ep K a) H1)
def Bz(K:Ad)(ta:TA):(TI):=λσ H R=>ta σ H λvs H1=>xEnu K vs H1 R
def Zs8{P:Program}{w:World}{K:Ad}{elts:List Expr}{x1:Nat}{pos:Pos}(a e it:Addr)(XM:e≠it):Turn P w K (.Tuple elts x1 pos) (Ep K a) [e,it] e (λi h=>(∃old,IsEnum h e it i old)/\h.IsListIter it a i) where
 mem:=B
 obj:=λi h st b hb=>by
  let((old,he),o,eo,c,d):=st;rcases Yi.L hb with z|hb
  .subst z;exists _,he,λv z=>by let z':Data.fields _=Data.cell v:=z;cases z'
  .let z:b=it:=by simpa using hb
   subst z;exists o,eo,λv z=>by rw[d]at z;cases z
 keep:=λi h h' st k=>by let((old,he),hit):=st;exists {old,k e B _ he},hit.at λo x=>k it B o x
 item:=by
  intro X hP hw hK hc i pins s σ H E I hf st hg;subst hP hw hK;let(xs,x,hq,hx):=hg;let((old,he),hit):=st;let(XW,rv,p,hz):=I.list hq;let(u,hu,ru):=rv.get hx;let(f0,f1,f2,f3,f4,f5):=hf e B;let(g0,g1,g2,g3,g4,g5):=hf it B;let l7:H (~~~s)=none:=I.hok.fresh (XJ _)
  show wpAny_pyNext_enum_item he hit p.isList (x:=u) (by simpa using hu) XM λh' ho l5 hT hsz hk=>?_;let Mj:∀b ob,s.G.H b=some ob->b≠(~~~s):=λb ob z=>YF (Yt z)
  let Of:∀b ob,H b=some ob->b≠(~~~s):=λb ob z=>YF (I.hok.lt z);let Mi:∀b ob,H b=some ob->b≠e/\b≠it:=λb ob z=>{λq=>(by rw[q,f0]at z;cases z),λq=>(by rw[q,g0]at z;cases z)}
  let I1:Inv X pins σ (upd H (~~~s)<|.tup [.int i,x]) {s with heap:=h',toks:=s.toks+1}:=by
   show I.step (g':=s.gens) (d':=s.drawn) (ch:=[e,it]) (λb hb=>?_) (λb o _ _ VM z _=>hk b o (λq=>VM<|by simp[q]) (λq=>VM<|by simp[q]) z) (λb o _ _ VM z _=>{o.slots,hk b o (λq=>VM<|by simp[q]) (λq=>VM<|by simp[q]) z})
    (λb o _ z n=>by rwa[Zb (Mj b o z)]) (λb o VM z=>{o,hk b o (λq=>VM<|by simp[q]) (λq=>VM<|by simp[q]) z}) (λb ys z=>by rwa[Zb (Of b _ z)]) (λb o v z=>by rwa[Zb (Of b _ z)])
    (λb ps z=>{#[],by rw[Zb (Of b _ z),z];simp}) (λm hm=>?_) (λb v z=>?_) I.bare
   .rcases Yi.L hb with q|hb
    .rw[q];exists f3,f1,f4,f5
    .let q:b=it:=by simpa using hb
     rw[q];exists g3,g1,g4,g5
   .let⟨o,es,ep,UI,r⟩:=hm;exists o,es,ep,hk _ o (WX f1) (WX g1) UI,r
   .cases hb:b=(~~~s)
    .subst hb;rw[XT]at z;cases z;exists by change 2<=sizeLine;decide,[.int i s.toks,u],.cons {_,Z}<|.cons ru .nil,{_,hT,Z,_,Z}
    .rw[Zb hb]at z;show(I.hok b v z).stay (λc w' WS q=>?_) (λc q=>by rwa[Zb (Of c _ q)]) λc ys q=>by rwa[Zb (Of c _ q)]
     rcases WS with rfl|WS
     .show hk c w' (Mi c _ z).1 (Mi c _ z).2 q
     .show hk c w' (Mi c _ WS).1 (Mi c _ WS).2 q
  exists _,Z,wpAny_letOwnedTupleGo_enum ho λh2 Oe Sn=>?_;let fT:e≠(~~~s):=Mj e _ he
  let I2:Inv X pins σ (upd H (~~~s)<|.tup [.int i,x]) {s with heap:=h2,toks:=s.toks+1}:=Inv.turned (s:={s with heap:=h',toks:=s.toks+1}) (h':=h2) (t':=s.toks+1) (it:=e) I1 (λb o hb z=>Sn.extBut b o hb z) (by rwa[Zb fT]) f1 f3 f4 f5;exists .ref (~~~s),_,I2,Z,{_,x,l7,Z,Z,λys hy=>by rwa[I.list_inj hy hq]},{{u,by simpa using Oe},l5.at λo z=>Sn.extBut it o (WX XM) z},λb hb=>?_;rcases Yi.L hb with q|hb
  .rw[q,Zb fT];show f0
  .let q:b=it:=by simpa using hb
   let(o,eo,_):=hit;rwa[q,Zb (Mj it o eo)]
 done:=by
  intro X hP hw hK hc i pins s σ H E I hf st hg;subst hP hw hK;let(xs,hq,hx):=hg;let((old,he),hit):=st;let(XW,rv,p,hz):=I.list hq;let(g0,g1,g2,g3,g4,g5):=hf it B;let hl:=rv.f
  show wpAny_pyNext_enum_end (I.ok.hd hc) he hit p.isList (by simp;lia) λh' eb=>{Z,I.turned (t':=s.toks) (it:=it) (λb o hb z=>eb b o hb z) g0 g1 g3 g4 g5}
 self:=λ_ _ _ _ _ st h=>by let((_,he),_):=st;show wpAny_pyIter_enum he h
def lZ{elts:List Expr}{x1:Nat}{Rx:Pos}{a:Expr}{ta:TA}{p pos:Pos}(hg:Gl X "enumerate")(hm:X.mg "enumerate"=none)(ha:PA X [a] ta)(hs:starEach [a] X.env=[(false,eval a X.env)]:=by rfl):
  PI X (.Tuple elts x1 Rx) (.Call (.Name "enumerate" p) [a] [] pos) (Bz X.K ta):=by
 intro pins s σ H R I h;show Call_ (Ph I hg hm Boot.«enumerate»<|HY (thn (ha pos pins s σ H _ I h) λus s1 Xs=>?_) hs Z);let(vs,H1,I1,r1,q1):=Xs;let(b,e,(xs,hq),q):=q1;subst e;let(u,rfl,ru):=VZ r1;let rfl:u=Value.ref b:=ru;let(XW,rv,pl,hz):=I1.list hq;show call_enumerate_list pl.isList λh' he hit hsz hk=>?_;let I2:Inv X pins σ H1 {s1 with heap:=h'}:=I1.kept (t':=s1.toks) hk
 show wpAny_pyIter_enum he ?_;let nn:∀k,(~~~s1)<=k->H1 k=none:=λk hk=>I1.hok.fresh hk
 exists (~~~s1)+1,[(~~~s1)+1,(~~~s1)],_,_,H1,Z,I2,Zs8 b _ _<|Nat.succ_ne_self _,{{_,he},hit},λc hc=>?_,q;let hle:(~~~s1)<=c:=by
  rcases Yi.L hc with q|hc
  .rw[q];show TN _
  .let q:c=(~~~s1):=by simpa using hc
   rw[q];show XJ _
 show I1.fpOk hle (nn c hle)
def lY{us:Ag}(r:Vals [kV k,y] us):∃u v,us=[u,v]/\RelV (kV k) u/\RelV y v:=ZD6 r
def lX:(V->List V->Hp->VK->Prop):=λx vs H Q=>∃d kvs k y,x=.ref d/\vs=[kV k,y]/\H d=some (.dK kvs)/\kvs.f<sizeLine/\(∀v,Wh kvs k=some v->Q v H)/\(Wh kvs k=none->Q y (upd H d<|.dK<|kvs++[(k,y)]))
def Ze4:Lc X "dict.setdefault" lX:=by
 intro pins s σ H x vs v us Q I rx rv h;let(d,kvs,k,y,rfl,rfl,hH,hz,h1,h2):=h;cases rx;let(uk,uy,rfl,rk,ry):=lY rv;let(z,hd,ws,rel,dd):=Qb I.hok hH;show call_meetsIn aN dd.typeIs PySem.F.entry_dict_setdefault (PySem.F.args_dict_setdefault_3 _ _ _) (kt_meets_setdefault (ZV X.prog X.w) d (He rk) hd uy)
  {ws,dd,by rw[<-rel.f];show z,λv' tR=>?_,λhn h' Hc hs=>?_}
 .cases e:Wh kvs k with
  |none=>
   let q:=rel.val k;rw[e,tR]at q;show False.elim q
  |some w'=>
   let q:=rel.val k;rw[e,tR]at q;exists w',H,I.tok _,q,h1 w' e
 .let e:Wh kvs k=none:=by
   cases e:Wh kvs k with
   |none=>rfl
   |some w'=>
    let q:=rel.val k;rw[e,hn]at q;show False.elim q
  let he:∃q,h'.H d=some q:=by let(q,_,_,hq,_):=Hc;exists q,hq
  exists y,_,Hd (ob:=.dK<|putK kvs k y) I (by rw[hH];show True.intro) hs he<|BH ?_ hd (rel.put k ry) Hc,ry,?_
  .have:=mR kvs k y;lia
  .rw[mQ y e];show h2 e
def Tx(p d:Addr):(HO):=.ext λh=>h.IsValuesView p d
def lW:(V->List V->Hp->VK->Prop):=λx vs H Q=>∃d kvs,x=.ref d/\vs=[]/\H d=some (.dK kvs)/\∀p,H p=none->Q ↑p (upd H p<|Tx p d)
def ZQ8:Lc X "dict.values" lW:=by
 intro pins s σ H x vs v us Q I rx rv h;let(d,kvs,rfl,rfl,hH,q):=h;cases rx;cases rv;let(z,hd,ws,rel,dd):=Qb I.hok hH;show call_meetsIn aw dd.typeIs PySem.F.entry_dict_values (PySem.F.args_dict_values_1 _) (meets_dict_values (ZV X.prog X.w) d hd) {⟨ws,dd⟩,?_};exists .ref (~~~s),_,I.laid (o:=Tx (~~~s) d) (λb u e=>WY _ e) (XJ _) ?_,Z,q _<|I.hok.fresh<|XJ _;let e:=Yr s.G (o:={cls:=.type "dict_values",data:=.fields #[.ref d]}) rfl
 exists {_,e,Z,Z},{_,e},λh1 h2 zz k=>by let(o,ho,r):=zz;exists o,k o ho,r
def ZI5{h:Heap}(dd:h.DictOf (ZV P w) d ws):∃ep,h.DictAt (ZV P w) d ws ep:=by let(o,es,ep,r):=dd;exists ep,o,es,r
def lT{κ:Type}{kvs:List (κ×V)}{ws:List (κ×Value)}(h:KV kvs ws):Vals (kvs.R (·.2)) (ws.R (·.2)):=by
 induction h with
 |nil=>show .nil
 |cons r t ih=>show .cons r.2 ih
def ZV3(hc:X.calm=true):TK X (.type "list") (λxs H Q=>∃p d kvs,xs=[.ref p]/\H p=some (Tx p d)/\H d=some (.dK kvs)/\∀l,H l=none->Q ↑l (upd H l (.lst (kvs.R (·.2))))):=by
 intro pins s σ H xs us Q I r h;let(p,d,kvs,rfl,hp,hd,q):=h;let(u,rfl,ru):=VZ r;let rfl:u=Value.ref p:=ru;let(hv,_,_):=(show ObjOk X.prog X.w H s.G p (Tx p d) from I.hok p _ hp);let(z,hds,ws,rel,dd):=Qb I.hok hd;let(ep,da):=ZI5 dd;let hl:ws.f=kvs.f:=rel.f.symm
 show PySem.W.kdl_call (PySem.W.kdl_values (knd:=ZV X.prog X.w) (kvs:=ws) (ep:=ep) (r:=p) (d:=d)) (I.ok.hd hc) ⟨hv,da⟩ J λh' tk acc c' hk hS ha=>?_;let ea:acc.l=ws.R (·.2):=by
  show Mv λi=>?_;cases e:acc.l[i]? with
  |none=>
   have:ws.f<=i:=by
    have:=vd.L e
    rwa[Yx,ha.1]at this
   rw[vd.U (by rwa[Yc])]
  |some v=>
   let(k,ek):=ha.2 i v (by simpa using e);rw[Yv,ek];rfl
 exists .ref (~~~s),_,I.laid (o:=.lst (kvs.R (·.2))) hk (XJ _) {by rw[Yc];show z,acc.l,c',?_,by rw[hS]},Z,q _<|I.hok.fresh<|XJ _;rw[ea];show lT rel
end
inductive EqD(K:Ad)(H:Hp):Nat->V->V->Bool->Prop
 |flat {n:Nat} {x y:V} (fx:RS x=true) (fy:RS y=true):EqD K H n x y (Ol x y)
 |lsts {n:Nat} {a b:Addr} {xs ys:List V} {e:Nat->Bool} (ha:SqL K H a xs) (hb:SqL K H b ys) (hl:xs.f=ys.f) (h:∀i x y,xs[i]?=some x->ys[i]?=some y->EqD K H n x y (e i)):EqD K H (n+1) ↑a ↑b ((List.range xs.f).all e)
 |lens {n:Nat} {a b:Addr} {xs ys:List V} (ha:SqL K H a xs) (hb:SqL K H b ys) (hl:xs.f≠ys.f):EqD K H (n+1) ↑a ↑b false
 |tups {n:Nat} {a b:Addr} {xs ys:List V} {e:Nat->Bool} (ha:SqT K H a xs) (hb:SqT K H b ys) (h:∀i x y,xs[i]?=some x->ys[i]?=some y->EqD K H n x y (e i)):
   EqD K H (n+1) ↑a ↑b ((List.range<|min xs.f ys.f).all e&&xs.f == ys.f)
def lS(h:RS x=true):Ol x x=true:=by cases x<;>first|rfl|show HR _|show absurd (show false=true from h) YH
section
variable{X:Cx}{pins:List (Addr×Obj)}{σ:St}{H:Hp}{s:Shared}
def Vals.at{j:Nat}(r:Vals xs us)(h:j<us.f):∃x,xs[j]?=some x/\RelV x us[j]:=by
 let hl:=r.f;let hx:xs[j]?=some (xs[j]'(by lia)):=Xr oW
 let(u,e,ru):=r.get hx;rw[Xr h]at e;cases e;exists _,hx,ru
def EqD.self(q:EqD X.K H n x y b)(I:Inv X pins σ H s):x=y->b=true:=by
 induction q with
 |flat fx fy=>intro e;subst e;show lS fx
 |@lsts n a b xs ys e ha hb hl h ih=>
  intro z;cases z;let e1:xs=ys:=I.list_inj ha hb
  subst e1;rw[OP];intro i hi;let hx:xs[i]?=some (xs[i]'(YW.L hi)):=Xr _
  show ih i _ _ hx hx rfl
 |@lens n a b xs ys ha hb hl=>
  intro z;cases z;show absurd (YS List.f<|I.list_inj ha hb) hl
 |@tups n a b xs ys e ha hb h ih=>
  intro z;cases z;let e1:xs=ys:=I.tuple_inj ha hb
  subst e1;rw[Nat.min_self,HQ,OP];exists λi hi=>?_,B;let hx:xs[i]?=some (xs[i]'(YW.L hi)):=Xr _
  show ih i _ _ hx hx rfl
def EqD.at(q:EqD X.K H n x y b)(I:Inv X pins σ H s):∀{A:Around}{u v:Value},A.units+n<cLine->RelV x u->RelV y v->SeqAt.EqAt A s u v b:=by
 induction q with
 |flat fx fy=>intro A u v _ ru rv;show BO ru rv fx fy
 |@lsts n a b xs ys e ha hb hl h ih=>
  intro A u v hu ru rv;let rfl:u=Value.ref a:=ru;let rfl:v=Value.ref b:=rv;cases UU:a=b
  .let z:=EqD.self (EqD.lsts ha hb hl h) I (YS V.ref UU);rw[z,UU];show SeqAt.EqAt.same _
  let(us,rx,px,_):=I.list ha;let(vs,ry,py,_):=I.list hb;let l1:=rx.f
  let l2:=ry.f;let z:=SeqAt.RcAt.lists (A:=A) (s:=s) (e:=e) px.isList py.isList (by rw[Yb,Yb];lia) J λj h1 h2=>by let(x,ex,Od):=rx.at (j:=j) (by simpa using h1);let(y,ey,Oc):=ry.at (j:=j) (by simpa using h2);show ih j x y ex ey (A:=A.in1) (by change A.units+1+n<cLine;lia) (by simpa using Od) (by simpa using Oc)
  rw[Yb,<-l1]at z;show pK UU z
 |@lens n a b xs ys ha hb hl=>
  intro A u v hu ru rv;let rfl:u=Value.ref a:=ru;let rfl:v=Value.ref b:=rv;let(us,rx,px,_):=I.list ha;let(vs,ry,py,_):=I.list hb;let l1:=rx.f
  let l2:=ry.f;let UU:a≠b:=λz=>by subst z;show hl (YS List.f<|I.list_inj ha hb)
  show pK UU (SeqAt.RcAt.lists_lengths px.isList py.isList (by rw[Yb,Yb];simp;lia) oW)
 |@tups n a b xs ys e ha hb h ih=>
  intro A u v hu ru rv;let rfl:u=Value.ref a:=ru;let rfl:v=Value.ref b:=rv;cases UU:a=b
  .let z:=EqD.self (EqD.tups ha hb h) I (YS V.ref UU);rw[z,UU];show SeqAt.EqAt.same _
  let(us,rx,px,_):=I.tuple ha;let(vs,ry,py,_):=I.tuple hb;let l1:=rx.f
  let l2:=ry.f;let z:=SeqAt.RcAt.tuples (A:=A) (s:=s) (e:=e) (show s.G.IsTuple a us.C from px) (show s.G.IsTuple b vs.C from py) oW λj h1 h2=>by let(x,ex,Od):=rx.at (j:=j) (by simpa using h1);let(y,ey,Oc):=ry.at (j:=j) (by simpa using h2);show ih j x y ex ey (A:=A.in1) (by change A.units+1+n<cLine;omega) (by simpa using Od) (by simpa using Oc)
  rw[Yb,Yb,<-l1,<-l2]at z;show pK UU z
end
section
variable{X:Cx}
inductive rEqD(K:Ad)(neg:Bool)(x:V)(y:V)(H:Hp)(Q:VK):Prop
 |mk (n b p q:_) (_:x=.ref p) (_:y=.ref q) (_:n<=6) (_:EqD K H n x y b) (_:Q (.bl<|if neg then !b else b) H)
def lR(hu:X.A.units+8<cLine):Wu X (compareOp .Eq) (rEqD X.K false):=by
 intro pins s σ H x y u v Q I ru rv h;let(n,b,p,q,rfl,rfl,hn,d,hq):=h;let rfl:u=Value.ref p:=ru;let rfl:v=Value.ref q:=rv;let fin:EP X pins σ Q (.bool b) s:={.bl b,H,I,Z,hq}
 cases d with
 |flat fx fy=>show absurd (show false=true from fx) YH
 |@lsts n _ _ xs ys e ha hb hl h=>
  let(us,rx,px,_):=I.list ha;let(vs,ry,py,_):=I.list hb;let l1:=rx.f
  let l2:=ry.f;show SeqAt.eq_listAt (e:=e) px.isList py.isList (by rw[Yb,Yb];lia) J (λj h1 h2=>?_) (by rwa[Yb,<-l1]);let(x,ex,Od):=rx.at (j:=j) (by simpa using h1);let(y,ey,Oc):=ry.at (j:=j) (by simpa using h2);show(h j x y ex ey).at I (A:=X.A.in1) (by change X.A.units+1+n<cLine;lia) (by simpa using Od) (by simpa using Oc)
 |@lens n _ _ xs ys ha hb hl=>
  let(us,rx,px,_):=I.list ha;let(vs,ry,py,_):=I.list hb;let l1:=rx.f
  let l2:=ry.f;show SeqAt.eq_list_lengthsAt px.isList py.isList (by rw[Yb,Yb];simp;lia) oW fin
 |@tups n _ _ xs ys e ha hb h=>
  let(us,rx,px,_):=I.tuple ha;let(vs,ry,py,_):=I.tuple hb;let l1:=rx.f
  let l2:=ry.f;show SeqAt.eq_tupleAt (e:=e) (show s.G.IsTuple p us.C from px) (show s.G.IsTuple q vs.C from py) oW (λj h1 h2=>?_) (by rwa[Yb,Yb,<-l1,<-l2]);let(x,ex,Od):=rx.at (j:=j) (by simpa using h1);let(y,ey,Oc):=ry.at (j:=j) (by simpa using h2);show(h j x y ex ey).at I (A:=X.A.in1) (by change X.A.units+1+n<cLine;omega) (by simpa using Od) (by simpa using Oc)
def lQ(hu:X.A.units+8<cLine):Wu X (compareOp .NotEq) (rEqD X.K true):=by
 intro pins s σ H x y u v Q I ru rv h;let(n,b,p,q,rfl,rfl,hn,d,hq):=h;let rfl:u=Value.ref p:=ru;let rfl:v=Value.ref q:=rv;let fin:EP X pins σ Q (.bool<|!b) s:={.bl<|!b,H,I,Z,hq}
 cases d with
 |flat fx fy=>show absurd (show false=true from fx) YH
 |@lsts n _ _ xs ys e ha hb hl h=>
  let(us,rx,px,_):=I.list ha;let(vs,ry,py,_):=I.list hb;let l1:=rx.f
  let l2:=ry.f;show SeqAt.RcNeAt.lists (e:=e) px.isList py.isList (by rw[Yb,Yb];omega) oW (λj h1 h2=>?_) _ _ _ _ (by rwa[Yb,<-l1]);let(x,ex,Od):=rx.at (j:=j) (by simpa using h1);let(y,ey,Oc):=ry.at (j:=j) (by simpa using h2);show(h j x y ex ey).at I (A:=X.A.in1) (by change X.A.units+1+n<cLine;omega) (by simpa using Od) (by simpa using Oc)
 |@lens n _ _ xs ys ha hb hl=>
  let(us,rx,px,_):=I.list ha;let(vs,ry,py,_):=I.list hb;let l1:=rx.f
  let l2:=ry.f;show SeqAt.RcNeAt.lists_lengths px.isList py.isList (by rw[Yb,Yb];simp;omega) oW _ _ _ _ fin
 |@tups n _ _ xs ys e ha hb h=>
  let(us,rx,px,_):=I.tuple ha;let(vs,ry,py,_):=I.tuple hb;let l1:=rx.f
  let l2:=ry.f;show SeqAt.RcNeAt.tuples (e:=e) (show s.G.IsTuple p us.C from px) (show s.G.IsTuple q vs.C from py) oW (λj h1 h2=>?_) _ _ _ _ (by rwa[Yb,Yb,<-l1,<-l2]);let(x,ex,Od):=rx.at (j:=j) (by simpa using h1);let(y,ey,Oc):=ry.at (j:=j) (by simpa using h2);show(h j x y ex ey).at I (A:=X.A.in1) (by change X.A.units+1+n<cLine;omega) (by simpa using Od) (by simpa using Oc)
end
end L2
namespace My
open PySem L2
abbrev IL(ns:Ac):List V:=ns.R V.int
def XG(ns:Ac):(IL ns).f=ns.f:=Yc ..
def tE(a b:Ac):IL (a++b)=IL a++IL b:=YN ..
def ZO(a:Ac)(r:Int):IL (a++[r])=IL a++[.int r]:=YN ..
def Jd(a:Ac)(n:Nat):IL (a.M n)=(IL a).M n:=List.map_take ..
def lP(a:Ac)(n:Nat):IL (a.drop n)=(IL a).drop n:=List.map_drop ..
def WE{i:Nat}{z:Int}(h:ns[i]?=some z):(IL ns)[i]?=some (.int z):=by rw[Yv,h];rfl
def ZT{i:Nat}{x:V}(h:(IL ns)[i]?=some x):∃z,x=.int z/\ns[i]?=some z:=by
 rw[Yv]at h;cases e:ns[i]? with
 |none=>rw[e]at h;cases h
 |some z=>rw[e]at h;exists z,(Ye h).symm,Z
def ZL{a:Addr}(hn:H a=none)(s:Same H H2):Same H (upd H2 a o):=λb u e=>by rw[Zb (WC e hn)];show s b u e
def Zv{p:Addr}(s:Same H H2)(hp:H2 p=none):Same H (upd H2 p o):=ZL (s.free hp) s
def XZ{p:Addr}(hp:H p=none):Same H (upd H p o):=Zv (Same.refl H) hp
def Jc(e:Same H H')(h:SqT K H a xs):SqT K H' a xs:=by
 rcases h with (h|⟨o,h⟩)|h
 .show .inl (.inl<|e _ _ h)
 .show .inl (.inr {o,e _ _ h})
 .show .inr h
def Pd{n:Nat}(h:n<=1000000):n<=sizeLine:=Yl h oY
def Zh{n:Nat}(h:n<=1000000):n<sizeLine:=Dk h oY
def KS(hr:Room k A):A.units+8<cLine:=Dk (Nat.add_le_add_left (by decide:8<=64) _) hr.units
def ZA{α:Type}{xs:List α}{i:Int}{n:Nat}{x:α}(hi:i=(n:Int))(h:xs[n]?=some x):Wi xs i=some x:=by
 subst hi;let hn:n<xs.f:=(XF.L h).1
 unfold Wi Lf;rw[if_pos (Int.natCast_nonneg n),if_pos oW];simpa using h
def tD{c A CL:Prop}[Decidable c](hc:c)(h:A):if decide c=true then A else CL:=by rwa[if_pos (Yq hc)]
def GX{c A CL:Prop}[Decidable c](hc:¬c)(h:CL):if decide c=true then A else CL:=by rwa[if_neg (by simp[hc])]
def By{c A CL:Prop}[Decidable c](hc:c)(h:CL):if (!decide c)=true then A else CL:=by rwa[if_neg (by simp[hc])]
def lO{c A CL:Prop}[Decidable c](hc:¬c)(h:A):if (!decide c)=true then A else CL:=by rwa[if_pos (by simp[hc])]
def Xc{c A CL:Prop}[Decidable c](h1:c->A)(h2:¬c->CL):if decide c=true then A else CL:=by
 cases h:c
 .show tD h (h1 h)
 .show GX h (h2 h)
def WU{c A CL:Prop}[Decidable c](h1:c->CL)(h2:¬c->A):if (!decide c)=true then A else CL:=by
 cases h:c
 .show By h (h1 h)
 .show lO h (h2 h)
def itb{b:Bool}{A CL:Prop}(h1:b=true->A)(h2:b=false->CL):if b=true then A else CL:=by
 cases b with
 |true=>show UA (h1 Z)
 |false=>show UB (h2 Z)
def Bx{b:Bool}{A CL:Prop}(h1:b=true->CL)(h2:b=false->A):if (!b)=true then A else CL:=by
 cases b with
 |true=>show UB (h1 Z)
 |false=>show UA (h2 Z)
def SqK(k:Bool)(K:Ad)(H:Hp)(a:Addr)(xs:List V):(Prop):=match k with
 |false=>SqL K H a xs
 |true=>SqT K H a xs
def SqK.same(e:Same H H')(h:SqK k K H a xs):SqK k K H' a xs:=by
 cases k with
 |false=>show e.seq h
 |true=>show Jc e h
def SqK.or(h:SqK k K H a xs):SqL K H a xs\/SqT K H a xs:=by
 cases k with
 |false=>show .inl h
 |true=>show .inr h
def Bw(K:Ad)(tl:TE):(TI):=λσ H R=>tl σ H λx H1=>∃a,x=.ref a/\(((∃xs,SqL K H1 a xs)/\R (Ou K a) H1)\/((∃xs,SqT K H1 a xs)/\R (Ot K a) H1))
def GW(hl:PE X l tl):PI X tg l (Bw X.K tl):=by
 intro pins s σ H R I h;show thn (hl pins s σ H _ I h) λv s1 Xs=>?_;let(x,H1,I1,r1,q1):=Xs;let(a,e,q):=q1;subst e;cases r1;rcases q with ⟨⟨xs,hq⟩,q⟩|⟨⟨xs,hq⟩,q⟩
 .let⟨XW,rv,p,hz⟩:=I1.list hq;show pD p.isList ?_;exists (~~~s1),[(~~~s1)],_,_,H1,Z,I1.kept (t':=s1.toks) λb o e=>WY _ e,CB a _,{_,Yr _ Z,Z,Z},λb hb=>?_,q;let e:b=(~~~s1):=by simpa using hb
  subst e;show I1.fpOk (XJ _) (I1.hok.fresh<|XJ _)
 .let⟨XW,rv,p,hz⟩:=I1.tuple hq;show wpAny_pyIter_tuple (show s1.G.IsTuple a XW.C from p) ?_;exists (~~~s1),[(~~~s1)],_,_,H1,Z,I1.kept (t':=s1.toks) λb o e=>WY _ e,CA a _,{_,Yr _ Z,Z,Z},λb hb=>?_,q;let e:b=(~~~s1):=by simpa using hb
  subst e;show I1.fpOk (XJ _) (I1.hok.fresh<|XJ _)
def tu{g:TG}{tb:TS}{CM:Ends}(Pv:Nat->St->Hp->Prop)(h0:Pv 0 σ H)(hl:∀i σ H,i<=xs.f->Pv i σ H->SqK k K H a xs)
  (hs:∀i x σ H,xs[i]?=some x->Pv i σ H->g x σ H λσ2 H2=>tb {CM with nx:=Pv<|i+1,ct:=Pv<|i+1,bk:=CM.nx} σ2 H2)(hd:∀σ H,Pv xs.f σ H->CM.nx σ H):((∃xs,SqL K H a xs)/\∃W:Nat->Nat->St->Hp->Prop,(∃m,W 0 m σ H)/\∀i m σ H,W i m σ H->
   ((Ou K a).stop i H/\CM.nx σ H)\/((Ou K a).go i H/\∃N:St->Hp->Prop,(∀σ' H',N σ' H'->∃m',m'<m/\W (i+1) m' σ' H')/\∀x H',(Ou K a).yld i H x H'->g x σ H' λσ2 H2=>tb {CM with nx:=N,ct:=N,bk:=CM.nx} σ2 H2))\/
  ((∃xs,SqT K H a xs)/\∃W:Nat->Nat->St->Hp->Prop,(∃m,W 0 m σ H)/\∀i m σ H,W i m σ H->
   ((Ot K a).stop i H/\CM.nx σ H)\/((Ot K a).go i H/\∃N:St->Hp->Prop,(∀σ' H',N σ' H'->∃m',m'<m/\W (i+1) m' σ' H')/\∀x H',(Ot K a).yld i H x H'->g x σ H' λσ2 H2=>tb {CM with nx:=N,ct:=N,bk:=CM.nx} σ2 H2)):=by
 cases k with
 |false=>show .inl {{xs,hl 0 σ H (Yj _) h0},Ew (K:=K) (a:=a) (xs:=xs) Pv h0 hl hs hd}
 |true=>show .inr {{xs,hl 0 σ H (Yj _) h0},nW (K:=K) (a:=a) (xs:=xs) Pv h0 hl hs hd}
def PairV(H:Hp)(v:V)(p:Int×Int):(Prop):=∃t,v=.ref t/\H t=some (.tup [.int p.1,.int p.2])
def PairsV(H:Hp)(xs:List V)(ps:Aa):(Prop):=xs.f=ps.f/\∀(i:Nat)(p:Int×Int),ps[i]?=some p->∃v,xs[i]?=some v/\PairV H v p
def PairV.same(s:Same H H')(h:PairV H v p):PairV H' v p:=by let(t,e,q):=h;exists t,e,s _ _ q
def PairsV.same(s:Same H H')(h:PairsV H xs ps):PairsV H' xs ps:={h.1,λi p e=>by let(v,e1,q):=h.2 i p e;exists v,e1,q.same s}
def PairsV.at(h:PairsV H xs ps){i:Nat}{v:V}(e:xs[i]?=some v):∃p,ps[i]?=some p/\PairV H v p:=by
 let hi:i<xs.f:=(XF.L e).1;let hp:i<ps.f:=by rwa[<-h.1]
 let(v',e1,q):=h.2 i ps[i] (Xr hp);rw[e]at e1;cases e1;exists _,Xr hp,q
def PairsV.nil:PairsV H [] []:={Z,λi p e=>by simp at e}
def PairsV.snoc(h:PairsV H xs ps)(q:PairV H v p):PairsV H (xs++[v]) (ps++[p]):=by
 show{by rw[Xt,Xt,h.1];rfl,λi p' e=>?_};cases hi:i<ps.f
 .rw[Yp hi]at e;rw[Yp (by rwa[h.1])];show h.2 i p' e
 .let hl:i=ps.f:=by
   have:=(XF.L e).1
   rw[Xt,Yw]at this;lia
  subst hl;rw[Ym (XJ _),Ms]at e;rw[Ym (by rw[h.1];show XJ _),h.1,Ms];let e':p=p':=Ye e
  subst e';exists v,Z,q
def PairsV.app(h:PairsV H xs ps)(h2:PairsV H ys qs):PairsV H (xs++ys) (ps++qs):=by
 show{by rw[Xt,Xt,h.1,h2.1],λi p e=>?_};cases hi:i<ps.f
 .rw[Yp hi]at e;rw[Yp (by rwa[h.1])];show h.2 i p e
 .rw[Ym J]at e;rw[Ym (by rw[h.1];omega),h.1];show h2.2 _ p e
def lN:¬(("places":Str)="ties"):=by decide +kernel
def wf(n:Int)(tl:Addr):(List (Str×V)):=XN "ties" ↑tl (XN "places" (.int n) [])
def GV(n:Int)(tl:Addr):(wf n tl).Y ("places":Str)=some (.int n):=by unfold wf;rw[Ci,if_neg lN,Ci,if_pos Z]
def Mh(n:Int)(tl:Addr):(wf n tl).Y ("ties":Str)=some ↑tl:=by unfold wf;rw[Ci,if_pos Z]
def WebAt(C:Addr)(H:Hp)(w:Addr)(n:Int)(ps:Aa):(Prop):=∃dx tl xs,H w=some (.ins C dx<|wf n tl)/\H tl=some (.lst xs)/\PairsV H xs ps
def WebAt.same(s:Same H H')(h:WebAt C H w n ps):WebAt C H' w n ps:=by let(dx,tl,xs,a,b,c):=h;exists dx,tl,xs,s _ _ a,s _ _ b,c.same s
def Zz(n:Int)(ps:Aa):(Prop):=1<=n/\n<=14/\ps.f<=30/\∀p∈ps,0<=p.1/\p.1<n/\0<=p.2/\p.2<n
def CXF(K:Ad)(mg:Af)(x qual:Str)(st:Stmt)(fs:List Str):(Prop):=∃C f fd,mg x=some ↑C/\Fun K "__init__" qual st f fd/\Cls K C/\Mk K C f/\∀a∈fs,NoAttr K C a
def Bv{mg:Af}{oc:Value}{od an:Option Addr}{SK:Array (Option Value)}{kV doc pm Xv ct:Value}(X:K.In h)(G:h.Ns mainGlobals mg)
  (aC:PySem.W.nsIn K mainGlobals x=some (some<|.ref C))(a:PySem.W.findIn K ↑C "__init__"=some (some<|.ref f))(i:PySem.W.isFn K ↑f=true)
  (l:K.Y f=some {oc,od,.func<|PySem.W.fnOf "__init__" qual (Jf st) (Qa st) (Xd st) .none kV doc pm an Xv ct,SK})(c:PySem.W.codeIn K Xv qual=true)(k:PySem.W.keepIn K ↑f=true)
  (pg:PySem.W.plainGet K C Str.empty=true)(hd:PySem.W.hasDictIn K C=true)(po:PySem.W.plainOver K C=true)(sa:PySem.W.findIn K ↑C "__setattr__"=some (some<|.builtin "object.__setattr__"))(mk:PySem.W.makesIn K C=true)(kc:PySem.W.keepIn K ↑C=true)
  (na:∀a∈fs,PySem.W.findIn K ↑C a=some none):CXF K mg x qual st fs:=
 {C,f,_,uC X G aC,tJ l c k,⟨pg,hd,po,sa⟩,⟨mk,a,i,kc⟩,na}
def Sj{mg:Af}{z:Int}{v:Value}(X:K.In h)(G:h.Ns mainGlobals mg)(a:PySem.W.nsIn K mainGlobals x=some (some v))(e:∃tk,v=.int z tk):∃tk,mg x=some (.int z tk):=by let(tk,rfl):=e;exists tk,uC X G a
def nmY{x:V}{A CL:St->Hp->Prop}(h:A (σ.set i (some x)) H):Ln i x σ H λσ2 H2=>tYes σ2 H2 λb H3=>if b=true then A σ2 H3 else CL σ2 H3:=
 (show if true=true then A (σ.set i<|some x) H else CL (σ.set i<|some x) H from UA h)
def nm{x:V}{Q:St->Hp->Prop}(h:Q (σ.set i (some x)) H):Ln i x σ H Q:=h
section
variable{K:Ad}{a:Addr}{xs:List V}{g:TG}{tt:TT}{te:TE}{o:Nat}{fr:List Nat}{σ:St}{H:Hp}{Q:VK}
abbrev Eo(Pv:Nat->List V->Hp->Prop)(g:TG)(tt:TT)(te:TE)(o:Nat)(fr:List Nat)(σ:St)(i:Nat)(x:V)(ys:List V)(H:Hp):Prop:=
 ∀S:Nat->List V->Hp->Prop,(∀ys H,Pv (i+1) ys H->S (i+1) ys H)->g x (σC o fr σ) H λσ2 H2=>tt σ2 H2 λb H3=>if b=true then te σ2 H3 λy H4=>S (i+1) (ys++[y]) H4 else S (i+1) ys H3
def VY(Pv:Nat->List V->Hp->Prop)(h0:Pv 0 [] H)(hz:xs.f<sizeLine)(hl:∀i ys H,i<=xs.f->Pv i ys H->SqL K H a xs/\ys.f<=i)
  (hs:∀i x ys H,xs[i]?=some x->Pv i ys H->Eo Pv g tt te o fr σ i x ys H)(hd:∀ys H,Pv xs.f ys H->∀p,H p=none->Q ↑p (upd H p<|.lst ys)):Je (Ou K a) g tt te o fr σ H Q:=by
 exists λi m ys H=>m=xs.f-i/\i<=xs.f/\Pv i ys H,{xs.f,B,Yj _,h0},?_;rintro i m ys H ⟨rfl,hi,p⟩;let(q,hy):=hl i ys H hi p;cases Xh:i<xs.f
 .show .inr {{xs,xs[i],q,by simp[Xh]},J,λx H' zz=>?_};let(e,y):=zz;subst e;let hx:=y xs q
  show hs i x ys _ hx p (λj ys H=>∃m',m'<xs.f-i/\m'=xs.f-j/\j<=xs.f/\Pv j ys H) λys H p'=>{xs.f-(i+1),oZ,Z,Xh,p'}
 .let e:i=xs.f:=J;subst e;show .inl {{xs,q,XJ _},J,hd ys H p}
def KR(Pv:Nat->List V->Hp->Prop)(h0:Pv 0 [] H)(hz:xs.f<sizeLine)(hl:∀i ys H,i<=xs.f->Pv i ys H->SqT K H a xs/\ys.f<=i)
  (hs:∀i x ys H,xs[i]?=some x->Pv i ys H->Eo Pv g tt te o fr σ i x ys H)(hd:∀ys H,Pv xs.f ys H->∀p,H p=none->Q ↑p (upd H p<|.lst ys)):Je (Ot K a) g tt te o fr σ H Q:=by
 exists λi m ys H=>m=xs.f-i/\i<=xs.f/\Pv i ys H,{xs.f,B,Yj _,h0},?_;rintro i m ys H ⟨rfl,hi,p⟩;let(q,hy):=hl i ys H hi p;cases Xh:i<xs.f
 .show .inr {{xs,xs[i],q,by simp[Xh]},oW,λx H' zz=>?_};let(e,y):=zz;subst e;let hx:=y xs q
  show hs i x ys _ hx p (λj ys H=>∃m',m'<xs.f-i/\m'=xs.f-j/\j<=xs.f/\Pv j ys H) λys H p'=>{xs.f-(i+1),oW,Z,Xh,p'}
 .let e:i=xs.f:=oW;subst e;show .inl {{xs,q,XJ _},oW,hd ys H p}
def Bu(Pv:Nat->List V->Hp->Prop)(h0:Pv 0 [] H)(hz:xs.f<sizeLine)(hl:∀i ys H,i<=xs.f->Pv i ys H->SqK k K H a xs/\ys.f<=i)
  (hs:∀i x ys H,xs[i]?=some x->Pv i ys H->Eo Pv g tt te o fr σ i x ys H)(hd:∀ys H,Pv xs.f ys H->∀p,H p=none->Q ↑p (upd H p<|.lst ys)):
  ((∃xs,SqL K H a xs)/\Je (Ou K a) g tt te o fr σ H Q)\/((∃xs,SqT K H a xs)/\Je (Ot K a) g tt te o fr σ H Q):=by
 cases k with
 |false=>show .inl {{xs,(hl 0 [] H (Yj _) h0).1},VY Pv h0 hz hl hs hd}
 |true=>show .inr {{xs,(hl 0 [] H (Yj _) h0).1},KR Pv h0 hz hl hs hd}
def Zy7(Pv:Nat->List V->Hp->Prop)(h0:Pv 0 [] H)(hz:n<sizeLine)(hl:∀i ys H,i<=n->Pv i ys H->ys.f<=i)
  (hs:∀i ys H,i<n->Pv i ys H->Eo Pv g tt te o fr σ i (.int<|lo+i) ys H)(hd:∀ys H,Pv n ys H->∀p,H p=none->Q ↑p (upd H p<|.lst ys)):Je (Ho lo n) g tt te o fr σ H Q:=by
 exists λi m ys H=>m=n-i/\i<=n/\Pv i ys H,{n,B,Yj _,h0},?_;rintro i m ys H ⟨rfl,hi,p⟩;let hy:=hl i ys H hi p
 cases Xh:i<n
 .show .inr {Xh,J,λx H' zz=>?_};let(e,y):=zz;subst e;subst y;show hs i ys _ Xh p (λj ys H=>∃m',m'<n-i/\m'=n-j/\j<=n/\Pv j ys H) λys H p'=>{n-(i+1),oZ,Z,Xh,p'}
 .let e:i=n:=J;subst e;show .inl {XJ _,J,hd ys H p}
end
def En{α:Type}{l:List α}(h:l.Nodup){i j:Nat}{x:α}(a:l[i]?=some x)(b:l[j]?=some x):i=j:=by let(h1,e1):=XF.L a;let(h2,e2):=XF.L b;show(List.getElem_inj h).L (e1.m e2.symm)
def Wa{α:Type}{l:List α}{x d:α}(h:l[i]?=some x):l.S i d=x:=by rw[Wv,h];rfl
def ZQ9{α:Type}{l:List α}{x:α}(h:l.Nodup)(hx:x∉l):(l++[x]).Nodup:=by rw[Wt];exists h,B,λa ha b hb=>?_;rw[XB]at hb;subst hb;rintro rfl;show hx ha
def Em{g:TG}{tb:TS}{CM:Ends}(Pv:Nat->St->Hp->Prop)(h0:Pv 0 σ H)(hl:∀i σ H,i<=xs.f->Pv i σ H->SqL K H a xs)
  (hs:∀(i:Nat) x σ H (p:Addr),H p=none->xs[i]?=some x->Pv i σ H->g ↑p σ (upd H p<|.tup [.int i,x]) λσ2 H2=>tb {CM with nx:=Pv<|i+1,ct:=Pv<|i+1,bk:=CM.nx} σ2 H2)(hd:∀σ H,Pv xs.f σ H->CM.nx σ H):
  ∃W:Nat->Nat->St->Hp->Prop,(∃m,W 0 m σ H)/\∀i m σ H,W i m σ H->
   ((Ep K a).stop i H/\CM.nx σ H)\/((Ep K a).go i H/\∃N:St->Hp->Prop,(∀σ' H',N σ' H'->∃m',m'<m/\W (i+1) m' σ' H')/\∀x H',(Ep K a).yld i H x H'->g x σ H' λσ2 H2=>tb {CM with nx:=N,ct:=N,bk:=CM.nx} σ2 H2):=by
 exists λi m σ H=>m=xs.f-i/\i<=xs.f/\Pv i σ H,{xs.f,B,Yj _,h0},?_;rintro i m σ H ⟨rfl,hi,p⟩;let q:=hl i σ H hi p
 cases Xh:i<xs.f
 .show .inr {{xs,xs[i],q,by simp[Xh]},Pv<|i+1,λσ' H' p'=>{xs.f-(i+1),oW,Z,Xh,p'},λx H' zz=>?_};let(T,y,hT,ex,eH,hy):=zz;subst ex eH;show hs i y σ H T hT (hy xs q) p
 .let e:i=xs.f:=J;subst e;show .inl {{xs,q,XJ _},hd σ H p}
end My
namespace L2
open PySem PySem.Spec PyProof.Rows
section
variable{X:Cx}{a b o e:Expr}{es:List Expr}{ta to:TE}{t:TA}{pos:Pos}
def Zd(K:Ad)(h:X.K=K:=by rfl):BQ X (rIxL K):=h▸nj
def ZM(K:Ad)(h:X.K=K:=by rfl):BQ X (rIxT K):=h▸ni
def KQ(K:Ad)(h:X.K=K:=by rfl):nq X (rSlL K):=h▸ng
def tq(K:Ad)(h:X.K=K:=by rfl):Wu X (compareOp .In) (λx y H Q=>∃p xs,y=.ref p/\(SqL K H p xs\/SqT K H p xs)/\RS x=true/\xs.all RS=true/\Q (.bl<|Et x xs) H):=h▸ZM8
def ZP(K:Ad)(h:X.K=K:=by rfl):Wu X (compareOp .NotIn) (λx y H Q=>∃p xs,y=.ref p/\(SqL K H p xs\/SqT K H p xs)/\RS x=true/\xs.all RS=true/\Q (.bl<|!Et x xs) H):=h▸ZB4
def lM(K:Ad)(hu:X.A.units+8<cLine)(h:X.K=K:=by rfl):Wu X (compareOp .Eq) (rEqD K false):=h▸lR hu
def tm(K:Ad)(hu:X.A.units+8<cLine)(h:X.K=K:=by rfl):Wu X (compareOp .NotEq) (rEqD K true):=h▸lQ hu
def Bt(K:Ad)(h:X.K=K:=by rfl):Wu X (binaryOp .Add) (BV K):=h▸BU
def Zo(K:Ad)(he:PE X e ta)(hb:attributeBase e f X.env (eval e X.env)=eval e X.env)(h:X.K=K:=by rfl):PE X (.Attribute e f pos) (Cf K ta f):=h▸nJ he hb
def Zn(K:Ad)(h:X.K=K:=by rfl):TK X (.builtin "len") (yR0 K):=h▸ZS4
def Si(K:Ad)(h:X.K=K:=by rfl):TK X (.type "list") (λxs H Q=>∃p ys,xs=[.ref p]/\(SqL K H p ys\/SqT K H p ys)/\∀l,H l=none->Q ↑l (upd H l<|.lst ys)):=h▸ZR4
def ZQ(K:Ad)(h:X.K=K:=by rfl):TK X (.type "tuple") (λxs H Q=>∃p ys,xs=[.ref p]/\((SqL K H p ys/\∀l,H l=none->Q ↑l (upd H l<|.tup ys))\/(SqT K H p ys/\Q ↑p H))):=h▸Zn4
def ZX5(K:Ad){T:String}(h:X.K=K:=by rfl):TK X (.builtin "isinstance") (λxs H Q=>∃x t b,xs=[x,.ty T]/\TyOf K H x t/\PySem.W.kitOne K t (.type T)=some b/\Q (.bl b) H):=h▸l8
def ZD(K:Ad)(hl:PE X l tl)(h:X.K=K:=by rfl):PI X tg l (Cz K tl):=h▸n9 hl
def Ue(K:Ad)(hl:PE X l tl)(h:X.K=K:=by rfl):PI X tg l (Cy K tl):=h▸n8 hl
def Tb(K:Ad)(hl:PE X l tl)(h:X.K=K:=by rfl):PI X tg l (My.Bw K tl):=h▸My.GW hl
def Mg(K:Ad){elts:List Expr}{x1:Nat}{Rx:Pos}{a:Expr}{ta:TA}{p pos:Pos}(hg:Gl X "enumerate")(hm:X.mg "enumerate"=none)(ha:PA X [a] ta)(hs:starEach [a] X.env=[(false,eval a X.env)]:=by rfl)(h:X.K=K:=by rfl):
  PI X (.Tuple elts x1 Rx) (.Call (.Name "enumerate" p) [a] [] pos) (Bz K ta):=h▸lZ hg hm ha hs
def QI(K:Ad){es:List Expr}{k:Nat}{t:Hs}{n:Nat}(hc:X.calm=true)(ht:CG X es t)
  (hn:(assignEach es X.env).f=n:=by rfl)(Wk:(assignEach es X.env).findIdx? (·.1)=none:=by rfl)(h:X.K=K:=by rfl):PG X (.Tuple es k pos) (gTup K n t):=h▸oo hc ht hn Wk
def Pc(K:Ad){name:Str}{apos WO:Pos}{T id:String}{r:V->List V->Hp->VK->Prop}(pa:PlainAttrs T)(slot:Slot T name id)(Hg:typeOf (.builtin id)=pure (.type "method_descriptor"))(hm:tN X id r)(ho:PE X o to)(ha:PA X (e::es) t)
  (UE:attributeBase o name X.env (eval o X.env)=eval o X.env:=by rfl)
  (Hf:((backTo WO<|starEach (e::es) X.env).all (λx=>!x.1)&&(backToKw WO<|keywordEach [] X.env).all (λx=>x.1.isSome)
   && decide ((e::es).f+([]:List Keyword).f+(if ([]:List Keyword).isEmpty then 0 else 1)<30))=true:=by rfl)
  (UD:(apos.endLine == WO.line)=true:=by rfl)(hs:starEach (e::es) X.env=(false,eval e X.env)::starEach es X.env:=by rfl)(Rt:(backTo WO<|starEach es X.env).any (·.1)=false:=by rfl)(h:X.K=K:=by rfl):
  PE X (.Call (.Attribute o name apos) (e::es) [] WO) (tBM K T r to t):=h▸m8 pa slot Hg hm ho ha UE Hf UD hs Rt
def lK(K:Ad){name:Str}{apos WO:Pos}{T id:String}{r:V->List V->Hp->VK->Prop}(pa:PlainAttrs T)(slot:Slot T name id)(Hg:typeOf (.builtin id)=pure (.type "method_descriptor"))(hm:tN X id r)(ho:PE X o to)
  (UE:attributeBase o name X.env (eval o X.env)=eval o X.env:=by rfl)(UD:(apos.endLine == WO.line)=true:=by rfl)(h:X.K=K:=by rfl):PE X (.Call (.Attribute o name apos) [] [] WO) (BK K T r to):=h▸m9 pa slot Hg hm ho UE UD
end
end L2
namespace My
abbrev mk(m:Ac)(i:Nat):Int:=m.S i 0
def pm(m:Ac)(a b:Nat):(Ac):=
 if min (mk m a) (mk m b)<max (mk m a) (mk m b) then m.R (λk=>if k=max (mk m a) (mk m b) then min (mk m a) (mk m b) else k) else m
def lm(m:Ac)(a b:Nat):(Ac):=
 if mk m a≠mk m b then m.R (λk=>if k=mk m b then mk m a else k) else m
def SameP(m l:Ac):(Prop):=m.f=l.f/\∀i j,i<m.f->j<m.f->(mk m i=mk m j↔mk l i=mk l j)
def tj(m:Ac)(f:Int->Int)(h:i<m.f):mk (m.R f) i=f (mk m i):=by simp[mk,Wv,Yv,Xr h]
def Ob(m:Ac)(a b:Nat):(pm m a b).f=m.f:=by unfold pm;split<;>simp
def tf(m:Ac)(a b:Nat):(lm m a b).f=m.f:=by unfold lm;split<;>simp
def El(m:Ac)(a b i j:Nat):(Prop):=mk m i=mk m j\/((mk m i=mk m a\/mk m i=mk m b)/\(mk m j=mk m a\/mk m j=mk m b))
def Oa{x y p q:Int}:((if x=q then p else x)=(if y=q then p else y))↔(x=y\/((x=p\/x=q)/\(y=p\/y=q))):=by grind
def ZJ9{x y p:Int}:x=y↔(x=y\/((x=p\/x=p)/\(y=p\/y=p))):={.inl,λh=>h.elim id λh=>(h.1.elim id id).m (h.2.elim id id).symm}
def lJ(hi:i<m.f)(hj:j<m.f):mk (pm m a b) i=mk (pm m a b) j↔El m a b i j:=by
 unfold pm El;split
 .rename_i h;rw[tj _ _ hi,tj _ _ hj];cases sZ:mk m a<mk m b
  .rw[uJ (Lz sZ),pL (Lz sZ)];show Oa
  .rw[pM (EC.L sZ),pG<|EC.L sZ,Or.comm (a:=mk m i=mk m a),Or.comm (a:=mk m j=mk m a)];show Oa
 .rename_i h;let hh:=EC.L h
  rw[show mk m a=mk m b from Int.le_antisymm (EE (Int.le_max_left _ _)<|EE hh<|Int.min_le_right _ _) (EE (Int.le_max_right _ _)<|EE hh<|Int.min_le_left _ _)];show ZJ9
def Bs(hi:i<m.f)(hj:j<m.f):mk (lm m a b) i=mk (lm m a b) j↔El m a b i j:=by
 unfold lm El;split
 .rename_i h;rw[tj _ _ hi,tj _ _ hj];show Oa
 .rename_i h;rw[show mk m a=mk m b from Classical.not_not.L h];show ZJ9
def SameP.step{m l:Ac}(s:SameP m l){a b:Nat}(ha:a<m.f)(hb:b<m.f):SameP (pm m a b) (lm l a b):=by let(hl,h):=s;show{by rw[Ob,tf,hl],λi j hi hj=>?_};rw[Ob]at hi hj;rw[lJ hi hj,Bs oW oW];unfold El;rw[h i j hi hj,h i a hi ha,h i b hi hb,h j a hj ha,h j b hj hb]
def Xy(n:Nat)(es:List (Nat×Nat)):(Ac):=es.foldl (λm e=>pm m e.1 e.2) ((List.range n).R λ(i:Nat)=>(i:Int))
def WW(n:Nat)(es:List (Nat×Nat)):(Ac):=es.foldl (λm e=>lm m e.1 e.2) ((List.range n).R λ(i:Nat)=>(i:Int))
def ZH(n:Nat)(es:List (Nat×Nat)):(Xy n es).f=n:=by
 have:∀(es:List (Nat×Nat))(m:Ac),(es.foldl (λm e=>pm m e.1 e.2) m).f=m.f:=by
  intro es
  induction es with
  |nil=>intro m;rfl
  |cons e es ih=>intro m;rw[De,ih,Ob]
 unfold Xy;rw[this];simp
def ZI(n:Nat)(es:List (Nat×Nat)):(WW n es).f=n:=by
 have:∀(es:List (Nat×Nat))(m:Ac),(es.foldl (λm e=>lm m e.1 e.2) m).f=m.f:=by
  intro es
  induction es with
  |nil=>intro m;rfl
  |cons e es ih=>intro m;rw[De,ih,tf]
 unfold WW;rw[this];simp
def Br(n:Nat)(es:List (Nat×Nat))(e:Nat×Nat):Xy n (es++[e])=pm (Xy n es) e.1 e.2:=by unfold Xy;rw[uS];rfl
def Mf(n:Nat)(es:List (Nat×Nat))(e:Nat×Nat):WW n (es++[e])=lm (WW n es) e.1 e.2:=by unfold WW;rw[uS];rfl
def sW:∀{es:List (Nat×Nat)},(∀e∈es,e.1<n/\e.2<n)->SameP (Xy n es) (WW n es):=by
 intro es;let key:∀(es:List (Nat×Nat))(m l:Ac),SameP m l->m.f=n->(∀e∈es,e.1<n/\e.2<n)->SameP (es.foldl (λm e=>pm m e.1 e.2) m) (es.foldl (λm e=>lm m e.1 e.2) l):=by
  intro es
  induction es with
  |nil=>intro m l s _ _;show s
  |cons e es ih=>
   intro m l s hm he;let h1:=he e Yd
   show ih _ _ (s.step oW oW) (by rwa[Ob]) λx hx=>he x (Yh _ hx)
 show key es _ _ {Z,λi j _ _=>Iff.rfl} B
def QH(g:List (Int×Ac))(place k:Int):(List (Int×Ac)):=
 if k∈g.R (·.1) then g.R (λkv=>if kv.1=k then (kv.1,kv.2++[place]) else kv) else g++[(k,[place])]
def Xj(M:Ac):(Nat->List (Int×Ac))
 |0=>[]
 |i+1=>QH (Xj M i) (i:Int) (mk M i)
def GU(M:Ac):(List (Int×Ac)):=Xj M M.f
def sV(g:List (Int×Ac))(p k:Int):(QH g p k).R (·.1)=if k∈g.R (·.1) then g.R (·.1) else g.R (·.1)++[k]:=by
 unfold QH;split
 .rw[OJ];show VE λkv _=>?_;change(if kv.1=k then (kv.1,kv.2++[p]) else kv).1=kv.1
  split<;>rfl
 .simp
def Zn6(h:(g.R (·.1)).Nodup):((QH g p k).R (·.1)).Nodup:=by
 rw[sV];split
 .show h
 .rename_i hk;rw[Wt];exists h,B,λa ha b hb=>?_;rw[XB]at hb;subst hb;rintro rfl;show hk ha
def GS(M:Ac):∀i,((Xj M i).R (·.1)).Nodup
 |0=>by simp[Xj]
 |i+1=>Zn6 (GS M i)
def Zy5(M:Ac):∀i j,j<i->mk M j∈(Xj M i).R (·.1)
 |0,j,h=>absurd h (Sy j)
 |i+1,j,h=>by
  change mk M j∈(QH (Xj M i) (i:Int)<|mk M i).R (·.1);rw[sV];cases hj:j<i
  .have:=Zy5 M i j hj
   split
   .show this
   .show Yg _ this
  .let e:j=i:=J;subst e;split
   .assumption
   .simp
def sU(h:j<i):mk M j∈(Xj M i).R (·.1):=Zy5 M i j h
def sT(M:Ac):∀i k,k∈(Xj M i).R (·.1)->∃j,j<i/\mk M j=k
 |0,k,h=>by simp[Xj]at h
 |i+1,k,h=>by
  let h:k∈(QH (Xj M i) (i:Int)<|mk M i).R (·.1):=h;rw[sV]at h;let old:k∈(Xj M i).R (·.1)->∃j,j<i+1/\mk M j=k:=λq=>by let(j,hj,e):=sT M i k q;exists j,J,e
  split at h
  .show old h
  .rcases Xz.L h with q|q
   .show old q
   .rw[XB]at q;exists i,J,q.symm
def Jb(hM:1<=M.f):(GU M).f=1↔∀i j,i<M.f->j<M.f->mk M i=mk M j:=by
 unfold GU;constructor
 .intro h i j hi hj;let(kv,e):=qa.L h;let h1:=sU (M:=M) hi
  let h2:=sU (M:=M) hj;rw[e]at h1 h2;rw[List.map_singleton,XB]at h1 h2;rw[h1,h2]
 .intro h;let nd:=GS M M.f
  let h0:=sU (M:=M) (i:=M.f) (j:=0) J;generalize hg:(Xj M M.f)=g at *
  match g,hg with
  |[],_=>simp at h0
  |[kv],_=>rfl
  |a::b::r,hg=>
   exfalso;let(i,hi,e1):=sT M M.f a.1 (by rw[hg];simp)
   let(j,hj,e2):=sT M M.f b.1 (by rw[hg];simp);let e3:=h i j hi hj
   have:a.1=b.1:=by rw[<-e1,<-e2,e3]
   simp[this]at nd
def SameP.one(s:SameP m l):(∀i j,i<m.f->j<m.f->mk m i=mk m j)↔(∀i j,i<l.f->j<l.f->mk l i=mk l j):=by
 let(hl,h):=s;rw[<-hl];constructor
 .intro q i j hi hj;show(h i j hi hj).L (q i j hi hj)
 .intro q i j hi hj;show(h i j hi hj).U (q i j hi hj)
def lI:∀{i:Nat}{kv:Int×Ac},kv∈Xj M i->kv.2.f<=i
 |0,kv,h=>by simp[Xj]at h
 |i+1,kv,h=>by
  unfold Xj QH at h;split at h
  .let⟨kv0,h0,e⟩:=YT.L h;let ih:=lI h0
   cases hc:kv0.1=mk M i
   .rw[if_pos hc]at e;subst e;rw[Xt,Yw];lia
   .rw[if_neg hc]at e;subst e;lia
  .rcases Xz.L h with h0|h0
   .let ih:=lI h0;omega
   .rw[XB]at h0;subst h0;simp
end My
namespace My
open PySem L2 PyProof.Rows
def ZN(z:Int)(l:Ac):Et (.int z) (IL l)=decide (z∈l):=by
 unfold Et;rw[List.any_map];rw[OM,Dh,YL];constructor
 .rintro⟨y,hy,e⟩;let e':y=z:=eq_of_beq e
  rwa[<-e']
 .intro h;exists z,h,HR z
def ZC(l:Ac):(IL l).all RS=true:=by rw[List.all_map,OP];intro x _;rfl
def lH{K:Ad}{t:Value}:PySem.W.kitOne K t t=some true:=by unfold PySem.W.kitOne;rw[if_pos (HR t)]
def Zw:decide (V.int a=V.int b)=decide (a=b):=by
 cases h:a=b
 .subst h;simp
 .let h':¬V.int a=V.int b:=λz=>h (V.int.inj z);rw[Sz h,Sz h']
end My
namespace My
open PySem L2
def IsSet(m:Nat)(ns:Ac):(Prop):=∀i z,ns[i]?=some z->0<=z/\z<(m:Int)/\∀y,i≠0->ns[i-1]?=some y->y<z
def XS(ps:Aa)(ns:Ac):(List (Nat×Nat)):=ns.R λz=>((ps.S z.j (0,0)).1.j,(ps.S z.j (0,0)).2.j)
def Zr6{ns:Ac}{z:Int}(h:ns[i]?=some z):XS ps (ns.M (i+1))=XS ps (ns.M i)++[((ps.S z.j (0,0)).1.j,(ps.S z.j (0,0)).2.j)]:=by unfold XS;rw[YY,h];simp
def RP(h:i<m.f):m[i]?=some (mk m i):=by rw[Xr h];simp[mk,Wv,Xr h]
def lG(n:Int):Vg 0 n=(List.range n.j).R λ(i:Nat)=>(i:Int):=by unfold Vg;rw[Int.sub_zero];show VE λi _=>?_;lia
def Ud(g:List (Int×Ac))(as:List Addr):(List (Key×V)):=List.zipWith (λkv a=>((Sum.inl kv.1:Key),V.ref a)) g as
def ZI7(h:as.f=g.f):(Ud g as).f=g.f:=by unfold Ud;rw[Dl];grind
def Ja:∀{g:List (Int×Ac)}{as:List Addr},as.f=g.f->(Ud g as).R (·.2)=as.R V.ref
 |[],[],_=>rfl
 |[],_::_,h=>by simp at h
 |_::_,[],h=>by simp at h
 |kv::g,a::as,h=>by change V.ref a::(Ud g as).R (·.2)=V.ref a::as.R V.ref;rw[Ja (LA h)]
def ZJ7:∀{g g':List (Int×Ac)}{as:List Addr},g.R (·.1)=g'.R (·.1)->Ud g as=Ud g' as
 |[],[],_,_=>rfl
 |[],_::_,_,h=>by simp at h
 |_::_,[],_,h=>by simp at h
 |kv::g,sS::g',[],_=>rfl
 |kv::g,sS::g',a::as,h=>by
  rw[Ur,Ur,List.cons.injEq]at h;change((Sum.inl kv.1:Key),V.ref a)::Ud g as=((Sum.inl sS.1:Key),V.ref a)::Ud g' as
  rw[h.1,ZJ7 h.2]
def ZH7:∀{g:List (Int×Ac)}{as:List Addr}{kv:Int×Ac}{a:Addr},as.f=g.f->Ud (g++[kv]) (as++[a])=Ud g as++[((Sum.inl kv.1:Key),V.ref a)]
 |[],[],_,_,_=>rfl
 |[],_::_,_,_,h=>by simp at h
 |_::_,[],_,_,h=>by simp at h
 |x::g,y::as,kv,a,h=>by change _::Ud (g++[kv]) (as++[a])=_::(Ud g as++_);rw[ZH7 (LA h)]
def lE:∀{g:List (Int×Ac)}{as:List Addr}{k:Int},as.f=g.f->
  (Wh (Ud g as) (Sum.inl k:Key)=none/\k∉g.R (·.1))\/∃(j:Nat)(kv:Int×Ac)(a:Addr),g[j]?=some kv/\as[j]?=some a/\kv.1=k/\Wh (Ud g as) (Sum.inl k:Key)=some ↑a
 |[],[],k,_=>.inl ⟨Z,B⟩
 |[],_::_,_,h=>by simp at h
 |_::_,[],_,h=>by simp at h
 |kv::g,a::as,k,h=>by
  cases e:kv.1=k
  .show .inr {0,kv,a,Z,Z,e,?_};change Wh (((Sum.inl kv.1:Key),V.ref a)::Ud g as) _=_
   rw[tL (by rw[e])]
  .let e':¬((Sum.inl kv.1:Key)=Sum.inl k):=λz=>e (Sum.inl.inj z);let ev:Wh (Ud (kv::g)<|a::as) (Sum.inl k:Key)=Wh (Ud g as) (Sum.inl k:Key):=tK (p:=((Sum.inl kv.1:Key),V.ref a)) e'
   rcases lE (g:=g) (as:=as) (k:=k) (LA h) with ⟨h1,h2⟩|⟨j,sS,a',h1,h2,h3,h4⟩
   .show .inl {by rw[ev];show h1,?_};rw[Ur,Yi];rintro(z|z)
    .show e z.symm
    .show h2 z
   .show .inr {j+1,sS,a',by simpa using h1,by simpa using h2,h3,by rwa[ev]}
structure GrpAt(H0 H:Hp)(g:List (Int×Ac))(as:List Addr):Prop where
 len:as.f=g.f
 nd:as.Nodup
 at_:∀(i:Nat)(kv:Int×Ac)(a:Addr),g[i]?=some kv->as[i]?=some a->H a=some (.lst<|IL kv.2)
 new:∀a∈as,H0 a=none
def GrpAt.same(s:Same H H')(h:GrpAt H0 H g as):GrpAt H0 H' g as:={h.len,h.nd,λi kv a e1 e2=>s _ _<|h.at_ i kv a e1 e2,h.new}
def GrpAt.mem(h:GrpAt H0 H g as){a:Addr}(ha:a∈as):∃l,H a=some (.lst l):=by
 let(i,hi,e):=pW ha;let hg:i<g.f:=by rwa[<-h.len]
 exists _,h.at_ i g[i] a (Xr hg)<|by rw[Xr hi,e]
def IsSet.all(h:IsSet m ns):∀z∈ns,0<=z/\z<(m:Int):=λz hz=>by let(i,hi,e):=pW hz;let(a,b,_):=h i z (by rw[Xr hi,e]);exists a,b
def IsSet.nil(m:Nat):IsSet m []:=λi z e=>by simp at e
def IsSet.up(h:IsSet m ns):IsSet (m+1) ns:=λi z e=>by let(a,b,c):=h i z e;exists a,oW,c
def IsSet.snoc(h:IsSet m ns):IsSet (m+1) (ns++[(m:Int)]):=λi z e=>by
 cases hi:i<ns.f
 .rw[Yp hi]at e;let(a,b,c):=h i z e;exists a,J,λy h0 ey=>?_;rw[Yp oW]at ey;show c y h0 ey
 .let hl:i=ns.f:=by
   have:=(XF.L e).1
   rw[Xt,Yw]at this;lia
  subst hl;rw[Ym (XJ _),Ms]at e;let e:(m:Int)=z:=Ye e
  subst e;exists J,J,λy h0 ey=>?_;rw[Yp oW]at ey;show(h _ y ey).2.1
def IsSet.len:∀{ns:Ac},IsSet m ns->ns.f<=m:=λ{ns} h=>by
 let key:∀(i:Nat)(z:Int),ns[i]?=some z->(i:Int)<=z:=by
  intro i
  induction i with
  |zero=>intro z e;show(h 0 z e).1
  |succ i ih=>
   intro z e;let hi:i<ns.f:=by have:=(XF.L e).1;lia
   let e2:ns[i]?=some ns[i]:=Xr hi
   have:=ih _ e2
   have:=(h (i+1) z e).2.2 ns[i] J (by rwa[pT])
   lia
 cases h0:ns.f=0
 .lia
 .let e:ns[ns.f-1]?=some (ns[ns.f-1]'(by lia)):=Xr _;let a:=key _ _ e
  let b:=(h _ _ e).2.1;lia
end My
namespace L2
open PySem PySem.Spec PyProof.Rows
section
variable{X:Cx}
def lD(K:Ad):(V->List V->Hp->VK->Prop):=λx vs H Q=>∃(p:Addr)(ns:Ac)(z:Int)(j:Nat),x=.ref p/\vs=[.int z]/\SqL K H p (ns.R V.int)/\ns[j]?=some z/\(∀i,i<j->ns[i]?≠some z)/\Q (.int j) H
def ZS8(K:Ad)(h:X.K=K:=by rfl):Lc X "list.index" (lD K):=by
 subst h;intro pins s σ H x vs v us Q I rx rv h;let(p,ns,z,j,rfl,rfl,hq,hj,QG,q):=h;cases rx;let(u,rfl,t,rfl):=rv.one;let(XW,r,(o,n,e,hc,hd,GR),hz):=I.list hq;let hl:XW.f=ns.f:=by rw[<-r.f,Yc]
 let Vf:j<ns.f:=(XF.L hj).1;let hsz:sizeLine=16777216:=TM
 rw[Yc]at hz;let(oc,od,lC,SK):=o;let hc:oc=.type "list":=hc
 let GR:lC=.seq XW.C n:=GR;subst hc GR;let at_:∀(i:Nat)(hi:i<XW.f),∃tk,XW[i]=.int (ns[i]'(by lia)) tk:=λi hi=>by
  let(x,ex,rx):=r.at hi;rw[Yv,Xr oW]at ex;let ex:V.int (ns[i]'(by omega))=x:=Ye ex
  subst ex;show rx
 show Ju F.slot_list_index {_,e,Z} F.entry_list_index (F.args_list_index_2 _ _) (SeqAt.list_indexAt p XW.C n od SK (.int z t) (λy=>RR (.int z) y) j (by rw[Yb];lia) J ?_ ?_) {e,λy hy=>?_,?_}
 .let⟨tk,e1⟩:=at_ j oW;let e2:ns[j]'(by lia)=z:=by rw[Xr Vf]at hj;show Ye hj
  let e3:XW.C[j]'(by rw[Yb];lia)=.int z tk:=by rw[<-e2];simpa using e1
  rw[e3];show HR z
 .intro m hm hmj;let IZ:m<XW.f:=by rwa[Yb]at hm
  let(tk,e1):=at_ m IZ;let e3:XW.C[m]'hm=.int (ns[m]'(by omega)) tk:=by simpa using e1
  rw[e3];let XM:=QG m hmj
  rw[Xr oW]at XM;let NZ:ns[m]'(by omega)≠z:=λw=>XM (YS some w)
  show uK NZ
 .show BM (x:=.int z) ⟨t,Z⟩ Z r ?_ y (by simpa using hy);rw[List.all_map,OP];intro _ _;rfl
 .exists .int j,H,I.tok _,{_,Z},q
end
end L2
namespace My
open PySem L2
section
variable{K:Ad}{H:Hp}{α:Type}[DecidableEq α]
def Bears(R:V->α->Prop)(xs:List V)(l:List α):(Prop):=xs.f=l.f/\∀(i:Nat)(a:α),l[i]?=some a->∃x,xs[i]?=some x/\R x a
def Bears.at{R:V->α->Prop}(h:Bears R xs l){i:Nat}{x:V}(e:xs[i]?=some x):∃a,l[i]?=some a/\R x a:=by
 let hi:i<xs.f:=(XF.L e).1;let hl:i<l.f:=by rwa[<-h.1]
 let(x',e1,q):=h.2 i l[i] (Xr hl);rw[e]at e1;cases e1;exists _,Xr hl,q
def Bq{l m:List α}(h:l.f=m.f):(List.range l.f).all (λi=>decide (l[i]?=m[i]?))=decide (l=m):=by
 rw[OM,OP,YL];constructor
 .intro q;show Mv λi=>?_;cases hi:i<l.f
  .show Yu (q i<|YW.U hi)
  .rw[VG J,VG J]
 .rintro rfl i _;simp
def Zn9{R:V->α->Prop}(hp:SqL K H p xs)(hq:SqL K H q ys)(h1:Bears R xs l)(h2:Bears R ys m)(hR:∀x y a b,R x a->R y b->EqD K H n x y (decide (a=b))):EqD K H (n+1) ↑p ↑q (decide (l=m)):=by
 cases hl:xs.f=ys.f
 .let e:=Bq (l:=l) (m:=m) (by rw[<-h1.1,<-h2.1,hl]);rw[<-e,<-h1.1];show EqD.lsts hp hq hl λi x y ex ey=>?_;let(a,ea,ra):=h1.at ex;let(b,eb,rb):=h2.at ey;rw[ea,eb,show decide (some a=some b)=decide (a=b) by simp];show hR x y a b ra rb
 .let e:decide (l=m)=false:=Sz λz=>hl (by rw[h1.1,h2.1,z]);rw[e];show EqD.lens hp hq hl
def lB{R:V->α->Prop}(hp:SqT K H p xs)(hq:SqT K H q ys)(h1:Bears R xs l)(h2:Bears R ys m)(hR:∀x y a b,R x a->R y b->EqD K H n x y (decide (a=b))):EqD K H (n+1) ↑p ↑q (decide (l=m)):=by
 let key:=EqD.tups (e:=λi=>decide<|l[i]?=m[i]?) hp hq λi x y ex ey=>by let(a,ea,ra):=h1.at ex;let(b,eb,rb):=h2.at ey;rw[ea,eb,show decide (some a=some b)=decide (a=b) by simp];show hR x y a b ra rb
 cases hl:xs.f=ys.f
 .let e:=Bq (l:=l) (m:=m) (by rw[<-h1.1,<-h2.1,hl]);rwa[<-hl,Nat.min_self,h1.1,e,show(l.f == l.f)=true by simp,Bool.and_true]at key
 .let e:decide (l=m)=false:=Sz λz=>hl (by rw[h1.1,h2.1,z]);rw[show(xs.f == ys.f)=false by simpa using hl,Bool.and_false]at key;rwa[e]
def sR(ns:Ac):Bears (λx (z:Int)=>x=.int z) (IL ns) ns:={XG ns,λi z e=>{_,WE e,Z}}
def Bp{a b:Int}(hx:x=.int a)(hy:y=.int b):EqD K H n x y (decide (a=b)):=by
 subst hx hy;let e:decide (a=b)=Ol (.int a) (.int b):=by change decide (a=b)=(a == b);rw[Bool.beq_eq_decide_eq]
 rw[e];show EqD.flat Z rfl
def sQ(hp:SqL K H p (IL ns))(hq:SqL K H q (IL ms)):EqD K H 1 ↑p ↑q (decide (ns=ms)):=
 Zn9 hp hq (sR ns) (sR ms) λ_ _ _ _=>Bp
def ZG5(hp:SqT K H p (IL ns))(hq:SqT K H q (IL ms)):EqD K H 1 ↑p ↑q (decide (ns=ms)):=
 lB hp hq (sR ns) (sR ms) λ_ _ _ _=>Bp
def Me(H:Hp)(v:V)(l:Ac):(Prop):=∃a,v=.ref a/\H a=some (.lst<|IL l)
end
end My
namespace My
def VX(M:Ac)(p:Nat):(Bool):=(List.range p).all λi=>decide (mk M i≠mk M p)
def Uc(M:Ac)(k:Int)(i:Nat):(Ac):=((List.range i).Q λj=>decide<|mk M j=k).R λ(j:Nat)=>(j:Int)
def UP(M:Ac)(i:Nat):(List Nat):=(List.range i).Q (VX M)
def Xw:VX M p=true↔∀i,i<p->mk M i≠mk M p:=by
 unfold VX;rw[OP];constructor
 .intro h i hi;show Yu (h i<|YW.U hi)
 .intro h i hi;show Yq (h i<|YW.L hi)
def ly(M:Ac)(k:Int)(i:Nat):Uc M k (i+1)=Uc M k i++(if mk M i=k then [(i:Int)] else []):=by
 unfold Uc;rw[Df,QU,YN];congr 1;cases h:mk M i=k
 .rw[if_pos h,YU,if_pos (by simpa using h)];rfl
 .rw[if_neg h,YU,if_neg (by simpa using h)];rfl
def ZB5(M:Ac)(i:Nat):UP M (i+1)=UP M i++(if VX M i=true then [i] else []):=by
 unfold UP;rw[Df,QU];congr 1;cases h:VX M i=true
 .rw[if_pos h,YU,if_pos h];rfl
 .rw[if_neg h,YU,if_neg h];rfl
def IY(M:Ac):∀i,Xj M i=(UP M i).R λp=>(mk M p,Uc M (mk M p) i)
 |0=>rfl
 |i+1=>by
  let ih:=IY M i;change QH (Xj M i) (i:Int) (mk M i)=_
  let hk:(mk M i∈(Xj M i).R (·.1))↔VX M i≠true:=by
   constructor
   .intro h q;let(j,hj,e):=sT M i _ h;show Xw.L q j hj e
   .intro h;cases q:∃j,j<i/\mk M j=mk M i
    .let⟨j,hj,e⟩:=q;rw[<-e];show sU hj
    .show absurd (Xw.U λj hj e=>q ⟨j,hj,e⟩) h
  unfold QH;cases h:mk M i∈(Xj M i).R (·.1)
  .let hf:=hk.L h;rw[if_pos h,ZB5,if_neg hf,Ys,ih,OJ];show VE λp _=>?_;change(if mk M p=mk M i then (mk M p,Uc M (mk M p) i++[(i:Int)]) else (mk M p,Uc M (mk M p) i))=(mk M p,Uc M (mk M p)<|i+1)
   rw[ly];cases e:mk M p=mk M i
   .rw[if_pos e,if_pos e.symm]
   .rw[if_neg e,if_neg λz=>e z.symm,Ys]
  .let hf:VX M i=true:=by
    cases q:VX M i with
    |true=>rfl
    |false=>show absurd (hk.U<|by rw[q];show YH) h
   rw[if_neg h,ZB5,if_pos hf,YN,ih];congr 1
   .show VE λp hp=>?_;let NY:p<i:=YW.L (Ya.L hp).1
    rw[ly,if_neg λz=>Xw.L hf p NY z.symm,Ys]
   .change [(mk M i,[(i:Int)])]=[(mk M i,Uc M (mk M i)<|i+1)];rw[ly,if_pos Z];let e0:Uc M (mk M i) i=[]:=by unfold Uc;rw[List.filter_eq_nil_iff.U λj hj=>by simpa using Xw.mp hf j (YW.mp hj)];rfl
    rw[e0];rfl
end My
namespace My
open PySem L2
def Bears.snoc{α:Type}[DecidableEq α]{R:V->α->Prop}{xs:List V}{l:List α}{x:V}{a:α}(h:Bears R xs l)(hx:R x a):Bears R (xs++[x]) (l++[a]):=by
 show{by rw[Xt,Xt,h.1];rfl,λi b e=>?_};cases hi:i<l.f
 .rw[Yp hi]at e;rw[Yp (by rwa[h.1])];show h.2 i b e
 .let hl:i=l.f:=by
   have:=(XF.L e).1
   rw[Xt,Yw]at this;lia
  subst hl;rw[Ym (XJ _),Ms]at e;rw[Ym (by rw[h.1];show XJ _),h.1,Ms];let e':a=b:=Ye e
  subst e';exists x,Z,hx
def Bears.imp{α:Type}[DecidableEq α]{R R':V->α->Prop}{xs:List V}{l:List α}(h:Bears R xs l)(f:∀x a,R x a->R' x a):Bears R' xs l:={h.1,λi a e=>by let(x,e1,r):=h.2 i a e;exists x,e1,f x a r}
def sP{p1 p2:Addr}(h1:H p1=some (.lst (IL l1)))(h2:H p2=some (.lst (IL l2)))(hl:l1.f+l2.f<=1000000)(k:∀r,H r=none->Q ↑r (upd H r (.lst (IL (l1++l2))))):rCat ↑p1 ↑p2 H Q:=by
 exists p1,p2,_,_,Z,Z,h1,h2,?_,λr hr=>?_
 .rw[XG,XG];show Pd hl
 .have:=k r hr
  rwa[tE]at this
def KP(ns:Ac)(lo hi:Option Int):(Ac):=(ns.drop<|HT.Td ns.f 0 lo).M (HT.Td ns.f ns.f hi-HT.Td ns.f 0 lo)
def Bo(ns:Ac)(lo hi:Option Int):WH (IL ns) lo hi=IL (KP ns lo hi):=by unfold WH KP;rw[Jd,lP,XG]
end My
namespace L2
open PySem PySem.Spec PyProof.Rows
def PZ:∀{us:Ag}{ns:Ac},IntsAre us ns->Vals (ns.R V.int) us
 |[],[],_=>.nil
 |_::_,[],h=>by cases h
 |[],_::_,h=>by cases h
 |u::us,n::ns,h=>by
  cases h with
  |cons _ _ t=>show .cons {_,Z} (PZ t)
def Vals.rev{xs:List V}{us:Ag}(h:Vals xs us):Vals xs.reverse us.reverse:=by
 induction h with
 |nil=>show .nil
 |cons r t ih=>
  rw[OH,OH];show ih.append (.cons r .nil)
section
variable{X:Cx}
inductive yR2(K:Ad)(xs:List V)(H:Hp)(Q:VK):Prop
 |mk (p ns:_) (_:xs=[.ref p]) (_:SqL K H p (ns.R V.int)) (_:ns.f<64) (_:∀ms:Ac,ms.Perm ns->ms.E (·<=·)->∀l,H l=none->Q ↑l (upd H l<|.lst<|ms.R V.int))
def PY(K:Ad)(hk:X.K=K:=by rfl):TK X (.builtin "sorted") (yR2 K):=by
 subst hk;intro pins s σ H xs us Q I r h;let(p,ns,rfl,hq,hn,q):=h;let(u,rfl,ru):=VZ r;let rfl:u=Value.ref p:=ru;let(XW,rv,pl,hz):=I.list hq;let hi:=ZG rv
 let hl:XW.f=ns.f:=by rw[<-rv.f,Yc]
 show sorted_ints pl.isList hi J λout ms h1 h2 h3=>?_;let(e,he):=sortedAll_at s.G XW out;let Md:ms.f=ns.f:=h2.length_eq
 exists .ref<|(~~~s)+1,_,I.laid (t':=s.toks) (o:=.lst<|ms.R V.int) (λb o g=>sortedAll_old g) (TN _) {?_,out.l,e,PZ h1,?_},Z,q ms h2 h3 _<|I.hok.fresh<|TN _
 .rw[Yc,Md]
  have:sizeLine=16777216:=TM
  lia
 .show he
def lx:typeLookup (.type "list_reverseiterator") "__length_hint__"=pure (some (.builtin "list_reverseiterator.__length_hint__")):=by rw[EH,EL];kernel_rfl
def ZO8:typeLookup (.type "list_reverseiterator") "__len__"=pure none:=by rw[EH,EL];kernel_rfl
def lu{E:Ae}{s:Shared}{r:Addr}{Q:Bool->Shared->Prop}(hT:s.TypeIs ↑r "list_reverseiterator")(h:Q false s):wpAny (model prog w) A (Builtin.List.listLengthHint ↑r) Q E s:=by
 unfold Builtin.List.listLengthHint;show XU (wpAny_specialOf hT ZO8 ?_);change wpAny _ A (specialOf (Value.ref r) (Str.ofString "__length_hint__") >>= _) _ _ _
 show XU (wpAny_specialOf hT lx ?_);generalize Bn:("list_reverseiterator.__length_hint__":String)=lr
 wp_delta
 rw[show splitId lr=some ("list_reverseiterator","__length_hint__") from by subst Bn;decide +kernel];subst Bn;show XU (Ls (T:="list_reverseiterator") (b:=true) hT (by rw[ur];kernel_rfl) ?_);show Yn h
section
variable{prog:Program}{w:World}{A:Around}{E:Ae}{s:Shared}{it a:Addr}{items:Array Value}
def Zq7{R:Result->Shared->Prop}(hh:A.handled=none)(hi:s.G.IsRevIter it a ((items.t:Int)-1))(hl:s.G.IsList a items)(XM:a≠it){S:Addr}(h1:S≠it)(h2:S≠a){c0:Nat}
  (hS:s.G.H S=some {cls:=.type "list",data:=.seq #[] c0})(hz:items.t<=sizeLine)
  (k:∀h' tk acc c,(∀b o,b≠S->b≠it->s.G.H b=some o->h'.H b=some o)->h'.H S=some {cls:=.type "list",dict:=none,data:=.seq acc c,slots:=#[]}->ItemsOf (λi v=>items[items.t-1-i]?=some v) acc items.t->R (.ok<|.ret res) {s with heap:=h',toks:=tk}):
  wpAny (model prog w) A.in1 (Builtin.List.listExtendWith ↑S ↑it res)
   (λfin s'=>match fin with | .done f=>R (.ok f) s' | .again c'=>c'.quiet=true/\codeAny (model prog w) A c' R s') (λe s'=>R (.error e) s') s:=by
 let W:=Walks.listRev (prog:=prog) (w:=w) (A:=A.in1) hh it a XM items;let Rr:S∉[it,a]:=by simp only[Yi,pN,or_false,not_or];exists h1,h2
 let Ek:(0<=items.t/\s.G.IsRevIter it a ((items.t:Int)-1-((0:Nat):Int))/\s.G.IsList a items):={Yj _,by rw[show((items.t:Int)-1-((0:Nat):Int))=(items.t:Int)-1 by lia];show hi,hl};let hT:s.TypeIs ↑it "list_reverseiterator":=hi.typeIs
 let key:codeAny (model prog w) A (.builtin "list.extend.loop" ⟨[.ref S,.ref it,res],[]⟩) R s:=by
  show codeAny_extend_loopS W.toS hz S Rr res items.t 0 _ #[] c0 Z (Yj _) Ek hS (ItemsOf.nil _) λs' acc c hm Ub Vu=>?_;rw[Moved.eq_with hm];show k s'.G s'.toks acc c (λb o hb hbi e=>hm.G b o (λhmem=>?_) e) Ub Vu;rcases Yi.L hmem with e'|hmem
  .show hb e'
  .show hbi (XB.L hmem)
 unfold Builtin.List.listExtendWith;show XU (ug (T:="list_reverseiterator") hT ?_);let e1:Builtin.List.listSameRef ↑S ↑it=false:=by simp[Builtin.List.listSameRef,h1]
 rw[if_neg (by rw[e1];decide)];show XU (wpAny_pyIter_revIter hi ?_);show XU (Sx<|lu hT ?_);rw[if_neg oY];show Yn {LB aH _,key}
def lq{Q:Ae}(hh:A.handled=none)(hi:s.G.IsRevIter it a ((items.t:Int)-1))(hl:s.G.IsList a items)(XM:a≠it)(hz:items.t<=sizeLine)
  (k:∀h' tk acc c,(∀b o,b≠it->s.G.H b=some o->h'.H b=some o)->h'.H (~~~s)=some {cls:=.type "list",dict:=none,data:=.seq acc c,slots:=#[]}->ItemsOf (λi v=>items[items.t-1-i]?=some v) acc items.t->
   Q (.ref (~~~s)) {s with heap:=h',toks:=tk}):wpAny (model prog w) A (call (.type "list") [.ref it]) Q E s:=by
 let(oi,hoi,_):=id hi;let(ol,QJ,_):=id hl;let n1:(~~~s)≠it:=RD (Yt hoi)
 let n2:(~~~s)≠a:=RD (Yt QJ);show callType_codes (Q₁:=λob s₁=>ob=.ref (~~~s)/\s₁={s with heap:=s.G.push {cls:=.type "list",data:=.seq #[]} }) PySem.F.called_list (PySem.F.typeCall_list_1 _) PySem.F.entry_list_init (code_list_new _ ⟨Z,Z⟩) λob s₁ z=>?_;let(rfl,rfl):=z;let Ej:(s.G.push {cls:=.type "list",data:=.seq #[]}).H (~~~s)=some {cls:=.type "list",data:=.seq #[]}:=Yr _ rfl
 exists {_,Ej,Z},PySem.F.args_list_init_2 _ _,?_;change wpAny _ A.in1.in1 (do let old <-Builtin.List.listItems (.ref (~~~s));Builtin.List.listUpdate (.ref (~~~s)) λ_=>#[];letGo old.l.reverse;Builtin.List.listExtendWith (.ref (~~~s)) ↑it .none) _ _ _
 show XU ?_;unfold Builtin.List.listItems;show XU (RC Ej Z<|Yn ?_);show XU (uG (a:=(~~~s)) Ej Z ?_);let Bm:=OR (Obj.mapSeq λ_=>(#[]:Array Value)) Ej rfl
 let GQ:∀b o,b≠(~~~s)->s.G.H b=some o->((s.G.push {cls:=.type "list",data:=.seq #[]}).update (~~~s) (Obj.mapSeq λ_=>(#[]:Array Value))).H b=some o:=
  λb o hb e=>(VN _ _<|WX hb).m (WY _ e)
 show XU (EB ?_);show Zq7 (A:=A.in1) (items:=items) hh (hi.at λo e=>GQ it o (WX n1) e) (hl.at λo e=>GQ a o (WX n2) e) XM n1 n2 Bm hz λh' tk acc c hk Ub Vu=>?_;exists Z,k h' tk acc c (λb o hb e=>hk b o (YF<|Yt e) hb<|GQ b o (YF<|Yt e) e) Ub Vu
end
end
section
variable{X:Cx}{p p2 pos Uz:Pos}{e:Expr}{t:TA}
def lj(K:Ad)(t:TA):(TE):=λσ H Q=>t σ H λvs H1=>∃a ys,vs=[.ref a]/\SqL K H1 a ys/\∀l,H1 l=none->Q ↑l (upd H1 l<|.lst ys.reverse)
def lh(K:Ad)(hc:X.calm=true)(g1:Gl X "list")(m1:X.mg "list"=none)(g2:Gl X "reversed")(m2:X.mg "reversed"=none)(ha:PA X [e] t)(hk:X.K=K:=by rfl)
  (he:starEach [e] X.env=[(false,eval e X.env)]:=by rfl)
  (Oe:starEach [.Call (.Name "reversed" p2) [e] [] Uz] X.env=[(false,eval (.Call (.Name "reversed" p2) [e] [] Uz) X.env)]:=by rfl):
  PE X (.Call (.Name "list" p) [.Call (.Name "reversed" p2) [e] [] Uz] [] pos) (lj K t):=by
 subst hk;intro pins s σ H Q I h;show MC (Ph I g1 m1 Boot.«list» ?_);show HY ?_ (by rw[Oe];rfl) rfl;rw[Oe];change wpAny _ _ (spliced<|(false,eval (.Call (.Name "reversed" p2) [e] [] Uz) X.env)::backTo pos []) _ _ s
 show pF ?_;show MC (Ph I g2 m2 Boot.«reversed» ?_);show HY (thn (ha Uz pins s σ H _ I h) λus s1 zz=>?_) (by rw[he];rfl) rfl;let(vs,H1,I1,r1,q1):=zz;let(a,ys,rfl,hq,q):=q1;let(u,rfl,ru):=VZ r1;let rfl:u=Value.ref a:=ru;let(XW,rv,pl,hz):=I1.list hq;show call_reversed_list pl.isList ?_;show Hv ?_;let el:XW.C.t=ys.f:=by rw[Yb,<-rv.f]
 let hit:(s1.G.push<|revObj a<|(XW.C.t:Int)-1).IsRevIter (~~~s1) a ((XW.C.t:Int)-1):={_,Yr _ Z,Z,Z};let XM:a≠(~~~s1):=YF (by let(_,_,e,_):=pl;show Yt e)
 show lq (I.ok.hd hc) hit (pl.isList.push _) XM (by rwa[el]) λh' tk acc c hk hS Ei=>?_;let el2:XW.f=ys.f:=rv.f.symm
 let ea:acc.l=XW.reverse:=by
  show Mv λi=>?_;let h1:=Ei.1
  cases hi:i<XW.f
  .obtain⟨v,ev⟩:∃v,acc[i]?=some v:={_,YR<|by rwa[h1,Yb]};let h2:=Ei.2 i v ev
   rw[LL hi];let e3:acc.l[i]?=some v:=by simpa using ev
   rw[e3];let e4:XW[XW.f-1-i]?=some v:=by simpa using h2
   rw[e4]
  .rw[VG (by rw[Yx,h1,Yb];lia),VG (by rw[YK];omega)]
 rw[EA]at hS ⊢;exists .ref<|(~~~s1)+1,_,I1.laid (o:=.lst ys.reverse) (h':=h') (t':=tk) (λb o e=>hk b o (YF<|Yt e)<|WY _ e) (TN _) ⟨?_,acc.l,c,?_,?_⟩,Z,q _<|I1.hok.fresh<|TN _
 .rw[YK];show hz
 .rw[ea];show rv.rev
 .rw[hS]
end
end L2
namespace My
open PySem L2
def XR:IsSet m ns↔(∀z∈ns,0<=z/\z<(m:Int))/\ns.E (·<·):=by
 constructor
 .intro h;exists h.all,?_;rw[ME];intro i j hi hj WJ
  induction j with
  |zero=>show absurd WJ (Sy i)
  |succ j ih=>
   let QF:j<ns.f:=oZ;let key:=(h (j+1) ns[j+1]<|Xr hj).2.2 ns[j] J (by rw[pT];show Xr QF)
   cases e:i=j
   .subst e;show key
   .have:=ih QF J
    lia
 .rintro⟨ha,hp⟩ i z hz;let(hi,ei):=XF.L hz;let hm:=ha z (Xm hz)
  exists hm.1,hm.2,λy h0 hy=>?_;let(Ta,ei'):=XF.L hy
  have:=ME.L hp (i-1) i Ta hi J
  rwa[ei,ei']at this
def NX{ns:Ac}(h:ns.E (·<·)):ns.Nodup:=h.imp λUU e=>J
def IsSet.nodup(h:IsSet m ns):ns.Nodup:=NX (XR.L h).2
end My
namespace My
def KO{α:Type}{P:List α->Prop}(h0:P [])(h1:∀l x,P l->P (l++[x])):∀l,P l:=by
 intro l;rw[<-List.reverse_reverse l]
 induction l.reverse with
 |nil=>show h0
 |cons x r ih=>
  rw[OH];show h1 _ _ ih
inductive Conn(es:List (Nat×Nat)):Nat->Nat->Prop
 |refl (i:Nat):Conn es i i
 |edge {a b:Nat} (h:(a,b)∈es):Conn es a b
 |symm {i j:Nat}:Conn es i j->Conn es j i
 |trans {i j k:Nat}:Conn es i j->Conn es j k->Conn es i k
def Conn.mono(h:∀e∈es,e∈fs)(c:Conn es i j):Conn fs i j:=by
 induction c with
 |refl i=>show .refl i
 |edge q=>show .edge (h _ q)
 |symm _ ih=>show .symm ih
 |trans _ _ i1 i2=>show .trans i1 i2
def sO{n i:Nat}(h:i<n):mk ((List.range n).R λ(i:Nat)=>(i:Int)) i=(i:Int):=by rw[mk_map' h]
where
 mk_map' {n i:Nat} (h:i<n):mk ((List.range n).R λ(i:Nat)=>(i:Int)) i=(i:Int):=by simp[mk,Wv,Yv,pV h]
def InN(n:Nat)(es:List (Nat×Nat)):(Prop):=∀e∈es,e.1<n/\e.2<n
def InN.snoc{e:Nat×Nat}(h:InN n (es++[e])):InN n es/\e.1<n/\e.2<n:={λx hx=>h x<|Yg _ hx,h e B}
def lg:∀es:List (Nat×Nat),InN n es->∀e∈es,mk (WW n es) e.1=mk (WW n es) e.2:=by
 show KO (λ_ e h=>by cases h) λes x ih hn e he=>?_;let(h1,h2,h3):=hn.snoc;let hl:=ZI n es
 let hx:=hn e he;rw[Mf];show(Bs J J).U ?_;rcases Xz.L he with q|q
 .show .inl (ih h1 e q)
 .rw[XB.L q];show .inr {.inl Z,.inr Z}
def k9:∀es:List (Nat×Nat),InN n es->∀i j,i<n->j<n->mk (WW n es) i=mk (WW n es) j->Conn es i j:=by
 show KO (λ_ i j hi hj h=>?_) λes x ih hn i j hi hj h=>?_
 .let h:mk ((List.range n).R λ(i:Nat)=>(i:Int)) i=mk ((List.range n).R λ(i:Nat)=>(i:Int)) j:=h;rw[sO hi,sO hj]at h
  have:i=j:=J
  subst this;show .refl i
 .let⟨h1,h2,h3⟩:=hn.snoc;let hl:=ZI n es
  let up:∀{i j:Nat},Conn es i j->Conn (es++[x]) i j:=λc=>c.mono λe he=>Yg _ he;let ex:Conn (es++[x]) x.1 x.2:=.edge B
  rw[Mf]at h;rcases(Bs J J).L h with q|⟨q1,q2⟩
  .show up (ih h1 i j hi hj q)
  .let ci:Conn (es++[x]) i x.1:=by
    rcases q1 with q|q
    .show up (ih h1 i _ hi h2 q)
    .show(up<|ih h1 i _ hi h3 q).m ex.symm
   let cj:Conn (es++[x]) j x.1:=by
    rcases q2 with q|q
    .show up (ih h1 j _ hj h2 q)
    .show(up<|ih h1 j _ hj h3 q).m ex.symm
   show ci.m cj.symm
def k8(hn:InN n es)(c:Conn es i j):i=j\/(i<n/\j<n/\mk (WW n es) i=mk (WW n es) j):=by
 induction c with
 |refl i=>show .inl rfl
 |edge q=>show .inr {(hn _ q).1,(hn _ q).2,lg es hn _ q}
 |symm _ ih=>
  rcases ih with e|⟨a,b,c⟩
  .show .inl e.symm
  .show .inr ⟨b,a,c.symm⟩
 |trans _ _ i1 i2=>
  rcases i1 with e|⟨a,b,c⟩
  .rw[e];show i2
  .rcases i2 with e|⟨a',b',c'⟩
   .rw[<-e];show .inr ⟨a,b,c⟩
   .show .inr {a,b',c.m c'}
def VW(hn:InN n es)(hi:i<n)(hj:j<n):mk (WW n es) i=mk (WW n es) j↔Conn es i j:=by
 constructor
 .show k9 es hn i j hi hj
 .intro c;rcases k8 hn c with e|⟨_,_,e⟩
  .rw[e]
  .show e
def QE(hn:InN n es)(hi:i<n)(hj:j<n):mk (Xy n es) i=mk (Xy n es) j↔Conn es i j:=by
 rw[<-VW hn hi hj];let s:=sW (n:=n) (es:=es) hn
 show s.2 i j (by rwa[ZH]) (by rwa[ZH])
def cnt(M:Ac):(Nat):=(UP M M.f).f
def sN(M:Ac):∃p,p<=i/\mk M p=mk M i/\VX M p=true:=by
 induction i using Nat.strongRecOn with
 |ind i ih=>
  cases h:VX M i=true
  .exists i,XJ _,Z,h
  .have:∃j,j<i/\mk M j=mk M i:=by
    cases q:∃j,j<i/\mk M j=mk M i
    .show q
    .show absurd (Xw.U λj hj e=>q ⟨j,hj,e⟩) h
   let(j,hj,e):=this;let(p,h1,h2,h3):=ih j hj;exists p,J,h2.m e,h3
def kZ{p q:Nat->Bool}{x n:Nat}(hx:x<n)(hpx:p x=true)(h:∀y,y<n->q y=(p y && !decide (y=x))):((List.range n).Q q).f+1=((List.range n).Q p).f:=by
 induction n with
 |zero=>show absurd hx (Sy x)
 |succ n ih=>
  rw[Df,QU,QU,Xt,Xt];cases e:x=n
  .subst e;let e1:(List.range x).Q q=(List.range x).Q p:=Mw λy hy=>by let hy:=YW.L hy;rw[h y J,show decide (y=x)=false from Sz J];simp
   let e2:q x=false:=by rw[h x J];simp
   rw[e1];simp[YU,e2,hpx]
  .let hq:q n=p n:=by rw[h n J,show decide (n=x)=false from Sz λz=>e z.symm];simp
   have:=ih J λy hy=>h y J
   simp only[YU,pH,hq];lia
def sM(hp:VX M p=true)(hq:VX M q=true)(e:mk M p=mk M q):p=q:=by
 rcases Nat.lt_trichotomy p q with h|h|h
 .show absurd e (Xw.L hq p h)
 .show h
 .show absurd e.symm (Xw.L hp q h)
def kY(ha:a<m.f)(hb:b<m.f)(XM:mk m a≠mk m b):cnt (lm m a b)+1=cnt m:=by
 let(A,QD,SJ,Mc):=sN m (i:=a);let(CL,hB1,KN,IX):=sN m (i:=b);let hAB:A≠CL:=λe=>XM (by rw[<-SJ,<-KN,e])
 unfold cnt UP;rw[tf];show kZ (x:=max A CL) J ?_ λy hy=>?_
 .rcases Nat.le_total A CL with h|h
  .rw[Nat.max_eq_right h];show IX
  .rw[Nat.max_eq_left h];show Mc
 .rw[OM,HQ,Xw,Xw];let key:∀i,i<y->(mk (lm m a b) i=mk (lm m a b) y↔El m a b i y):=λi hi=>Bs J hy
  let kX:(!decide (y=max A CL))=true↔y≠max A CL:=B;rw[kX];constructor
  .intro q;exists λi hi e=>q i hi<|(key i hi).U (.inl e),λe=>?_;rcases Nat.lt_or_gt_of_ne hAB with h|h
   .let ey:y=CL:=J;subst ey;show q A h ((key A h).U (.inr {.inl SJ,.inr KN}))
   .let ey:y=A:=J;subst ey;show q CL h ((key CL h).U (.inr {.inr KN,.inl SJ}))
  .rintro⟨q1,q2⟩ i hi e;rcases(key i hi).L e with e|⟨e1,e2⟩
   .show q1 i hi e
   .let fy:VX m y=true:=Xw.U q1;rcases e2 with e2|e2
    .let ey:y=A:=sM fy Mc (e2.m SJ.symm);rcases e1 with e1|e1
     .show q1 i hi (e1.m e2.symm)
     .let⟨p,p1,p2,p3⟩:=sN m (i:=i)
      have:p=CL:=sM p3 IX (by rw[p2,e1,KN])
      lia
    .let ey:y=CL:=sM fy IX (e2.m KN.symm);rcases e1 with e1|e1
     .let⟨p,p1,p2,p3⟩:=sN m (i:=i)
      have:p=A:=sM p3 Mc (by rw[p2,e1,SJ])
      lia
     .show q1 i hi (e1.m e2.symm)
def ZS5(n:Nat):cnt ((List.range n).R λ(i:Nat)=>(i:Int))=n:=by
 unfold cnt UP;rw[Yc,Mz];let e:(List.range n).Q (VX<|(List.range n).R λ(i:Nat)=>(i:Int))=List.range n:=by
  show uV.U λp hp=>Xw.U λi hi e=>?_;let hp:=YW.L hp
  rw[sO J,sO hp]at e;lia
 rw[e,Mz]
def kW(hM:1<=M.f):cnt M=1↔∀i j,i<M.f->j<M.f->mk M i=mk M j:=by
 let e:cnt M=(GU M).f:=by unfold cnt GU;rw[IY,Yc]
 rw[e];show Jb hM
end My
namespace My
open PySem L2
def kT{i:Int}{n:Nat}(h0:0<=i)(h1:i<(n:Int)):seqIndex? i n=some i.j:=by let e:(if i<0 then i+(n:Int) else i)=i:=if_neg J;unfold seqIndex?;simp only[e];rw[if_pos (by simp;lia)]
def Zg(n:Int)(ps:Aa)(ns:Ac):(Prop):=IsSet ps.f ns/\ns⁻¹=n-1/\∀i j,i<n.j->j<n.j->Conn (XS ps ns) i j
def ZY(g:Zz n ps)(h:∀z∈ns,0<=z/\z<ps⁻¹):InN n.j (XS ps ns):=λe he=>by
 let(z,hz,rfl):=YT.L he;let(z0,z1):=h z hz;let hp:ps[z.j]?=some (ps[z.j]'(by lia)):=Xr _
 rw[Wa hp];let(b1,b2,b3,b4):=g.2.2.2 _ (Xm hp);exists J,J
def Vt(h:∀z∈ns,z∈ms):∀e∈XS ps ns,e∈XS ps ms:=λe he=>by let(z,hz,rfl):=YT.L he;show YT.U {z,h z hz,Z}
def Ze7(h:InN n es):(∀i j,i<(WW n es).f->j<(WW n es).f->mk (WW n es) i=mk (WW n es) j)↔∀i j,i<n->j<n->Conn es i j:=by
 rw[ZI];constructor
 .intro q i j hi hj;show(VW h hi hj).L (q i j hi hj)
 .intro q i j hi hj;show(VW h hi hj).U (q i j hi hj)
def kR(hn:1<=n)(h:InN n es):(GU (Xy n es)).f=1↔∀i j,i<n->j<n->Conn es i j:=by rw[Jb (by rwa[ZH]),(sW h).one];show Ze7 h
def KL(h:∀z,z∈ns↔z∈ms):Conn (XS ps ns) i j↔Conn (XS ps ms) i j:=
 {λc=>c.mono<|Vt λz hz=>(h z).L hz,λc=>c.mono<|Vt λz hz=>(h z).U hz}
section
variable{K:Ad}{a:Addr}{xs:List V}{g:TG}{tt:TT}{te:TE}{o:Nat}{fr:List Nat}{σ:St}{H:Hp}{Q:VK}
def sL(Pv:Nat->List V->Hp->Prop)(h0:Pv 0 [] H)(hz:xs.f<sizeLine)(hl:∀i ys H,i<=xs.f->Pv i ys H->SqL K H a xs/\ys.f<=i)
  (hs:∀(i:Nat) x ys H (p:Addr),H p=none->xs[i]?=some x->Pv i ys H->Eo Pv g tt te o fr σ i ↑p ys (upd H p<|.tup [.int i,x]))(hd:∀ys H,Pv xs.f ys H->∀p,H p=none->Q ↑p (upd H p<|.lst ys)):Je (Ep K a) g tt te o fr σ H Q:=by
 exists λi m ys H=>m=xs.f-i/\i<=xs.f/\Pv i ys H,{xs.f,B,Yj _,h0},?_;rintro i m ys H ⟨rfl,hi,p⟩;let(q,hy):=hl i ys H hi p;cases Xh:i<xs.f
 .show .inr {{xs,xs[i],q,by simp[Xh]},J,λx H' zz=>?_};let(T,y,hT,ex,eH,hyy):=zz;subst ex eH;show hs i y ys H T hT (hyy xs q) p (λj ys H=>∃m',m'<xs.f-i/\m'=xs.f-j/\j<=xs.f/\Pv j ys H) λys H p'=>{xs.f-(i+1),oZ,Z,Xh,p'}
 .let e:i=xs.f:=J;subst e;show .inl {{xs,q,XJ _},J,hd ys H p}
end
def unlike(M:Ac)(ps:Aa)(i:Nat):(Ac):=((List.range i).Q λk=>decide<|mk M (ps.S k (0,0)).1.j≠mk M (ps.S k (0,0)).2.j).R λ(k:Nat)=>(k:Int)
def Zb3(M:Ac)(ps:Aa)(i:Nat):unlike M ps (i+1)=unlike M ps i++(if mk M (ps.S i (0,0)).1.j≠mk M (ps.S i (0,0)).2.j then [(i:Int)] else []):=by
 unfold unlike;rw[Df,QU,YN];congr 1;cases h:mk M (ps.S i (0,0)).1.j≠mk M (ps.S i (0,0)).2.j
 .rw[if_pos h,YU,if_pos (Yq h)];rfl
 .rw[if_neg h,YU,if_neg (by simpa using h)];rfl
def ZF6(M:Ac)(ps:Aa)(i:Nat):(unlike M ps i).f<=i:=by unfold unlike;rw[Yc];show Yl (Yo _ _) B
def wo(ns:Ac)(z:Int):(Ac):=ns.Q λy=>decide (y≠z)
def Xg{z y:Int}:y∈wo ns z↔y∈ns/\y≠z:=by unfold wo;rw[Ya];simp
def sJ(ns:Ac)(z:Int):(wo ns z).f<=ns.f:=Yo _ _
def sI{ns:Ac}{y z:Int}(h:ns[i]?=some y):wo (ns.M (i+1)) z=wo (ns.M i) z++(if y≠z then [y] else []):=by
 unfold wo;rw[YY,h,QU];congr 1;cases e:y≠z
 .rw[if_pos e];change List.Q _ [y]=_;rw[YU,if_pos (Yq e)];rfl
 .rw[if_neg e];change List.Q _ [y]=_;rw[YU,if_neg (by simpa using e)];rfl
def Ze6(g:Zz n ps)(hM:M.f=n.j)(s:SameP M L):unlike M ps ps.f=unlike L ps ps.f:=by
 unfold unlike;congr 1;show Mw λk hk=>?_;let hk:=YW.L hk
 let hp:ps[k]?=some ps[k]:=Xr hk;rw[Wa hp];let(b1,b2,b3,b4):=g.2.2.2 _ (Xm hp)
 have:=s.2 ps[k].1.j ps[k].2.j oZ oZ
 rw[OM,YL,YL];show not_congr this
def SI(n:Int)(ps:Aa)(ns:Ac)(z:Int)(l:Ac):(Ac):=l.Q λy=>decide (z∈unlike (WW n.j<|XS ps<|wo ns y) ps ps.f)
def Bl{l:Ac}{y:Int}(h:l[i]?=some y):
  SI n ps ns z (l.M<|i+1)=SI n ps ns z (l.M i)++(if z∈unlike (WW n.j<|XS ps<|wo ns y) ps ps.f then [y] else []):=by
 unfold SI;rw[YY,h,QU];congr 1;cases e:z∈unlike (WW n.j<|XS ps<|wo ns y) ps ps.f
 .rw[if_pos e];change List.Q _ [y]=_;rw[YU,if_pos (Yq e)];rfl
 .rw[if_neg e];change List.Q _ [y]=_;rw[YU,if_neg (by simpa using e)];rfl
def GP(n:Int)(ps:Aa)(ns:Ac)(z:Int)(l:Ac):(SI n ps ns z l).f<=l.f:=Yo _ _
def ZE6{z:Int}(h0:0<=z)(h1:z<ps⁻¹):z∈unlike M ps ps.f↔mk M (ps.S z.j (0,0)).1.j≠mk M (ps.S z.j (0,0)).2.j:=by
 unfold unlike;rw[YT];constructor
 .rintro⟨k,hk,rfl⟩
  have:=Yu (Ya.L hk).2
  rwa[YO]
 .intro h;exists z.j,Ya.U {YW.U oZ,Yq h},J
def Rq{a b:Ac}(h:a.Perm b)(h1:a.E (·<=·))(h2:b.E (·<=·)):a=b:=by
 induction a generalizing b with
 |nil=>show(List.Perm.nil_eq h)
 |cons x a ih=>
  cases b with
  |nil=>show absurd h.length_eq B
  |cons y b=>
   let(hx,ha):=YZ.L h1;let(hy,hb):=YZ.L h2;let e:x=y:=by
    let m1:y∈x::a:=h.mem_iff.U Yd;let m2:x∈y::b:=h.mem_iff.L Yd
    rcases Yi.L m1 with e1|e1
    .show e1.symm
    .rcases Yi.L m2 with e2|e2
     .show e2
     .have:=hx y e1;have:=hy x e2;lia
   subst e;rw[ih (List.Perm.cons_inv h) ha hb]
end My
namespace L2
open PySem PySem.Spec PyProof.Rows
section
variable{prog:Program}{w:World}{A:Around}{E:Ae}{s:Shared}
def Zs6{tp:Addr}{vs:Ag}{Q:List Value->Shared->Prop}{ot:Obj}(ht:s.G.H tp=some ot)(hc:ot.cls=.type "tuple")(hd:ot.data=.seq vs.C m)(hz:vs.f<=sizeLine)
  (k:Q vs {s with heap:=(s.G.push<|seqObj "list" #[] 0).update (~~~s) (Obj.mapSeq (·++vs.C))}):wpAny (model prog w) A (collect<|.ref tp) Q E s:=by
 let ht1:(s.G.push<|seqObj "list" #[] 0).H tp=some ot:=WY _ ht;let GO:(s.G.push<|seqObj "list" #[] 0).H (~~~s)=some (seqObj "list" #[] 0):=Yr _ rfl
 unfold collect;show XU (uw<|QS pj ?_);change wpAny _ _ (do again (.builtin "list.__iadd__" {[<-newList [],.ref tp],[]})) _ _ s
 show XU (Mt<|Yn ⟨uL _ D,QS entry_list_iadd' ?_⟩);change wpAny _ _ (Builtin.List.listExtendWith (.ref (~~~s)) ↑tp<|.ref (~~~s)) _ _ {s with heap:=s.G.push (seqObj "list" #[] 0)}
 unfold Builtin.List.listExtendWith;show XU (ug (T:="tuple") ⟨ot,ht1,hc⟩ ?_);rw[if_pos (by rw[show(Value.type "tuple" == Value.type "tuple")=true from Z];simp)];show XU (Oz ht1 hd ?_);show XU (Oz (xs:=#[]) (n:=0) GO Z ?_);rw[if_neg B];show XU (Mr (xs:=#[]) (n:=0) GO Z ?_ (Yj _)<|by change(#[]++vs.C).t<=sizeLine+1;simp only[Array.size_append,Yb,Jz];lia);show Yn ?_;show XU (wpAny_load (OC GO _) ?_);change wpAny _ _ (pure ((#[]:Array Value)++vs.C).l) Q E _
 rw[show((#[]:Array Value)++vs.C).l=vs by simp];show Yn k
def Zf6{tp:Addr}{Q:Ae}{ot:Obj}(ht:s.G.H tp=some ot)(hc:ot.cls=.type "tuple")(hd:ot.data=.seq vs.C m)(hI:IntsAre vs ns)(QC:vs.f<64)
  (k:∀out ms,IntsAre out.l ms->ms.Perm ns->ms.E (·<=·)->Q (.ref<|(~~~s)+1) {s with heap:=sortedAll s.G vs out}):
  wpAny (model prog w) A (call (.builtin "sorted") [.ref tp]) Q E s:=by
 let KJ:sizeLine=16777216:=TM;let hsz:((s.G.push<|seqObj "list" #[] 0).update (~~~s) (Obj.mapSeq (·++vs.C))).objs.t=(~~~s)+1:=by rw[pf,EA]
 let Mo:(((s.G.push<|seqObj "list" #[] 0).update (~~~s) (Obj.mapSeq (·++vs.C))).push (seqObj "list" vs.C 0)).H ((~~~s)+1)=some (seqObj "list" vs.C 0):=by rw[<-hsz];show Yr _ rfl
 show uZ kind_sorted OA Oy (args_sorted1 _) ?_;unfold Builtin.«sorted»;show XU (m:=checkCount "sorted" 1 1 _) (Yn ?_);show XU (Zs6 ht hc hd J ?_);show XU (Mt ?_);change wpAny _ _ _ _ _ {s with heap:=((s.G.push<|seqObj "list" #[] 0).update (~~~s) (Obj.mapSeq (·++vs.C))).push (seqObj "list" vs.C 0)}
 rw[hsz];show XU (Sx<|Uj CV ⟨_,Mo,Z⟩ OB (list_sort_tree Mo hI QC λout ms b1 b2 b3=>{_,Z,?_})<|uf _);show Yn {_,Z,k out ms b1 b2 b3}
end
section
variable{X:Cx}
def ZQ4(K:Ad)(hk:X.K=K:=by rfl):TK X (.builtin "sorted") (λxs H Q=>∃p ns,xs=[.ref p]/\SqT K H p (ns.R V.int)/\ns.f<64/\
  ∀ms:Ac,ms.Perm ns->ms.E (·<=·)->∀l,H l=none->Q ↑l (upd H l<|.lst<|ms.R V.int)):=by
 subst hk;intro pins s σ H xs us Q I r h;let(p,ns,rfl,hq,hn,q):=h;let(u,rfl,ru):=VZ r;let rfl:u=Value.ref p:=ru;let(XW,rv,(ot,h1,h2,m,h3),hz):=I.tuple hq;let hi:=ZG rv
 let hl:XW.f=ns.f:=by rw[<-rv.f,Yc]
 show Zf6 h1 h2 h3 hi J λout ms b1 b2 b3=>?_;let(e,he):=sortedAll_at s.G XW out;let Md:ms.f=ns.f:=b2.length_eq
 exists .ref<|(~~~s)+1,_,I.laid (t':=s.toks) (o:=.lst<|ms.R V.int) (λb o g=>sortedAll_old g) (TN _) {?_,out.l,e,PZ b1,he},Z,q ms b2 b3 _<|I.hok.fresh<|TN _;rw[Yc,Md]
 have:sizeLine=16777216:=TM
 lia
def GN(K:Ad):(R2):=λx y H Q=>∃a b xs ys,x=.ref a/\y=.ref b/\SqT K H a xs/\SqT K H b ys/\xs.f+ys.f<=sizeLine/\
 (xs=[]->Q ↑b H)/\(xs≠[]->ys=[]->Q ↑a H)/\(xs≠[]->ys≠[]->∀p,H p=none->Q ↑p (upd H p<|.tup<|xs++ys))
def GL(K:Ad)(hk:X.K=K:=by rfl):Wu X (binaryOp .Add) (GN K):=by
 intro pins s σ H x y v u Q I rx ry h;let(a,b,xs,ys,e1,e2,ha,hb,hz,q0,q1,q2):=id h;cases hx:xs=[]
 .subst hk e1 e2;cases rx;cases ry;let(XW,r1,p1,_):=I.tuple ha;let(Vh,r2,p2,_):=I.tuple hb;let hi:XW=[]:=r1.nil_iff.U hx
  let((cls,dd,data,sl),ho,hc,n,hd):=id p1;let((nu,tP,data2,tO),TF,UQ,n2,hd2):=id p2;simp only at hc hd UQ hd2;subst hc hd UQ hd2;show concat_meets {_,ho,Z} {_,TF,Z} ph seq_tuple_add qb qf (qj _ _)
   (tuple_addW0 a b XW.C Vh.C n n2 dd tP sl tO<|by simp[hi]) {ho,TF,{.ref b,H,I,Z,q0 hx}}
 .show Bt K hk pins s σ H x y v u Q I rx ry {a,b,xs,ys,e1,e2,ha,hb,hx,hz,q1 hx,q2 hx}
end
end L2
namespace My
open PySem L2
def Bk(h:mk m a=mk m b):lm m a b=m:=by unfold lm;rw[if_neg λz=>z h]
def Zf8(ha:a<m.f)(hb:b<m.f):cnt m<=cnt (lm m a b)+1:=by
 cases e:mk m a=mk m b
 .rw[Bk e];lia
 .have:=kY ha hb e;lia
def sH:∀es:List (Nat×Nat),InN n es->n<=cnt (WW n es)+es.f:=by
 show KO (λ_=>?_) λes x ih hn=>?_
 .have:cnt (WW n [])=n:=ZS5 n
  lia
 .let⟨h1,h2,h3⟩:=hn.snoc;let hl:=ZI n es
  have:=Zf8 (m:=WW n es) (a:=x.1) (b:=x.2) J J
  have:=ih h1
  rw[Mf,Xt,YG,Jz];lia
def kQ(h:1<=M.f):1<=cnt M:=by unfold cnt UP;show EO (a:=0) (Ya.U {YW.U J,Xw.U λi hi=>absurd hi<|Sy i})
def IW(hn:1<=n)(h:InN n es):cnt (WW n es)=1↔∀i j,i<n->j<n->Conn es i j:=by rw[kW (by rwa[ZI])];show Ze7 h
def Bj(hn:ts.Nodup)(ho:o∈ts):(wo ts o).f+1=ts.f:=by
 induction ts with
 |nil=>cases ho
 |cons x r ih=>
  let(h1,h2):=Pn.L hn;unfold wo;rw[YU];cases e:x=o
  .subst e;rw[if_neg B]
   have:r.Q (λy=>decide<|y≠x)=r:=uV.U λy hy=>Yq λe=>h1 (e▸hy)
   rw[this];rfl
  .rw[if_pos (Yq e)]
   have:=ih h2 ((Yi.L ho).resolve_left λz=>e z.symm)
   unfold wo at this;rw[YG,YG];lia
def Zu(ps:Aa)(z:Int):(Nat×Nat):=((ps.S z.j (0,0)).1.j,(ps.S z.j (0,0)).2.j)
def IV(ps:Aa)(ns:Ac)(z:Int):XS ps (ns++[z])=XS ps ns++[Zu ps z]:=by unfold XS Zu;rw[YN];rfl
def SY(g:Zz n ps)(z0:0<=z)(z1:z<ps⁻¹):(Zu ps z).1<n.j/\(Zu ps z).2<n.j:=by
 have:=ZY (ns:=[z]) g (λy hy=>by rw[XB.L hy];exists z0,z1)
 show this (Zu ps z) (by unfold XS Zu;simp)
def Bi(hT:Zg n ps ts):∀y∈wo ts o,0<=y/\y<ps⁻¹:=λy hy=>hT.1.all y (Xg.L hy).1
def GK(g:Zz n ps)(hT:Zg n ps ts)(ho:o∈ts)(z0:0<=z)(z1:z<ps⁻¹):
  (∀i j,i<n.j->j<n.j->Conn (XS ps<|wo ts o++[z]) i j)↔¬Conn (XS ps<|wo ts o) (Zu ps z).1 (Zu ps z).2:=by
 let hn:1<=n.j:=by have:=g.1;lia
 let hw:=Bj hT.1.nodup ho;let hl:ts⁻¹=n-1:=hT.2.1
 let i0:InN n.j (XS ps<|wo ts o):=ZY g (Bi hT);let hz:=SY g z0 z1
 let ob:=hT.1.all o ho;let Eh:=SY g ob.1 ob.2
 let i1:InN n.j (XS ps (wo ts o)++[Zu ps z]):=λe he=>(Xz.L he).elim (i0 e) λq=>by rwa[XB.L q]
 let i2:InN n.j (XS ps (wo ts o)++[Zu ps o]):=λe he=>(Xz.L he).elim (i0 e) λq=>by rwa[XB.L q]
 let hL:=ZI n.j (XS ps<|wo ts o);let le:(XS ps<|wo ts o).f=(wo ts o).f:=by unfold XS;rw[Yc]
 rw[IV];constructor
 .intro hc c;let h1:cnt (WW n.j<|XS ps (wo ts o)++[Zu ps z])=1:=(IW hn i1).U hc
  rw[Mf,Bk ((VW i0 hz.1 hz.2).U c)]at h1
  have:=sH _ i0
  lia
 .intro hc;let h2:cnt (WW n.j<|XS ps (wo ts o)++[Zu ps o])=1:=by
   show(IW hn i2).U λi j hi hj=>?_;rw[<-IV];show(KL λy=>?_).L (hT.2.2 i j hi hj);rw[Xz,Xg,XB];constructor
   .intro hy;cases e:y=o
    .show .inr e
    .show .inl ⟨hy,e⟩
   .rintro(q|q)
    .show q.1
    .rw[q];show ho
  rw[Mf]at h2;let h3:=Zf8 (m:=WW n.j<|XS ps<|wo ts o) (a:=(Zu ps o).1) (b:=(Zu ps o).2) J J
  let h4:=kY (m:=WW n.j<|XS ps<|wo ts o) (a:=(Zu ps z).1) (b:=(Zu ps z).2) J J λe=>hc ((VW i0 hz.1 hz.2).L e);let h5:=kQ (M:=lm (WW n.j<|XS ps<|wo ts o) (Zu ps z).1 (Zu ps z).2) (by rw[tf];lia)
  show(IW hn i1).L ?_;rw[Mf];lia
def Uy(n:Int)(ps:Aa)(ts:Ac)(o:Int):(Ac):=unlike (WW n.j<|XS ps<|wo ts o) ps ps.f
def ZG6{z:Int}(h:z∈unlike M ps i):0<=z/\z<(i:Int):=by
 unfold unlike at h;let(k,hk,rfl):=YT.L h
 have:=YW.L (Ya.L hk).1
 lia
def Pb(g:Zz n ps)(hT:Zg n ps ts)(z0:0<=z)(z1:z<ps⁻¹):z∈Uy n ps ts o↔¬Conn (XS ps (wo ts o)) (Zu ps z).1 (Zu ps z).2:=by let hz:=SY g z0 z1;unfold Uy;rw[ZE6 z0 z1];show not_congr (VW (ZY g<|Bi hT) hz.1 hz.2)
def exg(n:Int)(ps:Aa)(ts:Ac)(o z:Int):(Prop):=o∈ts/\z≠o/\z∈Uy n ps ts o
instance (n:Int) (ps:Aa) (ts:Ac) (o z:Int):Decidable (exg n ps ts o z):=by unfold exg;infer_instance
def Eg(g:Zz n ps)(hT:Zg n ps ts):
  exg n ps ts o z↔o∈ts/\z∉ts/\0<=z/\z<ps⁻¹/\∀i j,i<n.j->j<n.j->Conn (XS ps<|wo ts o++[z]) i j:=by
 constructor
 .rintro⟨h1,h2,h3⟩;let(z0,z1):=ZG6 h3;let hc:=(Pb g hT z0 z1).L h3
  exists h1,λhz=>hc ?_,z0,z1,(GK g hT h1 z0 z1).U hc;show .edge ?_;show YT.U {z,Xg.U ⟨hz,h2⟩,Z}
 .rintro⟨h1,h2,z0,z1,hc⟩;exists h1,λe=>h2<|e▸h1,(Pb g hT z0 z1).U ((GK g hT h1 z0 z1).L hc)
end My
namespace L2
open PySem PySem.Spec PyProof.Rows
section
variable{X:Cx}
def GJ(e:Addr->Bool):(V->Bool)
 | .ref a=>e a
 |_=>false
def Bh(K:Ad):(R2):=λx y H Q=>∃n p xs e,y=.ref p/\SqL K H p xs/\n<=6/\(∀v∈xs,∃a,v=.ref a/\EqD K H n v x (e a))/\Q (.bl<|xs.any<|GJ e) H
def Zn8{e:Addr->Bool}:∀{xs:List V}{us:Ag},Vals xs us->(∀v∈xs,∃a,v=.ref a)->(us.any λu=>match u with | .ref a=>e a|_=>false)=xs.any (GJ e)
 |_,_,.nil,_=>rfl
 |x::xs,u::us,.cons r t,h=>by let(a,rfl):=h x Yd;let rfl:u=Value.ref a:=r;rw[RB,RB,Zn8 t λv hv=>h v (Yh _ hv)];rfl
def Zl7{e:Addr->Bool}(I:Inv X pins σ H s)(hu:A.units+n<cLine)(rx:RelV x w){xs:List V}{us:Ag}(h0:Vals xs us)(h:∀v∈xs,∃a,v=.ref a/\EqD X.K H n v x (e a)):∀u∈us,SeqAt.EqAt A s u w (match u with | .ref a=>e a|_=>false):=by
 induction h0 with
 |nil=>intro u hu;cases hu
 |@cons y u xs us r t ih=>
  intro u' kP;rcases Yi.L kP with rfl|kP
  .let⟨a,rfl,q⟩:=h y Yd;let rfl:u'=Value.ref a:=r;show q.at I hu Z rx
  .show ih (λv hv=>h v<|Yh _ hv) u' kP
def kO(K:Ad)(hu:X.A.units+8<cLine)(hk:X.K=K:=by rfl):Wu X (compareOp .In) (Bh K):=by
 subst hk;intro pins s σ H x y v u Q I rx ry h;let(n,p,xs,e,rfl,hq,hn,he,q):=h;cases ry;let(XW,r,pl,hz):=I.list hq;show SeqAt.in_listAt (λu=>match u with | .ref a=>e a|_=>false) pl.isList (λw hw=>Zl7 I (by change X.A.units+1+n<cLine;lia) rx r he w<|by simpa using hw) ⟨.bl _,H,I,Z,?_⟩
 rw[show XW.C.any (λu=>match u with | .ref a=>e a|_=>false)=XW.any (λu=>match u with | .ref a=>e a|_=>false) by simp,Zn8 r λv hv=>by let(a,ea,_):=he v hv;exists a,ea]
 show q
end
end L2
namespace My
open PySem L2
def Bg{o y:Int}(g:Zz n ps)(hT:Zg n ps ts)(ho:o∈ts)(hy:y∈ts):y∈Uy n ps ts o↔y=o:=by
 let yb:=hT.1.all y hy;rw[Pb g hT yb.1 yb.2];constructor
 .intro h;cases e:y=o
  .show e
  .show absurd (.edge<|YT.U {y,Xg.U ⟨hy,e⟩,Z}) h
 .rintro rfl;show(GK g hT hy yb.1 yb.2).L λi j hi hj=>(KL λz=>?_).L (hT.2.2 i j hi hj);rw[Xz,Xg,XB];constructor
  .intro hz;cases e:z=y
   .show .inr e
   .show .inl ⟨hz,e⟩
  .rintro(q|q)
   .show q.1
   .rw[q];show hy
def Ve:y∈SI n ps ts z l↔y∈l/\z∈Uy n ps ts y:=by unfold SI;rw[Ya,YL];show Iff.rfl
def NW(g:Zz n ps)(hT:Zg n ps ts)(hx:exg n ps ts o z)(UO:ms.Perm (wo ts o++[z]))(PX:ms.E (·<=·)):Zg n ps ms:=by
 let(ho,hz,z0,z1,hc):=(Eg g hT).L hx;let nd:(wo ts o++[z]).Nodup:=ZQ9 (hT.1.nodup.sublist pU) λh=>hz (Xg.L h).1
 let ndm:ms.Nodup:=UO.nodup_iff.U nd;let hl:=Bj hT.1.nodup ho
 let Vj:=UO.length_eq;rw[Xt,Yw]at Vj;show{XR.U {λy hy=>?_,(ag.U ⟨PX,ndm⟩).imp λ{x y} h=>by have:=h.1;have:=h.2;lia},by rw[Vj,hl];show hT.2.1,λi j hi hj=>(KL λy=>UO.mem_iff).U (hc i j hi hj)};rcases Xz.L (UO.mem_iff.L hy) with h|h
 .show hT.1.all y (Xg.L h).1
 .rw[XB.L h];exists z0,z1
section
variable{n:Int}{ps:Aa}{ts ms:Ac}{o z:Int}(g:Zz n ps)(hT:Zg n ps ts)(hx:exg n ps ts o z)(UO:ms.Perm (wo ts o++[z]))(PX:ms.E (·<=·))
include g hT hx UO PX
def sG{y:Int}:y∈ms↔(y∈ts/\y≠o)\/y=z:=by rw[UO.mem_iff,Xz,Xg,XB]
end
def Zl5:∀{a b:Ac},a.f=b.f->HT.lexLt a b=true->∃p x y r s,a=p++x::r/\b=p++y::s/\x<y
 |[],[],_,h=>by cases h
 |[],_::_,e,_=>by simp at e
 |_::_,[],e,_=>by simp at e
 |x::xs,y::ys,e,h=>by
  rw[HT.Xo]at h;cases q:x=y
  .subst q;rw[if_pos Z]at h;let(p,u,v,r,s,e1,e2,e3):=Zl5 (by simpa using e) h;exists x::p,u,v,r,s,by rw[e1];rfl,by rw[e2];rfl,e3
  .rw[if_neg q]at h;exists [],x,y,xs,ys,Z,Z,Yu h
def Xu:∀{a b:Ac},HT.lexLt a b=false->HT.lexLt b a=false->a=b
 |[],[],_,_=>rfl
 |[],_::_,h,_=>by cases h
 |_::_,[],_,h=>by cases h
 |x::xs,y::ys,h1,h2=>by
  rw[HT.Xo]at h1 h2;cases q:x=y
  .subst q;rw[if_pos Z]at h1 h2;rw[Xu h1 h2]
  .rw[if_neg q]at h1;rw[if_neg λe=>q e.symm]at h2
   have:=of_decide_eq_false h1
   have:=of_decide_eq_false h2
   lia
def Wr:∀{a b c:Ac},HT.lexLt a b=true->HT.lexLt b c=true->HT.lexLt a c=true
 |[],[],_,h,_=>by cases h
 |[],_::_,[],_,h=>by cases h
 |[],_::_,_::_,_,_=>rfl
 |_::_,[],_,h,_=>by cases h
 |_::_,_::_,[],_,h=>by cases h
 |x::xs,y::ys,z::zs,h1,h2=>by
  rw[HT.Xo]at h1 h2 ⊢;cases e1:x=y
  .subst e1;rw[if_pos Z]at h1;cases e2:x=z
   .subst e2;rw[if_pos Z]at h2 ⊢;show Wr h1 h2
   .rw[if_neg e2]at h2 ⊢;show h2
  .rw[if_neg e1]at h1;let h1:=Yu h1
   cases e2:y=z
   .subst e2;rw[if_neg e1];show Yq h1
   .rw[if_neg e2]at h2;let h2:=Yu h2
    rw[if_neg J];show Yq oW
def WN:∀a:Ac,HT.lexLt a a=false
 |[]=>rfl
 |x::xs=>by rw[HT.Xo,if_pos Z];show WN xs
def QB(bt:Nat->Nat->Bool):∀j,argBest bt j<=j
 |0=>XJ _
 |j+1=>by
  unfold argBest;split
  .show XJ _
  .have:=QB bt j;lia
def Xn(H:Hp)(v:V)(l:Ac):(Prop):=∃a,v=.ref a/\H a=some (.tup<|IL l)
def TupsV(H:Hp)(xs:List V)(L:Ab):(Prop):=xs.f=L.f/\∀(i:Nat)(l:Ac),L[i]?=some l->∃v,xs[i]?=some v/\Xn H v l
def TupsV.same(s:Same H H')(h:TupsV H xs L):TupsV H' xs L:={h.1,λi l e=>by let(v,e1,a,e2,e3):=h.2 i l e;exists v,e1,a,e2,s _ _ e3}
def TupsV.at(h:TupsV H xs L){i:Nat}{v:V}(e:xs[i]?=some v):∃l,L[i]?=some l/\Xn H v l:=by
 let hi:i<xs.f:=(XF.L e).1;let hp:i<L.f:=by rwa[<-h.1]
 let(v',e1,q):=h.2 i L[i] (Xr hp);rw[e]at e1;cases e1;exists _,Xr hp,q
def TupsV.nil:TupsV H [] []:={Z,λi p e=>by simp at e}
def TupsV.app(h:TupsV H xs L)(h2:TupsV H ys M):TupsV H (xs++ys) (L++M):=by
 show{by rw[Xt,Xt,h.1,h2.1],λi l e=>?_};cases hi:i<L.f
 .rw[Yp hi]at e;let(v,e1,q):=h.2 i l e;exists v,by rw[Yp (by rwa[h.1])];show e1,q
 .rw[Ym J]at e;let(v,e1,q):=h2.2 _ l e;exists v,by rw[Ym (by rw[h.1];omega),h.1];show e1,q
def TupsV.one(q:Xn H v l):TupsV H [v] [l]:=⟨Z,λi m e=>by
 cases i with
 |zero=>have e:l=m:=(by simpa using e);exists v,Z,e▸q
 |succ i=>simp at e⟩
def TupsV.snoc(h:TupsV H xs L)(q:Xn H v l):TupsV H (xs++[v]) (L++[l]):=h.app (.one q)
def TupsV.mut{d:Addr}{ys zs xs:List V}(hP:TupsV H xs L)(hl:H d=some (.lst ys)):TupsV (upd H d (.lst zs)) xs L:=by exists hP.1,λj p e=>?_;let(v,e1,tt,e2,e3):=hP.2 j p e;exists v,e1,tt,e2,by rwa[Zb (Ry e3 hl (λz=>nomatch z))]
def ZU7(hx:Xn H x a)(hy:Xn H y b):EqD K H 1 x y (decide (a=b)):=by let(t,rfl,ht):=hx;let(u,rfl,hu):=hy;show ZG5 (SqT.of ht) (SqT.of hu)
def Sh(s:Ac):(Int):=match s.getLast? with|none=>0|some x=>x+1
def SX(m:Int)(s:Ac):(Ab):=(List.range (m-Sh s).j).R λ(i:Nat)=>s++[Sh s+(i:Int)]
def NV(m:Int):(Nat->Ab)
 |0=>[[]]
 |k+1=>(NV m k).flatMap (SX m)
def kN(s:Ac)(x:Int):Sh (s++[x])=x+1:=by unfold Sh;rw[List.getLast?_append];rfl
def VV{s l:Ac}:l∈SX m s↔∃t,Sh s<=t/\t<m/\l=s++[t]:=by
 unfold SX;rw[YT];constructor
 .rintro⟨i,hi,rfl⟩
  have:=YW.L hi
  exists _,J,oW,Z
 .rintro⟨t,h1,h2,rfl⟩;exists (t-Sh s).j,YW.U J,by rw[show Sh s+(((t-Sh s).j:Nat):Int)=t by lia]
def Sg{t:Int}:IsSet m (s++[t])↔IsSet m s/\Sh s<=t/\0<=t/\t<(m:Int):=by
 rw[XR,XR,YJ];let last:(∀a∈s,∀b∈[t],a<b)/\s.E (·<·)->Sh s<=t\/t<0:=by
  rintro⟨h,_⟩;unfold Sh;cases e:s.getLast? with
  |none=>by_cases h0:0<=t;show .inl h0;show .inr J
  |some x=>have:=h x (HI e) t B;show .inl (by change x+1<=t;lia)
 constructor
 .rintro⟨h1,h2,_,h3⟩;let ht:=h1 t B
  exists {λz hz=>h1 z<|Yg _ hz,h2},?_,ht;rcases last ⟨h3,h2⟩ with h|h
  .show h
  .omega
 .rintro⟨⟨h1,h2⟩,h3,h4,h5⟩;exists λz hz=>?_,h2,JE ..,λa ha b hb=>?_
  .rcases Xz.L hz with h|h
   .show h1 z h
   .rw[XB.L h];exists h4,h5
  .rw[XB.L hb];let key:∀{s:Ac}{a:Int},s.E (·<·)->a∈s->a<Sh s:=by
    show λ{s}=>KO (P:=λs=>∀{a:Int},s.E (·<·)->a∈s->a<Sh s) (λ{a} _ h=>by cases h) (λl x ih {a} hp h=>?_) s;rw[kN];rw[YJ]at hp;rcases Xz.L h with h|h
    .have:=hp.2.2 a h x B;lia
    .rw[XB.L h];lia
   have:=key h2 ha
   lia
def VR{m:Nat}:∀{k:Nat}{l:Ac},l∈NV (m:Int) k↔l.f=k/\IsSet m l
 |0,l=>by
  change l∈[[]]↔_;rw[XB];constructor
  .rintro rfl;exists Z,λi z e=>by simp at e
  .rintro⟨h,_⟩;show YV.L h
 |k+1,l=>by
  change l∈(NV (m:Int) k).flatMap (SX m)↔_;rw[List.mem_flatMap];constructor
  .rintro⟨s,hs,hl⟩;let(t,h1,h2,rfl):=VV.L hl;let(e,hI):=VR.L hs;let n0:0<=Sh s:=by
    unfold Sh;cases q:s.getLast? with
    |none=>show Jv 0
    |some x=>have:=(hI.all x<|HI q).1;change 0<=x+1;lia
   exists by rw[Xt,e];rfl,Sg.U ⟨hI,h1,J,h2⟩
  .rintro⟨e,hI⟩;let XM:l≠[]:=λz=>by rw[z]at e;simp at e
   obtain⟨s,t,rfl⟩:∃s t,l=s++[t]:={l.dropLast,l.getLast XM,(aL XM).symm};let(h1,h2,h3,h4):=Sg.L hI;exists s,VR.U {by rw[Xt]at e;simpa using e,h1},VV.mpr ⟨t,h2,h4,Z⟩
def kM(h:IsSet m s):(SX (m:Int) s).f<=m:=by
 unfold SX;rw[Yc,Mz];let n0:0<=Sh s:=by
  unfold Sh;cases q:s.getLast? with
  |none=>show Jv 0
  |some x=>have:=(h.all x<|HI q).1;change 0<=x+1;lia
 omega
def ZR7:∀L:Ab,(∀s∈L,IsSet m s)->(L.flatMap (SX (m:Int))).f<=m*L.f
 |[],_=>Yj _
 |s::L,h=>by
  have:=ZR7 L λx hx=>h x (Yh _ hx)
  have:=kM (h s Yd)
  rw[List.flatMap_cons,Xt,YG,Nat.mul_succ];lia
def sF{α:Type}{l:List α}{f:α->Bool}{y:α}(h:l[i]?=some y):(l.M (i+1)).Q f=(l.M i).Q f++(if f y=true then [y] else []):=by
 rw[YY,h,QU];congr 1;cases e:f y=true
 .rw[if_pos e];change List.Q _ [y]=_;rw[YU,if_pos e];rfl
 .rw[if_neg e];change List.Q _ [y]=_;rw[YU,if_neg e];rfl
def Bf:∀{w t:Ac},t.E (·<·)->w.E (·<·)->(∀z∈t,z∈w)->t.Sublist w
 |[],[],_,_,_=>List.Sublist.slnil
 |[],x::t,_,_,h=>absurd (h x Yd) B
 |y::w,[],_,_,_=>List.nil_sublist _
 |y::w,x::t,ht,hw,h=>by
  let(h1,h2):=YZ.L ht;let(h3,h4):=YZ.L hw;cases e:x=y
  .subst e;show List.Sublist.cons₂ _ (Bf h2 h4 λz hz=>?_);rcases Yi.L (h z<|Yh _ hz) with q|q
   .have:=h1 z hz;lia
   .show q
  .let hx:x∈w:=(Yi.L<|h x Yd).resolve_left e;show List.Sublist.cons _ (Bf ht h4 λz hz=>?_);rcases Yi.L (h z hz) with q|q
   .have:=h3 x hx
    rcases Yi.L hz with q2|q2
    .rw[q2];show hx
    .have:=h1 z q2;lia
   .show q
def Mb(M:Ac)(es:List (Nat×Nat)):(Ac):=es.foldl (λm e=>pm m e.1 e.2) M
def Be(M:Ac)(es:List (Nat×Nat))(e:Nat×Nat):Mb M (es++[e])=pm (Mb M es) e.1 e.2:=by unfold Mb;rw[uS];rfl
def kJ(M:Ac):∀es:List (Nat×Nat),(Mb M es).f=M.f:=by
 intro es;unfold Mb
 induction es generalizing M with
 |nil=>rfl
 |cons e l ih=>rw[De,ih,Ob]
def sv{i:Int}(h0:0<=i):WH xs none (some i)=xs.M i.j:=by
 let e:HT.Td xs.f xs.f (some i)=min i.j xs.f:=by change(if i<0 then (i+xs⁻¹).j else min i.j xs.f)=_;rw[if_neg J]
 unfold WH;rw[e,HT.Sm,HL,uq];cases h:i.j<=xs.f
 .rw[HP h]
 .rw[pO J,QP<|XJ _,QP oW]
def VB(m:Nat):(Ac):=(List.range m).R λ(i:Nat)=>(i:Int)
def Xq{z:Int}:z∈VB m↔0<=z/\z<(m:Int):=by
 unfold VB;rw[YT];constructor
 .rintro⟨i,hi,rfl⟩
  have:=YW.L hi
  lia
 .intro h;exists z.j,YW.U J,J
def ZU(m:Nat):(VB m).f=m:=by unfold VB;simp
def IU(m:Nat):(VB m).E (·<·):=by unfold VB;rw[MA];show Dr.imp λh=>oW
def su(m:Nat):IsSet m (VB m):=XR.U {λz hz=>Xq.L hz,IU m}
def Rp(n:Nat)(ps:Aa)(G:Ac)(z:Int):(Ac):=if mk (WW n<|XS ps G) (Zu ps z).1=mk (WW n<|XS ps G) (Zu ps z).2 then G else G++[z]
def WD(n:Nat)(ps:Aa)(zs:Ac):(Ac):=zs.foldl (Rp n ps) []
def KI(n:Nat)(ps:Aa)(zs:Ac)(z:Int):WD n ps (zs++[z])=Rp n ps (WD n ps zs) z:=by unfold WD;rw[uS];rfl
def sr(n:Nat)(ps:Aa)(zs:Ac):∀ys,∃us,WD n ps (zs++ys)=WD n ps zs++us/\us.Sublist ys:=by
 show KO {[],B} λys y ih=>?_;let(us,e,s):=ih;rw[<-YA,KI,e];unfold Rp;split
 .exists us,Z,s.m<|List.sublist_append_left _ _
 .exists us++[y],by rw[YA],s.append<|List.Sublist.refl _
def Bc(n:Nat)(ps:Aa)(zs:Ac):(WD n ps zs).Sublist zs:=by let(us,e,s):=sr n ps [] zs;rw[ON]at e;rwa[e]
def kI(h:∀z∈zs,0<=z/\z<ps⁻¹):∀z∈WD n ps zs,0<=z/\z<ps⁻¹:=λz hz=>h z ((Bc n ps zs).subset hz)
def Ef(g:Zz n ps)(h:∀z∈zs,0<=z/\z<ps⁻¹):InN n.j (XS ps (WD n.j ps zs)):=ZY g (kI h)
def sq(g:Zz n ps):∀zs:Ac,(∀z∈zs,0<=z/\z<ps⁻¹)->cnt (WW n.j (XS ps (WD n.j ps zs)))+(WD n.j ps zs).f=n.j:=by
 show KO (λ_=>ZS5 n.j) λzs z ih h=>?_;let h1:∀z∈zs,0<=z/\z<ps⁻¹:=λy hy=>h y (Yg _ hy)
 let ih:=ih h1;let(z0,z1):=h z (Yk _<|XB.U Z);let he:=SY (z:=z) g z0 z1
 let hl:=ZI n.j (XS ps<|WD n.j ps zs);rw[KI];unfold Rp;split
 .show ih
 .rename_i h;rw[IV,Mf,Xt,Yw]
  have:=kY (m:=WW n.j<|XS ps<|WD n.j ps zs) J J h
  lia
def IT(g:Zz n ps)(h:∀z∈zs,0<=z/\z<ps⁻¹):(WD n.j ps zs).f<=14:=by
 have:=sq g zs h
 have:=g.2.1
 lia
def kH(g:Zz n ps):∀zs:Ac,(∀z∈zs,0<=z/\z<ps⁻¹)->∀{i j:Nat},Conn (XS ps zs) i j->Conn (XS ps (WD n.j ps zs)) i j:=by
 show KO (λ_ _ _ c=>c) λzs z IH h i j c=>?_;let h1:∀z∈zs,0<=z/\z<ps⁻¹:=λy hy=>h y (Yg _ hy)
 let(z0,z1):=h z (Yk _<|XB.U Z);let he:=SY (z:=z) g z0 z1
 let up:∀{a b:Nat},Conn (XS ps<|WD n.j ps zs) a b->Conn (XS ps<|WD n.j ps<|zs++[z]) a b:=λc=>by
  rw[KI];unfold Rp;split
  .show c
  .show c.mono (Vt λy hy=>Yg _ hy)
 let own:Conn (XS ps<|WD n.j ps<|zs++[z]) (Zu ps z).1 (Zu ps z).2:=by
  rw[KI];unfold Rp;split
  .rename_i e;show(VW (Ef g h1) he.1 he.2).L e
  .rw[IV];show .edge (Yk _<|XB.U Z)
 induction c with
 |refl i=>show .refl i
 |symm _ ih=>show .symm ih
 |trans _ _ i1 i2=>show .trans i1 i2
 |@edge a b e=>
  rw[IV]at e;rcases Xz.L e with e|e
  .show up (IH h1<|.edge e)
  .let e:=XB.L e;let ea:a=(Zu ps z).1:=YS Prod.fst e
   let eb:b=(Zu ps z).2:=YS Prod.snd e;rwa[ea,eb]
end My
namespace PyProof.Rows
open PySem
def Ee:(Bool->Keyed->Array Keyed->Nat->Nat->Nat->StateT SortSt Sem (Option Nat)):=sortPriv% PySem.Builtin.gallop
def Zj7:(Array Keyed->Array Keyed->StateT SortSt Sem (Array Keyed)):=sortPriv% PySem.Builtin.mergeLo
def Zk7:(Array Keyed->Array Keyed->StateT SortSt Sem (Array Keyed)):=sortPriv% PySem.Builtin.mergeHi
def Ww(M:Model)(A:Around)(E:Ae)(s:Shared)(O:KeyOrd)(key:Keyed->O.α)(kd:SortKind)(S:Keyed->Prop):(Prop):=
 ∀x y st Q,S x->S y->kindOf st=kd->Q (some<|O.blt (key x)<|key y) st->wpS M A E s (lt' x y) Q st
abbrev dK:Keyed:=(Value.none,Value.none)
section
variable{M:Model}{A:Around}{E:Ae}{s:Shared}{O:KeyOrd}{key:Keyed->O.α}{kd:SortKind}{S:Keyed->Prop}
def ke(key:Keyed->O.α)(arr:Array Keyed)(i:Nat):(O.α):=key (arr.S i dK)
def Ux{p:Keyed}(h:arr[i]?=some p):ke key arr i=key p:=by unfold ke;rw[YB,h];rfl
def Zx{p:Keyed}{Q:Keyed->SortSt->Prop}{st:SortSt}(h:arr[i]?=some p)(q:Q p st):wpS M A E s (elem' arr i) Q st:=by rw[elem'_eq,h];show YM q
def beyB(O:KeyOrd)(key:Keyed->O.α)(left:Bool)(kx:Keyed)(arr:Array Keyed)(j:Nat):(Bool):=if left then O.blt (ke key arr j) (key kx) else !O.blt (key kx) (ke key arr j)
def Bb(h:O.kle (ke key arr i) (ke key arr j))(hb:beyB O key left kx arr j=true):beyB O key left kx arr i=true:=by
 unfold beyB at *;cases left with
 |true=>
  simp only[Hu]at *;show KeyOrd.klt_of_kle_of_klt h hb
 |false=>
  simp only[QT,Vw,uQ]at *;show SO h hb
def Ec(L:Ww M A E s O key kd S){st:SortSt}{Q:Option Nat->SortSt->Prop}(hk:kindOf st=kd)(hS:S kx)(hA:∀i,i<n->∃p,arr[base+i]?=some p/\S p)(hh:hint<n)
  (hm:∀i j,i<=j->j<n->O.kle (ke key arr<|base+i) (ke key arr<|base+j))
  (h:∀k,k<=n->(∀i,i<k->beyB O key left kx arr (base+i)=true)->(∀i,k<=i->i<n->beyB O key left kx arr (base+i)=false)->Q (some k) st):wpS M A E s (Ee left kx arr base n hint) Q st:=by
 let Ba:∀i,i<n->∀Q,Q (some<|beyB O key left kx arr<|base+i) st->
   wpS M A E s (do let x <-elem' arr (base+i);if left=true then lt' x kx else do let r <-lt' kx x;pure (Option.R (λx=>!x) r)) Q st:=λi hi Q q=>by
  let(p,e,hp):=hA i hi;show YC (Zx e ?_);unfold beyB at q;rw[Ux e]at q;cases left with
  |true=>
   rw[if_pos Z];show L _ _ _ _ hp hS hk q
  |false=>
   rw[if_neg B];show YC (L _ _ _ _ hS hp hk<|YM q)
 let dn:∀{i j:Nat},i<=j->j<n->beyB O key left kx arr (base+j)=true->beyB O key left kx arr (base+i)=true:=λWJ hj hb=>Bb (hm _ _ WJ hj) hb;let up:∀{i j:Nat},i<=j->j<n->beyB O key left kx arr (base+i)=false->beyB O key left kx arr (base+j)=false:=λ{i j} WJ hj hb=>by
  cases e:beyB O key left kx arr (base+j) with
  |false=>rfl
  |true=>rw[dn WJ hj e]at hb;cases hb
 generalize hB:(λj=>beyB O key left kx arr<|base+j)=CL at *;let eB:∀j,beyB O key left kx arr (base+j)=CL j:=λj=>congrFun hB j
 simp only[eB]at Ba dn up h;let last:∀lo hi,lo<=hi->hi<=n->(∀i,i<lo->CL i=true)->(∀i,hi<=i->i<n->CL i=false)->∀f,(∀lo hi,f (none,lo,hi)=pure (some hi))->
   wpS M A E s (forIn [0:n] ((none,lo,hi):Option (Option Nat)×Nat×Nat) (λ_ r=>if r.2.1 >= r.2.2 then pure (ForInStep.done (none,r.2.1,r.2.2)) else do
    let x <-(do let x <-elem' arr (base+(r.2.1+(r.2.2-r.2.1)/2));if left=true then lt' x kx else do let r <-lt' kx x;pure (Option.R (λx=>!x) r))
    match x with
    |some more=>if more=true then pure (ForInStep.yield (none,r.2.1+(r.2.2-r.2.1)/2+1,r.2.2)) else pure (ForInStep.yield (none,r.2.1,r.2.1+(r.2.2-r.2.1)/2))
    |_=>pure<|ForInStep.done (some none,r.2.1,r.2.2)) >>= f) Q st:=by
  intro lo hi h1 h2 h3 h4 f hf;show YC (RA (Sw (I:=λx c XQ=>XQ=st/\∃l r,c=(none,l,r)/\l<=r/\r<=n/\r-l<=n-x/\(∀i,i<l->CL i=true)/\(∀i,r<=i->i<n->CL i=false))
   (Q:=λc XQ=>XQ=st/\∃r,c=(none,r,r)/\r<=n/\(∀i,i<r->CL i=true)/\(∀i,r<=i->i<n->CL i=false)) ?_ ?_ ⟨Z,lo,hi,Z,h1,h2,oZ,h3,h4⟩) ?_)
  .rintro x c XQ _ hx ⟨rfl,l,r,rfl,a1,a2,a3,a4,a5⟩;dsimp only;cases hc:l >= r
   .rw[if_pos hc]
    have:l=r:=J
    subst this;show YM ⟨Z,l,Z,a2,a4,a5⟩
   .rw[if_neg hc];show YC (Ba _ oZ _ ?_);dsimp only;cases e:CL (l+(r-l)/2) with
    |true=>
     rw[if_pos Z];show YM {Z,_,_,Z,oZ,a2,oZ,λi hi=>dn (j:=l+(r-l)/2) J oZ e,a5}
    |false=>
     rw[if_neg B];show YM {Z,_,_,Z,J,oZ,oZ,a4,λi hi Wq=>up (i:=l+(r-l)/2) hi Wq e}
  .rintro c XQ ⟨rfl,l,r,rfl,a1,a2,a3,a4,a5⟩
   have:l=r:=oZ
   subst this;exists Z,l,Z,a2,a4,a5
  .rintro c XQ ⟨rfl,r,rfl,a2,a4,a5⟩;rw[hf];show YM (h r a2 a4 a5)
 unfold Ee;show YC (Ba hint hh _ ?_);dsimp only;cases e0:CL hint with
 |true=>
  rw[if_pos Z];show YC (RA (Sw (I:=λx c XQ=>XQ=st/\∃l o,c=(none,l,o)/\l<o/\hint+l<n/\x+1<=o/\CL (hint+l)=true)
   (Q:=λc XQ=>XQ=st/\∃l o,c=(none,l,o)/\l<o/\hint+l<n/\CL (hint+l)=true/\(n-hint<=o\/CL (hint+o)=false)) ?_ ?_ ⟨Z,0,1,Z,oW,J,J,e0⟩) ?_)
  .rintro x c XQ _ hx ⟨rfl,l,o,rfl,a1,a2,a3,a4⟩;dsimp only;cases hc:o >= n-hint
   .rw[if_pos hc];show YM {Z,l,o,Z,a1,a2,a4,.inl hc}
   .rw[if_neg hc];show YC (Ba _ J _ ?_);dsimp only;cases e:CL (hint+o) with
    |false=>
     rw[if_pos oY];show YM {Z,l,o,Z,a1,a2,a4,.inr e}
    |true=>
     rw[if_neg oY];show YM {Z,o,2*o+1,Z,J,oW,J,e}
  .rintro c XQ ⟨rfl,l,o,rfl,a1,a2,a3,a4⟩;exists Z,l,o,Z,a1,a2,a4,.inl J
  .rintro c XQ ⟨rfl,l,o,rfl,a1,a2,a4,a5⟩;dsimp only;show last _ _ J J (λi hi=>dn (j:=hint+l) J a2 a4) (λi hi Wq=>?_) _ λ_ _=>rfl;rcases a5 with a5|a5
   .lia
   .cases h9:n-hint<=o
    .omega
    .show up (i:=hint+o) oZ Wq a5
 |false=>
  rw[if_neg B];show YC (RA (Sw (I:=λx c XQ=>XQ=st/\∃l o,c=(none,l,o)/\l<o/\l<=hint/\x+1<=o/\CL (hint-l)=false)
   (Q:=λc XQ=>XQ=st/\∃l o,c=(none,l,o)/\l<o/\l<=hint/\CL (hint-l)=false/\(hint+1<=o\/(o<=hint/\CL (hint-o)=true))) ?_ ?_ ⟨Z,0,1,Z,oW,J,oW,e0⟩) ?_)
  .rintro x c XQ _ hx ⟨rfl,l,o,rfl,a1,a2,a3,a4⟩;dsimp only;cases hc:o >= hint+1
   .rw[if_pos hc];show YM {Z,l,o,Z,a1,a2,a4,.inl hc}
   .rw[if_neg hc];show YC (Ba _ oZ _ ?_);dsimp only;cases e:CL (hint-o) with
    |true=>
     rw[if_pos Z];show YM {Z,l,o,Z,a1,a2,a4,.inr ⟨J,e⟩}
    |false=>
     rw[if_neg B];show YM {Z,o,2*o+1,Z,oW,oW,oW,e}
  .rintro c XQ ⟨rfl,l,o,rfl,a1,a2,a3,a4⟩;exists Z,l,o,Z,a1,a2,a4,.inl J
  .rintro c XQ ⟨rfl,l,o,rfl,a1,a2,a4,a5⟩;dsimp only;show last _ _ oW oZ (λi hi=>?_) (λi hi Wq=>up (i:=hint-l) J Wq a4) _ λ_ _=>rfl;rcases a5 with a5|⟨a5,a6⟩
   .lia
   .show dn (j:=hint-o) oZ oZ a6
def RK(O:KeyOrd)(key:Keyed->O.α)(x y:Keyed):(Prop):=O.kle (key x) (key y)
structure MI(O:KeyOrd)(key:Keyed->O.α)(la lb:List Keyed)(out:Array Keyed)(ia ib:Nat):Prop where
 so:out.l.E (RK O key)
 oa:∀x∈out.l,∀y∈la.drop ia,RK O key x y
 ob:∀x∈out.l,∀y∈lb.drop ib,RK O key x y
 pm:(out.l++la.drop ia++lb.drop ib).Perm (la++lb)
def Vd(O:KeyOrd)(key:Keyed->O.α)(la lb:List Keyed)(r:Array Keyed):(Prop):=r.l.E (RK O key)/\r.l.Perm (la++lb)
def AZ{la:List Keyed}(h:la.E (RK O key))(i k:Nat):((la.drop i).M k).E (RK O key)/\∀x∈(la.drop i).M k,∀y∈la.drop (i+k),RK O key x y:=by let h1:(la.drop i).E (RK O key):=h.sublist (OG i la);rw[<-LM k (la.drop i),YJ,CZ]at h1;exists h1.1,h1.2.2
def ZH5{α:Type}{la:List α}{i k:Nat}{y:α}(h:y∈la.drop (i+k)):y∈la.drop i:=by rw[<-CZ]at h;show LK h
def MI.a(h:MI O key la lb out ia ib)(sa:la.E (RK O key))(k:Nat)(hx:∀x∈(la.drop ia).M k,∀y∈lb.drop ib,RK O key x y)(e:out'.l=out.l++(la.drop ia).M k):MI O key la lb out' (ia+k) ib:=by
 let(p1,p2):=AZ sa ia k;exists ?_,?_,?_,?_
 .rw[e,YJ];exists h.so,p1,λx hx y hy=>h.oa x hx y<|VF hy
 .intro x Xl y hy;rw[e,Xz]at Xl;rcases Xl with Xl|Xl
  .show h.oa x Xl y (ZH5 hy)
  .show p2 x Xl y hy
 .intro x Xl y hy;rw[e,Xz]at Xl;rcases Xl with Xl|Xl
  .show h.ob x Xl y hy
  .show hx x Xl y hy
 .rw[e,YA out.l,<-CZ,LM];show h.pm
def MI.b(h:MI O key la lb out ia ib)(sb:lb.E (RK O key))(k:Nat)(hx:∀x∈(lb.drop ib).M k,∀y∈la.drop ia,RK O key x y)(e:out'.l=out.l++(lb.drop ib).M k):MI O key la lb out' ia (ib+k):=by
 let(p1,p2):=AZ sb ib k;exists ?_,?_,?_,?_
 .rw[e,YJ];exists h.so,p1,λx hx y hy=>h.ob x hx y<|VF hy
 .intro x Xl y hy;rw[e,Xz]at Xl;rcases Xl with Xl|Xl
  .show h.oa x Xl y hy
  .show hx x Xl y hy
 .intro x Xl y hy;rw[e,Xz]at Xl;rcases Xl with Xl|Xl
  .show h.ob x Xl y (ZH5 hy)
  .show p2 x Xl y hy
 .show List.Perm.m ?_ h.pm;rw[e,<-CZ];show List.Perm.m (l₂:=out.l++la.drop ia++((lb.drop ib).M k++(lb.drop ib).drop k)) ?_ (by rw[LM]);rw[YA,YA,YA];show MD _ ?_;rw[<-YA,<-YA];show Dq _ Dp
def sj(a:Array Keyed)(i:Nat):(a.X i a.t).l=a.l.drop i:=by rw[EM,ER];show QP B
def IS(a:Array Keyed)(i k:Nat):(a.X i (i+k)).l=(a.l.drop i).M k:=by rw[EM,ER,qd]
def MI.last{a b out:Array Keyed}(h:MI O key a.l b.l out ia ib)(sa:a.l.E (RK O key))(sb:b.l.E (RK O key))(hx:∀x∈b.l.drop ib,∀y∈a.l.drop ia,RK O key x y):Vd O key a.l b.l (out++b.X ib b.t++a.X ia a.t):=by
 let e1:(b.l.drop ib).M b.t=b.l.drop ib:=QP B;let e2:(a.l.drop ia).M a.t=a.l.drop ia:=QP B
 let d1:b.l.drop (ib+b.t)=[]:=YQ B;let d2:a.l.drop (ia+a.t)=[]:=YQ B
 let h1:=h.b sb b.t (by rwa[e1]) (out':=out++b.X ib b.t) (by rw[Pp,sj,e1]);let h2:=h1.a sa a.t (by rw[d1];intro _ _ _ hy;cases hy) (out':=out++b.X ib b.t++a.X ia a.t) (by rw[Pp,sj,e2])
 let p:=h2.pm;rw[d1,d2,Ys,Ys]at p;exists h2.so,p
def MI.done{a b out:Array Keyed}(h:MI O key a.l b.l out ia ib)(sa:a.l.E (RK O key))(sb:b.l.E (RK O key))(hx:b.l.drop ib=[]\/a.l.drop ia=[]):Vd O key a.l b.l (out++a.X ia a.t++b.X ib b.t):=by
 let e1:(b.l.drop ib).M b.t=b.l.drop ib:=QP B;let e2:(a.l.drop ia).M a.t=a.l.drop ia:=QP B
 let d1:b.l.drop (ib+b.t)=[]:=YQ B;let d2:a.l.drop (ia+a.t)=[]:=YQ B
 let h1:=h.a sa a.t (by rw[e2];intro x Xl y hy;rcases hx with hx|hx;(rw[hx]at hy;cases hy);(rw[hx]at Xl;cases Xl)) (out':=out++a.X ia a.t) (by rw[Pp,sj,e2])
 let h2:=h1.b sb b.t (by rw[d2];intro _ _ _ hy;cases hy) (out':=out++a.X ia a.t++b.X ib b.t) (by rw[Pp,sj,e1]);let p:=h2.pm
 rw[d1,d2,Ys,Ys]at p;exists h2.so,p
def KH{a:Array Keyed}{p:Keyed}(h:a[i]?=some p):(a.l.drop i).M 1=[p]:=by
 let h':a.l[i]?=some p:=by simpa using h
 let(hi,e):=XF.L h';rw[JF hi,e];rfl
def KG{a:Array Keyed}{p:Keyed}(sa:a.l.E (RK O key))(h:a[i]?=some p):∀y∈a.l.drop i,RK O key p y:=by
 let h':a.l[i]?=some p:=by simpa using h
 let(hi,e):=XF.L h';let h1:(a.l.drop i).E (RK O key):=sa.sublist (OG i _)
 rw[JF hi,e]at h1 ⊢;intro y hy;rcases Yi.L hy with rfl|hy
 .show Pm _
 .show(YZ.L h1).1 y hy
def AY{a:Array Keyed}{i k:Nat}{x:Keyed}(h:x∈(a.l.drop i).M k):∃j,j<k/\a[i+j]?=some x:=by
 let(j,hj):=YE h;let Vf:=(XF.L hj).1
 rw[Yf]at Vf;rw[OQ,if_pos oZ,Su]at hj;exists j,oW,by simpa using hj
def AX{a:Array Keyed}{x:Keyed}(h:x∈a.l.drop i):∃j,i<=j/\j<a.t/\a[j]?=some x:=by
 let(j,hj):=YE h;rw[Su]at hj;let Vf:=(XF.L hj).1
 exists i+j,J,by simpa using Vf,by simpa using hj
def AW(sa:a.l.E (RK O key))(WJ:i<=j)(hj:j<a.t):O.kle (ke key a i) (ke key a j):=by
 let hi:i<a.t:=J;rw[Ux (SN a i hi),Ux (SN a j hj)];cases e:i=j
 .subst e;show Pm _
 .have:=ME.L sa i j (by simpa using hi) (by simpa using hj) J
  simpa[RK] using this
def NU:(Nat->StateT SortSt Sem Unit):=sortPriv% PySem.Builtin.setMinGallop
def si{E:Ae}{st:SortSt}{Q:Unit->SortSt->Prop}(h:Q () (SortSt.mk' (kindOf st) (arrOf st) (pendingOf st) g (failedOf st))):wpS M A E s (NU g) Q st:=OF h
abbrev IQ:=Option (Array Keyed)×Array Keyed×Nat×Nat×Nat×Nat×Nat
def QA(a b out:Array Keyed)(ia ib g ac bc:Nat):(StateT SortSt Sem (ForInStep IQ)):=elem' a ia >>= λx=>
 if (ia+1+1 == a.t)=true then pure (.done (some<|out.push x++b.X ib b.t++a.X (ia+1) a.t,out.push x,ia+1,ib,g,ac,bc))
 else if (decide (ac<7)&&decide (bc<7))=true then pure (.done (none,out.push x,ia+1,ib,g,ac,bc)) else pure (.yield (none,out.push x,ia+1,ib,g,ac,bc))
def Qz(a b out:Array Keyed)(ia ib g ac bc:Nat):(StateT SortSt Sem (ForInStep IQ)):=elem' b ib >>= λx=>
 if (ib+1 == b.t)=true then pure (.done (some<|out.push x++a.X ia a.t++b.X (ib+1) b.t,out.push x,ia,ib+1,g,ac,bc))
 else elem' a ia >>= λy=>Ee true y b (ib+1) (b.t-(ib+1)) 0 >>= λr=>match r with
  |some k=>if k>0 then
    if (ib+1+k == b.t)=true then pure (.done (some<|out.push x++b.X (ib+1) (ib+1+k)++a.X ia a.t++b.X (ib+1+k) b.t,out.push x++b.X (ib+1) (ib+1+k),ia,ib+1+k,g,ac,k))
    else QA a b (out.push x++b.X (ib+1) (ib+1+k)) ia (ib+1+k) g ac k
   else QA a b (out.push x) ia (ib+1) g ac k
  |_=>pure (.done (some<|out.push x++a.X ia a.t++b.X (ib+1) b.t,out.push x,ia,ib+1,g,ac,bc))
def NT(a b out:Array Keyed)(ia ib g ac bc:Nat):(StateT SortSt Sem (ForInStep IQ)):=NU g >>= λ_=>elem' b ib >>= λx=>Ee false x a ia (a.t-ia) 0 >>= λr=>match r with
 |some k=>if k>0 then
   if (ia+k+1 == a.t)=true then pure (.done (some<|out++a.X ia (ia+k)++b.X ib b.t++a.X (ia+k) a.t,out++a.X ia (ia+k),ia+k,ib,g,k,bc))
   else if (ia+k == a.t)=true then pure (.done (some<|out++a.X ia (ia+k)++a.X (ia+k) a.t++b.X ib b.t,out++a.X ia (ia+k),ia+k,ib,g,k,bc))
   else Qz a b (out++a.X ia (ia+k)) (ia+k) ib g k bc
  else Qz a b out ia ib g k bc
 |_=>pure (.done (some<|out++a.X ia a.t++b.X ib b.t,out,ia,ib,g,ac,bc))
def ZB{α σ:Type}{c:Prop}[Decidable c]{x y:StateT σ Sem α}{Q:α->σ->Prop}{st:σ}(hc:c)(h:wpS M A E s x Q st):wpS M A E s (if c then x else y) Q st:=by rwa[if_pos hc]
def ZZ{α σ:Type}{c:Prop}[Decidable c]{x y:StateT σ Sem α}{Q:α->σ->Prop}{st:σ}(hc:¬c)(h:wpS M A E s y Q st):wpS M A E s (if c then x else y) Q st:=by rwa[if_neg hc]
section
variable{a b out:Array Keyed}{ia ib:Nat}{st:SortSt}{R:ForInStep IQ->SortSt->Prop}
def ZV4{pa:Keyed}(sa:a.l.E (RK O key))(sb:b.l.E (RK O key))(h2:∀x∈b.l,∀y∈a.l.drop (a.t-1),RK O key x y)(ea:a[ia]?=some pa)(Ma:ia+1<a.t)(NS:ib<b.t)(m:MI O key a.l b.l out ia ib)(below:∀y∈b.l.drop ib,RK O key pa y)
  (hd:∀r z,Vd O key a.l b.l r->R (.done (some r,z)) st)(hn:∀o2 i2 j2 g3 a3 b3,MI O key a.l b.l o2 i2 j2->i2+1<a.t->j2<b.t->a.t-i2+(b.t-j2)<=a.t-ia+(b.t-ib)->R (.done (none,o2,i2,j2,g3,a3,b3)) st/\R (.yield (none,o2,i2,j2,g3,a3,b3)) st):wpS M A E s (QA a b out ia ib g ac bc) R st:=by
 unfold QA;show YC (Zx ea ?_);let m5:MI O key a.l b.l (out.push pa) (ia+1) ib:=m.a sa 1 (by rw[KH ea];intro x hx y hy;rw[XB.L hx];show below y hy) (by rw[KH ea,RE])
 cases d5:ia+1+1=a.t
 .show ZB (by simpa using d5) (YM<|hd _ _<|m5.last sa sb λx hx y hy=>h2 x (LK hx) y<|by rwa[show a.t-1=ia+1 by lia])
 .show ZZ (by simpa using d5) ?_;let z:=λg3 a3 b3=>hn _ _ _ g3 a3 b3 m5 J NS oZ
  split
  .show YM (z _ _ _).1
  .show YM (z _ _ _).2
def ZX4(L:Ww M A E s O key kd S){pb:Keyed}(hk:kindOf st=kd)(Vc:∀x∈a.l,S x)(Vb:∀x∈b.l,S x)(sa:a.l.E (RK O key))(sb:b.l.E (RK O key))(h2:∀x∈b.l,∀y∈a.l.drop (a.t-1),RK O key x y)(eb:b[ib]?=some pb)(Ma:ia+1<a.t)(NS:ib<b.t)(m:MI O key a.l b.l out ia ib)(above:∀y∈a.l.drop ia,RK O key pb y)
  (hd:∀r z,Vd O key a.l b.l r->R (.done (some r,z)) st)(hn:∀o2 i2 j2 g3 a3 b3,MI O key a.l b.l o2 i2 j2->i2+1<a.t->j2<b.t->a.t-i2+(b.t-j2)<=a.t-ia+(b.t-ib)->R (.done (none,o2,i2,j2,g3,a3,b3)) st/\R (.yield (none,o2,i2,j2,g3,a3,b3)) st):wpS M A E s (Qz a b out ia ib g ac bc) R st:=by
 let AV:∀{i},i=b.t->b.l.drop i=[]:=λe=>YQ (by simp[e]);unfold Qz;show YC (Zx eb ?_);let m3:MI O key a.l b.l (out.push pb) ia (ib+1):=m.b sb 1 (by rw[KH eb];intro x hx y hy;rw[XB.L hx];show above y hy) (by rw[KH eb,RE])
 cases d3:ib+1=b.t
 .show ZB (by simpa using d3) (YM<|hd _ _<|m3.done sa sb<|.inl<|AV d3)
 show ZZ (by simpa using d3) ?_;let ea:a[ia]?=some a[ia]:=SN a ia oW
 let Ei:S a[ia]:=Vc _ B;show YC (Zx ea ?_);show YC (Ec L hk Ei (λi hi=>{b[ib+1+i],SN b _ oW,Vb _ B}) oZ (λi j WJ hj=>AW sb J oZ) λkk IP Vj GI=>?_);dsimp only;let below:∀y∈b.l.drop (ib+1+kk),RK O key a[ia] y:=λy hy=>by
  let(j,j1,j2,ey):=AX hy
  have:=GI (j-(ib+1)) J oW
  unfold beyB at this;rwa[show ib+1+(j-(ib+1))=j by lia,Ux ey]at this
 cases NR:kk>0
 .show ZB NR ?_;let m4:MI O key a.l b.l (out.push pb++b.X (ib+1) (ib+1+kk)) ia (ib+1+kk):=m3.b sb kk (λx hx y hy=>by
   let(j,hj,ex):=AY hx
   have:=Vj j hj
   unfold beyB at this;rw[Ux ex]at this;show SO (Po this)<|KG sa ea y hy) (by rw[Pp,IS])
  cases d4:ib+1+kk=b.t
  .show ZB (by simpa using d4) (YM<|hd _ _<|m4.done sa sb<|.inl<|AV d4)
  .show ZZ (by simpa using d4) (ZV4 sa sb h2 ea Ma oZ m4 below hd λo2 i2 j2 g3 a3 b3 m' e1 e2 e3=>hn o2 i2 j2 g3 a3 b3 m' e1 e2 oZ)
 .show ZZ NR (ZV4 sa sb h2 ea Ma J m3 (λy hy=>below y<|by rwa[show kk=0 by lia]) hd λo2 i2 j2 g3 a3 b3 m' e1 e2 e3=>hn o2 i2 j2 g3 a3 b3 m' e1 e2 oZ)
def ZW4(L:Ww M A E s O key kd S)(hk:kindOf st=kd)(Vc:∀x∈a.l,S x)(Vb:∀x∈b.l,S x)(sa:a.l.E (RK O key))(sb:b.l.E (RK O key))(h2:∀x∈b.l,∀y∈a.l.drop (a.t-1),RK O key x y)(Ma:ia+1<a.t)(NS:ib<b.t)(m:MI O key a.l b.l out ia ib)
  (hd:∀r z,Vd O key a.l b.l r->R (.done (some r,z)) (SortSt.mk' (kindOf st) (arrOf st) (pendingOf st) g<|failedOf st))(hn:∀o2 i2 j2 g3 a3 b3,MI O key a.l b.l o2 i2 j2->i2+1<a.t->j2<b.t->a.t-i2+(b.t-j2)<=a.t-ia+(b.t-ib)->R (.done (none,o2,i2,j2,g3,a3,b3)) (SortSt.mk' (kindOf st) (arrOf st) (pendingOf st) g<|failedOf st)/\R (.yield (none,o2,i2,j2,g3,a3,b3)) (SortSt.mk' (kindOf st) (arrOf st) (pendingOf st) g<|failedOf st)):wpS M A E s (NT a b out ia ib g ac bc) R st:=by
 unfold NT;show YC (si ?_);let eb:b[ib]?=some b[ib]:=SN b ib NS
 show YC (Zx eb ?_);show YC (Ec L hk (Vb _ B) (λi hi=>{a[ia+i],SN a _ oW,Vc _ B}) J (λi j WJ hj=>AW sa J J) λk Eb hl Vs=>?_);dsimp only;let above:∀y∈a.l.drop (ia+k),RK O key b[ib] y:=λy hy=>by
  let(j,j1,j2,ey):=AX hy
  have:=Vs (j-ia) J J
  unfold beyB at this;rw[show ia+(j-ia)=j by lia,Ux ey]at this;simp only[QT,Vw,pR]at this;show Po this
 cases AU:k>0
 .show ZB AU ?_;let m2:MI O key a.l b.l (out++a.X ia (ia+k)) (ia+k) ib:=m.a sa k (λx hx y hy=>by
   let(j,hj,ex):=AY hx
   have:=hl j hj
   unfold beyB at this;rw[Ux ex]at this;simp only[QT,Vw,uQ]at this;show SO this<|KG sb eb y hy) (by rw[Pp,IS])
  cases d1:ia+k+1=a.t
  .show ZB (by simpa using d1) (YM<|hd _ _<|m2.last sa sb λx hx y hy=>h2 x (LK hx) y<|by rwa[show a.t-1=ia+k by lia])
  show ZZ (by simpa using d1) ?_;cases d2:ia+k=a.t
  .show ZB (by simpa using d2) (YM<|hd _ _<|m2.done sa sb<|.inr<|YQ<|by simp[d2])
  .show ZZ (by simpa using d2) (ZX4 L hk Vc Vb sa sb h2 eb oZ NS m2 above hd λo2 i2 j2 g3 a3 b3 m' e1 e2 e3=>hn o2 i2 j2 g3 a3 b3 m' e1 e2 oZ)
 .show ZZ AU (ZX4 L hk Vc Vb sa sb h2 eb Ma NS m (λy hy=>above y<|by rwa[show k=0 by omega]) hd λo2 i2 j2 g3 a3 b3 m' e1 e2 e3=>hn o2 i2 j2 g3 a3 b3 m' e1 e2 J)
end
abbrev AS:=Option (Array Keyed)×Array Keyed×Nat×Nat×Nat×Nat
def loB1(a b:Array Keyed)(g:Nat)(c:AS):(StateT SortSt Sem (ForInStep AS)):=elem' b c.2.2.2.1 >>= λy=>elem' a c.2.2.1 >>= λx=>lt' y x >>= λr=>match r with
 |some t=>if t=true then elem' b c.2.2.2.1 >>= λy=>
    if (c.2.2.2.1+1 == b.t)=true then pure (.done (some<|c.2.1.push y++a.X c.2.2.1 a.t++b.X (c.2.2.2.1+1) b.t,c.2.1.push y,c.2.2.1,c.2.2.2.1+1,0,c.2.2.2.2.2+1))
    else if c.2.2.2.2.2+1 >= g then pure (.done (none,c.2.1.push y,c.2.2.1,c.2.2.2.1+1,0,c.2.2.2.2.2+1)) else pure (.yield (none,c.2.1.push y,c.2.2.1,c.2.2.2.1+1,0,c.2.2.2.2.2+1))
   else elem' a c.2.2.1 >>= λx=>
    if (c.2.2.1+1+1 == a.t)=true then pure (.done (some<|c.2.1.push x++b.X c.2.2.2.1 b.t++a.X (c.2.2.1+1) a.t,c.2.1.push x,c.2.2.1+1,c.2.2.2.1,c.2.2.2.2.1+1,0))
    else if c.2.2.2.2.1+1 >= g then pure (.done (none,c.2.1.push x,c.2.2.1+1,c.2.2.2.1,c.2.2.2.2.1+1,0)) else pure (.yield (none,c.2.1.push x,c.2.2.1+1,c.2.2.2.1,c.2.2.2.2.1+1,0))
 |_=>pure (.done (some<|c.2.1++a.X c.2.2.1 a.t++b.X c.2.2.2.1 b.t,c.2.1,c.2.2.1,c.2.2.2.1,c.2.2.2.2.1,c.2.2.2.2.2))
abbrev GH:=Option (Array Keyed)×Array Keyed×Nat×Nat×Nat
def GG(a b:Array Keyed)(c:IQ):(StateT SortSt Sem (ForInStep IQ)):=if c.2.2.2.2.1>1 then NT a b c.2.1 c.2.2.1 c.2.2.2.1 (c.2.2.2.2.1-1) c.2.2.2.2.2.1 c.2.2.2.2.2.2 else NT a b c.2.1 c.2.2.1 c.2.2.2.1 c.2.2.2.2.1 c.2.2.2.2.2.1 c.2.2.2.2.2.2
def kG(c:IQ):(StateT SortSt Sem (ForInStep GH)):=match c.1 with
 |some r=>pure (.done (some r,c.2.1,c.2.2.1,c.2.2.2.1,c.2.2.2.2.1))
 |none=>NU (c.2.2.2.2.1+1) >>= λ_=>pure (.yield (none,c.2.1,c.2.2.1,c.2.2.2.1,c.2.2.2.2.1+1))
def AR(a b:Array Keyed)(g:Nat)(c:AS):(StateT SortSt Sem (ForInStep GH)):=match c.1 with
 |some r=>pure (.done (some r,c.2.1,c.2.2.1,c.2.2.2.1,g))
 |none=>liftM (rule "list.sort.gallop") >>= λ_=>forIn [0:a.t+b.t] ((none,c.2.1,c.2.2.1,c.2.2.2.1,g+1,c.2.2.2.2.1,c.2.2.2.2.2):IQ) (λ_ s=>GG a b s) >>= kG
def sf(a b:Array Keyed)(c:GH):(StateT SortSt Sem (ForInStep GH)):=forIn [0:a.t+b.t] ((none,c.2.1,c.2.2.1,c.2.2.2.1,0,0):AS) (λ_ s=>loB1 a b c.2.2.2.2 s) >>= AR a b c.2.2.2.2
def kF(c:GH):(StateT SortSt Sem (Array Keyed)):=match c.1 with
 |some r=>pure r
 |none=>liftM (unsupported "internal:list.sort.merge-bound":Sem (Array Keyed))
def GF(a b:Array Keyed):(StateT SortSt Sem (Array Keyed)):=liftM (rule "list.sort.merge-lo") >>= λ_=>elem' b 0 >>= λx=>
 if (1 == b.t)=true then pure (#[x]++a.X 0 a.t++b.X 1 b.t) else if (0+1 == a.t)=true then pure (#[x]++b.X 1 b.t++a.X 0 a.t)
 else get >>= λst=>forIn [0:a.t+b.t] ((none,#[x],0,1,gallopOf st):GH) (λ_ c=>sf a b c) >>= kF
def PV{α β γ:Type _}(f:α->β->γ){a a':α}{b b':β}(h:a=a')(k:b=b'):f a b=f a' b':=by subst h k;rfl
def Ea{α:Type _}{c:Prop}[Decidable c]{a a' b b':α}(h:a=a')(k:b=b'):(if c then a else b)=if c then a' else b':=by subst h k;rfl
def kE(a b:Array Keyed):Zj7 a b=GF a b:=by
 unfold GF;show YS (Bind.bind _) (funext λ_=>YS (Bind.bind _)<|funext λx=>?_);show Ea Z (Ea Z<|YS (Bind.bind _)<|funext λst=>?_);show PV Bind.bind (YS (forIn _ _)<|funext λ_=>funext λc=>?_) ?_
 .unfold sf;show PV Bind.bind (YS (forIn _ _)<|funext λ_=>funext λc=>?_) ?_
  .unfold loB1;show YS (Bind.bind _) (funext λ_=>YS (Bind.bind _)<|funext λ_=>YS (Bind.bind _)<|funext λr=>?_);cases r with
   |none=>rfl
   |some r=>rfl
  .funext c
   unfold AR;let(c1,c2):=c;cases c1 with
   |some r=>rfl
   |none=>
    show YS (Bind.bind _) (funext λ_=>PV Bind.bind (YS (forIn _ _)<|funext λ_=>funext λc=>?_) ?_)
    .unfold GG;show Ea ?_ ?_
     .unfold NT;show YS (Bind.bind _) (funext λ_=>YS (Bind.bind _)<|funext λ_=>YS (Bind.bind _)<|funext λr=>?_);cases r with
      |none=>rfl
      |some r=>rfl
     .rfl
    .funext c
     let(c1,c2):=c;cases c1<;>rfl
 .funext c
  let(c1,c2):=c;cases c1<;>rfl
section
variable{a b:Array Keyed}{st:SortSt}
def kD(L:Ww M A E s O key kd S){out:Array Keyed}{ja jb ac bc g:Nat}{R:ForInStep AS->SortSt->Prop}(hk:kindOf st=kd)(Vc:∀x∈a.l,S x)(Vb:∀x∈b.l,S x)(sa:a.l.E (RK O key))(sb:b.l.E (RK O key))(h2:∀x∈b.l,∀y∈a.l.drop (a.t-1),RK O key x y)(Ro:ja+1<a.t)(RO:jb<b.t)(m:MI O key a.l b.l out ja jb)
  (hd:∀r z,Vd O key a.l b.l r->R (.done (some r,z)) st)(hn:∀o2 i2 j2 a3 b3,MI O key a.l b.l o2 i2 j2->i2+1<a.t->j2<b.t->i2+j2=ja+jb+1->R (.done (none,o2,i2,j2,a3,b3)) st/\R (.yield (none,o2,i2,j2,a3,b3)) st):wpS M A E s (loB1 a b g (none,out,ja,jb,ac,bc)) R st:=by
 let ea:a[ja]?=some a[ja]:=SN a ja oW;let eb:b[jb]?=some b[jb]:=SN b jb RO
 unfold loB1;show YC (Zx eb<|YC<|Zx ea<|YC<|L _ _ _ _ (Vb _ B) (Vc _ B) hk ?_);dsimp only;cases hc:O.blt (key b[jb]) (key a[ja]) with
 |true=>
  show ZB Z (YC<|Zx eb ?_);let m':MI O key a.l b.l (out.push b[jb]) ja (jb+1):=m.b sb 1 (by rw[KH eb];intro x hx y hy;rw[XB.L hx];show SO (Po hc)<|KG sa ea y hy) (by rw[KH eb,RE])
  cases d1:jb+1=b.t
  .show ZB (by simpa using d1) (YM<|hd _ _<|m'.done sa sb<|.inl<|YQ<|by simp[d1])
  .show ZZ (by simpa using d1) ?_;let z:=λa3 b3=>hn _ _ _ a3 b3 m' Ro J J
   cases d2:bc+1 >= g
   .show ZB d2 (YM (z _ _).1)
   .show ZZ d2 (YM (z _ _).2)
 |false=>
  show ZZ B (YC<|Zx ea ?_);let m':MI O key a.l b.l (out.push a[ja]) (ja+1) jb:=m.a sa 1 (by rw[KH ea];intro x hx y hy;rw[XB.L hx];show SO hc<|KG sb eb y hy) (by rw[KH ea,RE])
  cases d1:ja+1+1=a.t
  .show ZB (by simpa using d1) (YM<|hd _ _<|m'.last sa sb λx hx y hy=>h2 x (LK hx) y<|by rwa[show a.t-1=ja+1 by omega])
  .show ZZ (by simpa using d1) ?_;let z:=λa3 b3=>hn _ _ _ a3 b3 m' oW RO J
   cases d2:ac+1 >= g
   .show ZB d2 (YM (z _ _).1)
   .show ZZ d2 (YM (z _ _).2)
def SH(st XQ:SortSt):(Prop):=kindOf XQ=kindOf st/\arrOf XQ=arrOf st/\pendingOf XQ=pendingOf st/\failedOf XQ=failedOf st
def ZA6(L:Ww M A E s O key kd S){XQ:SortSt}{out:Array Keyed}{ia ib g:Nat}{R:ForInStep GH->SortSt->Prop}(hk:kindOf st=kd)(Vc:∀x∈a.l,S x)(Vb:∀x∈b.l,S x)(sa:a.l.E (RK O key))(sb:b.l.E (RK O key))(h2:∀x∈b.l,∀y∈a.l.drop (a.t-1),RK O key x y)(Ma:ia+1<a.t)(NS:ib<b.t)(m:MI O key a.l b.l out ia ib)(ks:SH st XQ)
  (hd:∀r z Xa,Vd O key a.l b.l r->SH st Xa->R (.done (some r,z)) Xa)(hn:∀o2 i2 j2 g3 Xa,MI O key a.l b.l o2 i2 j2->i2+1<a.t->j2<b.t->ia+ib+1<=i2+j2->SH st Xa->R (.yield (none,o2,i2,j2,g3)) Xa):wpS M A E s (sf a b (none,out,ia,ib,g)) R XQ:=by
 unfold sf;show YC (RA (Sw
  (I:=λy c Xa=>Xa=XQ/\∃out ja jb ac bc,c=(none,out,ja,jb,ac,bc)/\MI O key a.l b.l out ja jb/\ja+1<a.t/\jb<b.t/\ja+jb=ia+ib+y)
  (Q:=λc Xa=>Xa=XQ/\((∃r z,c=(some r,z)/\Vd O key a.l b.l r)\/∃out ja jb ac bc,c=(none,out,ja,jb,ac,bc)/\MI O key a.l b.l out ja jb/\ja+1<a.t/\jb<b.t/\ia+ib+1<=ja+jb)) ?_ ?_ {Z,_,_,_,_,_,Z,m,Ma,NS,Z}) ?_)
 .rintro y c Xa _ hy ⟨rfl,out,ja,jb,ac,bc,rfl,m,Ro,RO,hr⟩;show kD L (ks.1.m hk) Vc Vb sa sb h2 Ro RO m (λr z hr=>{Z,.inl ⟨r,z,Z,hr⟩}) λo2 i2 j2 a3 b3 m' e1 e2 e3=>{{Z,.inr {_,_,_,_,_,Z,m',e1,e2,J}},{Z,_,_,_,_,_,Z,m',e1,e2,J}}
 .rintro c Xa ⟨rfl,out,ja,jb,ac,bc,rfl,m,Ro,RO,hr⟩;exists Z,.inr {_,_,_,_,_,Z,m,Ro,RO,J}
 rintro c Xa ⟨rfl,Vr⟩;rcases Vr with ⟨r,z,rfl,hr⟩|⟨out,ja,jb,ac,bc,rfl,m,Ro,RO,hr⟩
 .show YM (hd r _ _ hr ks)
 show YC (wpS_lift<|Pk ⟨Z,?_⟩);show YC (RA (Sw
  (I:=λy c WI=>SH st WI/\∃out LZ LY g ac bc,c=(none,out,LZ,LY,g,ac,bc)/\MI O key a.l b.l out LZ LY/\LZ+1<a.t/\LY<b.t/\a.t-LZ+(b.t-LY)<=a.t-ja+(b.t-jb))
  (Q:=λc WI=>SH st WI/\((∃r z,c=(some r,z)/\Vd O key a.l b.l r)\/∃out LZ LY g ac bc,c=(none,out,LZ,LY,g,ac,bc)/\MI O key a.l b.l out LZ LY/\LZ+1<a.t/\LY<b.t/\a.t-LZ+(b.t-LY)<=a.t-ja+(b.t-jb))) ?_ (λc WI z=>{z.1,.inr z.2}) {ks,_,_,_,_,_,_,Z,m,Ro,RO,XJ _}) ?_)
 .rintro y c WI _ hy ⟨k1,out,LZ,LY,g',ac',bc',rfl,m,AQ,AO,Qy⟩;unfold GG;cases hg:g'>1
  .show ZB hg (ZW4 L (k1.1.m hk) Vc Vb sa sb h2 AQ AO m (λr z hr=>{k1,.inl ⟨r,z,Z,hr⟩}) λo2 i2 j2 g3 a3 b3 m3 e1 e2 e3=>{{k1,.inr {o2,i2,j2,g3,a3,b3,Z,m3,e1,e2,Yl e3 Qy}},{k1,o2,i2,j2,g3,a3,b3,Z,m3,e1,e2,Yl e3 Qy}})
  .show ZZ hg (ZW4 L (k1.1.m hk) Vc Vb sa sb h2 AQ AO m (λr z hr=>{k1,.inl ⟨r,z,Z,hr⟩}) λo2 i2 j2 g3 a3 b3 m3 e1 e2 e3=>{{k1,.inr {o2,i2,j2,g3,a3,b3,Z,m3,e1,e2,Yl e3 Qy}},{k1,o2,i2,j2,g3,a3,b3,Z,m3,e1,e2,Yl e3 Qy}})
 .rintro c WI ⟨k1,Vr⟩;rcases Vr with ⟨r,z,rfl,Uq⟩|⟨GD,ia3,ib3,g3,ac3,bc3,rfl,m3,kC,kB,Uq⟩
  .show YM (hd r _ _ Uq k1)
  .show YC (si<|YM<|hn GD ia3 ib3 (g3+1) _ m3 kC kB J k1)
def Za6(L:Ww M A E s O key kd S){Q:Array Keyed->SortSt->Prop}(hk:kindOf st=kd)(Vc:∀x∈a.l,S x)(Vb:∀x∈b.l,S x)(sa:a.l.E (RK O key))(sb:b.l.E (RK O key))(ha:1<=a.t)(hb:1<=b.t)
  (h1:∀x∈b.l.M 1,∀y∈a.l,RK O key x y)(h2:∀x∈b.l,∀y∈a.l.drop (a.t-1),RK O key x y)
  (h:∀r g,Vd O key a.l b.l r->Q r (SortSt.mk' (kindOf st) (arrOf st) (pendingOf st) g<|failedOf st)):wpS M A E s (Zj7 a b) Q st:=by
 let bump:∀XQ,SH st XQ->∀r,Vd O key a.l b.l r->Q r XQ:=λXQ ⟨e1,e2,e3,e4⟩ r hr=>by
  have:=h r (gallopOf XQ) hr
  rwa[<-e1,<-e2,<-e3,<-e4]at this
 let k0:SH st st:=⟨Z,Z,Z,Z⟩;let e0:b[0]?=some b[0]:=SN b 0 hb
 let m0:MI O key a.l b.l #[] 0 0:={List.E.nil,λ_ h=>(by cases h),λ_ h=>(by cases h),B};let m1:MI O key a.l b.l #[b[0]] 0 1:=m0.b sb 1 (by rwa[HL,HL]) (by rw[KH e0];rfl)
 rw[kE];unfold GF;show YC (wpS_lift<|Pk ⟨Z,?_⟩);show YC (Zx e0 ?_);cases c1:1=b.t
 .show ZB (by simpa using c1) (YM<|bump st k0 _<|m1.done sa sb<|.inl<|YQ<|by simp[<-c1])
 show ZZ (by simpa using c1) ?_;cases c2:0+1=a.t
 .show ZB (by simpa using c2) (YM<|bump st k0 _<|m1.last sa sb λx hx y hy=>h2 x (LK hx) y<|by rwa[show a.t-1=0 by lia])
 show ZZ (by simpa using c2) (YC<|Qf ?_);show YC (RA (Sw
  (I:=λx c XQ=>SH st XQ/\∃out ia ib g,c=(none,out,ia,ib,g)/\MI O key a.l b.l out ia ib/\ia+1<a.t/\ib<b.t/\x<=ia+ib)
  (Q:=λc XQ=>SH st XQ/\∃r,c.1=some r/\Vd O key a.l b.l r) ?_ ?_ {k0,_,_,_,_,Z,m1,J,J,J}) ?_)
 .rintro x c XQ _ hx ⟨k1,out,ia,ib,g,rfl,m,Ma,NS,GC⟩;show ZA6 L hk Vc Vb sa sb h2 Ma NS m k1 (λr z Xa hr k2=>⟨k2,r,Z,hr⟩) λo2 i2 j2 g3 Xa m' e1 e2 e3 k2=>{k2,_,_,_,_,Z,m',e1,e2,J}
 .rintro c XQ ⟨k1,out,ia,ib,g,rfl,m,Ma,NS,GC⟩;lia
 .rintro⟨c1,c2⟩ XQ ⟨k1,r,hc,hr⟩;cases hc;show YM (bump XQ k1 r hr)
end
end
section
variable{M:Model}{A:Around}{E:Ae}{s:Shared}{O:KeyOrd}{key:Keyed->O.α}{kd:SortKind}{S:Keyed->Prop}
structure MH(O:KeyOrd)(key:Keyed->O.α)(la lb:List Keyed)(out:Array Keyed)(na nb:Nat):Prop where
 so:out.l.E λx y=>RK O key y x
 oa:∀x∈la.M na,∀y∈out.l,RK O key x y
 ob:∀x∈lb.M nb,∀y∈out.l,RK O key x y
 pm:(la.M na++lb.M nb++out.l).Perm (la++lb)
def AN{α:Type}{la:List α}(hi:i<=n){y:α}(h:y∈la.M i):y∈la.M n:=by rw[show i=min i n by lia,<-pq]at h;show VF h
def ky{la:List Keyed}(hi:i<=n):la.M n=la.M i++(la.M n).drop i:=by let e:=(LM i<|la.M n).symm;rwa[pq,show min i n=i by lia]at e
def ZI9{la:List Keyed}(h:la.E (RK O key))(hi:i<=n):((la.M n).drop i).E (RK O key)/\∀x∈la.M i,∀y∈(la.M n).drop i,RK O key x y:=by let h1:(la.M n).E (RK O key):=h.sublist (LJ n la);rw[ky hi,YJ]at h1;exists h1.2.1,h1.2.2
def MH.a(h:MH O key la lb out na nb)(sa:la.E (RK O key))(hi:i<=na)(hx:∀x∈lb.M nb,∀y∈(la.M na).drop i,RK O key x y)(e:out'.l=out.l++((la.M na).drop i).reverse):MH O key la lb out' i nb:=by
 let(p1,p2):=ZI9 sa hi;exists ?_,?_,?_,?_
 .rw[e,YJ];exists h.so,Lw.U p1,λx hx y hy=>h.oa y (LK<|SA.L hy) x hx
 .intro x Xl y hy;rw[e,Xz,SA]at hy;rcases hy with hy|hy
  .show h.oa x (AN hi Xl) y hy
  .show p2 x Xl y hy
 .intro x Xl y hy;rw[e,Xz,SA]at hy;rcases hy with hy|hy
  .show h.ob x Xl y hy
  .show hx x Xl y hy
 .show List.Perm.m ?_ h.pm;rw[e]
  conv=>rhs;rw[ky hi]
  rw[YA,YA,YA];show MD _ ?_;show List.Perm.m (l₂:=lb.M nb++(((la.M na).drop i)++out.l)) ?_ ?_
  .show MD _ (Dp.m<|(EK _).append_right _)
  .rw[<-YA,<-YA];show Dq _ Dp
def MH.b(h:MH O key la lb out na nb)(sb:lb.E (RK O key))(hi:i<=nb)(hx:∀x∈la.M na,∀y∈(lb.M nb).drop i,RK O key x y)(e:out'.l=out.l++((lb.M nb).drop i).reverse):MH O key la lb out' na i:=by
 let(p1,p2):=ZI9 sb hi;exists ?_,?_,?_,?_
 .rw[e,YJ];exists h.so,Lw.U p1,λx hx y hy=>h.ob y (LK<|SA.L hy) x hx
 .intro x Xl y hy;rw[e,Xz,SA]at hy;rcases hy with hy|hy
  .show h.oa x Xl y hy
  .show hx x Xl y hy
 .intro x Xl y hy;rw[e,Xz,SA]at hy;rcases hy with hy|hy
  .show h.ob x (AN hi Xl) y hy
  .show p2 x Xl y hy
 .show List.Perm.m ?_ h.pm;rw[e]
  conv=>rhs;rw[ky hi]
  rw[YA,YA,YA];show MD _ (MD _ ?_);show Dp.m ((EK _).append_right _)
def KD(a:Array Keyed)(n:Nat):(a.X 0 n).l=a.l.M n:=by rw[EM,ER,HL,uq]
def AM(a:Array Keyed)(i n:Nat):((a.X i n).reverse).l=((a.l.M n).drop i).reverse:=by rw[HF,EM,ER,Hy]
def MH.ab{a b out:Array Keyed}(h:MH O key a.l b.l out na nb)(sa:a.l.E (RK O key))(sb:b.l.E (RK O key))(hx:∀x∈a.l.M na,∀y∈b.l.M nb,RK O key x y):Vd O key a.l b.l (a.X 0 na++b.X 0 nb++out.reverse):=by
 unfold Vd;rw[Pp,Pp,KD,KD,HF];exists ?_,(MD _<|EK _).m h.pm;rw[YJ,YJ];exists {sa.sublist<|LJ _ _,sb.sublist<|LJ _ _,hx},Lw.U h.so,λx Xl y hy=>?_;rw[Xz]at Xl;rcases Xl with Xl|Xl
 .show h.oa x Xl y (SA.L hy)
 .show h.ob x Xl y (SA.L hy)
def MH.ba{a b out:Array Keyed}(h:MH O key a.l b.l out na nb)(sa:a.l.E (RK O key))(sb:b.l.E (RK O key))(hx:∀x∈b.l.M nb,∀y∈a.l.M na,RK O key x y):Vd O key a.l b.l (b.X 0 nb++a.X 0 na++out.reverse):=by
 unfold Vd;rw[Pp,Pp,KD,KD,HF];exists ?_,((MD _<|EK _).m (Dq _ Dp)).m h.pm;rw[YJ,YJ];exists {sb.sublist<|LJ _ _,sa.sublist<|LJ _ _,hx},Lw.U h.so,λx Xl y hy=>?_;rw[Xz]at Xl;rcases Xl with Xl|Xl
 .show h.ob x Xl y (SA.L hy)
 .show h.oa x Xl y (SA.L hy)
def Tw{a:Array Keyed}{i n:Nat}{p:Keyed}(hn:n=i+1)(h:a[i]?=some p):((a.l.M n).drop i).reverse=[p]:=by
 subst hn;let h':a.l[i]?=some p:=by simpa using h
 rw[Hy,qd];let(hi,e):=XF.L h';rw[JF hi,e];rfl
def se{a:Array Keyed}{i n:Nat}{p y:Keyed}(hn:n=i+1)(h:a[i]?=some p)(hy:y∈(a.l.M n).drop i):y=p:=by
 have:=Tw hn h
 rw[<-SA,this]at hy;show XB.L hy
def ku{a:Array Keyed}{x:Keyed}(h:x∈a.l.M n):∃j,j<n/\j<a.t/\a[j]?=some x:=by
 let(j,hj):=YE h;let Vf:=(XF.L hj).1
 rw[Yf]at Vf;rw[OQ,if_pos oZ]at hj;exists j,oW,by simp at Vf;lia,by simpa using hj
def AL{a:Array Keyed}{i n:Nat}{x:Keyed}(h:x∈(a.l.M n).drop i):∃j,i<=j/\j<n/\j<a.t/\a[j]?=some x:=by
 let(j,hj):=YE h;let Vf:=(XF.L hj).1
 rw[WA,Yf]at Vf;rw[Su,OQ,if_pos oZ]at hj;exists i+j,J,oW,by simp at Vf;grind,by simpa using hj
def Qx{a:Array Keyed}{i n:Nat}{p:Keyed}(sa:a.l.E (RK O key))(hn:n=i+1)(h:a[i]?=some p):∀x∈a.l.M n,RK O key x p:=λx hx=>by
 let(j,j1,j2,ej):=ku hx;let hi:i<a.t:=(aI.L h).1
 have:=AW sa (i:=j) (j:=i) J hi
 rwa[Ux ej,Ux h]at this
abbrev IM:=Option (Array Keyed)×Nat×Nat×Array Keyed×Nat×Nat×Nat
def Qw(a b out:Array Keyed)(na nb g ac bc:Nat):(StateT SortSt Sem (ForInStep IM)):=elem' a (na-1) >>= λx=>
 if (na-1 == 0)=true then pure (.done (some<|a.X 0 (na-1)++b.X 0 nb++(out.push x).reverse,na-1,nb,out.push x,g,ac,bc))
 else if (decide (ac<7)&&decide (bc<7))=true then pure (.done (none,na-1,nb,out.push x,g,ac,bc)) else pure (.yield (none,na-1,nb,out.push x,g,ac,bc))
def KC(a b out:Array Keyed)(na nb g ac bc:Nat):(StateT SortSt Sem (ForInStep IM)):=elem' b (nb-1) >>= λx=>
 if (nb-1 == 1)=true then pure (.done (some<|b.X 0 (nb-1)++a.X 0 na++(out.push x).reverse,na,nb-1,out.push x,g,ac,bc))
 else elem' a (na-1) >>= λy=>Ee true y b 0 (nb-1) (nb-1-1) >>= λr=>match r with
  |some k=>if nb-1-k>0 then
    if (k == 1)=true then pure (.done (some<|b.X 0 k++a.X 0 na++(out.push x++(b.X k<|nb-1).reverse).reverse,na,k,out.push x++(b.X k<|nb-1).reverse,g,ac,nb-1-k))
    else if (k == 0)=true then pure (.done (some<|a.X 0 na++b.X 0 k++(out.push x++(b.X k<|nb-1).reverse).reverse,na,k,out.push x++(b.X k<|nb-1).reverse,g,ac,nb-1-k))
    else Qw a b (out.push x++(b.X k<|nb-1).reverse) na k g ac (nb-1-k)
   else Qw a b (out.push x) na (nb-1) g ac (nb-1-k)
  |_=>pure (.done (some<|a.X 0 na++b.X 0 (nb-1)++(out.push x).reverse,na,nb-1,out.push x,g,ac,bc))
def NQ(a b out:Array Keyed)(na nb g ac bc:Nat):(StateT SortSt Sem (ForInStep IM)):=NU g >>= λ_=>elem' b (nb-1) >>= λx=>Ee false x a 0 na (na-1) >>= λr=>match r with
 |some k=>if na-k>0 then
   if (k == 0)=true then pure (.done (some<|a.X 0 k++b.X 0 nb++(out++(a.X k na).reverse).reverse,k,nb,out++(a.X k na).reverse,g,na-k,bc))
   else KC a b (out++(a.X k na).reverse) k nb g (na-k) bc
  else KC a b out na nb g (na-k) bc
 |_=>pure (.done (some<|a.X 0 na++b.X 0 nb++out.reverse,na,nb,out,g,ac,bc))
section
variable{a b out:Array Keyed}{na nb:Nat}{st:SortSt}{R:ForInStep IM->SortSt->Prop}
def ZY4{pa:Keyed}(sa:a.l.E (RK O key))(sb:b.l.E (RK O key))(ea:a[na-1]?=some pa)(GB:1<=na)(Rn:na<=a.t)(KA:2<=nb)(Rm:nb<=b.t)(m:MH O key a.l b.l out na nb)(below:∀x∈b.l.M nb,RK O key x pa)
  (hd:∀r z,Vd O key a.l b.l r->R (.done (some r,z)) st)(hn:∀i2 j2 o2 g3 a3 b3,MH O key a.l b.l o2 i2 j2->1<=i2->i2<=a.t->2<=j2->j2<=b.t->i2+j2<=na+nb->R (.done (none,i2,j2,o2,g3,a3,b3)) st/\R (.yield (none,i2,j2,o2,g3,a3,b3)) st):wpS M A E s (Qw a b out na nb g ac bc) R st:=by
 let en:na=na-1+1:=oZ;unfold Qw;show YC (Zx ea ?_);let m5:MH O key a.l b.l (out.push pa) (na-1) nb:=m.a sa J (λx hx y hy=>by rw[se en ea hy];show below x hx) (by rw[Tw en ea,RE])
 cases d5:na-1=0
 .show ZB (by simpa using d5) (YM<|hd _ _<|m5.ab sa sb<|by rw[d5];intro _ h;cases h)
 .show ZZ (by simpa using d5) ?_;let z:=λg3 a3 b3=>hn _ _ _ g3 a3 b3 m5 J J KA Rm J
  split
  .show YM (z _ _ _).1
  .show YM (z _ _ _).2
def AK(L:Ww M A E s O key kd S){pb:Keyed}(hk:kindOf st=kd)(Vc:∀x∈a.l,S x)(Vb:∀x∈b.l,S x)(sa:a.l.E (RK O key))(sb:b.l.E (RK O key))(h1:∀x∈b.l.M 1,∀y∈a.l,RK O key x y)(eb:b[nb-1]?=some pb)(GB:1<=na)(Rn:na<=a.t)(KA:2<=nb)(Rm:nb<=b.t)(m:MH O key a.l b.l out na nb)(above:∀x∈a.l.M na,RK O key x pb)
  (hd:∀r z,Vd O key a.l b.l r->R (.done (some r,z)) st)(hn:∀i2 j2 o2 g3 a3 b3,MH O key a.l b.l o2 i2 j2->1<=i2->i2<=a.t->2<=j2->j2<=b.t->i2+j2<=na+nb->R (.done (none,i2,j2,o2,g3,a3,b3)) st/\R (.yield (none,i2,j2,o2,g3,a3,b3)) st):wpS M A E s (KC a b out na nb g ac bc) R st:=by
 let NP:∀{i j},i=1->∀x∈b.l.M i,∀y∈a.l.M j,RK O key x y:=λ{i j} e x hx y hy=>h1 x (by rwa[e]at hx) y (VF hy);let en:nb=nb-1+1:=oZ
 unfold KC;show YC (Zx eb ?_);let m3:MH O key a.l b.l (out.push pb) na (nb-1):=m.b sb J (λx hx y hy=>by rw[se en eb hy];show above x hx) (by rw[Tw en eb,RE])
 cases d3:nb-1=1
 .show ZB (by simpa using d3) (YM<|hd _ _<|m3.ba sa sb<|NP d3)
 show ZZ (by simpa using d3) ?_;let ha:na-1<a.t:=oZ
 let ea:a[na-1]?=some a[na-1]:=SN a _ ha;let AJ:na=na-1+1:=oW
 show YC (Zx ea ?_);show YC (Ec L hk (Vc _ B) (λi hi=>{b[0+i],SN b _ oW,Vb _ B}) J (λi j WJ hj=>AW sb J J) λkk IP Vj GI=>?_);dsimp only;let below:∀x∈b.l.M kk,RK O key x a[na-1]:=λx hx=>by
  let(j,j1,j2,ex):=ku hx
  have:=Vj j j1
  unfold beyB at this;rw[SM,Ux ex]at this;show Po this
 cases NR:nb-1-kk>0
 .show ZB NR ?_;let m4:MH O key a.l b.l (out.push pb++(b.X kk<|nb-1).reverse) na kk:=m3.b sb IP (λx hx y hy=>by
   let(j,j1,j2,j3,ey):=AL hy
   have:=GI j j1 j2
   unfold beyB at this;rw[SM,Ux ey]at this;show SO (Qx sa AJ ea x hx) this) (by rw[Pp,AM])
  cases d4:kk=1
  .show ZB (by simpa using d4) (YM<|hd _ _<|m4.ba sa sb<|NP d4)
  show ZZ (by simpa using d4) ?_;cases d6:kk=0
  .show ZB (by simpa using d6) (YM<|hd _ _<|m4.ab sa sb<|by rw[d6];intro _ _ _ h;cases h)
  .show ZZ (by simpa using d6) (ZY4 sa sb ea GB Rn J J m4 below hd λi2 j2 o2 g3 a3 b3 m' e1 e2 e3 e4 e5=>hn i2 j2 o2 g3 a3 b3 m' e1 e2 e3 e4 J)
 .let ekk:kk=nb-1:=J;show ZZ NR (ZY4 sa sb ea GB Rn J J m3 (λx hx=>below x<|by rwa[ekk]) hd λi2 j2 o2 g3 a3 b3 m' e1 e2 e3 e4 e5=>hn i2 j2 o2 g3 a3 b3 m' e1 e2 e3 e4 J)
def ZZ4(L:Ww M A E s O key kd S)(hk:kindOf st=kd)(Vc:∀x∈a.l,S x)(Vb:∀x∈b.l,S x)(sa:a.l.E (RK O key))(sb:b.l.E (RK O key))(h1:∀x∈b.l.M 1,∀y∈a.l,RK O key x y)(GB:1<=na)(Rn:na<=a.t)(KA:2<=nb)(Rm:nb<=b.t)(m:MH O key a.l b.l out na nb)
  (hd:∀r z,Vd O key a.l b.l r->R (.done (some r,z)) (SortSt.mk' (kindOf st) (arrOf st) (pendingOf st) g<|failedOf st))(hn:∀i2 j2 o2 g3 a3 b3,MH O key a.l b.l o2 i2 j2->1<=i2->i2<=a.t->2<=j2->j2<=b.t->i2+j2<=na+nb->R (.done (none,i2,j2,o2,g3,a3,b3)) (SortSt.mk' (kindOf st) (arrOf st) (pendingOf st) g<|failedOf st)/\R (.yield (none,i2,j2,o2,g3,a3,b3)) (SortSt.mk' (kindOf st) (arrOf st) (pendingOf st) g<|failedOf st)):wpS M A E s (NQ a b out na nb g ac bc) R st:=by
 unfold NQ;show YC (si ?_);let hb:nb-1<b.t:=oZ
 let eb:b[nb-1]?=some b[nb-1]:=SN b _ hb;let en:nb=nb-1+1:=oW
 show YC (Zx eb ?_);show YC (Ec L hk (Vb _ B) (λi hi=>{a[0+i],SN a _ oW,Vc _ B}) oW (λi j WJ hj=>AW sa oW J) λk Eb hl Vs=>?_);dsimp only;let above:∀x∈a.l.M k,RK O key x b[nb-1]:=λx hx=>by
  let(j,j1,j2,ex):=ku hx
  have:=hl j j1
  unfold beyB at this;rw[SM,Ux ex]at this;simp only[QT,Vw,uQ]at this;show this
 cases AU:na-k>0
 .show ZB AU ?_;let m2:MH O key a.l b.l (out++(a.X k na).reverse) k nb:=m.a sa Eb (λx hx y hy=>by
   let(j,j1,j2,j3,ey):=AL hy
   have:=Vs j j1 j2
   unfold beyB at this;rw[SM,Ux ey]at this;simp only[QT,Vw,pR]at this;show SO (Qx sb en eb x hx)<|Po this) (by rw[Pp,AM])
  cases d1:k=0
  .show ZB (by simpa using d1) (YM<|hd _ _<|m2.ab sa sb<|by rw[d1];intro _ h;cases h)
  .show ZZ (by simpa using d1) (AK L hk Vc Vb sa sb h1 eb J J KA Rm m2 above hd λi2 j2 o2 g3 a3 b3 m' e1 e2 e3 e4 e5=>hn i2 j2 o2 g3 a3 b3 m' e1 e2 e3 e4 J)
 .let ek:k=na:=oZ;show ZZ AU (AK L hk Vc Vb sa sb h1 eb GB Rn KA Rm m (λx hx=>above x<|by rwa[ek]) hd hn)
end
abbrev AI:=Option (Array Keyed)×Nat×Nat×Array Keyed×Nat×Nat
def hiB1(a b:Array Keyed)(g:Nat)(c:AI):(StateT SortSt Sem (ForInStep AI)):=elem' b (c.2.2.1-1) >>= λy=>elem' a (c.2.1-1) >>= λx=>lt' y x >>= λr=>match r with
 |some t=>if t=true then elem' a (c.2.1-1) >>= λx=>
    if (c.2.1-1 == 0)=true then pure (.done (some<|a.X 0 (c.2.1-1)++b.X 0 c.2.2.1++(c.2.2.2.1.push x).reverse,c.2.1-1,c.2.2.1,c.2.2.2.1.push x,c.2.2.2.2.1+1,0))
    else if c.2.2.2.2.1+1 >= g then pure (.done (none,c.2.1-1,c.2.2.1,c.2.2.2.1.push x,c.2.2.2.2.1+1,0)) else pure (.yield (none,c.2.1-1,c.2.2.1,c.2.2.2.1.push x,c.2.2.2.2.1+1,0))
   else elem' b (c.2.2.1-1) >>= λy=>
    if (c.2.2.1-1 == 1)=true then pure (.done (some<|b.X 0 (c.2.2.1-1)++a.X 0 c.2.1++(c.2.2.2.1.push y).reverse,c.2.1,c.2.2.1-1,c.2.2.2.1.push y,0,c.2.2.2.2.2+1))
    else if c.2.2.2.2.2+1 >= g then pure (.done (none,c.2.1,c.2.2.1-1,c.2.2.2.1.push y,0,c.2.2.2.2.2+1)) else pure (.yield (none,c.2.1,c.2.2.1-1,c.2.2.2.1.push y,0,c.2.2.2.2.2+1))
 |_=>pure (.done (some<|a.X 0 c.2.1++b.X 0 c.2.2.1++c.2.2.2.1.reverse,c.2.1,c.2.2.1,c.2.2.2.1,c.2.2.2.2.1,c.2.2.2.2.2))
abbrev GA:=Option (Array Keyed)×Nat×Nat×Array Keyed×Nat
def Gz(a b:Array Keyed)(c:IM):(StateT SortSt Sem (ForInStep IM)):=if c.2.2.2.2.1>1 then NQ a b c.2.2.2.1 c.2.1 c.2.2.1 (c.2.2.2.2.1-1) c.2.2.2.2.2.1 c.2.2.2.2.2.2 else NQ a b c.2.2.2.1 c.2.1 c.2.2.1 c.2.2.2.2.1 c.2.2.2.2.2.1 c.2.2.2.2.2.2
def kq(c:IM):(StateT SortSt Sem (ForInStep GA)):=match c.1 with
 |some r=>pure (.done (some r,c.2.1,c.2.2.1,c.2.2.2.1,c.2.2.2.2.1))
 |none=>NU (c.2.2.2.2.1+1) >>= λ_=>pure (.yield (none,c.2.1,c.2.2.1,c.2.2.2.1,c.2.2.2.2.1+1))
def AH(a b:Array Keyed)(g:Nat)(c:AI):(StateT SortSt Sem (ForInStep GA)):=match c.1 with
 |some r=>pure (.done (some r,c.2.1,c.2.2.1,c.2.2.2.1,g))
 |none=>liftM (rule "list.sort.gallop") >>= λ_=>forIn [0:a.t+b.t] ((none,c.2.1,c.2.2.1,c.2.2.2.1,g+1,c.2.2.2.2.1,c.2.2.2.2.2):IM) (λ_ s=>Gz a b s) >>= kq
def sd(a b:Array Keyed)(c:GA):(StateT SortSt Sem (ForInStep GA)):=forIn [0:a.t+b.t] ((none,c.2.1,c.2.2.1,c.2.2.2.1,0,0):AI) (λ_ s=>hiB1 a b c.2.2.2.2 s) >>= AH a b c.2.2.2.2
def ko(c:GA):(StateT SortSt Sem (Array Keyed)):=match c.1 with
 |some r=>pure r
 |none=>liftM (unsupported "internal:list.sort.merge-bound":Sem (Array Keyed))
def Gy(a b:Array Keyed):(StateT SortSt Sem (Array Keyed)):=liftM (rule "list.sort.merge-hi") >>= λ_=>elem' a (a.t-1) >>= λx=>
 if (a.t-1 == 0)=true then pure (a.X 0 (a.t-1)++b.X 0 b.t++(#[x]:Array Keyed).reverse) else if (b.t == 1)=true then pure (b.X 0 b.t++a.X 0 (a.t-1)++(#[x]:Array Keyed).reverse)
 else get >>= λst=>forIn [0:a.t+b.t] ((none,a.t-1,b.t,#[x],gallopOf st):GA) (λ_ c=>sd a b c) >>= ko
def km(a b:Array Keyed):Zk7 a b=Gy a b:=by
 unfold Gy;show YS (Bind.bind _) (funext λ_=>YS (Bind.bind _)<|funext λx=>?_);show Ea Z (Ea Z<|YS (Bind.bind _)<|funext λst=>?_);show PV Bind.bind (YS (forIn _ _)<|funext λ_=>funext λc=>?_) ?_
 .unfold sd;show PV Bind.bind (YS (forIn _ _)<|funext λ_=>funext λc=>?_) ?_
  .unfold hiB1;show YS (Bind.bind _) (funext λ_=>YS (Bind.bind _)<|funext λ_=>YS (Bind.bind _)<|funext λr=>?_);cases r with
   |none=>rfl
   |some r=>rfl
  .funext c
   unfold AH;let(c1,c2):=c;cases c1 with
   |some r=>rfl
   |none=>
    show YS (Bind.bind _) (funext λ_=>PV Bind.bind (YS (forIn _ _)<|funext λ_=>funext λc=>?_) ?_)
    .unfold Gz;show Ea ?_ ?_
     .unfold NQ;show YS (Bind.bind _) (funext λ_=>YS (Bind.bind _)<|funext λ_=>YS (Bind.bind _)<|funext λr=>?_);cases r with
      |none=>rfl
      |some r=>rfl
     .rfl
    .funext c
     let(c1,c2):=c;cases c1<;>rfl
 .funext c
  let(c1,c2):=c;cases c1<;>rfl
section
variable{a b:Array Keyed}{st:SortSt}
def kj(L:Ww M A E s O key kd S){out:Array Keyed}{ja jb ac bc g:Nat}{R:ForInStep AI->SortSt->Prop}(hk:kindOf st=kd)(Vc:∀x∈a.l,S x)(Vb:∀x∈b.l,S x)(sa:a.l.E (RK O key))(sb:b.l.E (RK O key))(h1:∀x∈b.l.M 1,∀y∈a.l,RK O key x y)(Ro:1<=ja)(Rl:ja<=a.t)(RO:2<=jb)(Rk:jb<=b.t)(m:MH O key a.l b.l out ja jb)
  (hd:∀r z,Vd O key a.l b.l r->R (.done (some r,z)) st)(hn:∀i2 j2 o2 a3 b3,MH O key a.l b.l o2 i2 j2->1<=i2->i2<=a.t->2<=j2->j2<=b.t->i2+j2+1=ja+jb->R (.done (none,i2,j2,o2,a3,b3)) st/\R (.yield (none,i2,j2,o2,a3,b3)) st):wpS M A E s (hiB1 a b g (none,ja,jb,out,ac,bc)) R st:=by
 let ha:ja-1<a.t:=oW;let hb:jb-1<b.t:=oW
 let ea:a[ja-1]?=some a[ja-1]:=SN a _ ha;let eb:b[jb-1]?=some b[jb-1]:=SN b _ hb
 let en:ja=ja-1+1:=oZ;let AJ:jb=jb-1+1:=oW
 unfold hiB1;show YC (Zx eb<|YC<|Zx ea<|YC<|L _ _ _ _ (Vb _ B) (Vc _ B) hk ?_);dsimp only;cases hc:O.blt (key b[jb-1]) (key a[ja-1]) with
 |true=>
  show ZB Z (YC<|Zx ea ?_);let m':MH O key a.l b.l (out.push a[ja-1]) (ja-1) jb:=m.a sa oW (λx hx y hy=>by rw[se en ea hy];show SO (Qx sb AJ eb x hx)<|Po hc) (by rw[Tw en ea,RE])
  cases d1:ja-1=0
  .show ZB (by simpa using d1) (YM<|hd _ _<|m'.ab sa sb<|by rw[d1];intro _ h;cases h)
  .show ZZ (by simpa using d1) ?_;let z:=λa3 b3=>hn _ _ _ a3 b3 m' J oW RO Rk J
   cases d2:ac+1 >= g
   .show ZB d2 (YM (z _ _).1)
   .show ZZ d2 (YM (z _ _).2)
 |false=>
  show ZZ B (YC<|Zx eb ?_);let m':MH O key a.l b.l (out.push b[jb-1]) ja (jb-1):=m.b sb oW (λx hx y hy=>by rw[se AJ eb hy];show SO (Qx sa en ea x hx) hc) (by rw[Tw AJ eb,RE])
  cases d1:jb-1=1
  .show ZB (by simpa using d1) (YM<|hd _ _<|m'.ba sa sb λx hx y hy=>h1 x (by rwa[d1]at hx) y<|VF hy)
  .show ZZ (by simpa using d1) ?_;let z:=λa3 b3=>hn _ _ _ a3 b3 m' Ro Rl J J J
   cases d2:bc+1 >= g
   .show ZB d2 (YM (z _ _).1)
   .show ZZ d2 (YM (z _ _).2)
def ZB6(L:Ww M A E s O key kd S){XQ:SortSt}{out:Array Keyed}{na nb g:Nat}{R:ForInStep GA->SortSt->Prop}(hk:kindOf st=kd)(Vc:∀x∈a.l,S x)(Vb:∀x∈b.l,S x)(sa:a.l.E (RK O key))(sb:b.l.E (RK O key))(h1:∀x∈b.l.M 1,∀y∈a.l,RK O key x y)(GB:1<=na)(Rn:na<=a.t)(KA:2<=nb)(Rm:nb<=b.t)(m:MH O key a.l b.l out na nb)(ks:SH st XQ)
  (hd:∀r z Xa,Vd O key a.l b.l r->SH st Xa->R (.done (some r,z)) Xa)(hn:∀i2 j2 o2 g3 Xa,MH O key a.l b.l o2 i2 j2->1<=i2->i2<=a.t->2<=j2->j2<=b.t->i2+j2+1<=na+nb->SH st Xa->R (.yield (none,i2,j2,o2,g3)) Xa):wpS M A E s (sd a b (none,na,nb,out,g)) R XQ:=by
 unfold sd;show YC (RA (Sw
  (I:=λy c Xa=>Xa=XQ/\∃ja jb out ac bc,c=(none,ja,jb,out,ac,bc)/\MH O key a.l b.l out ja jb/\1<=ja/\ja<=a.t/\2<=jb/\jb<=b.t/\ja+jb+y=na+nb)
  (Q:=λc Xa=>Xa=XQ/\((∃r z,c=(some r,z)/\Vd O key a.l b.l r)\/∃ja jb out ac bc,c=(none,ja,jb,out,ac,bc)/\MH O key a.l b.l out ja jb/\1<=ja/\ja<=a.t/\2<=jb/\jb<=b.t/\ja+jb+1<=na+nb)) ?_ ?_ {Z,_,_,_,_,_,Z,m,GB,Rn,KA,Rm,Z}) ?_)
 .rintro y c Xa _ hy ⟨rfl,ja,jb,out,ac,bc,rfl,m,Ro,Rl,RO,Rk,hr⟩;show kj L (ks.1.m hk) Vc Vb sa sb h1 Ro Rl RO Rk m (λr z hr=>{Z,.inl ⟨r,z,Z,hr⟩}) λi2 j2 o2 a3 b3 m' e1 e2 e3 e4 e5=>{{Z,.inr {_,_,_,_,_,Z,m',e1,e2,e3,e4,J}},{Z,_,_,_,_,_,Z,m',e1,e2,e3,e4,J}}
 .rintro c Xa ⟨rfl,ja,jb,out,ac,bc,rfl,m,Ro,Rl,RO,Rk,hr⟩;exists Z,.inr {_,_,_,_,_,Z,m,Ro,Rl,RO,Rk,J}
 rintro c Xa ⟨rfl,Vr⟩;rcases Vr with ⟨r,z,rfl,hr⟩|⟨ja,jb,out,ac,bc,rfl,m,Ro,Rl,RO,Rk,hr⟩
 .show YM (hd r _ _ hr ks)
 show YC (wpS_lift<|Pk ⟨Z,?_⟩);show YC (RA (Sw
  (I:=λy c WI=>SH st WI/\∃Pa OZ out g ac bc,c=(none,Pa,OZ,out,g,ac,bc)/\MH O key a.l b.l out Pa OZ/\1<=Pa/\Pa<=a.t/\2<=OZ/\OZ<=b.t/\Pa+OZ<=ja+jb)
  (Q:=λc WI=>SH st WI/\((∃r z,c=(some r,z)/\Vd O key a.l b.l r)\/∃Pa OZ out g ac bc,c=(none,Pa,OZ,out,g,ac,bc)/\MH O key a.l b.l out Pa OZ/\1<=Pa/\Pa<=a.t/\2<=OZ/\OZ<=b.t/\Pa+OZ<=ja+jb)) ?_ (λc WI z=>{z.1,.inr z.2}) {ks,_,_,_,_,_,_,Z,m,Ro,Rl,RO,Rk,XJ _}) ?_)
 .rintro y c WI _ hy ⟨k1,Pa,OZ,out,g',ac',bc',rfl,m,AG,IK,AF,IJ,Qy⟩;unfold Gz;cases hg:g'>1
  .show ZB hg (ZZ4 L (k1.1.m hk) Vc Vb sa sb h1 AG IK AF IJ m (λr z hr=>{k1,.inl ⟨r,z,Z,hr⟩}) λi2 j2 o2 g3 a3 b3 m3 e1 e2 e3 e4 e5=>{{k1,.inr {i2,j2,o2,g3,a3,b3,Z,m3,e1,e2,e3,e4,Yl e5 Qy}},{k1,i2,j2,o2,g3,a3,b3,Z,m3,e1,e2,e3,e4,Yl e5 Qy}})
  .show ZZ hg (ZZ4 L (k1.1.m hk) Vc Vb sa sb h1 AG IK AF IJ m (λr z hr=>{k1,.inl ⟨r,z,Z,hr⟩}) λi2 j2 o2 g3 a3 b3 m3 e1 e2 e3 e4 e5=>{{k1,.inr {i2,j2,o2,g3,a3,b3,Z,m3,e1,e2,e3,e4,Yl e5 Qy}},{k1,i2,j2,o2,g3,a3,b3,Z,m3,e1,e2,e3,e4,Yl e5 Qy}})
 .rintro c WI ⟨k1,Vr⟩;rcases Vr with ⟨r,z,rfl,Uq⟩|⟨na3,nb3,GD,g3,ac3,bc3,rfl,m3,e1,e2,e3,e4,Uq⟩
  .show YM (hd r _ _ Uq k1)
  .show YC (si<|YM<|hn na3 nb3 GD (g3+1) _ m3 e1 e2 e3 e4 J k1)
def Zb6(L:Ww M A E s O key kd S){Q:Array Keyed->SortSt->Prop}(hk:kindOf st=kd)(Vc:∀x∈a.l,S x)(Vb:∀x∈b.l,S x)(sa:a.l.E (RK O key))(sb:b.l.E (RK O key))(ha:1<=a.t)(hb:1<=b.t)
  (h1:∀x∈b.l.M 1,∀y∈a.l,RK O key x y)(h2:∀x∈b.l,∀y∈a.l.drop (a.t-1),RK O key x y)
  (h:∀r g,Vd O key a.l b.l r->Q r (SortSt.mk' (kindOf st) (arrOf st) (pendingOf st) g<|failedOf st)):wpS M A E s (Zk7 a b) Q st:=by
 let bump:∀XQ,SH st XQ->∀r,Vd O key a.l b.l r->Q r XQ:=λXQ ⟨e1,e2,e3,e4⟩ r hr=>by
  have:=h r (gallopOf XQ) hr
  rwa[<-e1,<-e2,<-e3,<-e4]at this
 let k0:SH st st:=⟨Z,Z,Z,Z⟩;let hl:a.t-1<a.t:=oW
 let e0:a[a.t-1]?=some a[a.t-1]:=SN a _ hl;let ta:a.l.M a.t=a.l:=QP B
 let tb:b.l.M b.t=b.l:=QP B;let m0:MH O key a.l b.l #[] a.t b.t:={List.E.nil,λ_ _ _ h=>(by cases h),λ_ _ _ h=>(by cases h),by rw[ta,tb];simp}
 let m1:MH O key a.l b.l #[a[a.t-1]] (a.t-1) b.t:=m0.a sa J (by rwa[ta,tb]) (by rw[Tw oZ e0];rfl);rw[km];unfold Gy;show YC (wpS_lift<|Pk ⟨Z,?_⟩);show YC (Zx e0 ?_);cases c1:a.t-1=0
 .show ZB (by simpa using c1) (YM<|bump st k0 _<|m1.ab sa sb<|by rw[c1];intro _ h;cases h)
 show ZZ (by simpa using c1) ?_;cases c2:b.t=1
 .show ZB (by simpa using c2) (YM<|bump st k0 _<|m1.ba sa sb λx hx y hy=>h1 x (by rwa[c2]at hx) y<|VF hy)
 show ZZ (by simpa using c2) (YC<|Qf ?_);show YC (RA (Sw
  (I:=λx c XQ=>SH st XQ/\∃na nb out g,c=(none,na,nb,out,g)/\MH O key a.l b.l out na nb/\1<=na/\na<=a.t/\2<=nb/\nb<=b.t/\na+nb+x<=a.t+b.t)
  (Q:=λc XQ=>SH st XQ/\∃r,c.1=some r/\Vd O key a.l b.l r) ?_ ?_ {k0,_,_,_,_,Z,m1,J,oW,J,XJ _,J}) ?_)
 .rintro x c XQ _ hx ⟨k1,na,nb,out,g,rfl,m,e1,e2,e3,e4,GC⟩;show ZB6 L hk Vc Vb sa sb h1 e1 e2 e3 e4 m k1 (λr z Xa hr k2=>⟨k2,r,Z,hr⟩) λi2 j2 o2 g3 Xa m' f1 f2 f3 f4 f5 k2=>{k2,_,_,_,_,Z,m',f1,f2,f3,f4,J}
 .rintro c XQ ⟨k1,na,nb,out,g,rfl,m,e1,e2,e3,e4,GC⟩;lia
 .rintro⟨c1,c2⟩ XQ ⟨k1,r,hc,hr⟩;cases hc;show YM (bump XQ k1 r hr)
end
end
section
variable{M:Model}{A:Around}{E:Ae}{s:Shared}{O:KeyOrd}{key:Keyed->O.α}{kd:SortKind}{S:Keyed->Prop}
def ki{σ:Type}{st x:σ}{Q:PUnit->σ->Prop}(h:Q ⟨⟩ x):wpS M A E s (set x:StateT σ Sem PUnit) Q st:=by unfold wpS;rw[StateT.run_set];show Yn ⟨Z,h⟩
def ZP7:∀(r:List Keyed)(o k:Nat)(arr:Array Keyed),o+k+r.f<=arr.t->
  ((r.zipIdx k).foldl (λa x=>match x with|(p,j)=>a.setIfInBounds (o+j) p) arr).l=arr.l.M (o+k)++r++arr.l.drop (o+k+r.f)
 |[],o,k,arr,h=>B
 |p::r,o,k,arr,h=>by
  rw[YG]at h;let ih:=ZP7 r o (k+1) (arr.setIfInBounds (o+k) p) (by rw[Array.size_setIfInBounds];lia)
  rw[List.zipIdx_cons,De];show ih.m ?_;rw[aJ,YG];let hl:o+k<arr.l.f:=by simp;lia
  rw[List.drop_set_of_lt J,show o+(k+1)=o+k+1 by lia,List.take_set,List.take_succ_eq_append_getElem hl,ah _ _ (by rw[Yf];lia)];simp[show o+k+1+r.length=o+k+(r.length+1) by lia,HP (by simpa using Pl hl:o+k<=arr.size)]
def Zc6(L:Ww M A E s O key kd S){st:SortSt}{i sa na sb nb pw AE:Nat}{P X Y T:List Keyed}{PA PB:List (Nat×Nat×Nat)}{Q:Bool->SortSt->Prop}(hk:kindOf st=kd)(hf:failedOf st=none)(ea:(arrOf st).l=P++X++Y++T)(hS:∀x∈(arrOf st).l,S x)
  (ep:(pendingOf st).l=PA++(sa,na,pw)::(sb,nb,AE)::PB)(hi:PA.f=i)(h1:P.f=sa)(h2:X.f=na)(h3:sb=sa+na)(h4:Y.f=nb)(h5:1<=na)(h6:1<=nb)(sX:X.E (RK O key))(sY:Y.E (RK O key))
  (h:∀oO XQ,oO.E (RK O key)->oO.Perm (X++Y)->(arrOf XQ).l=P++oO++T->(pendingOf XQ).l=PA++(sa,na+nb,pw)::PB->kindOf XQ=kd->failedOf XQ=none->Q true XQ):wpS M A E s (mergeAt' i) Q st:=by
 let hsz:(arrOf st).t=P.f+X.f+Y.f+T.f:=by rw[<-Yx,ea];simp;lia
 let AD:∀j,j<na->∃p,(arrOf st)[sa+j]?=some p/\X[j]?=some p/\S p:=λj hj=>by let e:X[j]?=some X[j]:=Xr oW;show{X[j],?_,e,hS _<|by rw[ea];simp};rw[<-YI,ea,YA,YA,Ym J,Yp J,show sa+j-P.f=j by lia,e]
 let AB:∀j,j<nb->∃p,(arrOf st)[sb+j]?=some p/\Y[j]?=some p/\S p:=λj hj=>by let e:Y[j]?=some Y[j]:=Xr oW;show{Y[j],?_,e,hS _<|by rw[ea];simp};rw[<-YI,ea,YA,Ym (by simp;lia),Yp (by simp;lia),show sb+j-(P++X).f=j by simp;lia,e]
 let Kz:∀{l:List Keyed}(_:l.E (RK O key)){i j:Nat}{p q:Keyed},i<=j->l[i]?=some p->l[j]?=some q->RK O key p q:=λ{l} sl {i j p q} WJ ei ej=>by
  let(h1,rfl):=XF.L ei;let(h2,rfl):=XF.L ej;cases e:i=j
  .subst e;show Pm _
  .show ME.L sl i j h1 h2 J
 let keX:∀{j p},X[j]?=some p->j<na->ke key (arrOf st) (sa+j)=key p:=λ{j p} e hj=>by let(q,e1,e2,_):=AD j hj;rw[e]at e2;cases e2;show Ux e1
 let keY:∀{j p},Y[j]?=some p->j<nb->ke key (arrOf st) (sb+j)=key p:=λ{j p} e hj=>by let(q,e1,e2,_):=AB j hj;rw[e]at e2;cases e2;show Ux e1
 let pe:((((pendingOf st).setIfInBounds i (sa,na+nb,pw)).eraseIdxIfInBounds (i+1)).l)=PA++(sa,na+nb,pw)::PB:=by
  let e1:((pendingOf st).setIfInBounds i (sa,na+nb,pw)).l=PA++(sa,na+nb,pw)::(sb,nb,AE)::PB:=by rw[aJ,ep,ah _ _ J,hi,Ms];rfl
  unfold Array.eraseIdxIfInBounds;let Xh:i+1<((pendingOf st).setIfInBounds i (sa,na+nb,pw)).t:=by rw[<-Yx,e1];simp;lia
  rw[dif_pos Xh,Array.toList_eraseIdx,e1,List.eraseIdx_append_of_length_le J,show i+1-PA.f=1 by grind];rfl
 let gi:(pendingOf st)[i]?=some (sa,na,pw):=by rw[<-YI,ep,Ym oW,show i-PA.f=0 by grind];rfl
 let gi1:(pendingOf st)[i+1]?=some (sb,nb,AE):=by rw[<-YI,ep,Ym J,show i+1-PA.f=1 by grind];rfl
 let(p0,q1,q2,q3):=AB 0 h6;let fY:∀y∈Y,RK O key p0 y:=λy hy=>by let(j,ej):=YE hy;show Kz sY (Yj j) q2 ej
 unfold mergeAt';show YC (Qf ?_);rw[gi,gi1];dsimp only;show YC (ki ?_);show YC (Zx q1 ?_);show YC (Ec L hk q3 (λj hj=>by let(p,a,_,b):=AD j hj;exists p,a,b) J (λj l Vf hl=>?_) λk Eb hl hr=>?_)
 .let⟨p,e1,e2,_⟩:=AD j J;let(q,e3,e4,_):=AD l hl;rw[Ux e1,Ux e3];show Kz sX Vf e2 e4
 dsimp only;let AA:∀x∈X.M k,RK O key x p0:=λx hx=>by
  let(j,ej):=YE hx;let hj:=(XF.L ej).1
  rw[Yf]at hj;rw[OQ,if_pos J]at ej
  have:=hl j oW
  unfold beyB at this;rw[keX ej oZ]at this;simp only[QT,Vw,uQ]at this;show this
 let Az:∀x∈X.drop k,RK O key p0 x:=λx hx=>by
  let(j,ej):=YE hx;let hj:=(XF.L ej).1
  rw[WA]at hj;rw[Su]at ej
  have:=hr (k+j) J oZ
  unfold beyB at this;rw[keX ej oW]at this;simp only[QT,Vw,pR]at this;show Po this
 cases c1:na-k=0
 .rw[if_pos (by simpa using c1)];show YM (h (X++Y) _ ?_ (Hx _) (by change(arrOf st).l=_;rw[ea];simp) pe hk hf);rw[YJ];exists sX,sY,λx hx y hy=>SO (AA x<|by rwa[QP oZ])<|fY y hy
 rw[if_neg (by simpa using c1)];let(pz,z1,z2,z3):=AD (na-1) oZ;rw[show sa+(na-1)=sa+k+(na-k)-1 by lia]at z1;show YC (Zx z1 ?_);show YC (Ec L hk z3 (λj hj=>by let(p,a,_,b):=AB j hj;exists p,a,b) oZ (λj l Vf hl=>?_) λkb hkb Vj Vs=>?_)
 .let⟨p,e1,e2,_⟩:=AB j J;let(q,e3,e4,_):=AB l hl;rw[Ux e1,Ux e3];show Kz sY Vf e2 e4
 dsimp only;let NO:∀x∈X,RK O key x pz:=λx hx=>by
  let(j,ej):=YE hx;let hj:=(XF.L ej).1
  show Kz sX oZ ej z2
 let kh:∀y∈Y.M kb,RK O key y pz:=λy hy=>by
  let(j,ej):=YE hy;let hj:=(XF.L ej).1
  rw[Yf]at hj;rw[OQ,if_pos J]at ej
  have:=Vj j oW
  unfold beyB at this;rw[keY ej oZ]at this;show Po this
 let NN:∀y∈Y.drop kb,RK O key pz y:=λy hy=>by
  let(j,ej):=YE hy;let hj:=(XF.L ej).1
  rw[WA]at hj;rw[Su]at ej
  have:=Vs (kb+j) J oZ
  unfold beyB at this;rwa[keY ej oW]at this
 cases c2:kb=0
 .rw[if_pos (by simpa using c2)];show YM (h (X++Y) _ ?_ (Hx _) (by change(arrOf st).l=_;rw[ea];simp) pe hk hf);rw[YJ];exists sX,sY,λx hx y hy=>SO (NO x hx)<|NN y<|by rwa[c2,HL]
 rw[if_neg (by simpa using c2)];let eX:((arrOf st).X (sa+k) sb).l=X.drop k:=by rw[EM,ER,ea,YA,YA,uM,YQ J,ON,OL J,ES (by rw[WA];grind),show sa+k-P.f=k by grind];show QP (by rw[WA];omega)
 let eY:((arrOf st).X sb (sb+kb)).l=Y.M kb:=by rw[EM,ER,ea,YA,uM,YQ (by simp;omega),ON,show sb-(P++X).f=0 by simp;omega,HL,ES oW,qd]
 let zX:((arrOf st).X (sa+k) sb).t=na-k:=by rw[<-Yx,eX,WA];omega
 let zY:((arrOf st).X sb (sb+kb)).t=kb:=by rw[<-Yx,eY,Yf];omega
 let pX:=LM k X;let pY:=LM kb Y
 let sX2:(X.drop k).E (RK O key):=sX.sublist (OG _ _);let sY1:(Y.M kb).E (RK O key):=sY.sublist (LJ _ _)
 let cX:∀x∈X.M k,∀y∈X.drop k,RK O key x y:=by
  have:=sX
  rw[<-pX,YJ]at this;show this.2.2
 let cY:∀x∈Y.M kb,∀y∈Y.drop kb,RK O key x y:=by
  have:=sY
  rw[<-pY,YJ]at this;show this.2.2
 let hd1:∀x∈((arrOf st).X sb (sb+kb)).l.M 1,∀y∈((arrOf st).X (sa+k) sb).l,RK O key x y:=λx hx y hy=>by
  rw[eY,pq,show min 1 kb=1 by omega]at hx;rw[eX]at hy
  have:x=p0:=by
   obtain⟨y0,l,e⟩:∃y0 l,Y=y0::l:=by
    cases hY:Y with
    |nil=>rw[hY]at h4;simp at h4;omega
    |cons y0 l=>exists y0,l,Z
   rw[e]at hx q2;simp at hx q2;rw[hx,q2]
  rw[this];show Az y hy
 let hd2:∀x∈((arrOf st).X sb (sb+kb)).l,∀y∈((arrOf st).X (sa+k) sb).l.drop (((arrOf st).X (sa+k) sb).t-1),RK O key x y:=λx hx y hy=>by
  rw[eY]at hx;rw[eX,zX,CZ,show k+(na-k-1)=na-1 by omega]at hy
  have:y=pz:=by let(Xh,ez):=XF.L z2;rw[JF Xh,ez,YQ oW]at hy;show XB.L hy
  rw[this];show kh x hx
 let fin:∀(r:Array Keyed)(g:Nat)(ar:Array Keyed),ar=arrOf st->Vd O key ((arrOf st).X (sa+k) sb).l ((arrOf st).X sb (sb+kb)).l r->
   Q true (SortSt.mk' (kindOf st) (List.foldl (λa x=>match x with|(p,j)=>a.setIfInBounds (sa+k+j) p) ar r.l.zipIdx) (((pendingOf st).setIfInBounds i (sa,na+nb,pw)).eraseIdxIfInBounds (i+1)) g<|failedOf st):=by
  rintro r g _ rfl ⟨gs,gp⟩;rw[eX,eY]at gp;let rl:r.l.f=na-k+kb:=by rw[gp.length_eq,Xt,WA,Yf];omega
  show h (X.M k++r.l++Y.drop kb) _ ?_ ?_ ?_ pe hk hf
  .rw[YJ,YJ];exists {sX.sublist<|LJ _ _,gs,λx hx y hy=>?_},sY.sublist<|OG _ _,λx hx y hy=>?_
   .rcases Xz.L (gp.mem_iff.L hy) with hy|hy
    .show cX x hx y hy
    .show SO (AA x hx) (fY y<|VF hy)
   .rcases Xz.L hx with hx|hx
    .show SO (NO x<|VF hx) (NN y hy)
    .rcases Xz.L (gp.mem_iff.L hx) with hx|hx
     .show SO (NO x<|LK hx) (NN y hy)
     .show cY x hx y hy
  .let p1:(X.M k++r.l++Y.drop kb).Perm (X.M k++(X.drop k++Y.M kb)++Y.drop kb):=Dq _ (MD _ gp);show p1.m (List.Perm.of_eq ?_);rw[<-YA,pX,YA,pY]
  .let e:=ZP7 r.l (sa+k) 0 (arrOf st) (by rw[rl];omega);show e.m ?_;rw[Nat.add_zero,rl,ea];let t1:(P++X++Y++T).M (sa+k)=P++X.M k:=by rw[YA,YA,List.take_append,QP oW,ES oW,show sa+k-P.f=k by omega]
   let t2:(P++X++Y++T).drop (sa+k+(na-k+kb))=Y.drop kb++T:=by rw[YA,uM,YQ (by simp;omega),ON,show sa+k+(na-k+kb)-(P++X).f=kb by simp;omega,OL oW]
   rw[t1,t2];simp
 let hSx:∀x∈((arrOf st).X (sa+k) sb).l,S x:=λx hx=>hS x (by rw[eX]at hx;rw[ea];simp[LK hx]);let hSy:∀x∈((arrOf st).X sb (sb+kb)).l,S x:=λx hx=>hS x (by rw[eY]at hx;rw[ea];simp[VF hx])
 let sx:((arrOf st).X (sa+k) sb).l.E (RK O key):=by rwa[eX]
 let sy:((arrOf st).X sb (sb+kb)).l.E (RK O key):=by rwa[eY]
 split
 .show YC (Za6 L hk hSx hSy sx sy (by rw[zX];omega) (by rw[zY];omega) hd1 hd2 λr g hg=>?_);show YC (OF<|YC<|Qf<|YM ?_);change Q (failedOf st).isNone _
  rw[hf]
  have:=fin r g _ Z hg
  rwa[hf]at this
 .show YC (Zb6 L hk hSx hSy sx sy (by rw[zX];omega) (by rw[zY];omega) hd1 hd2 λr g hg=>?_);show YC (OF<|YC<|Qf<|YM ?_);change Q (failedOf st).isNone _
  rw[hf]
  have:=fin r g _ Z hg
  rwa[hf]at this
def Stp(lo:Nat)(st XQ:SortSt):(Prop):=kindOf XQ=kindOf st/\failedOf XQ=failedOf st/\pendingOf XQ=pendingOf st/\(arrOf XQ).Perm (arrOf st)/\∀i,i<lo->(arrOf XQ)[i]?=(arrOf st)[i]?
def Stp.refl(lo:Nat)(st:SortSt):Stp lo st st:={Z,Z,Z,Dc _,λ_ _=>rfl}
def Stp.trans{lo:Nat}{a b c:SortSt}(h:Stp lo a b)(k:Stp lo b c):Stp lo a c:={k.1.m h.1,k.2.1.m h.2.1,k.2.2.1.m h.2.2.1,k.2.2.2.1.m h.2.2.2.1,λi hi=>(k.2.2.2.2 i hi).m (h.2.2.2.2 i hi)}
def Stp.size{lo:Nat}{a b:SortSt}(h:Stp lo a b):(arrOf b).t=(arrOf a).t:=h.2.2.2.1.size_eq
def Stp.all{lo:Nat}{a b:SortSt}(h:Stp lo a b)(hS:∀x∈(arrOf a).l,S x):∀x∈(arrOf b).l,S x:=λx hx=>hS x ((Uk.L h.2.2.2.1).mem_iff.L hx)
def Stp.mirror{lo i j:Nat}{st:SortSt}(hi:lo<=i)(hj:j<=(arrOf st).t):Stp lo st (setArr st (PyProof.Rows.mirror (arrOf st) i j ((j-i)/2))):=
 {Z,Z,Z,mirror_perm _ _ _ _,λk hk=>by change(PyProof.Rows.mirror (arrOf st) i j<|(j-i)/2)[k]?=_;rw[pd hj,if_neg J]}
def Stp.bubble{lo src d:Nat}{st:SortSt}(hs:src<(arrOf st).t)(hd:d<=src)(Mm:lo<=src-d):Stp lo st (setArr st (PyProof.Rows.bubble (arrOf st) src d)):=
 {Z,Z,Z,bubble_perm _ _ _,λk hk=>by change(PyProof.Rows.bubble (arrOf st) src d)[k]?=_;rw[getElem?_bubble hs d hd,if_neg J,if_neg J]}
def Ay(h:xs[i]?=ys[j]?):ke key xs i=ke key ys j:=by unfold ke;rw[YB,YB,h]
def Ky(hj:j<=xs.t)(k:Nat):ke key (mirror xs i j ((j-i)/2)) k=if i<=k/\k<j then ke key xs (i+j-1-k) else ke key xs k:=by
 let e:=pd (i:=i) hj k;split
 .rename_i h;rw[if_pos h]at e;show Ay e
 .rename_i h;rw[if_neg h]at e;show Ay e
def Zr5(hs:src<xs.t)(hd:d<=src)(k:Nat):ke key (bubble xs src d) k=if k=src-d then ke key xs src else if src-d<k/\k<=src then ke key xs (k-1) else ke key xs k:=by
 let e:=getElem?_bubble hs d hd k;split
 .rename_i h;rw[if_pos h]at e;show Ay e
 .rename_i h;rw[if_neg h]at e;split
  .rename_i h;rw[if_pos h]at e;show Ay e
  .rename_i h;rw[if_neg h]at e;show Ay e
def NM(L:Ww M A E s O key kd S){st:SortSt}{Q:Option Bool->SortSt->Prop}(hk:kindOf st=kd)(hS:∀x∈(arrOf st).l,S x)(hi:i<(arrOf st).t)(hj:j<(arrOf st).t)
  (h:Q (some<|O.blt (ke key (arrOf st) i)<|ke key (arrOf st) j) st):wpS M A E s (ltAt' i j) Q st:=by
 let e1:=SN (arrOf st) i hi;let e2:=SN (arrOf st) j hj
 rw[Ux e1,Ux e2]at h;rw[ltAt'_eq];show YC (Qf ?_);show YC (Zx e1<|YC<|Zx e2 ?_);show L _ _ _ _ (hS _ B) (hS _ B) hk h
def II{st:SortSt}{Q:Unit->SortSt->Prop}(h:Q () (setArr st (mirror (arrOf st) i j ((j-i)/2)))):wpS M A E s (reverseSlice' i j) Q st:=by rw[reverseSlice'_eq];show OF h
def Uw(O:KeyOrd)(key:Keyed->O.α)(arr:Array Keyed)(lo k:Nat):(Prop):=∀i j,i<=j->j<k->O.kle (ke key arr<|lo+i) (ke key arr<|lo+j)
def UN(O:KeyOrd)(key:Keyed->O.α)(arr:Array Keyed)(lo k:Nat):(Prop):=∀i j,i<=j->j<k->O.kle (ke key arr<|lo+j) (ke key arr<|lo+i)
def Ax(lo a WL:Nat):(StateT SortSt Sem (Option (Option Nat)×Nat)):=forIn [a:WL] ((none,a):Option (Option Nat)×Nat) λ_ r=>do
 let x <-ltAt' (lo+r.2) (lo+r.2-1)
 match x with
 |some b=>if b=true then pure (.done (none,r.2)) else pure (.yield (none,r.2+1))
 |_=>pure (.done (some none,r.2))
def Aw(L:Ww M A E s O key kd S){st:SortSt}{lo a WL:Nat}{Q:Option (Option Nat)×Nat->SortSt->Prop}(hk:kindOf st=kd)(hS:∀x∈(arrOf st).l,S x)(hn:lo+WL<=(arrOf st).t)(ha:1<=a)(han:a<=WL)(hs:Uw O key (arrOf st) lo a)
  (h:∀n,a<=n->n<=WL->Uw O key (arrOf st) lo n->(n=WL\/O.klt (ke key (arrOf st)<|lo+n) (ke key (arrOf st)<|lo+n-1))->Q (none,n) st):wpS M A E s (Ax lo a WL) Q st:=by
 unfold Ax;show Sw (I:=λx c XQ=>XQ=st/\c=(none,x)/\Uw O key (arrOf st) lo x) ?_ ?_ ⟨Z,Z,hs⟩
 .rintro x c XQ kg hxn ⟨rfl,rfl,Wb⟩;show YC (NM L hk hS J J ?_);dsimp only;cases e:O.blt (ke key (arrOf XQ)<|lo+x) (ke key (arrOf XQ)<|lo+x-1) with
  |true=>
   rw[if_pos Z];show YM (h x kg J Wb<|.inr e)
  |false=>
   rw[if_neg B];show YM {Z,Z,λi j WJ hj=>?_};cases Av:j<x
   .show Wb i j WJ Av
   .let QF:j=x:=J;subst QF;cases Ta:i=j
    .subst Ta;show Pm _
    .have:=Wb i (j-1) J J
     rw[show lo+(j-1)=lo+j-1 by lia]at this;show SO this e
 .rintro c XQ ⟨rfl,rfl,Wb⟩;rw[show max a WL=WL by lia]at Wb ⊢;show h WL han (XJ _) Wb (.inl Z)
def Au(lo n WL:Nat):(StateT SortSt Sem (Option (Option Nat)×Nat×Nat)):=forIn [n:WL] ((none,n,0):Option (Option Nat)×Nat×Nat) λ_ r=>do
 let x <-ltAt' (lo+r.2.1) (lo+r.2.1-1)
 match x with
 |some b=>
  if b=true then
   if r.2.2>0 then do
    reverseSlice' (lo+r.2.1-(r.2.2+1)) (lo+r.2.1)
    pure (.yield (none,r.2.1+1,0))
   else pure (.yield (none,r.2.1+1,0))
  else do
   let y <-ltAt' (lo+r.2.1-1) (lo+r.2.1)
   match y with
   |some c=>if c=true then pure (.done (none,r.2.1,r.2.2)) else pure (.yield (none,r.2.1+1,r.2.2+1))
   |_=>pure (.done (some none,r.2.1,r.2.2))
 |_=>pure (.done (some none,r.2.1,r.2.2))
def ZF(hj:j<=xs.t)(he:∀k,i<=k->k<j->ke key xs k=ke key xs (j-1))(k:Nat):ke key (mirror xs i j ((j-i)/2)) k=ke key xs k:=by
 rw[Ky hj];split
 .rw[he _ oW oW,he k J J]
 .rfl
def As(L:Ww M A E s O key kd S){st:SortSt}{lo n WL:Nat}{Q:Option (Option Nat)×Nat×Nat->SortSt->Prop}(hk:kindOf st=kd)(hS:∀x∈(arrOf st).l,S x)(hn:lo+WL<=(arrOf st).t)(h1:1<=n)(hnn:n<=WL)(hs:UN O key (arrOf st) lo n)
  (h:∀m Vq XQ,Stp lo st XQ->n<=m->m<=WL->UN O key (arrOf XQ) lo m->Vq+1<=m->(∀i,lo+m-(Vq+1)<=i->i<lo+m->ke key (arrOf XQ) i=ke key (arrOf XQ) (lo+m-1))->Q (none,m,Vq) XQ):wpS M A E s (Au lo n WL) Q st:=by
 unfold Au;show Sw (I:=λx c XQ=>∃Vq,c=(none,x,Vq)/\Stp lo st XQ/\UN O key (arrOf XQ) lo x/\Vq+1<=x/\(∀i,lo+x-(Vq+1)<=i->i<lo+x->ke key (arrOf XQ) i=ke key (arrOf XQ) (lo+x-1))) ?_ ?_ {0,Z,Stp.refl _ _,hs,J,λi h1 h2=>by congr 1;lia}
 .rintro x c XQ kg hxn ⟨Vq,rfl,Wk,Wb,hq,he⟩;let Up:=Wk.1.m hk
  let Ub:=Wk.all hS;let hz:=Wk.t
  dsimp only;show YC (NM L Up Ub J J ?_);dsimp only;cases e:O.blt (ke key (arrOf XQ)<|lo+x) (ke key (arrOf XQ)<|lo+x-1) with
  |true=>
   rw[if_pos Z];let non:∀ar,(∀k,k<=lo+x->ke key ar k=ke key (arrOf XQ) k)->UN O key ar lo (x+1):=λar hke i j WJ hj=>by
    rw[hke _ J,hke _ J];cases Av:j<x
    .show Wb i j WJ Av
    .let QF:j=x:=J;subst QF;cases Ta:i=j
     .subst Ta;show Pm _
     .have:=Wb i (j-1) J J
      rw[show lo+(j-1)=lo+j-1 by lia]at this;show SO (Po e) this
   cases c:Vq>0
   .rw[if_pos c];show YC (II<|YM ⟨0,Z,Wk.m<|Stp.mirror J J,?_,J,λi h1 h2=>by congr 1;lia⟩);show non _ λk hk=>ZF J he k
   .rw[if_neg c];show YM {0,Z,Wk,non _ λ_ _=>rfl,oW,λi h1 h2=>by congr 1;omega}
  |false=>
   rw[if_neg B];show YC (NM L Up Ub oW oW ?_);dsimp only;cases e2:O.blt (ke key (arrOf XQ)<|lo+x-1) (ke key (arrOf XQ)<|lo+x) with
   |true=>
    rw[if_pos Z];show YM (h x Vq XQ Wk kg J Wb hq he)
   |false=>
    rw[if_neg B];let eq:ke key (arrOf XQ) (lo+x-1)=ke key (arrOf XQ) (lo+x):=O.total _ _ e2 e
    show YM {Vq+1,Z,Wk,λi j WJ hj=>?_,J,λi h1 h2=>?_}
    .cases Av:j<x
     .show Wb i j WJ Av
     .let QF:j=x:=oW;subst QF;cases Ta:i=j
      .subst Ta;show Pm _
      .have:=Wb i (j-1) oW oW
       rwa[show lo+(j-1)=lo+j-1 by omega,eq]at this
    .rw[show lo+(x+1)-1=lo+x by lia,<-eq];cases hi:i<lo+x
     .show he i J hi
     .rw[show i=lo+x by lia,eq]
 .rintro c XQ ⟨Vq,rfl,Wk,Wb,hq,he⟩;rw[show max n WL=WL by lia]at *;show h WL Vq XQ Wk hnn (XJ _) Wb hq he
def ZC6(L:Ww M A E s O key kd S){st:SortSt}{lo WL:Nat}{Q:Option Nat->SortSt->Prop}(hk:kindOf st=kd)(hS:∀x∈(arrOf st).l,S x)(hn:lo+WL<=(arrOf st).t)(h1:1<=WL)
  (h:∀m XQ,Stp lo st XQ->1<=m->m<=WL->Uw O key (arrOf XQ) lo m->Q (some m) XQ):wpS M A E s (countRun' lo WL) Q st:=by
 rw[countRun'_eq];let one:Uw O key (arrOf st) lo 1:=λi j WJ hj=>by
  have:i=j:=J
  subst this;show Pm _
 show YC (Aw L hk hS hn (XJ _) h1 one λn DZ Om hs hx=>?_);dsimp only;cases c1:n=WL
 .rw[if_pos (by simpa using c1)];show YM (h n st (Stp.refl _ _) DZ Om hs)
 rw[if_neg (by simpa using c1)];let Xh:O.klt (ke key (arrOf st)<|lo+n) (ke key (arrOf st)<|lo+n-1):=hx.resolve_left c1
 cases c2:n>1
 .rw[if_pos c2];show YC (NM L hk hS J J ?_);dsimp only;cases e:O.blt (ke key (arrOf st) lo) (ke key (arrOf st)<|lo+n-1) with
  |true=>
   rw[if_pos Z];show YM (h n st (Stp.refl _ _) DZ Om hs)
  |false=>
   rw[if_neg B];show YC (II ?_);let t1:Stp lo st (setArr st<|mirror (arrOf st) lo (lo+n)<|(lo+n-lo)/2):=Stp.mirror (XJ _) J
   let eqs:∀k,lo<=k->k<lo+n->ke key (arrOf st) k=ke key (arrOf st) (lo+n-1):=λk k1 k2=>by
    let a1:=hs (k-lo) (n-1) oZ J;let a2:=hs 0 (k-lo) J oZ
    rw[show lo+(k-lo)=k by grind,show lo+(n-1)=lo+n-1 by lia]at a1;rw[show lo+(k-lo)=k by omega,Nat.add_zero]at a2;show KeyOrd.kle_antisymm a1 (SO e a2)
   let Rj:UN O key (mirror (arrOf st) lo (lo+n)<|(lo+n-lo)/2) lo (n+1):=λi j WJ hj=>by
    rw[ZF J eqs,ZF oW eqs];cases hjn:j<n
    .rw[eqs (lo+i) J J,eqs (lo+j) J J];show Pm _
    .let QF:j=n:=J;subst QF;cases Ta:i=j
     .subst Ta;show Pm _
     .rw[eqs (lo+i) J J];show Po Xh
   obtain⟨RQ,e1⟩:∃RQ,RQ=setArr st (mirror (arrOf st) lo (lo+n)<|(lo+n-lo)/2):={_,Z};let Rj:UN O key (arrOf RQ) lo (n+1):=by rwa[e1]
   rw[<-e1]at t1 ⊢;show YC (wpS_lift<|Pk ⟨Z,?_⟩);show YC (As L (t1.1.m hk) (t1.all hS) (by have:=t1.t;lia) J J Rj λm Vq Xa kf Tv WG NL j9 heq=>?_);dsimp only;let t2:=t1.m kf
   cases c3:Vq>0
   .rw[if_pos c3];show YC (II ?_);let t3:Stp lo st (setArr Xa<|mirror (arrOf Xa) (lo+m-(Vq+1)) (lo+m)<|(lo+m-(lo+m-(Vq+1)))/2):=t2.m (Stp.mirror J (by have:=t2.t;lia))
    let Va:UN O key (mirror (arrOf Xa) (lo+m-(Vq+1)) (lo+m)<|(lo+m-(lo+m-(Vq+1)))/2) lo m:=λi j WJ hj=>by rw[ZF (by have:=t2.t;lia) heq,ZF (by have:=t2.t;omega) heq];show NL i j WJ hj
    obtain⟨WI,e3⟩:∃WI,WI=setArr Xa (mirror (arrOf Xa) (lo+m-(Vq+1)) (lo+m)<|(lo+m-(lo+m-(Vq+1)))/2):={_,Z};let Va:UN O key (arrOf WI) lo m:=by rwa[e3]
    rw[<-e3]at t3 ⊢;show YC (II ?_);let t4:Stp lo st (setArr WI<|mirror (arrOf WI) lo (lo+m)<|(lo+m-lo)/2):=t3.m (Stp.mirror (XJ _) (by have:=t3.t;lia))
    show YC (Aw L (t4.1.m hk) (t4.all hS) (by have:=t4.t;lia) J WG ?_ λq DY RN NK _=>?_)
    .intro i j WJ hj;change O.kle (ke key (mirror (arrOf WI) lo (lo+m)<|(lo+m-lo)/2)<|lo+i) (ke key (mirror (arrOf WI) lo (lo+m)<|(lo+m-lo)/2)<|lo+j)
     rw[Ky (by have:=t3.t;lia),Ky (by have:=t3.t;omega),if_pos J,if_pos J,show lo+(lo+m)-1-(lo+i)=lo+(m-1-i) by lia,show lo+(lo+m)-1-(lo+j)=lo+(m-1-j) by lia];show Va _ _ oZ oZ
    .show YM (h q _ t4 J RN NK)
   .rw[if_neg c3];let t3:=t2
    let Va:=NL;obtain⟨WI,e3⟩:∃WI,WI=Xa:={_,Z};rw[<-e3]at t3 Va ⊢;show YC (II ?_);let t4:Stp lo st (setArr WI<|mirror (arrOf WI) lo (lo+m)<|(lo+m-lo)/2):=t3.m (Stp.mirror (XJ _) (by have:=t3.t;omega))
    show YC (Aw L (t4.1.m hk) (t4.all hS) (by have:=t4.t;omega) J WG ?_ λq DY RN NK _=>?_)
    .intro i j WJ hj;change O.kle (ke key (mirror (arrOf WI) lo (lo+m)<|(lo+m-lo)/2)<|lo+i) (ke key (mirror (arrOf WI) lo (lo+m)<|(lo+m-lo)/2)<|lo+j)
     rw[Ky (by have:=t3.t;omega),Ky (by have:=t3.t;omega),if_pos oW,if_pos oW,show lo+(lo+m)-1-(lo+i)=lo+(m-1-i) by omega,show lo+(lo+m)-1-(lo+j)=lo+(m-1-j) by omega];show Va _ _ oW oW
    .show YM (h q _ t4 J RN NK)
 .rw[if_neg c2];let t1:=Stp.refl lo st
  let Rj:UN O key (arrOf st) lo (n+1):=λi j WJ hj=>by
   cases Ta:i=j
   .subst Ta;show Pm _
   .let h3:i=0:=J;let h4:j=n:=J
    subst h3 h4;rw[show lo+0=lo+j-1 by lia];show Po Xh
  obtain⟨RQ,e1⟩:∃RQ,RQ=st:={_,Z};let Rj:UN O key (arrOf RQ) lo (n+1):=by rwa[e1]
  let t1:Stp lo st RQ:=by rwa[e1]
  rw[<-e1];show YC (wpS_lift<|Pk ⟨Z,?_⟩);show YC (As L (t1.1.m hk) (t1.all hS) (by have:=t1.t;omega) J J Rj λm Vq Xa kf Tv WG NL j9 heq=>?_);dsimp only;let t2:=t1.m kf
  cases c3:Vq>0
  .rw[if_pos c3];show YC (II ?_);let t3:Stp lo st (setArr Xa<|mirror (arrOf Xa) (lo+m-(Vq+1)) (lo+m)<|(lo+m-(lo+m-(Vq+1)))/2):=t2.m (Stp.mirror oW (by have:=t2.t;omega))
   let Va:UN O key (mirror (arrOf Xa) (lo+m-(Vq+1)) (lo+m)<|(lo+m-(lo+m-(Vq+1)))/2) lo m:=λi j WJ hj=>by rw[ZF (by have:=t2.t;omega) heq,ZF (by have:=t2.t;omega) heq];show NL i j WJ hj
   obtain⟨WI,e3⟩:∃WI,WI=setArr Xa (mirror (arrOf Xa) (lo+m-(Vq+1)) (lo+m)<|(lo+m-(lo+m-(Vq+1)))/2):={_,Z};let Va:UN O key (arrOf WI) lo m:=by rwa[e3]
   rw[<-e3]at t3 ⊢;show YC (II ?_);let t4:Stp lo st (setArr WI<|mirror (arrOf WI) lo (lo+m)<|(lo+m-lo)/2):=t3.m (Stp.mirror (XJ _) (by have:=t3.t;omega))
   show YC (Aw L (t4.1.m hk) (t4.all hS) (by have:=t4.t;omega) J WG ?_ λq DY RN NK _=>?_)
   .intro i j WJ hj;change O.kle (ke key (mirror (arrOf WI) lo (lo+m)<|(lo+m-lo)/2)<|lo+i) (ke key (mirror (arrOf WI) lo (lo+m)<|(lo+m-lo)/2)<|lo+j)
    rw[Ky (by have:=t3.t;omega),Ky (by have:=t3.t;omega),if_pos oW,if_pos oW,show lo+(lo+m)-1-(lo+i)=lo+(m-1-i) by omega,show lo+(lo+m)-1-(lo+j)=lo+(m-1-j) by omega];show Va _ _ oW oW
   .show YM (h q _ t4 oW RN NK)
  .rw[if_neg c3];let t3:=t2
   let Va:=NL;obtain⟨WI,e3⟩:∃WI,WI=Xa:={_,Z};rw[<-e3]at t3 Va ⊢;show YC (II ?_);let t4:Stp lo st (setArr WI<|mirror (arrOf WI) lo (lo+m)<|(lo+m-lo)/2):=t3.m (Stp.mirror (XJ _) (by have:=t3.t;omega))
   show YC (Aw L (t4.1.m hk) (t4.all hS) (by have:=t4.t;omega) oW WG ?_ λq DY RN NK _=>?_)
   .intro i j WJ hj;change O.kle (ke key (mirror (arrOf WI) lo (lo+m)<|(lo+m-lo)/2)<|lo+i) (ke key (mirror (arrOf WI) lo (lo+m)<|(lo+m-lo)/2)<|lo+j)
    rw[Ky (by have:=t3.t;omega),Ky (by have:=t3.t;omega),if_pos oW,if_pos oW,show lo+(lo+m)-1-(lo+i)=lo+(m-1-i) by omega,show lo+(lo+m)-1-(lo+j)=lo+(m-1-j) by omega];show Va _ _ oW oW
   .show YM (h q _ t4 oW RN NK)
def Zd6(L:Ww M A E s O key kd S){st:SortSt}{lo n ok:Nat}{Q:Bool->SortSt->Prop}(hk:kindOf st=kd)(hS:∀x∈(arrOf st).l,S x)(hn:lo+n<=(arrOf st).t)(hok:ok<=n)(hs:Uw O key (arrOf st) lo ok)
  (h:∀XQ,Stp lo st XQ->Uw O key (arrOf XQ) lo n->Q true XQ):wpS M A E s (binarySort' lo n ok) Q st:=by
 rw[binarySort'_eq];show YC (RA (Sw (I:=λk c XQ=>c=(none,())/\Stp lo st XQ/\Uw O key (arrOf XQ) lo (min k n))
  (Q:=λc XQ=>c=(none,())/\Stp lo st XQ/\Uw O key (arrOf XQ) lo n) ?_ ?_ ?_) ?_)
 .rintro k c XQ NJ Eb ⟨rfl,Wk,Wb⟩;rw[show min k n=k by lia]at Wb;let hz:=Wk.t
  let Up:=Wk.1.m hk;let Ub:=Wk.all hS
  show YC (RA (Sw (I:=λx c Uv=>Uv=XQ/\∃l r,c=(none,l,r)/\l<=r/\r<=k/\r-l<=k-x/\
    (∀i,i<l->O.kle (ke key (arrOf XQ)<|lo+i) (ke key (arrOf XQ)<|lo+k))/\(∀i,r<=i->i<k->O.klt (ke key (arrOf XQ)<|lo+k) (ke key (arrOf XQ)<|lo+i)))
   (Q:=λc Uv=>Uv=XQ/\∃l r,c=(none,l,r)/\l<=k/\
    (∀i,i<l->O.kle (ke key (arrOf XQ)<|lo+i) (ke key (arrOf XQ)<|lo+k))/\(∀i,l<=i->i<k->O.klt (ke key (arrOf XQ)<|lo+k) (ke key (arrOf XQ)<|lo+i))) ?_ ?_ {Z,0,k,Z,J,J,J,λi hi=>J,λi h1 h2=>J}) ?_)
  .rintro x c Uv _ hxk ⟨rfl,l,r,rfl,hlr,j8,hm,Mm,DX⟩;dsimp only;cases SW:l >= r
   .rw[if_pos SW]
    have:l=r:=J
    subst this;show YM ⟨Z,l,l,Z,j8,Mm,DX⟩
   .rw[if_neg SW];show YC (NM L Up Ub J J ?_);dsimp only;cases IG:O.blt (ke key (arrOf Uv)<|lo+k) (ke key (arrOf Uv)<|lo+(l+r)/2) with
    |true=>
     rw[if_pos Z];show YM {Z,l,(l+r)/2,Z,J,J,oZ,Mm,λi h1 h2=>?_};show KeyOrd.klt_of_klt_of_kle IG (Wb _ _ h1 h2)
    |false=>
     rw[if_neg B];show YM {Z,(l+r)/2+1,r,Z,J,J,oZ,λi h1=>?_,DX};show SO (Wb i ((l+r)/2) J J) (show O.kle _ _ from IG)
  .rintro c Uv ⟨rfl,l,r,rfl,hlr,j8,hm,Mm,DX⟩
   have:l=r:=oZ
   subst this;exists Z,l,l,Z,j8,Mm,DX
  .rintro c Uv ⟨rfl,l,r,rfl,hlk,Mm,DX⟩;dsimp only;rw[moveDown'_eq];show YC (OF<|YM ⟨Z,Wk.m<|Stp.bubble J oZ J,?_⟩);rw[show min (k+1) n=k+1 by lia];let RM:lo+k<(arrOf Uv).t:=oW
   intro i j WJ hj;change O.kle (ke key (bubble (arrOf Uv) (lo+k)<|lo+k-(lo+l))<|lo+i) (ke key (bubble (arrOf Uv) (lo+k)<|lo+k-(lo+l))<|lo+j)
   rw[Zr5 RM oZ,Zr5 RM oW,show lo+k-(lo+k-(lo+l))=lo+l by grind];let Ar:∀i,l<i->lo+i-1=lo+(i-1):=λi hi=>J
   repeat' split
   all_goals first
    | (exfalso;omega)
    |show Pm _
    |show Mm _ oW
    |show Wb _ _ oW oW
    | (rw[Ar j oZ];show Po<|DX _ J J)
    | (rw[Ar j oW];show Wb _ _ oW oW)
    | (rw[Ar i oZ,Ar j oZ];show Wb _ _ J J)
    | (rw[Ar i oW];show Wb _ _ oW oW)
 .rintro c XQ ⟨hc,Wk,Wb⟩;exists hc,Wk,?_
  rwa[show min (max (max ok 1) n) n=n by lia]at Wb
 .exists Z,Stp.refl _ _,λi j WJ hj=>?_;cases h1:ok=0
  .have:i=j:=J
   subst this;show Pm _
  .show hs i j WJ J
 .rintro c XQ ⟨rfl,Wk,Wb⟩;show YM (h XQ Wk Wb)
def VA:(List (List Keyed)->Nat->List (Nat×Nat))
 |[],_=>[]
 |g::gs,o=>(o,g.f)::VA gs (o+g.f)
def Ri:∀a b o,VA (a++b) o=VA a o++VA b (o+a.flatten.f)
 |[],b,o=>by simp[VA]
 |g::gs,b,o=>by simp[VA,Ri gs b,Nat.add_assoc]
def j7:∀a o,(VA a o).f=a.f
 |[],o=>rfl
 |g::gs,o=>by simp[VA,j7 gs]
structure PI(O:KeyOrd)(key:Keyed->O.α)(kd:SortKind)(a₀:Array Keyed)(st:SortSt)(segs:List (List Keyed))(rest:List Keyed):Prop where
 kind:kindOf st=kd
 fail:failedOf st=none
 perm:(arrOf st).Perm a₀
 arr:(arrOf st).l=segs.flatten++rest
 srt:∀g∈segs,1<=g.f/\g.E (RK O key)
 pend:(pendingOf st).l.R (λp=>(p.1,p.2.1))=VA segs 0
def PI.psize{st:SortSt}(h:PI O key kd a₀ st segs rest):(pendingOf st).t=segs.f:=by
 have:=YS List.f h.pend
 rwa[Yc,j7,Yx]at this
def PI.size{st:SortSt}(h:PI O key kd a₀ st segs rest):a₀.t=segs.flatten.f+rest.f:=by rw[<-h.perm.size_eq,<-Yx,h.arr,Xt]
def Aq:∀{segs:List (List Keyed)},(∀g∈segs,1<=g.f/\g.E (RK O key))->segs.f<=segs.flatten.f
 |[],_=>XJ _
 |g::gs,h=>by
  have:=Aq (segs:=gs) λx hx=>h x (Yh _ hx)
  have:=(h g Yd).1
  simp;simp at *
  lia
def j6(L:Ww M A E s O key kd S)(hS:∀x∈a₀.l,S x){st:SortSt}{Q:Bool->SortSt->Prop}(h:PI O key kd a₀ st segs rest)(hi:i+1<segs.f)
  (q:∀XQ NI,PI O key kd a₀ XQ NI rest->NI.f+1=segs.f->NI.flatten.f=segs.flatten.f->Q true XQ):wpS M A E s (mergeAt' i) Q st:=by
 obtain⟨S1,X,Y,S2,e,hl⟩:∃S1 X Y S2,segs=S1++X::Y::S2/\S1.f=i:=by show{segs.M i,segs[i],segs[i+1],segs.drop<|i+2,?_,by rw[Yf];lia};rw[<-JF (i:=i+1) J,<-JF (i:=i) oW,LM]
 subst e;let hp:=h.pend
 rw[Ri,SM]at hp;let(PA,PR,e1,e2,e3):=List.map_eq_append_iff.L hp;simp only[VA]at e3;let(p1,PR1,e4,e5,e6):=List.map_eq_cons_iff.L e3;let(p2,PB,e7,e8,e9):=List.map_eq_cons_iff.L e6;let(sa,na,pw):=p1;let(sb,nb,AE):=p2;cases e5;cases e8;let hPA:PA.f=i:=by
  have:=YS List.f e2
  rw[Yc,j7]at this;lia
 let hX:=h.srt X B;let hY:=h.srt Y B
 let ep:(pendingOf st).l=PA++(S1.flatten.f,X.f,pw)::(S1.flatten.f+X.f,Y.f,AE)::PB:=by rw[e1,e4,e7];rfl
 show Zc6 (P:=S1.flatten) (X:=X) (Y:=Y) (T:=S2.flatten++rest) L h.kind h.fail (by rw[h.arr];simp) (λx hx=>hS x<|(Uk.L h.perm).mem_iff.L hx) ep hPA Z Z Z Z hX.1 hY.1 hX.2 hY.2 λoO XQ z1 z2 z3 z4 z5 z6=>?_;let zl:oO.f=X.f+Y.f:=by rw[z2.length_eq,Xt]
 show q XQ (S1++oO::S2) {z5,z6,?_,by rw[z3];simp,?_,?_} (by simp;omega) (by simp;omega)
 .show Uk.U (List.Perm.m ?_<|Uk.L h.perm);rw[z3,h.arr];let e:(S1++X::Y::S2).flatten++rest=S1.flatten++(X++Y)++(S2.flatten++rest):=B
  rw[e];show Dq _ (MD _ z2)
 .intro g hg;rcases Xz.L hg with hg|hg
  .show h.srt g (by simp[hg])
  .rcases Yi.L hg with rfl|hg
   .exists by have:=hX.1;omega,z1
   .show h.srt g (by simp[hg])
 .rw[z4,YN,Ur,e2,e9,Ri,SM];simp only[VA];rw[zl,Nat.add_assoc]
def j5{arr:Array Keyed}{lo n:Nat}(h:Uw O key arr lo n):((arr.l.drop lo).M n).E (RK O key):=by
 rw[ME];intro i j hi hj WJ;rw[Yf,WA]at hi hj;let a1:arr[lo+i]?=some ((arr.l.drop lo).M n)[i]:=by rw[<-YI];simp
 let a2:arr[lo+j]?=some ((arr.l.drop lo).M n)[j]:=by rw[<-YI];simp
 have:=h i j J J
 rwa[Ux a1,Ux a2]at this
def PI.push{st XQ:SortSt}(h:PI O key kd a₀ st segs rest)(hr:n<=rest.f)(t:Stp segs.flatten.f st XQ)(hs:Uw O key (arrOf XQ) segs.flatten.f n):
  ∃run Wx,run.f=n/\Wx.f+n=rest.f/\PI O key kd a₀ XQ segs (run++Wx)/\run.E (RK O key):=by
 let hz:=t.t;let j4:(arrOf st).t=segs.flatten.f+rest.f:=by rw[<-Yx,h.arr,Xt]
 let e0:(arrOf XQ).l.M segs.flatten.f=segs.flatten:=by
  apply Mv;intro i;cases hi:i<segs.flatten.f
  .rw[OQ,if_pos hi,YI,t.2.2.2.2 i hi,<-YI,h.arr,Yp hi]
  .rw[VG (by rw[Yf];grind),VG J]
 let e1:=LM segs.flatten.f (arrOf XQ).l;let e2:=LM n ((arrOf XQ).l.drop segs.flatten.f)
 exists ((arrOf XQ).l.drop segs.flatten.f).M n,((arrOf XQ).l.drop segs.flatten.f).drop n,?_,?_,{t.1.m h.kind,t.2.1.m h.fail,t.2.2.2.1.m h.perm,?_,h.srt,?_},j5 hs
 .rw[Yf,WA,Yx];lia
 .rw[WA,WA,Yx];lia
 .rw[e2];rw[e0]at e1;show e1.symm
 .rw[t.2.2.1];show h.pend
def j0(L:Ww M A E s O key kd S){a₀:Array Keyed}(hS:∀x∈a₀.l,S x){st:SortSt}{Q:Unit->SortSt->Prop}(hk:kindOf st=kd)(hf:failedOf st=none)(ha:arrOf st=a₀)(hp:pendingOf st=#[])
  (h:∀XQ,(arrOf XQ).Perm a₀->failedOf XQ=none->(arrOf XQ).l.E (RK O key)->Q () XQ):wpS M A E s sortRuns' Q st:=by
 rw[sortRuns'_eq];show YC (Qf ?_);dsimp only;rw[ha];let pi0:PI O key kd a₀ st [] a₀.l:={hk,hf,ha▸Dc _,by rw[ha];rfl,λ_ h=>(by cases h),by rw[hp];rfl}
 show YC (RA (Sw
  (I:=λx c XQ=>∃lo,c=(none,lo)/\∃segs rest,lo=segs.flatten.f/\PI O key kd a₀ XQ segs rest/\(x<=lo\/a₀.t<=lo))
  (Q:=λc XQ=>∃lo,c=(none,lo)/\∃segs rest,lo=segs.flatten.f/\PI O key kd a₀ XQ segs rest/\a₀.t<=lo) ?_ ?_ {0,Z,[],a₀.l,Z,pi0,.inl<|XJ _}) ?_)
 .rintro x c XQ _ hx ⟨lo,rfl,segs,rest,rfl,pi,LX⟩;dsimp only;cases c1:segs.flatten.f >= a₀.t
  .rw[if_pos c1];show YM {_,Z,segs,rest,Z,pi,c1}
  rw[if_neg c1];let hz:=pi.t
  let IF:∀x∈(arrOf XQ).l,S x:=λx hx=>hS x ((Uk.L pi.perm).mem_iff.L hx);let hsz:=pi.perm.size_eq
  show YC (ZC6 L pi.kind IF oZ oZ λm Xa t2 Tv WG Sn=>?_);dsimp only;let j4:=t2.t
  cases c2:m<minRun' a₀.t a₀.t 0
  .rw[if_pos c2];show YC (wpS_lift<|Pk ⟨Z,?_⟩);show YC (Zd6 L (t2.1.m pi.kind) (t2.all IF) oZ oZ Sn λWI t3 hs3=>?_);rw[if_neg B];let n1:1<=min (a₀.t-segs.flatten.f) (minRun' a₀.t a₀.t 0):=oZ
   let n2:min (a₀.t-segs.flatten.f) (minRun' a₀.t a₀.t 0)<=rest.f:=oZ;let(run,Wx,DW,Ap,Gx,NH):=pi.push n2 (t2.m t3) hs3;generalize min (a₀.t-segs.flatten.f) (minRun' a₀.t a₀.t 0)=n at *;obtain⟨Kx,e4⟩:∃Kx,Kx=WI:={_,Z};rw[<-e4]at Gx ⊢;show YC (Qf ?_);cases Ao:(pendingOf Kx).back? with
   |none=>
    dsimp only;let Wo:=Gx
    let Wg:segs.flatten.f=segs.flatten.f:=rfl;obtain⟨XE,e5⟩:∃XE,XE=segs:={_,Z};obtain⟨WQ,An⟩:∃WQ,WQ=Kx:={_,Z};rw[<-e5,<-An]at Wo;let Wg:XE.flatten.f=segs.flatten.f:=by rw[e5]
    rw[<-An];show YC (OF<|YM ?_);exists _,Z,XE++[run],Wx,by rw[uW,Xt,LH,uN,Ys];lia,{Wo.kind,Wo.fail,Wo.perm,?_,?_,?_},J
    .change(arrOf WQ).l=_;rw[Wo.arr];simp
    .intro g hg;rcases Xz.L hg with hg|hg
     .show Wo.srt g hg
     .rw[XB.L hg];exists J,NH
    .change((pendingOf WQ).push _).l.R _=_;rw[RE,YN,Wo.pend,Ri,SM,Wg];simp[VA,DW]
   |some p=>
    let(s1,n1,p1):=p;dsimp only;show YC (RA (Sw (I:=λ_ c WQ=>c=(none,())/\∃XE,PI O key kd a₀ WQ XE (run++Wx)/\XE.flatten.f=segs.flatten.f)
     (Q:=λc WQ=>c=(none,())/\∃XE,PI O key kd a₀ WQ XE (run++Wx)/\XE.flatten.f=segs.flatten.f) ?_ (λ_ _ z=>z) ⟨Z,segs,Gx,Z⟩) ?_)
    .rintro y c WQ _ _ ⟨rfl,XE,Wo,Wg⟩;show YC (Qf ?_);cases c5:(pendingOf WQ).t>1
     .rw[if_pos c5];cases hp:(pendingOf WQ)[(pendingOf WQ).t-2]? with
      |none=>show YM ⟨Z,XE,Wo,Wg⟩
      |some pp=>
       let(w1,w2,w3):=pp;dsimp only;split
       .show YM ⟨Z,XE,Wo,Wg⟩
       .show YC (j6 L hS Wo (by rw[<-Wo.psize];lia) λst6 NG jZ l6 f6=>?_);rw[if_neg B];show YM {Z,NG,jZ,f6.m Wg}
     .rw[if_neg c5];show YM ⟨Z,XE,Wo,Wg⟩
    .rintro c WQ ⟨rfl,XE,UZ,Wg⟩;dsimp only;show YC (OF ?_);let Wo:PI O key kd a₀ (setPending WQ<|(pendingOf WQ).modify ((pendingOf WQ).t-1) λx=>(x.1,x.2.1,power' a₀.t (2*s1+n1) (2*s1+n1+n1+n) a₀.t)) XE (run++Wx):=by
      exists UZ.kind,UZ.fail,UZ.perm,UZ.arr,UZ.srt,?_;change((pendingOf WQ).modify _ _).l.R _=_
      rw[<-UZ.pend,Array.toList_modify];apply Mv;intro i;rw[Yv,Yv,List.getElem?_modify];cases (pendingOf WQ).l[i]? with
      |none=>rfl
      |some x=>
       simp only[Dg];split<;>rfl
     generalize setPending WQ ((pendingOf WQ).modify ((pendingOf WQ).t-1) λx=>(x.1,x.2.1,power' a₀.t (2*s1+n1) (2*s1+n1+n1+n) a₀.t))=WQ at *;show YC (OF<|YM ?_);exists _,Z,XE++[run],Wx,by rw[uW,Xt,LH,uN,Ys];omega,{Wo.kind,Wo.fail,Wo.perm,?_,?_,?_},oW
     .change(arrOf WQ).l=_;rw[Wo.arr];simp
     .intro g hg;rcases Xz.L hg with hg|hg
      .show Wo.srt g hg
      .rw[XB.L hg];exists oW,NH
     .change((pendingOf WQ).push _).l.R _=_;rw[RE,YN,Wo.pend,Ri,SM,Wg];simp[VA,DW]
  .rw[if_neg c2];let(run,Wx,DW,Ap,Gx,NH):=pi.push oZ t2 Sn;obtain⟨n,en⟩:∃n,n=m:={_,Z};rw[<-en]at DW Ap ⊢;obtain⟨Kx,e4⟩:∃Kx,Kx=Xa:={_,Z};rw[<-e4]at Gx ⊢;show YC (Qf ?_);cases Ao:(pendingOf Kx).back? with
   |none=>
    dsimp only;let Wo:=Gx
    let Wg:segs.flatten.f=segs.flatten.f:=rfl;obtain⟨XE,e5⟩:∃XE,XE=segs:={_,Z};obtain⟨WQ,An⟩:∃WQ,WQ=Kx:={_,Z};rw[<-e5,<-An]at Wo;let Wg:XE.flatten.f=segs.flatten.f:=by rw[e5]
    rw[<-An];show YC (OF<|YM ?_);exists _,Z,XE++[run],Wx,by rw[uW,Xt,LH,uN,Ys];lia,{Wo.kind,Wo.fail,Wo.perm,?_,?_,?_},oZ
    .change(arrOf WQ).l=_;rw[Wo.arr];simp
    .intro g hg;rcases Xz.L hg with hg|hg
     .show Wo.srt g hg
     .rw[XB.L hg];exists J,NH
    .change((pendingOf WQ).push _).l.R _=_;rw[RE,YN,Wo.pend,Ri,SM,Wg];simp[VA,DW]
   |some p=>
    let(s1,n1,p1):=p;dsimp only;show YC (RA (Sw (I:=λ_ c WQ=>c=(none,())/\∃XE,PI O key kd a₀ WQ XE (run++Wx)/\XE.flatten.f=segs.flatten.f)
     (Q:=λc WQ=>c=(none,())/\∃XE,PI O key kd a₀ WQ XE (run++Wx)/\XE.flatten.f=segs.flatten.f) ?_ (λ_ _ z=>z) ⟨Z,segs,Gx,Z⟩) ?_)
    .rintro y c WQ _ _ ⟨rfl,XE,Wo,Wg⟩;show YC (Qf ?_);cases c5:(pendingOf WQ).t>1
     .rw[if_pos c5];cases hp:(pendingOf WQ)[(pendingOf WQ).t-2]? with
      |none=>show YM ⟨Z,XE,Wo,Wg⟩
      |some pp=>
       let(w1,w2,w3):=pp;dsimp only;split
       .show YM ⟨Z,XE,Wo,Wg⟩
       .show YC (j6 L hS Wo (by rw[<-Wo.psize];omega) λst6 NG jZ l6 f6=>?_);rw[if_neg B];show YM {Z,NG,jZ,f6.m Wg}
     .rw[if_neg c5];show YM ⟨Z,XE,Wo,Wg⟩
    .rintro c WQ ⟨rfl,XE,UZ,Wg⟩;dsimp only;show YC (OF ?_);let Wo:PI O key kd a₀ (setPending WQ<|(pendingOf WQ).modify ((pendingOf WQ).t-1) λx=>(x.1,x.2.1,power' a₀.t (2*s1+n1) (2*s1+n1+n1+n) a₀.t)) XE (run++Wx):=by
      exists UZ.kind,UZ.fail,UZ.perm,UZ.arr,UZ.srt,?_;change((pendingOf WQ).modify _ _).l.R _=_
      rw[<-UZ.pend,Array.toList_modify];apply Mv;intro i;rw[Yv,Yv,List.getElem?_modify];cases (pendingOf WQ).l[i]? with
      |none=>rfl
      |some x=>
       simp only[Dg];split<;>rfl
     generalize setPending WQ ((pendingOf WQ).modify ((pendingOf WQ).t-1) λx=>(x.1,x.2.1,power' a₀.t (2*s1+n1) (2*s1+n1+n1+n) a₀.t))=WQ at *;show YC (OF<|YM ?_);exists _,Z,XE++[run],Wx,by rw[uW,Xt,LH,uN,Ys];omega,{Wo.kind,Wo.fail,Wo.perm,?_,?_,?_},oW
     .change(arrOf WQ).l=_;rw[Wo.arr];simp
     .intro g hg;rcases Xz.L hg with hg|hg
      .show Wo.srt g hg
      .rw[XB.L hg];exists oW,NH
     .change((pendingOf WQ).push _).l.R _=_;rw[RE,YN,Wo.pend,Ri,SM,Wg];simp[VA,DW]
 .rintro c XQ ⟨lo,rfl,segs,rest,e,pi,LX⟩;exists lo,Z,segs,rest,e,pi,J
 .rintro c XQ ⟨lo,rfl,segs,rest,e,pi,LX⟩;dsimp only;show YC (RA (Sw
   (I:=λx c Xa=>c=(none,())/\∃segs,PI O key kd a₀ Xa segs rest/\a₀.t<=segs.flatten.f/\(segs.f+x<=a₀.t\/segs.f<=1))
   (Q:=λc Xa=>c=(none,())/\∃segs,PI O key kd a₀ Xa segs rest/\a₀.t<=segs.flatten.f/\segs.f<=1) ?_ ?_ {Z,segs,pi,J,.inl (by have:=Aq pi.srt;have:=pi.t;lia)}) ?_)
  .rintro x c Xa _ hx ⟨rfl,Tu,OY,Vj,hc⟩;show YC (Qf ?_);cases c1:(pendingOf Xa).t<=1
   .rw[if_pos c1];show YM {Z,Tu,OY,Vj,by rwa[<-OY.psize]}
   .rw[if_neg c1];let hps:=OY.psize
    show YC (j6 L hS OY ?_ λWI Am pi3 l3 f3=>?_)
    .let two:∀bb:Bool,(if bb=true then (pendingOf Xa).t-2-1 else (pendingOf Xa).t-2)+1<Tu.f:=λbb=>by cases bb<;>simp<;>lia
     show two _
    .rw[if_neg B];show YM ⟨Z,Am,pi3,J,oZ⟩
  .rintro c Xa ⟨rfl,Tu,OY,Vj,hc⟩;exists Z,Tu,OY,Vj,?_;rcases hc with hc|hc
   .lia
   .show hc
  .rintro c Xa ⟨rfl,Tu,OY,Vj,hc⟩;show YM (h Xa OY.perm OY.fail ?_);let hr:rest=[]:=by have:=OY.t;show YV.L J
   rw[OY.arr,hr,Ys]
   match Tu,hc,OY.srt with
   |[],_,_=>show List.E.nil
   |[g],_,hg=>simpa using (hg g Yd).2
end
end PyProof.Rows
namespace L2
open PySem PySem.Spec PyProof.Rows
section
variable{prog:Program}{w:World}{A:Around}{E:Ae}{s:Shared}
def jY{α:Type}{R:α->α->Prop}:∀{l:List α},l.f<2->l.E R
 |[],_=>List.E.nil
 |[_],_=>JE ..
 |_::_::_,h=>absurd h B
def sameBut(a:Addr)(h h':Heap):(Prop):=∀b o,b≠a->h.H b=some o->h'.H b=some o
def jX{key:Keyed->O.α}{kd:SortKind}{P:Fin->Shared->Prop}(ho:s.G.H a=some (seqObj "list" vs.C n))(hz:vs.f<=1000000)
  (IP:∀h':Heap,sameBut a s.G h'->2<=vs.f->∀Q:SortKind->Shared->Prop,Q kd {s with heap:=h'}->wpAny (model prog w) A (keyKind' vs.C) Q E {s with heap:=h'})
  (L:∀h':Heap,sameBut a s.G h'->Ww (model prog w) A E {s with heap:=h'} O key kd λx=>x∈(pairsOf vs).l)
  (h:∀out:Array Keyed,out.Perm (pairsOf vs)->out.l.E (RK O key)->P (.done<|.ret .none) {s with heap:=sortedHeap s.G a vs (out.R (·.2))}):wpAny (model prog w) A (Builtin.«list.sort» {[.ref a],[]}) P E s:=by
 let KJ:sizeLine=16777216:=TM;let ha:a<(~~~s):=Yt ho
 obtain⟨e1,LW⟩:∃e1,(s.G.update a<|Obj.mapSeq λ_=>(#[]:Array Value)).H a=some (seqObj "list" #[] e1):={_,OC ho λ_=>#[]};rw[list_sort_plain];show XU (Oz ho Z<|XU<|Mr ho Z ?_ (by rw[Yb];lia)<|Yj _);show XU (seqEpoch_at LW Z<|XU<|wpAny_newTuple ?_<|by simp;omega);show XU (Mt<|Sx ?_);let sm:sameBut a s.G (((s.G.update a<|Obj.mapSeq λ_=>#[]).push (seqObj "tuple" vs.C 0)).push (seqObj "list" #[] 0)):=λb o hb e=>WY _ (WY _<|(VN _ _<|WX hb).m e)
 let r9:(((s.G.update a<|Obj.mapSeq λ_=>#[]).push (seqObj "tuple" vs.C 0)).push (seqObj "list" #[] 0)).H a=some (seqObj "list" #[] e1):=WY _ (WY _ LW);change wpAny (model prog w) A _ P E {s with heap:=((s.G.update a<|Obj.mapSeq λ_=>#[]).push (seqObj "tuple" vs.C 0)).push (seqObj "list" #[] 0)}
 dsimp only;let Sn:vs.C.t=vs.f:=B
 cases h2:vs.C.t<2
 .rw[if_pos h2,if_pos h2];show XU (Yn ?_);rw[StateT.run_pure];show XU (Yn ?_);dsimp only;show XU (seqEpoch_at r9 Z<|XU<|Mr r9 Z ?_ (Yj _)<|by rw[Array.size_map];change(pairsOf vs).t<=sizeLine+1;rw[pairsOf_size];lia);simp only[pQ,QT,Vw];show Yn (h (pairsOf vs) (Dc _) ?_);show jY (by rw[Yx,pairsOf_size];lia)
 .rw[if_neg h2,if_neg h2];show XU (IP _ sm J _ ?_);show XU (RX (j0 (L _ sm) (a₀:=pairsOf vs) (λx hx=>hx) (st:=SortSt.mk' kd (vs.C.zip vs.C) #[] 7 none)
   (Q:=λ_ XQ=>(arrOf XQ).Perm (pairsOf vs)/\failedOf XQ=none/\(arrOf XQ).l.E (RK O key)) Z Z Z Z λXQ a1 a2 a3=>⟨a1,a2,a3⟩) ?_ λ_ _ e=>e)
  rintro⟨⟨⟩,XQ⟩ s' ⟨rfl,hp,hf,hs⟩;dsimp only;let hsz:(arrOf XQ).t=vs.f:=hp.size_eq.m (pairsOf_size _)
  show XU (seqEpoch_at r9 Z<|XU<|Mr r9 Z ?_ (Yj _)<|by show Yl (um<|(Array.size_map ..).m hsz) ?_;lia);rw[hf];simp only[pQ,QT,Vw];show Yn (h _ hp hs)
def ZV6{key:Keyed->O.α}{kd:SortKind}{Q:Ae}(hl:s.G.IsList l vs.C)(hz:vs.f<=1000000)
  (IP:∀A h',(∀b o,s.G.H b=some o->h'.H b=some o)->2<=vs.f->∀E Q,Q kd {s with heap:=h'}->wpAny (model prog w) A (keyKind' vs.C) Q E {s with heap:=h'})
  (L:∀A' h' E,A'.units<=A.units+4->(∀b o,s.G.H b=some o->h'.H b=some o)->Ww (model prog w) A' E {s with heap:=h'} O key kd λx=>x∈(pairsOf vs).l)
  (h:∀out:Array Keyed,out.Perm (pairsOf vs)->out.l.E (RK O key)->Q (.ref<|(~~~s)+1) {s with heap:=sortedAll s.G vs (out.R (·.2))}):wpAny (model prog w) A (call (.builtin "sorted") [.ref l]) Q E s:=by
 let hsz:((s.G.push<|seqObj "list" #[] 0).update (~~~s) (Obj.mapSeq (·++vs.C))).objs.t=(~~~s)+1:=by rw[pf,EA]
 let Mo:(((s.G.push<|seqObj "list" #[] 0).update (~~~s) (Obj.mapSeq (·++vs.C))).push (seqObj "list" vs.C 0)).H ((~~~s)+1)=some (seqObj "list" vs.C 0):=hsz▸Yr _ rfl;let KJ:sizeLine=16777216:=TM
 show uZ kind_sorted OA Oy (args_sorted1 _) ?_;unfold Builtin.«sorted»;show XU (m:=checkCount "sorted" 1 1 _) (Yn<|XU<|collect_list hl ?_ J);show XU (Mt ?_ oW);change wpAny _ _ _ _ _ {s with heap:=((s.G.push<|seqObj "list" #[] 0).update (~~~s) (Obj.mapSeq (·++vs.C))).push (seqObj "list" vs.C 0)}
 rw[hsz];let old:∀b o,s.G.H b=some o->(((s.G.push<|seqObj "list" #[] 0).update (~~~s) (Obj.mapSeq (·++vs.C))).push (seqObj "list" vs.C 0)).H b=some o:=λb o e=>
  WY _ ((VN _ _<|WX<|YF<|Yt e).m (WY _ e))
 let ne:∀b o,s.G.H b=some o->b≠(~~~s)+1:=λb o e=>YF (Sr<|Yt e);show XU (Sx<|Uj CV ⟨_,Mo,rfl⟩ OB (jX (O:=O) (key:=key) (kd:=kd) Mo hz (λh' k h2 Q q=>IP _ h' (λb o e=>k b o (ne b o e)<|old b o e) h2 _ Q q) (λh' k=>L _ h' _ (by first|(show A.units+1<=A.units+4;omega)|(show A.units+1+1<=A.units+4;lia)|(show A.units<=A.units+4;omega)) λb o e=>k b o (ne b o e)<|old b o e) λout a1 a2=>{_,rfl,?_})<|uf _)
 show Yn {_,Z,h out a1 a2}
def jW:(KeyOrd) where
 α:=Ac
 blt:=HT.lexLt
 irrefl:=My.WN
 trans a b c:=My.Wr
 negTrans a b c h:=by
  cases e:HT.lexLt a b with
  |true=>show .inl rfl
  |false=>
   show .inr ?_;cases e2:HT.lexLt b a with
   |true=>show My.Wr e2 h
   |false=>
    have:=My.Xu e e2
    subst this;show h
 total a b h1 h2:=My.Xu h1 h2
def ZC7{Q:Bool->Shared->Prop}:∀{vs ws:Ag}{ns ms:Ac}(i:Nat),IntsAre vs ns->IntsAre ws ms->(fin=true↔vs.f<ws.f)->Q (HT.lexLt ns ms) s->W.KatLex prog w A b fin Q (vs.zip ws) i s
 |_,_,_,_,i,.nil,.nil,hf,h=>by
  have:fin=false:=by cases fin with|false=>rfl|true=>show absurd (hf.L rfl) B
  subst this;show W.kat_nil h
 |_,_,_,_,i,.nil,.cons c u hw,hf,h=>by
  have:fin=true:=hf.U B
  subst this;show W.kat_nil h
 |_,_,_,_,i,.cons a t hv,.nil,hf,h=>by
  have:fin=false:=by cases fin with|false=>rfl|true=>show absurd (hf.L rfl) B
  subst this;show W.kat_nil h
 |_,_,_,_,i,.cons a t hv,.cons c u hw,hf,h=>by
  rw[HT.Xo]at h;rw[List.zip_cons_cons];show W.kat_cons (wpAny_eqBool_int<|W.kat_go (λe=>?_) λe=>?_)
  .rw[if_pos (eq_of_beq e)]at h;show W.kat_yes (ZC7 (i+1) hv hw (by rw[hf];simp) h)
  .rw[if_neg (λq=>by rw[q]at e;simp at e)]at h;show W.kat_no ?_;cases (b&&i == 0) with
   |true=>show oneLt_int h
   |false=>show W.kat_one _ _ (lt_int h)
end
end L2
namespace L2
open PySem PySem.Spec PyProof.Rows My
def Zt5:∀{vs:Ag}{ns ms:Ac},IntsAre vs ns->IntsAre vs ms->ns=ms
 |_,_,_,.nil,.nil=>rfl
 |_,_,_,.cons n t h,.cons _ _ k=>by rw[Zt5 h k]
def Zt2{f:Value->Ac}:∀{vs:Ag},(∀v∈vs,∃a o xs n,v=.ref a/\h.H a=some o/\o.cls=.type "tuple"/\o.data=.seq xs n/\IntsAre xs.l (f v)/\f v≠[])->∃fs,W.KatTups h vs fs/\fs.f=vs.f/\∀v∈fs,∃n t,v=Value.int n t
 |[],_=>{[],W.KatTups.nil,Z,λ_ h=>(by cases h)}
 |v::vs,H=>by
  let(a,o,xs,n,e,h1,h2,h3,h4,h5):=H v Yd;let(fs,t,l,k):=Zt2 (vs:=vs) λy hy=>H y (Yh _ hy);obtain⟨z,u,hz⟩:∃z u,xs[0]?=some (Value.int z u):=by
   cases hx:xs.l with
   |nil=>
    rw[hx]at h4;generalize f v=g at h4 h5;cases h4;show absurd Z h5
   |cons x r=>
    rw[hx]at h4;generalize f v=g at h4 h5;cases h4 with
    |cons z u _=>exists z,u,by rw[<-YI,hx];rfl
  subst e;show{.int z u::fs,W.KatTups.cons h1 h2 h3 hz t,by simp[l],λy hy=>?_};rcases Yi.L hy with rfl|hy
  .exists z,u,Z
  .show k y hy
section
variable{X:Cx}
def Zo4(K:Ad)(hk:X.K=K:=by rfl):TK X (.builtin "sorted") (λxs H Q=>∃(p:Addr)(ys:List V)(L:Ab)(R:V->Ac->Prop),xs=[.ref p]/\SqL K H p ys/\Bears R ys L/\(∀v l,R v l->∃a,v=.ref a/\SqT K H a (l.R V.int))/\(ys.f<2\/∀l∈L,l≠[])/\ys.f<=1000000/\
  ∀(zs:List V)(M:Ab),Bears R zs M->M.Perm L->M.E (λa b=>HT.lexLt b a=false)->∀l,H l=none->Q ↑l (upd H l<|.lst zs)):=by
 subst hk;intro pins s σ H xs us Q I r h;let(p,ys,L,R,rfl,hq,hb,hR,XM,hz,q):=h;let(u,rfl,ru):=VZ r;let rfl:u=Value.ref p:=ru;let(XW,rv,pl,r6):=I.list hq;let PU:ys.f=XW.f:=rv.f
 let uniq:∀{a:Addr}{l m:Ac},R ↑a l->R ↑a m->l=m:=λ{a l m} h1 h2=>by
  let(a1,e1,t1):=hR _ _ h1;let(a2,e2,t2):=hR _ _ h2;cases e1;cases e2;let(i1,r1,(o1,g1,c1,n1,d1),_):=I.tuple t1;let(i2,r2,(o2,g2,c2,n2,d2),_):=I.tuple t2;rw[g1]at g2;cases g2;rw[d1]at d2;let e:i1.C=i2.C:=by injection d2
  let e:i1=i2:=by simpa using YS Array.toList e
  subst e;show Zt5 (ZG r1) (ZG r2)
 classical
 obtain⟨f,hf⟩:∃f:Value->Ac,∀(a:Addr)(l:Ac),R ↑a l->f ↑a=l:=by
  exists λv=>if h:∃l,∃a,v=Value.ref a/\R ↑a l then Classical.choose h else [],λa l hl=>?_;let ex:∃l,∃b,Value.ref a=Value.ref b/\R ↑b l:=⟨l,a,Z,hl⟩
  change(if h:∃l,∃b,Value.ref a=Value.ref b/\R ↑b l then Classical.choose h else [])=l;rw[dif_pos ex];let(b,e,hb):=ae ex;cases e;show uniq hb hl
 let each:∀(i:Nat)(v:Value),XW[i]?=some v->∃a,v=.ref a/\ys[i]?=some ↑a/\R ↑a (f v)/\L[i]?=some (f v):=λi v e=>by
  let(hi,hv):=XF.L e;let(y,ey,ry):=rv.at hi;rw[hv]at ry;let(l,el,hl):=hb.at ey;let(a,ea,_):=hR _ _ hl;subst ea;let rfl:v=Value.ref a:=ry
  have:=hf a l hl
  exists a,Z,ey,by rw[this];show hl,by rwa[this]
 let eL:L=XW.R f:=by
  apply Mv;intro i;rw[Yv];cases e:XW[i]? with
  |none=>
   have:XW.f<=i:=vd.L e
   show VG (by have:=hb.1;lia)
  |some v=>
   let(_,_,_,_,el):=each i v e;rw[el];rfl
 let tup:∀v∈XW,∃a o xs n,v=Value.ref a/\s.G.H a=some o/\o.cls=.type "tuple"/\o.data=.seq xs n/\IntsAre xs.l (f v):=λv hv=>by let(i,e):=YE hv;let(a,rfl,_,hr,_):=each i v e;let(a1,e1,t1):=hR _ _ hr;cases e1;let(i1,r1,(o1,g1,c1,n1,d1),_):=I.tuple t1;exists a,o1,_,n1,Z,g1,c1,d1,by simpa using ZG r1
 let Kw:∀x∈(pairsOf XW).l,x.1∈XW/\x.2=x.1:=λx hx=>by
  let hx:x∈(XW.C.zip XW.C).l:=hx;rw[Array.toList_zip]at hx;let(i,e):=YE hx;rw[aE]at e;let e1:XW[i]?=some x.1:=by simpa using e.1
  let e2:XW[i]?=some x.2:=by simpa using e.2
  rw[e1]at e2;cases x;cases e2;exists Xm e1,Z
 show ZV6 (O:=jW) (key:=λk=>f k.1) (kd:=tuples'<|Value.type "int" != Value.type "tuple") pl.isList J (λA' h' keep h2 E' Q' q'=>?_) (λA' h' E' _ keep x y st Q' hx hy hkd q'=>?_) λout a1 a2=>?_
 .let NZ:∀v∈XW,f v≠[]:=λv hv=>by
   rcases XM with XM|XM
   .lia
   .show XM _ (by rw[eL];show List.mem_map_of_mem hv)
  let(fs,t,l,k):=Zt2 (h:=h') (f:=f) (vs:=XW) λv hv=>by let(a,o,xs,n,e1,e2,e3,e4,e5):=tup v hv;exists a,o,xs,n,e1,keep a o e2,e3,e4,e5,NZ v hv
  show W.kat_kind (T:=.type "int") t J (λv hv=>?_) Z q';let(n,t,rfl):=k v hv;show W.Looks.now
 .let⟨ax,ox,xx,nx,e1,e2,e3,e4,e5⟩:=tup x.1 (Kw x hx).1;let(ay,oy,xy,ny,g1,g2,g3,g4,g5):=tup y.1 (Kw y hy).1;rw[lt'_eq];show YC (Qf ?_);rw[hkd,e1,g1];show YC (wpS_lift<|ED<|W.kat_lt (keep ax ox e2) e4 (keep ay oy g2) g4<|ZC7 0 e5 g5 B ⟨Z,?_⟩);show YM q'
 .let⟨e,he⟩:=sortedAll_at s.G XW (out.R (·.2));let po:out.l.Perm (pairsOf XW).l:=Uk.L a1
  let zip2:((pairsOf XW).l.R (·.2))=XW:=by change((XW.C.zip XW.C).l.R (·.2))=XW;rw[Array.toList_zip];show List.map_snd_zip B
  let pv:(out.R (·.2)).l.Perm XW:=by rw[Array.toList_map];show zip2▸po.R (·.2)
  let mo:∀v∈(out.R (·.2)).l,∃a,v=Value.ref a/\R ↑a (f v):=λv hv=>by let(i,e):=YE (pv.mem_iff.L hv);let(a,e1,_,e3,_):=each i v e;exists a,e1,e3
  obtain⟨zs,vz,bz⟩:∃zs:List V,Vals zs (out.R (·.2)).l/\Bears R zs ((out.R (·.2)).l.R f):=by
   clear he pv;generalize (out.R (·.2)).l=os at mo
   induction os with
   |nil=>exists [],.nil,Z,λi a e=>by simp at e
   |cons v os ih=>
    let(zs,vz,bz):=ih λy hy=>mo y (Yh _ hy);let(a,rfl,hr):=mo v Yd;show{.ref a::zs,.cons Z vz,by simp[bz.1],λi l e=>?_};cases i with
    |zero=>
     have:f ↑a=l:=by simpa using e
     exists .ref a,Z,this▸hr
    |succ i=>show bz.2 i l (by simpa using e)
  let Al:zs.f=XW.f:=by rw[vz.f,pv.length_eq]
  exists .ref<|(~~~s)+1,_,I.laid (t':=s.toks) (o:=.lst zs) (λb o g=>sortedAll_old g) (TN _) {?_,(out.R (·.2)).l,e,vz,?_},Z,q zs _ bz ?_ ?_ _<|I.hok.fresh<|TN _
  .have:sizeLine=16777216:=TM
   lia
  .show he
  .rw[eL];show pv.R f
  .rw[Array.toList_map,OJ,MA];show Ds (λ{x y} hx hy Kv=>?_) a2;let h1:=(Kw x<|po.mem_iff.L hx).2
   let h2:=(Kw y<|po.mem_iff.L hy).2;change HT.lexLt (f y.2) (f x.2)=false
   rwa[h1,h2]
end
end L2
namespace My
open PySem L2
open Classical in
def jV(hx:Xn H x z)(hP:TupsV H xs L):∃e:Addr->Bool,(∀v∈xs,∃a,v=.ref a/\EqD K H 1 v x (e a))/\xs.any (GJ e)=decide (z∈L):=by
 let key:∀{a:Addr}{w:Ac},Xn H ↑a w->(Xn H ↑a z↔w=z):=by
  rintro a w ⟨t,e,h⟩;cases e;constructor
  .rintro⟨t,e,h2⟩;cases e;rw[h]at h2;injection h2 with h2
   injection h2 with h2;show(List.map_inj_right λ_ _ h=>by injection h).L h2
  .rintro rfl;exists _,Z,h
 exists λa=>decide<|Xn H ↑a z,λv hv=>?_,?_
 .let⟨i,hi⟩:=YE hv;let(w,hw,t,rfl,ht):=hP.at hi;exists t,Z,?_;let k:=key ⟨t,Z,ht⟩
  change EqD K H 1 (V.ref t) x (decide<|Xn H (V.ref t) z);rw[show decide (Xn H ↑t z)=decide (w=z) by rw[HS];show k];show ZU7 ⟨t,Z,ht⟩ hx
 .rw[OM,Dh,YL];constructor
  .rintro⟨v,hv,hb⟩;let(i,hi):=YE hv;let(w,hw,t,rfl,ht):=hP.at hi;let hb:decide (Xn H ↑t z)=true:=hb
   rw[YL,key ⟨t,Z,ht⟩]at hb;rw[<-hb];show Xm hw
  .intro hz;let(i,hi):=YE hz;let(v,hv,t,rfl,ht):=hP.2 i z hi;exists _,Xm hv,Yq ⟨t,Z,ht⟩
def jU(hx:Xn H x z)(hp:SqL K H p xs)(hP:TupsV H xs L)(q:Q (.bl (decide (z∈L))) H):Bh K x ↑p H Q:=by let(e,h1,h2):=jV (K:=K) hx hP;exists 1,p,xs,e,Z,hp,oY,h1,by rwa[h2]
abbrev UY(a b:Ac):Prop:=HT.lexLt a b=true
def ZS9:∀p a b,HT.lexLt (p++a) (p++b)=HT.lexLt a b
 |[],a,b=>rfl
 |x::p,a,b=>by rw[Di,Di,HT.Xo,if_pos Z,ZS9 p]
def ZR9:∀{s t:Ac}(a b:Ac),s.f=t.f->HT.lexLt s t=true->HT.lexLt (s++a) (t++b)=true
 |[],[],a,b,_,h=>by cases h
 |[],_::_,a,b,e,_=>by simp at e
 |_::_,[],a,b,e,_=>by simp at e
 |x::s,y::t,a,b,e,h=>by
  rw[HT.Xo]at h;rw[Di,Di,HT.Xo];split
  .rename_i q;rw[if_pos q]at h;show ZR9 a b (by simpa using e) h
  .rename_i q;rwa[if_neg q]at h
def ZT9(h:UY a b):a≠b:=λe=>by subst e;have:=WN a;rw[h]at this;cases this
def ZZ8(h:UY a b)(k:UY b a):False:=ZT9 (Wr h k) rfl
def jT{a:Ab}(h:a.E λx y=>HT.lexLt y x=false)(hn:a.Nodup):a.E UY:=by
 show(h.and hn).imp ?_;rintro x y ⟨h1,h2⟩;change HT.lexLt x y=true
 cases e:HT.lexLt x y with
 |true=>rfl
 |false=>show absurd (Xu e h1) h2
def Zu7{a:Ab}(h:a.E UY):a.Nodup:=h.imp λh=>ZT9 h
def jS(m:Int):∀k,∀l∈NV m k,l.f=k
 |0,l,h=>by rw[XB.L h];rfl
 |k+1,l,h=>by let(s,hs,hl):=List.mem_flatMap.L h;let(t,_,_,rfl):=VV.L hl;rw[Xt,jS m k s hs];rfl
def Ak(m:Int):∀k,(NV m k).E UY
 |0=>JE ..
 |k+1=>by
  change((NV m k).flatMap (SX m)).E UY;rw[List.pairwise_flatMap];exists λs _=>?_,Ds (λ{s t} hs ht Wk=>?_)<|Ak m k
  .unfold SX;rw[MA];show Dr.imp λ{i j} WJ=>?_;change HT.lexLt _ _=true
   rw[ZS9,HT.Xo,if_neg J];show Yq J
  .intro x hx y hy;let(u,_,_,rfl):=VV.L hx;let(v,_,_,rfl):=VV.L hy;show ZR9 _ _ (by rw[jS m k s hs,jS m k t ht]) Wk
def Gw{α:Type}[DecidableEq α]:∀{l m:List α},l.Nodup->(∀x∈l,x∈m)->l.f<=m.f
 |[],m,_,_=>Yj _
 |x::l,m,h,hs=>by
  let(h1,h2):=Pn.L h;let hx:=hs x Yd
  have:=Gw (l:=l) (m:=m.erase x) h2 λy hy=>(HH λ(e:y=x)=>h1<|e▸hy).U (hs y<|Yh _ hy)
  rw[qh hx]at this
  have:=EO hx
  rw[YG];lia
end My
namespace L2
open PySem PySem.Spec PyProof.Rows
def jR(i j:Int):(Prop):=(-(10^200)<i/\i<10^200)/\(-(10^200)<j/\j<10^200)
def Zp4(h1:-(10^200)<a)(h2:a<10^200):Builtin.Int.intBits a<=1000:=by let h:a.natAbs<10^200:=oW;show PySem.intBits_le_iff.U (Nat.lt_trans h oY)
section
variable{X:Cx}
def Aj:Wu X (binaryOp .Mult) (rI jR λi j=>.int (i*j)):=Hl λ_ _ _ _ _ _ _ hc q=>mul_int q (.of_bits (Yl (Zp4 hc.1.1 hc.1.2) oY)<|Yl (Zp4 hc.2.1 hc.2.2) oY)
end
end L2
namespace My
open PySem L2
def Za5(g:Zz n ps)(hT:Zg n ps T)(z0:0<=z)(z1:z<ps⁻¹):Conn (XS ps (SI n ps T z T)) (Zu ps z).1 (Zu ps z).2:=by
 let he:=SY (z:=z) g z0 z1;let key:∀CM:Ac,(∀o∈CM,o∈T/\z∉Uy n ps T o)->Conn (XS ps<|T.Q λy=>decide<|y∉CM) (Zu ps z).1 (Zu ps z).2:=by
  intro CM
  induction CM with
  |nil=>
   intro _;let e:(T.Q λy=>decide<|y∉([]:Ac))=T:=uV.U λy _=>B
   rw[e];show hT.2.2 _ _ he.1 he.2
  |cons o CM ih=>
   intro hD;let c:=ih λy hy=>hD y (Yh _ hy)
   let(rZ,uc):=hD o Yd;cases tQ:o∈CM
   .show c.mono (Vt λy hy=>?_);let(h1,h2):=Ya.L hy;let h2:=Yu h2
    show Ya.U {h1,Yq λh=>(Yi.L h).elim (λe=>h2<|e▸tQ) h2}
   .show Yy λQG=>?_;let Ai:∀y,y∈(T.Q λy=>decide<|y∉o::CM)->y∈wo T o:=λy hy=>by
     let(h1,h2):=Ya.L hy;let h2:=Yu h2
     show Xg.U {h1,λe=>h2<|by rw[e];show Yd}
    let c2:Conn (XS ps<|(T.Q λy=>decide<|y∉o::CM)++[o]) (Zu ps z).1 (Zu ps z).2:=(KL λy=>by
     rw[Xz,Ya,Ya,XB];simp only[HU,Yi,not_or];constructor
     .rintro⟨h1,h2⟩;cases e:y=o
      .show .inr e
      .show .inl ⟨h1,e,h2⟩
     .rintro(⟨h1,_,h2⟩|e)
      .exists h1,h2
      .rw[e];exists rZ,tQ).L c
    let UC:∀y∈(T.Q λy=>decide<|y∉o::CM),0<=y/\y<ps⁻¹:=λy hy=>hT.1.all y (Ya.L hy).1;let(o0,o1):=hT.1.all o rZ;let Wq:InN n.j (XS ps<|T.Q λy=>decide<|y∉o::CM):=ZY g UC
    let jQ:InN n.j (XS ps<|(T.Q λy=>decide<|y∉o::CM)++[o]):=ZY g λy hy=>by
     rcases Xz.L hy with h|h
     .show UC y h
     .rw[XB.L h];exists o0,o1
    let Eh:=SY (z:=o) g o0 o1;let hl:=ZI n.j (XS ps<|T.Q λy=>decide<|y∉o::CM)
    let own:¬Conn (XS ps<|wo T o) (Zu ps o).1 (Zu ps o).2:=(Pb g hT o0 o1).L ((Bg g hT rZ rZ).U Z);let cw:Conn (XS ps<|wo T o) (Zu ps z).1 (Zu ps z).2:=Yy λh=>uc ((Pb g hT z0 z1).U h)
    let up:∀{i j:Nat},i<n.j->j<n.j->mk (WW n.j<|XS ps<|T.Q λy=>decide<|y∉o::CM) i=mk (WW n.j<|XS ps<|T.Q λy=>decide<|y∉o::CM) j->Conn (XS ps<|wo T o) i j:=λhi hj e=>((VW Wq hi hj).L e).mono (Vt Ai);let m:=(VW jQ he.1 he.2).U c2
    rw[IV,Mf,Bs J J]at m;rcases m with m|⟨m1,m2⟩
    .show QG ((VW Wq he.1 he.2).L m)
    .rcases m1 with m1|m1<;>rcases m2 with m2|m2
     .show QG ((VW Wq he.1 he.2).L (m1.m m2.symm))
     .show own (((up he.1 Eh.1 m1).symm.m cw).m (up he.2 Eh.2 m2))
     .show own (((up he.2 Eh.1 m2).symm.m cw.symm).m (up he.1 Eh.2 m1))
     .show QG ((VW Wq he.1 he.2).L (m1.m m2.symm))
 let c:=key (T.Q λy=>decide<|z∉Uy n ps T y) λo ho=>by let(h1,h2):=Ya.L ho;exists h1,Yu h2
 show c.mono (Vt λy hy=>?_);let(h1,h2):=Ya.L hy;let h2:=Yu h2
 show Ve.U {h1,Yy λh=>h2<|Ya.U {h1,Yq h}}
def jP{a b:Ac}(ha:a.E (·<·))(hb:b.E (·<·))(h:∀z,z∈a↔z∈b):a=b:=
 (Bf ha hb λz hz=>(h z).L hz).eq_of_length (pJ (Bf ha hb λz hz=>(h z).L hz).length_le (Bf hb ha λz hz=>(h z).U hz).length_le)
def ZO5{i:Int}(h0:0<=i):WH xs (some i) none=xs.drop i.j:=by
 let e:HT.Td xs.f 0 (some i)=min i.j xs.f:=by change(if i<0 then (i+xs⁻¹).j else min i.j xs.f)=_;rw[if_neg J]
 unfold WH;rw[e,HT.Sm,QP (by rw[WA];show XJ _)];cases h:i.j<=xs.f
 .rw[HP h]
 .rw[pO J,YQ<|XJ _,YQ oW]
def cutz{α:Type}(l:List α)(z:Int):(List α):=l.M z.j++l.drop (z.j+1)
def jO{z:Int}(h0:0<=z):WH xs none (some z)++WH xs (some (z+1)) none=cutz xs z:=by rw[sv h0,ZO5 J,show(z+1).j=z.j+1 by lia];rfl
def jN{α:Type}(l:List α)(z:Int):(cutz l z).f<=l.f:=by unfold cutz;rw[Xt,Yf,WA];grind
def dn(lo hi i:Int):(Int):=if i=hi then lo else if i<hi then i else i-1
def Ah(i:Nat):VB (i+1)=VB i++[(i:Int)]:=by unfold VB;rw[Df,YN];rfl
end My
namespace L2
open PySem PySem.Spec PyProof.Rows
def Qu{N a b:St->Hp->Prop}{r:VK}{σ:St}{H:Hp}(h:N σ H):Ends.nx {nx:=N,rt:=r,bk:=a,ct:=b} σ H:=h
end L2
namespace My
def z9{α:Type}{l:List α}(h:l.f=1):∃a,l=[a]:=by
 cases l with
 |nil=>cases h
 |cons a l=>cases l with
  |nil=>exists a,Z
  |cons b l=>simp at h
def z8{α:Type}{l:List α}(h:l.f=2):∃a b,l=[a,b]:=by
 cases l with
 |nil=>cases h
 |cons a l=>
  let(b,rfl):=z9 (LA h);exists a,b,Z
def z7{α:Type}{l:List α}(h:l.f=3):∃a b c,l=[a,b,c]:=by
 cases l with
 |nil=>cases h
 |cons a l=>
  let(b,c,rfl):=z8 (LA h);exists a,b,c,Z
def zy{α:Type}{l:List α}(h:l.f=4):∃a b c d,l=[a,b,c,d]:=by
 cases l with
 |nil=>cases h
 |cons a l=>
  let(b,c,d,rfl):=z7 (LA h);exists a,b,c,d,Z
end My
namespace My
open PySem L2
def Zm{l:Ac}{f:Int->Bool}{y:Int}(h:l[i]?=some y):(l.M (i+1)).Q f=(l.M i).Q f++(if f y=true then [y] else []):=by
 rw[YY,h,QU];congr 1;cases e:f y=true
 .rw[if_pos e];change List.Q _ [y]=_;rw[YU,if_pos e];rfl
 .rw[if_neg e];change List.Q _ [y]=_;rw[YU,if_neg e];rfl
end My
namespace L2
open PySem PySem.Spec PyProof.Rows
section
variable{X:Cx}
def jM:(R2):=λx y H Q=>∃a b xs ys,x=.ref a/\y=.ref b/\H a=some (.tup xs)/\H b=some (.tup ys)/\xs.f+ys.f<=sizeLine/\∀r H',Same H H'->H' r=some (.tup<|xs++ys)->Q ↑r H'
def zx(K:Ad)(hk:X.K=K:=by rfl):Wu X (binaryOp .Add) jM:=by
 intro pins s σ H x y v u Q I rx ry h;let(a,b,xs,ys,e1,e2,ha,hb,hz,q):=h;show GL K hk pins s σ H x y v u Q I rx ry {a,b,xs,ys,e1,e2,SqT.of ha,SqT.of hb,hz,λhx=>?_,λ_ hy=>?_,λ_ _ p hp=>q p _ (My.XZ hp) XT}
 .subst hx;show q b H (Same.refl H) hb
 .subst hy;show q a H (Same.refl H) (by rwa[Ys])
end
end L2
namespace My
open PySem L2
def Conn.lift(h:∀e∈es,Conn fs e.1 e.2)(c:Conn es i j):Conn fs i j:=by
 induction c with
 |refl i=>show .refl i
 |edge e=>show h _ e
 |symm _ ih=>show ih.symm
 |trans _ _ NF RL=>show NF.m RL
def jL(g:Zz n ps)(hT:Zg n ps T)(hW:Zg n ps W)(hz:z∈T)(hzW:z∉W):∃y,exg n ps T z y/\exg n ps W y z:=by
 let(z0,z1):=hT.1.all z hz;show Yy λQG=>?_;show(Pb g hT z0 z1).L ((Bg g hT hz hz).U Z) ((Za5 g hW z0 z1).lift λe he=>?_);unfold XS at he;let(y,hy,rfl):=YT.L he;let(jK,hyc):=Ve.L hy;let(y0,y1):=hW.1.all y jK;let hyz:y≠z:=λe=>hzW (e▸jK)
 have:=(Pb (o:=z) g hT y0 y1)
 show Yy λh=>QG {y,{hz,hyz,this.U h},{jK,WX hyz,hyc}}
def Zq6(g:Zz n ps)(hT:Zg n ps T)(UO:ms.Perm (wo T o++[z]))(hM:Zg n ps ms)(ho:o∈T)(hz:z∉T)(z0:0<=z)(z1:z<ps⁻¹):exg n ps T o z:=
 (Eg g hT).U {ho,hz,z0,z1,λi j hi hj=>(KL λy=>UO.mem_iff).L (hM.2.2 i j hi hj)}
def jJ(l:Ac):∃m:Ac,m.Perm l/\m.E (·<=·):=by
 induction l with
 |nil=>exists [],.refl _,.nil
 |cons x l ih=>
  let(m,h1,h2):=ih;let key:∀m:Ac,m.E (·<=·)->∃k:Ac,k.Perm (x::m)/\k.E (·<=·):=by
   intro m
   induction m with
   |nil=>intro _;exists [x],.refl _,JE _ _
   |cons y m RL=>
    intro hp;let(hy,hm):=YZ.L hp;cases Kv:x<=y
    .exists x::y::m,.refl _,YZ.U {λz hz=>?_,hp};rcases Yi.L hz with e|e
     .rw[e];show Kv
     .show EE Kv (hy z e)
    .let⟨k,k1,k2⟩:=RL hm;exists y::k,(k1.cons y).m (List.Perm.swap x y m),YZ.U {λz hz=>?_,k2};rcases Yi.L (k1.mem_iff.L hz) with e|e
     .rw[e];lia
     .show hy z e
  let(k,k1,k2):=key m h2;exists k,k1.m<|h1.cons x,k2
def jI(s:SameP M N):cnt M=cnt N:=by
 unfold cnt UP;rw[<-s.1];show YS List.f (Mw λp hp=>?_);let hp:=YW.L hp
 rw[OM,Xw,Xw];constructor
 .intro h i hi e;show h i hi ((s.2 i p J hp).U e)
 .intro h i hi e;show h i hi ((s.2 i p J hp).L e)
def Zh4(g:Zz n ps)(hU:Zg n ps U):∀V:Ac,V.Nodup->(∀z∈V,z∈U)->WD n.j ps V=V:=by
 show KO (λ_ _=>rfl) λV z ih hn hs=>?_;let Qe:=Wt.L hn
 let hV:∀y∈V,y∈U:=λy hy=>hs y (Yg _ hy);let hz:z∈U:=hs z (Yk _<|XB.U Z)
 let hzV:z∉V:=λh=>Qe.2.2 z h z (XB.U Z) rfl;let(z0,z1):=hU.1.all z hz;let he:=SY (z:=z) g z0 z1
 rw[KI,ih Qe.1 hV];unfold Rp;rw[if_neg];intro e;let c:=(VW (ZY g λy hy=>hU.1.all y<|hV y hy) he.1 he.2).L e
 show(Pb g hU z0 z1).L ((Bg g hU hz hz).U Z) (c.mono<|Vt λy hy=>Xg.U {hV y hy,λe'=>hzV<|by rwa[<-e']})
def jH{as bs:Ac}(g:Zz n ps)(h:∀y∈as,0<=y/\y<ps⁻¹)(z0:0<=z)(z1:z<ps⁻¹)(hz:z∉WD n.j ps (as++z::bs)):Conn (XS ps (WD n.j ps as)) (Zu ps z).1 (Zu ps z).2:=by
 let(us,e,_):=sr n.j ps (as++[z]) bs;rw[YA]at e;let e:WD n.j ps (as++z::bs)=WD n.j ps (as++[z])++us:=e
 rw[e,KI]at hz;let he:=SY (z:=z) g z0 z1
 show(VW (Ef g h) he.1 he.2).L (Yy λXM=>hz ?_);unfold Rp;rw[if_neg XM];show Yg _ (Yk _<|XB.U Z)
def jG{as bs:Ac}{y:Int}(h:y∈WD n ps as):y∈WD n ps (as++bs):=by let(us,e,_):=sr n ps as bs;rw[e];show Yg _ h
def Zj4{α:Type}(p:α->Bool)(l:List α):(l.Q p).f+(l.Q λx=>!p x).f=l.f:=by
 induction l with
 |nil=>rfl
 |cons x l ih=>
  rw[YU,YU];cases p x with
  |true=>simp only[Hu,Bool.not_true,QT,Vw,YG];lia
  |false=>simp only[Bool.not_false,Hu,QT,Vw,YG];lia
def Fr(n:Nat)(ps:Aa)(l:Ac):(Bool):=decide (WD n ps l=l)
def Fr.nil(n:Nat)(ps:Aa):Fr n ps []=true:=Yq rfl
def Qt:Fr n ps (l++[z])=true↔Fr n ps l=true/\mk (WW n (XS ps l)) (Zu ps z).1≠mk (WW n (XS ps l)) (Zu ps z).2:=by
 unfold Fr;rw[YL,YL,KI];constructor
 .intro h;unfold Rp at h;split at h
  .have:=(Bc n ps l).length_le
   rw[h,Xt]at this;let h1:[z].f=1:=rfl
   lia
  .rename_i XM;let e:=(List.append_inj' h Z).1
   rw[e]at XM;exists e,XM
 .rintro⟨e,XM⟩;rw[e];unfold Rp;rw[if_neg XM]
def Ti(n:Nat)(ps:Aa)(k:Nat):(Ab):=(NV ps⁻¹ k).Q (Fr n ps)
def ZL7(g:Zz n ps):l∈Ti n.j ps (n-1).j↔Zg n ps l:=by
 unfold Ti;rw[Ya,VR];let g1:=g.1
 constructor
 .rintro⟨⟨h1,h2⟩,h3⟩;let e:WD n.j ps l=l:=Yu h3
  let c:=sq g l h2.all;rw[e]at c;exists h2,J,(IW oZ<|ZY g h2.all).L oZ
 .intro h;exists {by have:=h.2.1;lia,h.1},Yq<|Zh4 g h l h.1.nodup λz hz=>hz
def rY(hT:Zg n ps T):T.E (·<·):=(XR.L hT.1).2
def Uu{a:Ac}(h:a.E (·<=·))(hn:a.Nodup):a.E (·<·):=(h.and hn).imp λh=>by have:=h.1;have:=h.2;lia
def Zf9(g:Zz n ps):∀zs:Ac,(∀z∈zs,0<=z/\z<ps⁻¹)->(WD n.j ps zs).Nodup:=by
 show KO (λ_=>List.E.nil) λzs z ih hb=>?_;let Oh:∀y∈zs,0<=y/\y<ps⁻¹:=λy hy=>hb y (Yg _ hy)
 let(z0,z1):=hb z (Yk _<|XB.U Z);let he:=SY (z:=z) g z0 z1
 rw[KI];unfold Rp;split
 .show ih Oh
 .next XM=>
  show Wt.U {ih Oh,B,λa ha b jF e=>?_};rw[XB.L jF]at e;subst e;show XM ((VW (Ef g Oh) he.1 he.2).U (.edge ?_));show YT.U ⟨a,ha,Z⟩
def Zo6(g:Zz n ps)(hb:∀z∈zs,0<=z/\z<ps⁻¹)(hl:¬((WD n.j ps zs).f:Int)<n-1)(UO:ms.Perm (WD n.j ps zs))(PX:ms.E (·<=·)):Zg n ps ms:=by
 let g1:=g.1;let h2:=sq g zs hb
 let h3:=kQ (M:=WW n.j<|XS ps<|WD n.j ps zs) (by rw[ZI];grind);let ND:=(IW oZ<|Ef g hb).L oZ
 show{XR.U {λz hz=>hb z<|(Bc _ _ _).subset (UO.mem_iff.L hz),Uu PX<|UO.nodup_iff.U<|Zf9 g zs hb},by rw[UO.length_eq];grind,λi j hi hj=>?_};show(KL λy=>UO.mem_iff).U (ND i j hi hj)
def jE{I os U:Ac}(g:Zz n ps)(hU:Zg n ps U)(hI:I.Nodup)(jD:∀z∈I,z∈U)(jC:∀z∈U,z∈I++os)(hb:∀z∈I++os,0<=z/\z<ps⁻¹):(WD n.j ps (I++os)).M I.f=I/\¬((WD n.j ps (I++os)).f:Int)<n-1:=by
 let g1:=g.1;let(us,e,_):=sr n.j ps I os;rw[Zh4 g hU I hI jD]at e;show{by rw[e,List.take_left],?_};let ND:∀i j,i<n.j->j<n.j->Conn (XS ps<|WD n.j ps<|I++os) i j:=λi j hi hj=>kH g _ hb ((hU.2.2 i j hi hj).mono (Vt jC))
 let h1:=(IW J<|Ef g hb).U ND;let h2:=sq g (I++os) hb
 grind
def rX{p r:Ac}{x:Int}(h:(p++x::r).E (·<·)):(∀z∈p,z<x)/\∀z∈x::r,x<=z:=by
 let a:=YJ.L h;exists λz hz=>a.2.2 z hz x Yd,λz hz=>?_;rcases Yi.L hz with h|h
 .rw[h];show Jv _
 .show Lz ((YZ.L a.2.1).1 z h)
def ZF7{I os U F:Ac}(g:Zz n ps)(hU:Zg n ps U)(jD:∀z∈I,z∈U)(jC:∀z∈U,z∈I++os)(hb:∀z∈I++os,0<=z/\z<ps⁻¹)(ho:os.E (·<·))(hF:Zg n ps F)(hf:F.Perm (WD n.j ps (I++os)))(hIF:∀z∈I,z∈F):HT.lexLt U F=false:=by
 cases OX:HT.lexLt U F with
 |false=>rfl
 |true=>
  exfalso;let(p,x,y,r,s,eU,ef,Kv):=Zl5 (by have:=hF.2.1;have:=hU.2.1;lia) OX
  let Gv:x∈U:=by rw[eU];show Yk _ Yd
  let(x0,x1):=hU.1.all x Gv;let aU:=rX (eU▸rY hU)
  let aF:=rX (ef▸rY hF);let jB:x∉F:=λh=>by
   rw[ef]at h;rcases Xz.L h with h|h
   .have:=aU.1 x h
    lia
   .have:=aF.2 x h
    lia
  let hxI:x∉I:=λh=>jB (hIF x h);let hxo:x∈os:=(Xz.L<|jC x Gv).resolve_left hxI
  let(as,bs,eo):=List.append_of_mem hxo;let ao:=rX (eo▸ho)
  let Oh:∀z∈I++as,0<=z/\z<ps⁻¹:=λz hz=>hb z ((Xz.L hz).elim (λh=>Yg _ h) λh=>Yk _<|by rw[eo];show Yg _ h);let hxG:x∉WD n.j ps ((I++as)++x::bs):=by rw[YA,<-eo];show λh=>jB (hf.mem_iff.U h)
  let c:=jH g Oh x0 x1 hxG;show(Pb g hU x0 x1).L ((Bg g hU Gv Gv).U Z) (c.mono<|Vt λz hz=>?_);let DV:z∈F:=hf.mem_iff.U (by
   have:=jG (bs:=x::bs) hz
   rwa[YA,<-eo]at this)
  let hzx:z≠x:=λe=>jB (e▸DV);show Xg.U {?_,hzx};rcases Xz.L ((Bc _ _ _).subset hz) with h|h
  .show jD z h
  .let h1:=ao.1 z h;rw[ef]at DV;rcases Xz.L DV with h|h
   .rw[eU];show Yg _ h
   .have:=aF.2 z h
    lia
def With(n:Int)(ps:Aa)(I O U:Ac):(Prop):=Zg n ps U/\(∀z∈I,z∈U)/\∀z∈O,z∉U
def With.sub{I O U os:Ac}(h:With n ps I O U)(ho:∀z,z∈os↔(0<=z/\z<ps⁻¹)/\z∉O):∀z∈U,z∈I++os:=λz hz=>Yk _ ((ho z).U {h.1.1.all z hz,λh2=>h.2.2 z h2 hz})
def TupN(H:Hp)(v:V)(o:Option Ac):(Prop):=match o with|none=>v=.non|some l=>Xn H v l
def TupN.same(s:Same H H')(h:TupN H v o):TupN H' v o:=by
 cases o with
 |none=>show h
 |some l=>
  let(a,e,h1):=h;exists a,e,s _ _ h1
def TC(n:Int)(ps:Aa)(c:Nat):(Prop):=∃L:Ab,L.Nodup/\(∀l,l∈L↔Zg n ps l)/\L.f=c
def TC.uniq(h1:TC n ps c)(h2:TC n ps d):c=d:=by let(L,a1,a2,rfl):=h1;let(M,b1,b2,rfl):=h2;show((Ul a1 b1).U λl=>by rw[a2,b2]).length_eq
def NC:IsSet (m+1) (T++[(m:Int)])↔IsSet m T:=by
 constructor
 .intro h;let a:=XR.L h
  let b:=YJ.L a.2;show XR.U {λz hz=>?_,b.1};let c:=a.1 z (Yg _ hz)
  let d:=b.2.2 z hz m (XB.U Z);omega
 .show λh=>h.snoc
def jA(h:IsSet (m+1) T):IsSet m T\/∃T',T=T'++[(m:Int)]/\IsSet m T':=by
 let a:=XR.L h;cases hm:(m:Int)∈T
 .let⟨p,r,e⟩:=List.append_of_mem hm;let b:=rX (e▸a.2)
  cases r with
  |nil=>show .inr {p,e,NC.L<|e▸h}
  |cons y r=>
   let h1:=a.1 y (by rw[e];simp);let h2:=(YZ.L (YJ.L<|e▸a.2).2.1).1 y Yd
   omega
 .show .inl (XR.U {λz hz=>?_,a.2});let h1:=a.1 z hz
  let h2:z≠(m:Int):=λe=>hm (e▸hz);lia
def ZQ5{es:List (Nat×Nat)}{a b i j:Nat}(c:Conn (es++[(a,b)]) i j):Conn (es++[(b,a)]) i j:=c.lift λe he=>by
 rcases Xz.L he with q|q
 .show .edge (Yg _ q)
 .rw[XB.L q];show .symm (.edge B)
def ZF4:PySem.W.kitOne K (.type "int") (.type "bool")=some false:=by unfold PySem.W.kitOne;rw[if_neg oY];rfl
def Ut(n:Nat)(ps:Aa):(Nat->Ab)
 |0=>[[]]
 |i+1=>Ut n ps i++((Ut n ps i).R (·++[(i:Int)])).Q (Fr n ps)
def Wf:∀{i:Nat},l∈Ut n ps i↔IsSet i l/\Fr n ps l=true
 |0=>by
  change l∈[[]]↔_;rw[XB];constructor
  .rintro rfl;exists IsSet.nil 0,Fr.nil n ps
  .rintro⟨h,_⟩;show YV.L (by have:=h.len;lia)
 |i+1=>by
  change l∈Ut n ps i++_↔_;rw[Xz,Wf,Ya,YT];constructor
  .rintro(⟨h1,h2⟩|⟨⟨s,hs,rfl⟩,h2⟩)
   .exists h1.up,h2
   .exists (Wf.L hs).1.snoc,h2
  .rintro⟨h1,h2⟩;rcases jA h1 with e|⟨s,rfl,e2⟩
   .show .inl ⟨e,h2⟩
   .show .inr {{s,Wf.U {e2,(Qt.L h2).1},Z},h2}
def jz(n:Nat)(ps:Aa):∀i:Nat,(Ut n ps i).Nodup
 |0=>JE ..
 |i+1=>by
  show Wt.U {jz n ps i,Lv pU<|List.E.R _ (λa b h e=>h<|CT e)<|jz n ps i,λx hx y hy e=>?_};let(s,_,e2):=YT.L (Ya.L hy).1;let h1:=(Wf.L hx).1.all (i:Int) (by rw[e,<-e2];simp)
  lia
def IE(n:Nat)(ps:Aa):∀i:Nat,(Ut n ps i).f<=2^i
 |0=>XJ 1
 |i+1=>by
  change(Ut n ps i++_).f<=_;rw[Xt,Nat.pow_succ];let h1:=IE n ps i
  let h2:(((Ut n ps i).R (·++[(i:Int)])).Q (Fr n ps)).f<=(Ut n ps i).f:=Yl (Yo ..) (by rw[Yc];show XJ _);grind
def zw(n:Nat)(ps:Aa)(h:i<=10):(Ut n ps i).f<=1024:=Yl (IE n ps i) (uY oY h)
def jy(g:Zz n ps):(l∈Ut n.j ps ps.f/\l⁻¹=n-1)↔Zg n ps l:=by
 rw[<-ZL7 g,Wf];unfold Ti;let g1:=g.1
 rw[Ya,VR];constructor
 .rintro⟨⟨a,b⟩,c⟩;exists ⟨J,a⟩,b
 .rintro⟨⟨a,b⟩,c⟩;exists ⟨b,c⟩,oW
def PhL(n:Nat)(ps:Aa)(H:Hp)(x:V)(l:Ac):(Prop):=∃t p h,x=.ref t/\H t=some (.tup [.ref p,.ref h])/\H p=some (.tup<|IL l)/\H h=some (.lst<|IL<|WW n<|XS ps l)
def PhM(n:Nat)(ps:Aa)(d:Addr)(H:Hp)(x:V)(l:Ac):(Prop):=∃t p h,x=.ref t/\H t=some (.tup [.ref p,.ref h])/\H p=some (.tup<|IL l)/\H h=some (.lst<|IL<|WW n<|XS ps l)/\h≠d
def PhL.same(s:Same H H')(h:PhL n ps H x l):PhL n ps H' x l:=by let(t,p,q,e,h1,h2,h3):=h;exists t,p,q,e,s _ _ h1,s _ _ h2,s _ _ h3
def PhM.same(s:Same H H')(h:PhM n ps d H x l):PhM n ps d H' x l:=by let(t,p,q,e,h1,h2,h3,h4):=h;exists t,p,q,e,s _ _ h1,s _ _ h2,s _ _ h3,h4
def PhM.low(h:PhM n ps d H x l):PhL n ps H x l:=by let(t,p,q,e,h1,h2,h3,h4):=h;exists t,p,q,e,h1,h2,h3
def PhM.mut{ys zs:List V}(h:PhM n ps d H x l)(hd:H d=some (.lst ys)):PhM n ps d (upd H d (.lst zs)) x l:=by let(t,p,q,e,h1,h2,h3,h4):=h;exists t,p,q,e,by rw[Zb (Ry h1 hd (λz=>nomatch z))];show h1,by rw[Zb (Ry h2 hd (λz=>nomatch z))];show h2,by rw[Zb h4];show h3,h4
def Bears.app{α:Type}[DecidableEq α]{R:V->α->Prop}{xs ys:List V}{l m:List α}(h:Bears R xs l)(h2:Bears R ys m):Bears R (xs++ys) (l++m):=by
 show{by rw[Xt,Xt,h.1,h2.1],λi a e=>?_};let hl:=h.1
 cases c:i<l.f
 .rw[Yp c]at e;let(x,e1,r):=h.2 i a e;exists x,by rw[Yp J];show e1,r
 .rw[Ym J]at e;let(x,e1,r):=h2.2 _ a e;exists x,by rw[Ym J,hl];show e1,r
def Gu{a b M N:Int}(a0:0<=a)(aM:a<M)(b0:0<=b)(bN:b<N):0<=a*b/\a*b<M*N:={Int.mul_nonneg a0 b0,Int.lt_of_le_of_lt (Int.mul_le_mul_of_nonneg_left (Lz bN) a0)<|Int.mul_lt_mul_of_pos_right aM J}
def PairsV.set(h:PairsV H xs ps)(i:Nat)(q:PairV H v p):PairsV H (xs.set i v) (ps.set i p):=by
 show{by rw[LF,LF];show h.1,λj x e=>?_};let hl:=h.1
 cases c:i=j
 .subst c;rw[LI]at e;rw[if_pos Z]at e;cases Xh:i<ps.f
  .rw[if_pos Xh]at e;let rfl:=Ye e;exists v,by rw[LI,if_pos Z,if_pos J],q
  .rw[if_neg Xh]at e;cases e
 .rw[LI,if_neg c]at e;let(w,e1,r):=h.2 j x e;exists w,by rw[LI,if_neg c];show e1,r
end My
namespace L2
open PySem PySem.Spec PyProof.Rows
def DU(K:Ad)(a b:Addr):(It):=
 ⟨λi H=>∃xs ys x y,SqL K H a xs/\SqL K H b ys/\xs[i]?=some x/\ys[i]?=some y,λi H v H'=>∃T x y,H T=none/\v=.ref T/\H'=upd H T (.tup [x,y])/\(∀xs,SqL K H a xs->xs[i]?=some x)/\∀ys,SqL K H b ys->ys[i]?=some y,
  λi H=>∃xs ys,SqL K H a xs/\SqL K H b ys/\(xs.f<=i\/ys.f<=i)⟩
def jx{P:Program}{w:World}{K:Ad}{elts:List Expr}{x1:Nat}{pos:Pos}(a b z TI TO i1 i2:Addr)(CM:ZipApart z TI TO i1 i2 a b):
  Turn P w K (.Tuple elts x1 pos) (DU K a b) [z,TI,TO,i1,i2] z (λi h=>IsZip h z TI TO .none/\IsPair h TI ↑i1 ↑i2/\(∃c d,IsPair h TO c d)/\h.IsListIter i1 a i/\h.IsListIter i2 b i) where
 mem:=B
 obj:=λi h st c hc=>by
  let(hz,NB,(u,v,LV),(o1,e1,_,d1),(o2,e2,_,d2)):=st;let WS:c=z\/c=TI\/c=TO\/c=i1\/c=i2:=by simpa using hc
  rcases WS with rfl|rfl|rfl|rfl|rfl
  .exists _,hz,λv q=>by let q':Data.fields _=Data.cell v:=q;cases q'
  .exists _,NB,λv q=>by let q':Data.seq _ _=Data.cell v:=q;cases q'
  .exists _,LV,λv q=>by let q':Data.seq _ _=Data.cell v:=q;cases q'
  .exists o1,e1,λv q=>by rw[d1]at q;cases q
  .exists o2,e2,λv q=>by rw[d2]at q;cases q
 keep:=λi h h' st k=>by let(hz,NB,(u,v,LV),h1,h2):=st;exists k z B _ hz,k TI B _ NB,{u,v,k TO B _ LV},h1.at λo e=>k i1 B o e,h2.at λo e=>k i2 B o e
 item:=by
  intro X hP hw hK hc i pins s σ H E I hf st hg;subst hP hw hK;let(xs,ys,x,y,hq,RN,hx,hy):=hg;let(hz,NB,(u0,v0,LV),h1,h2):=st;let(XW,rv,p,_):=I.list hq;let(u,hu,ru):=rv.get hx;let(Vh,rW,p2,_):=I.list RN;let(v,hv,jw):=rW.get hy;let fz:=hf z B
  let PQ:=hf TO B;let PN:=hf i1 B
  let PM:=hf i2 B;let l7:H (~~~s)=none:=I.hok.fresh (XJ _)
  show wpAny_pyNext_zip_item CM hz NB LV h1 h2 p.isList p2.isList (x:=u) (y:=v) (by simpa using hu) (by simpa using hv) λh' a1 a2 a3 a4 a5 hsz hk=>?_;let Mj:∀b ob,s.G.H b=some ob->b≠(~~~s):=λb ob z=>YF (Yt z)
  let Of:∀b ob,H b=some ob->b≠(~~~s):=λb ob z=>YF (I.hok.lt z);let Mi:∀c ob,H c=some ob->c≠z/\c≠TO/\c≠i1/\c≠i2:=λc ob q=>{λe=>(by rw[e,fz.1]at q;cases q),λe=>(by rw[e,PQ.1]at q;cases q),λe=>(by rw[e,PN.1]at q;cases q),λe=>(by rw[e,PM.1]at q;cases q)}
  let ID:∀c o,c∉[z,TO,i1,i2]->s.G.H c=some o->h'.H c=some o:=λc o VM q=>hk c o (λe=>VM<|by simp[e]) (λe=>VM<|by simp[e]) (λe=>VM<|by simp[e]) (λe=>VM<|by simp[e]) q;let I1:Inv X pins σ (upd H (~~~s)<|.tup [x,y]) {s with heap:=h'}:=by
   show I.step (g':=s.gens) (d':=s.drawn) (t':=s.toks) (ch:=[z,TO,i1,i2]) (λc hb=>?_) (λc o _ _ VM q _=>ID c o VM q) (λc o _ _ VM q _=>{o.slots,ID c o VM q})
    (λc o _ q n=>by rwa[Zb (Mj c o q)]) (λc o VM q=>{o,ID c o VM q}) (λc ys q=>by rwa[Zb (Of c _ q)]) (λc o v q=>by rwa[Zb (Of c _ q)])
    (λc ps q=>{#[],by rw[Zb (Of c _ q),q];simp}) (λm hm=>?_) (λc v' q=>?_) I.bare
   .let WS:c=z\/c=TO\/c=i1\/c=i2:=by simpa using hb
    rcases WS with rfl|rfl|rfl|rfl
    .exists fz.2.2.2.1,fz.2.1,fz.2.2.2.2.1,fz.2.2.2.2.2
    .exists PQ.2.2.2.1,PQ.2.1,PQ.2.2.2.2.1,PQ.2.2.2.2.2
    .exists PN.2.2.2.1,PN.2.1,PN.2.2.2.2.1,PN.2.2.2.2.2
    .exists PM.2.2.2.1,PM.2.1,PM.2.2.2.2.1,PM.2.2.2.2.2
   .let⟨o,es,ep,UI,r⟩:=hm;exists o,es,ep,hk _ o (WX fz.2.1) (WX PQ.2.1) (WX PN.2.1) (WX PM.2.1) UI,r
   .cases hb:c=(~~~s)
    .subst hb;rw[XT]at q;cases q;exists by change 2<=sizeLine;decide,[u,v],.cons ru<|.cons jw .nil,{_,a5,Z,_,Z}
    .rw[Zb hb]at q;show(I.hok c v' q).stay (λe w' WS q'=>?_) (λe q=>by rwa[Zb (Of e _ q)]) λe ys q=>by rwa[Zb (Of e _ q)]
     rcases WS with rfl|WS
     .have:=Mi e _ q
      show hk e w' this.1 this.2.1 this.2.2.1 this.2.2.2 q'
     .have:=Mi e _ WS
      show hk e w' this.1 this.2.1 this.2.2.1 this.2.2.2 q'
  exists _,Z,wpAny_letOwnedTupleGo_zip a1 λh2 j4 Sn=>?_;let fT:z≠(~~~s):=Mj z _ hz
  let I2:Inv X pins σ (upd H (~~~s)<|.tup [x,y]) {s with heap:=h2}:=Inv.turned (s:={s with heap:=h'}) (h':=h2) (t':=s.toks) (it:=z) I1 (λb o hb q=>Sn.extBut b o hb q) (by rw[Zb fT];show fz.1) fz.2.1 fz.2.2.2.1 fz.2.2.2.2.1 fz.2.2.2.2.2;show⟨.ref (~~~s),_,I2,Z,{_,x,y,l7,Z,Z,λys Ha=>by rw[I.list_inj Ha hq];show hx,λys Ha=>by rwa[I.list_inj Ha RN]},
   {j4,Sn.extBut _ _ CM.TIz (ID _ _ (by have:=CM.TIz;have:=CM.TITO;have:=CM.TIi1;have:=CM.TIi2;simp;exists CM.TIz,CM.TITO,CM.TIi1,CM.TIi2) NB),⟨u,v,Sn.extBut _ _ CM.TOz a2⟩,a3.at λo q=>Sn.extBut i1 o CM.i1z q,a4.at λo q=>Sn.extBut i2 o CM.i2z q},λc hc=>?_⟩
  let WS:c=z\/c=TI\/c=TO\/c=i1\/c=i2:=by simpa using hc
  let hn:=(hf c hc).1;rcases WS with rfl|rfl|rfl|rfl|rfl
  .rw[Zb fT];show hn
  .rw[Zb (Mj _ _ NB)];show hn
  .rw[Zb (Mj _ _ LV)];show hn
  .let⟨o,eo,_⟩:=h1;rwa[Zb (Mj _ o eo)]
  .let⟨o,eo,_⟩:=h2;rwa[Zb (Mj _ o eo)]
 done:=by
  intro X hP hw hK hc i pins s σ H E I hf st hg;subst hP hw hK;let(xs,ys,hq,RN,jv):=hg;let(hz,NB,(u0,v0,LV),h1,h2):=st;let(XW,rv,p,_):=I.list hq;let(Vh,rW,p2,_):=I.list RN;let l1:=rv.f
  let l2:=rW.f;let fz:=hf z B
  let PQ:=hf TO B;let PN:=hf i1 B
  let PM:=hf i2 B;show wpAny_pyNext_zip_end (I.ok.hd hc) CM hz NB LV h1 h2 p.isList p2.isList (by
   rcases jv with e|e
   .show .inl (by simp;lia)
   .show .inr<|by simp;lia) λh' hk=>{Z,?_}
  let ID:∀c o,c∉[z,TO,i1,i2]->s.G.H c=some o->h'.H c=some o:=λc o VM q=>hk c o (λe=>VM<|by simp[e]) (λe=>VM<|by simp[e]) (λe=>VM<|by simp[e]) (λe=>VM<|by simp[e]) q;let Mi:∀c ob,H c=some ob->c≠z/\c≠TO/\c≠i1/\c≠i2:=λc ob q=>{λe=>(by rw[e,fz.1]at q;cases q),λe=>(by rw[e,PQ.1]at q;cases q),λe=>(by rw[e,PN.1]at q;cases q),λe=>(by rw[e,PM.1]at q;cases q)}
  show I.step (g':=s.gens) (d':=s.drawn) (t':=s.toks) (ch:=[z,TO,i1,i2]) (λc hb=>?_) (λc o _ _ VM q _=>ID c o VM q) (λc o _ _ VM q _=>{o.slots,ID c o VM q})
   (λc o _ q n=>n) (λc o VM q=>{o,ID c o VM q}) (λc ys q=>q) (λc o v q=>q)
   (λc ps q=>{#[],by rw[q];simp}) (λm hm=>?_) (λc v' q=>?_) I.bare
  .let WS:c=z\/c=TO\/c=i1\/c=i2:=by simpa using hb
   rcases WS with rfl|rfl|rfl|rfl
   .exists fz.2.2.2.1,fz.2.1,fz.2.2.2.2.1,fz.2.2.2.2.2
   .exists PQ.2.2.2.1,PQ.2.1,PQ.2.2.2.2.1,PQ.2.2.2.2.2
   .exists PN.2.2.2.1,PN.2.1,PN.2.2.2.2.1,PN.2.2.2.2.2
   .exists PM.2.2.2.1,PM.2.1,PM.2.2.2.2.1,PM.2.2.2.2.2
  .let⟨o,es,ep,UI,r⟩:=hm;exists o,es,ep,hk _ o (WX fz.2.1) (WX PQ.2.1) (WX PN.2.1) (WX PM.2.1) UI,r
  .show(I.hok c v' q).stay (λe w' WS q'=>?_) (λe q=>q) λe ys q=>q;rcases WS with rfl|WS
   .have:=Mi e _ q
    show hk e w' this.1 this.2.1 this.2.2.1 this.2.2.2 q'
   .have:=Mi e _ WS
    show hk e w' this.1 this.2.1 this.2.2.1 this.2.2.2 q'
 self:=λ_ _ _ _ _ st h=>wpAny_pyIter_zip st.1 h
def ju(K:Ad)(ta:TA):(TI):=λσ H R=>ta σ H λvs H1=>∃a b,vs=[.ref a,.ref b]/\(∃xs ys,SqL K H1 a xs/\SqL K H1 b ys)/\R (DU K a b) H1
section
variable{X:Cx}
def zv(K:Ad){elts:List Expr}{x1:Nat}{Rx:Pos}{e f:Expr}{ta:TA}{p pos:Pos}(hg:Gl X "zip")(hm:X.mg "zip"=none)(ha:PA X [e,f] ta)(hs:starEach [e,f] X.env=(false,eval e X.env)::starEach [f] X.env:=by rfl)(UG:(backTo pos<|starEach [f] X.env).any (·.1)=false:=by rfl)(hk:X.K=K:=by rfl):
  PI X (.Tuple elts x1 Rx) (.Call (.Name "zip" p) [e,f] [] pos) (ju K ta):=by
 subst hk;intro pins s σ H R I h;show Call_ (Ph I hg hm Boot.«zip»<|HY (thn (ha pos pins s σ H _ I h) λus s1 Xs=>?_) hs UG);let(vs,H1,I1,r1,q1):=Xs;let(a,b,ev,(xs,ys,hq,RN),q):=q1;subst ev;let(u,u',rfl,ru,ru'):=Hj r1;let rfl:u=Value.ref a:=ru;let rfl:u'=Value.ref b:=ru';let(XW,rv,pl,_):=I1.list hq;let(Vh,rW,pl2,_):=I1.list RN;let lt1:a<(~~~s1):=by let(_,_,e,_):=pl;show Yt e
 let lt2:b<(~~~s1):=by let(_,_,e,_):=pl2;show Yt e
 let CM:ZipApart ((~~~s1)+4) ((~~~s1)+2) ((~~~s1)+3) (~~~s1) ((~~~s1)+1) a b:=by
  let key:∀n x y:Nat,x<n->y<n->ZipApart (n+4) (n+2) (n+3) n (n+1) x y:=λn x y h1 h2=>by constructor<;>(intro q;let q':(_:Nat)=_:=q;lia)
  show key _ _ _ lt1 lt2
 show call_zip_2 pl.isList pl2.isList λh' hz NB LV zu VH hsz hk=>?_;show wpAny_pyIter_zip (s:={s1 with heap:=h'}) hz ?_;exists (~~~s1)+4,[(~~~s1)+4,(~~~s1)+2,(~~~s1)+3,(~~~s1),(~~~s1)+1],_,_,H1,Z,I1.kept (t':=s1.toks) hk,jx a b _ _ _ _ _ CM,{hz,NB,{_,_,LV},zu,VH},λc hc=>?_,q;let hle:(~~~s1)<=c:=by
  let WS:c=(~~~s1)+4\/c=(~~~s1)+2\/c=(~~~s1)+3\/c=(~~~s1)\/c=(~~~s1)+1:=by simpa using hc
  rcases WS with e|e|e|e|e<;>rw[e]<;>first|show XJ _|show Nat.le_add_right _ _
 show I1.fpOk hle (I1.hok.fresh hle)
end
end L2
namespace My
open PySem L2
section
variable{K:Ad}{a b:Addr}{xs ys:List V}{g:TG}{tt:TT}{te:TE}{o:Nat}{fr:List Nat}{σ:St}{H:Hp}{Q:VK}
def jt(Pv:Nat->List V->Hp->Prop)(h0:Pv 0 [] H)(Kv:xs.f=ys.f)(hz:xs.f<sizeLine)(hl:∀i zs H,i<=xs.f->Pv i zs H->SqL K H a xs/\SqL K H b ys/\zs.f<=i)
  (hs:∀(i:Nat) x y zs H (p:Addr),H p=none->xs[i]?=some x->ys[i]?=some y->Pv i zs H->Eo Pv g tt te o fr σ i ↑p zs (upd H p<|.tup [x,y]))(hd:∀zs H,Pv xs.f zs H->∀p,H p=none->Q ↑p (upd H p<|.lst zs)):Je (DU K a b) g tt te o fr σ H Q:=by
 exists λi m zs H=>m=xs.f-i/\i<=xs.f/\Pv i zs H,{xs.f,B,Yj _,h0},?_;rintro i m zs H ⟨rfl,hi,p⟩;let(q,q2,hy):=hl i zs H hi p;cases Xh:i<xs.f
 .show .inr {{xs,ys,xs[i],ys[i]'(by lia),q,q2,by simp[Xh],Xr oW},J,λx H' ⟨T,u,v,hT,ex,eH,hu,hv⟩=>?_};subst ex eH;show hs i u v zs H T hT (hu xs q) (hv ys q2) p (λj zs H=>∃m',m'<xs.f-i/\m'=xs.f-j/\j<=xs.f/\Pv j zs H) λzs H p'=>{xs.f-(i+1),oZ,Z,Xh,p'}
 .let e:i=xs.f:=J;subst e;show .inl {{xs,ys,q,q2,.inl<|XJ _},J,hd zs H p}
end
end My
namespace My
abbrev Mx:=Nat->Nat->Int
def sm:(Nat->(Nat->Int)->Int)
 |0,_=>0
 |n+1,f=>sm n f+f n
def ZK{f g:Nat->Int}:∀{n:Nat},(∀i,i<n->f i=g i)->sm n f=sm n g
 |0,_=>rfl
 |n+1,h=>by change sm n f+f n=sm n g+g n;rw[ZK λi hi=>h i J,h n J]
def Gs{f g:Nat->Int}:∀{n:Nat},sm n (λi=>f i+g i)=sm n f+sm n g
 |0=>rfl
 |n+1=>by change sm n (λi=>f i+g i)+(f n+g n)=sm n f+f n+(sm n g+g n);rw[Gs];lia
def DT{c:Int}{f:Nat->Int}:∀{n:Nat},sm n (λi=>c*f i)=c*sm n f
 |0=>(QQ c).symm
 |n+1=>by change sm n (λi=>c*f i)+c*f n=c*(sm n f+f n);rw[DT,HJ]
def SV:∀{n:Nat},sm n (λ_=>0)=0
 |0=>rfl
 |n+1=>by change sm n (λ_=>0)+0=0;rw[SV];rfl
def Gr{f:Nat->Int}(h:∀i,i<n->f i=0):sm n f=0:=by rw[ZK h];show SV
def zt{f:Nat->Int}:∀{n:Nat},sm (n+1) f=f 0+sm n (λi=>f (i+1))
 |0=>by change 0+f 0=f 0+0;lia
 |n+1=>by change sm (n+1) f+f (n+1)=f 0+(sm n (λi=>f<|i+1)+f (n+1));rw[zt];lia
def js{f:Nat->Nat->Int}:∀{n:Nat},sm n (λi=>sm m (f i))=sm m (λj=>sm n λi=>f i j)
 |0=>SV.symm
 |n+1=>by change sm n (λi=>sm m<|f i)+sm m (f n)=sm m λj=>sm n (λi=>f i j)+f n j;rw[js,Gs]
def sk(j k:Nat):(Nat):=if k<j then k else k+1
def mn(A:Mx)(j:Nat):(Mx):=λi k=>A (i+1) (sk j k)
def sg(j:Nat):(Int):=if j%2=0 then 1 else -1
def Ku(j:Nat):sg (j+1)=- sg j:=by
 unfold sg;cases h:j%2=0
 .rw[if_pos h,if_neg oW]
 .rw[if_neg h,if_pos J];rfl
def det:(Nat->Mx->Int)
 |0,_=>1
 |n+1,A=>sm (n+1) λj=>sg j*A 0 j*det n (mn A j)
def NA{j k n:Nat}(h:k<n):sk j k<n+1:=by unfold sk;split<;>lia
def Zl:∀{n:Nat}{A CL:Mx},(∀i j,i<n->j<n->A i j=CL i j)->det n A=det n CL
 |0,_,_,_=>rfl
 |n+1,A,CL,h=>ZK λj hj=>by rw[h 0 j J hj,Zl (A:=mn A j) (CL:=mn CL j) λi k hi hk=>h (i+1) (sk j k) J (NA hk)]
def Rh:∀{n:Nat}{A CL C:Mx}{c:Int}{i:Nat},i<n->(∀r j,r<n->j<n->r≠i->A r j=CL r j/\A r j=C r j)->(∀j,j<n->A i j=c*CL i j+C i j)->det n A=c*det n CL+det n C
 |0,_,_,_,_,_,hi,_,_=>absurd hi (Sy _)
 |n+1,A,CL,C,c,i,hi,h1,h2=>by
  change sm (n+1) (λj=>sg j*A 0 j*det n (mn A j))=c*sm (n+1) (λj=>sg j*CL 0 j*det n (mn CL j))+sm (n+1) λj=>sg j*C 0 j*det n (mn C j);rw[<-DT,<-Gs];show ZK λj hj=>?_;cases i with
  |zero=>
   let e1:det n (mn CL j)=det n (mn A j):=Zl λr k hr hk=>(h1 (r+1) (sk j k) oW (NA hk) J).1.symm;let e2:det n (mn C j)=det n (mn A j):=Zl λr k hr hk=>(h1 (r+1) (sk j k) J (NA hk) J).2.symm
   rw[e1,e2,h2 j hj];generalize det n (mn A j)=d;generalize sg j=s;rw[HJ,uh,<-QR s c,OI s c,QR c s,QR c]
  |succ i=>
   let e:=Rh (n:=n) (A:=mn A j) (CL:=mn CL j) (C:=mn C j) (c:=c) (i:=i) J (λr k hr hk XM=>h1 (r+1) (sk j k) J (NA hk) J) λk hk=>h2 (sk j k) (NA hk);let e0:=h1 0 j J hj J
   rw[e,<-e0.1,<-e0.2];generalize det n (mn CL j)=d;generalize det n (mn C j)=d';generalize sg j*A 0 j=s;rw[HJ,<-QR,<-QR,OI s c]
def jr(h:j<=k):mn (mn A j) k i l=mn (mn A (k+1)) j i l:=by
 change A (i+1+1) (sk j<|sk k l)=A (i+1+1) (sk (k+1)<|sk j l);show YS _ ?_;unfold sk;cases h1:l<j
 .rw[if_pos (show l<k by lia),if_pos h1,if_pos (show l<k+1 by lia)]
 .rw[if_neg h1];cases h2:l<k
  .rw[if_pos h2,if_neg h1,if_pos (show l+1<k+1 by lia)]
  .rw[if_neg h2,if_neg (show ¬l+1<j by lia),if_neg (show ¬l+1<k+1 by lia)]
def jq:∀{n:Nat}{A:Mx}{i:Nat},i+1<n->(∀j,j<n->A i j=A (i+1) j)->det n A=0
 |0,_,_,hi,_=>absurd hi (Sy _)
 |n+1,A,i+1,hi,h=>Gr λj hj=>by rw[jq (A:=mn A j) (i:=i) J λk hk=>h (sk j k)<|NA hk,QQ]
 |1,_,0,hi,_=>absurd hi oW
 |n+2,A,0,_,h=>by
  obtain⟨t,ht⟩:∃t:Nat->Nat->Int,t=λj k=>sg j*A 0 j*(sg k*A 1 (sk j k)*det n (mn (mn A j) k)):={_,Z};let e1:det (n+2) A=sm (n+2) λj=>sm (n+1) (t j):=ZK λj hj=>by rw[ht,DT];rfl
  let e2:∀j k,j<=k->k<n+1->t (k+1) j=- t j k:=λj k hjk hk=>by
   rw[ht];change sg (k+1)*A 0 (k+1)*(sg j*A 1 (sk (k+1) j)*det n (mn (mn A<|k+1) j))=- (sg j*A 0 j*(sg k*A 1 (sk j k)*det n (mn (mn A j) k)))
   let f1:sk (k+1) j=j:=by unfold sk;rw[if_pos J]
   let f2:sk j k=k+1:=by unfold sk;rw[if_neg J]
   let f3:det n (mn (mn A<|k+1) j)=det n (mn (mn A j) k):=Zl λi l _ _=>(jr hjk).symm;rw[f1,f2,f3,Ku,<-h j J,<-h (k+1) J];generalize det n (mn (mn A j) k)=d;generalize A 0 j=x;generalize A 0 (k+1)=y;generalize sg j=s;generalize sg k=u;simp only[ui,Int.neg_inj];simp only[OI,uR,QR]
  let e3:sm (n+2) (λj=>sm (n+1)<|t j)=sm (n+2) (λj=>sm (n+1) λk=>if k<j then t j k else 0)+sm (n+2) (λj=>sm (n+1) λk=>if k<j then 0 else t j k):=by rw[<-Gs];show ZK λj _=>?_;rw[<-Gs];show ZK λk _=>?_;split<;>lia
  let e4:sm (n+2) (λj=>sm (n+1) λk=>if k<j then t j k else 0)=sm (n+1) (λk=>sm (n+1) λj=>if k<=j then t (j+1) k else 0):=by
   rw[js];show ZK λk _=>?_;rw[zt,if_neg J,EF];show ZK λj _=>?_;cases c:k<=j
   .rw[if_pos c,if_pos oW]
   .rw[if_neg c,if_neg J]
  let e5:sm (n+2) (λj=>sm (n+1) λk=>if k<j then 0 else t j k)=sm (n+1) (λj=>sm (n+1) λk=>if j<=k then t j k else 0):=by
   change sm (n+1) (λj=>sm (n+1) λk=>if k<j then 0 else t j k)+sm (n+1) (λk=>if k<n+1 then 0 else t (n+1) k)=_;rw[Gr (f:=λk=>if k<n+1 then 0 else t (n+1) k) λk hk=>if_pos hk,Vi];show ZK λj _=>ZK λk _=>?_;cases c:j<=k
   .rw[if_pos c,if_neg J]
   .rw[if_neg c,if_pos J]
  rw[e1,e3,e4,e5,<-Gs];show Gr λj hj=>?_;rw[<-Gs];show Gr λk hk=>?_;cases c:j<=k
  .rw[if_pos c,if_pos c,e2 j k c hk];lia
  .rw[if_neg c,if_neg c];rfl
def put2(A:Mx)(i:Nat)(x y:Nat->Int):(Mx):=λr=>if r=i then x else if r=i+1 then y else A r
def jo{x x' y:Nat->Int}(hi:i+1<n):det n (put2 A i (λj=>x j+x' j) y)=det n (put2 A i x y)+det n (put2 A i x' y):=by
 have:=Rh (n:=n) (A:=put2 A i (λj=>x j+x' j) y) (CL:=put2 A i x y) (C:=put2 A i x' y) (c:=1) (i:=i) J (λr j _ _ XM=>by unfold put2;rw[if_neg XM,if_neg XM,if_neg XM];exists Z,Z) (λj _=>by unfold put2;rw[if_pos Z,if_pos Z,if_pos Z,VD])
 rw[this,VD]
def ZK5{x y y':Nat->Int}(hi:i+1<n):det n (put2 A i x λj=>y j+y' j)=det n (put2 A i x y)+det n (put2 A i x y'):=by
 let ne:¬i+1=i:=J
 have:=Rh (n:=n) (A:=put2 A i x λj=>y j+y' j) (CL:=put2 A i x y) (C:=put2 A i x y') (c:=1) (i:=i+1) J (λr j _ _ XM=>by unfold put2;rw[if_neg XM,if_neg XM,if_neg XM];exists Z,Z) (λj _=>by unfold put2;rw[if_neg ne,if_neg ne,if_neg ne,if_pos Z,if_pos Z,if_pos Z,VD])
 rw[this,VD]
def jn{x:Nat->Int}(hi:i+1<n):det n (put2 A i x x)=0:=jq hi λj _=>by unfold put2;rw[if_pos Z,if_neg J,if_pos Z]
def jm{x y:Nat->Int}(hi:i+1<n):det n (put2 A i y x)=- det n (put2 A i x y):=by let h:=jn (A:=A) (x:=λj=>x j+y j) hi;rw[jo hi,ZK5 hi,ZK5 hi,jn hi,jn hi]at h;lia
def jk:put2 A i (A i) (A (i+1))=A:=by
 funext r
 unfold put2;cases h:r=i
 .rw[if_pos h,h]
 .rw[if_neg h];cases h2:r=i+1
  .rw[if_pos h2,h2]
  .rw[if_neg h2]
def ZX7(hi:i+1<n):det n (put2 A i (A (i+1)) (A i))=- det n A:=by
 have:=jm (A:=A) (x:=A i) (y:=A<|i+1) hi
 rwa[jk]at this
def rV:∀{d:Nat}{A:Mx},a+d+1<n->(∀j,j<n->A a j=A (a+d+1) j)->det n A=0
 |0,A,hn,h=>jq hn h
 |d+1,A,hn,h=>by
  let e:=ZX7 (n:=n) (A:=A) (i:=a+d+1) J;let z:det n (put2 A (a+d+1) (A<|a+d+1+1)<|A<|a+d+1)=0:=by show rV (a:=a) (d:=d) J λj hj=>?_;unfold put2;rw[if_neg J,if_neg J,if_pos Z];show h j hj
  lia
def rotN(k t i:Nat):(Nat):=if i<k then i else if i=k then k+t else if i<=k+t then i-1 else i
def ZC8(k i:Nat):rotN k 0 i=i:=by
 unfold rotN;cases h:i<k
 .rw[if_pos h]
 .rw[if_neg h];cases h2:i=k
  .rw[if_pos h2,h2];rfl
  .rw[if_neg h2,if_neg J]
def jj:∀{t:Nat}{A:Mx},k+t<n->det n (λi=>A (rotN k t i))=sg t*det n A
 |0,A,_=>by rw[show sg 0=1 from Z,VD];show Zl λi j _ _=>by rw[ZC8]
 |t+1,A,h=>by
  let e:=jj (n:=n) (k:=k) (t:=t) (A:=put2 A (k+t) (A<|k+t+1)<|A<|k+t) J;rw[ZX7 J]at e;let f:det n (λi=>A<|rotN k (t+1) i)=det n (λi=>put2 A (k+t) (A<|k+t+1) (A<|k+t)<|rotN k t i):=Zl λi j _ _=>by
   show congrFun ?_ j;let r1:rotN k (t+1) i=if i<k then i else if i=k then k+(t+1) else if i<=k+(t+1) then i-1 else i:=rfl
   let r2:rotN k t i=if i<k then i else if i=k then k+t else if i<=k+t then i-1 else i:=rfl
   unfold put2;cases h1:i<k
   .rw[if_pos h1]at r1 r2;rw[r1,r2,if_neg J,if_neg J]
   .rw[if_neg h1]at r1 r2;cases h2:i=k
    .rw[if_pos h2]at r1 r2;rw[r1,r2,if_pos Z];rfl
    .rw[if_neg h2]at r1 r2;cases h3:i<=k+t
     .rw[if_pos J]at r1;rw[if_pos h3]at r2;rw[r1,r2,if_neg J,if_neg J]
     .rw[if_neg h3]at r2;cases h4:i=k+t+1
      .rw[if_pos J]at r1;rw[r1,r2,if_neg J,if_pos h4];show YS A J
      .rw[if_neg J]at r1;rw[r1,r2,if_neg J,if_neg h4]
  rw[f,e,Ku,Int.mul_neg,ui]
def ji:∀{n:Nat}{A:Mx},(∀i,i<n+1->A i 0=0)->det (n+1) A=0
 |0,A,h=>by change 0+sg 0*A 0 0*1=0;rw[h 0 oW,QQ];rfl
 |n+1,A,h=>Gr λj hj=>by
  cases j with
  |zero=>rw[h 0 J,QQ,OE]
  |succ j=>
   rw[ji (A:=mn A<|j+1) λi hi=>?_,QQ];change A (i+1) (sk (j+1) 0)=0
   rw[show sk (j+1) 0=0 from Z];show h (i+1) J
def Zq9(h:∀i,i<n->A (i+1) 0=0):det (n+1) A=A 0 0*det n (λi j=>A (i+1) (j+1)):=by
 change sm (n+1) (λj=>sg j*A 0 j*det n (mn A j))=_;rw[zt,Gr λj hj=>?_]
 .rw[Vi,show sg 0=1 from Z,VD];show YS (A 0 0 * ·) (Zl λi j _ _=>?_);rfl
 .cases n with
  |zero=>show absurd hj (Sy _)
  |succ n=>
   rw[ji (A:=mn A<|j+1) λi hi=>?_,QQ];show h i hi
def ZY7{i:Nat}(hi:i<n)(h:∀j,j<n->A i j=0):det n A=0:=by
 have:=Rh (A:=A) (CL:=A) (C:=A) (c:=1) hi (λr j _ _ _=>⟨Z,Z⟩) (λj hj=>by rw[h j hj];rfl)
 lia
def ZJ5{c:Int}:∀{n:Nat}{A:Mx},det n (λi j=>c*A i j)=c^n*det n A
 |0,_=>by change(1:Int)=c^0*1;rw[HK];rfl
 |n+1,A=>by
  change sm (n+1) (λj=>sg j*(c*A 0 j)*det n (mn (λi j=>c*A i j) j))=c^(n+1)*sm (n+1) λj=>sg j*A 0 j*det n (mn A j);rw[<-DT];show ZK λj _=>?_;let e:det n (mn (λi j=>c*A i j) j)=c^n*det n (mn A j):=ZJ5 (A:=mn A j)
  rw[e,OD];generalize det n (mn A j)=d;generalize c^n=p;generalize sg j=s;generalize A 0 j=x;simp only[OI,uR,QR]
def offN(R:Mx):(Mx):=λi j=>R 0 0*R (i+1) (j+1)-R (i+1) 0*R 0 (j+1)
def Wz(R:Mx)(k:Nat):(Mx):=λr j=>if r=0 then R 0 j else if r<=k then R 0 0*R r j-R r 0*R 0 j else R r j
def zr{m:Nat}:∀{k:Nat},k<m+1->det (m+1) (Wz R k)=R 0 0^k*det (m+1) R
 |0,_=>by
  rw[HK,VD];show Zl λi j _ _=>?_;unfold Wz;cases h:i=0
  .rw[if_pos h,h]
  .rw[if_neg h,if_neg J]
 |k+1,hk=>by
  let ih:=zr (m:=m) (R:=R) (k:=k) J;obtain⟨C,hC⟩:∃C:Mx,C=λr j=>if r=k+1 then-R (k+1) 0*R 0 j else Wz R k r j:={_,Z}
  obtain⟨CL,hB⟩:∃CL:Mx,CL=λr j=>if r=k+1 then R 0 j else Wz R k r j:={_,Z}
  obtain⟨oO,hZ⟩:∃oO:Mx,oO=λr j=>if r=k+1 then 0 else Wz R k r j:={_,Z}
  let hBz:det (m+1) CL=0:=rV (n:=m+1) (a:=0) (d:=k) J λj hj=>by
   rw[hB];change(if 0=k+1 then _ else Wz R k 0 j)=if 0+k+1=k+1 then _ else _
   rw[if_neg J,if_pos J];rfl
  let hZz:det (m+1) oO=0:=ZY7 (i:=k+1) hk λj hj=>by rw[hZ];show if_pos rfl
  let hCz:det (m+1) C=0:=by
   have:=Rh (A:=C) (CL:=CL) (C:=oO) (c:=- R (k+1) 0) hk (λr j _ _ XM=>by
    rw[hC,hB,hZ];change(if r=k+1 then _ else Wz R k r j)=(if r=k+1 then _ else Wz R k r j)/\(if r=k+1 then _ else Wz R k r j)=(if r=k+1 then _ else Wz R k r j)
    rw[if_neg XM,if_neg XM,if_neg XM];exists Z,Z) (λj _=>by
    rw[hC,hB,hZ];change(if k+1=k+1 then _ else _)=_*(if k+1=k+1 then _ else _)+(if k+1=k+1 then _ else _)
    rw[if_pos Z,if_pos Z,if_pos Z,Vi])
   rw[this,hBz,hZz,QQ];rfl
  have:=Rh (A:=Wz R<|k+1) (CL:=Wz R k) (C:=C) (c:=R 0 0) hk (λr j _ _ XM=>by
   let e1:Wz R (k+1) r j=Wz R k r j:=by
    unfold Wz;cases h0:r=0
    .rw[if_pos h0,if_pos h0]
    .rw[if_neg h0,if_neg h0];cases h1:r<=k
     .rw[if_pos h1,if_pos J]
     .rw[if_neg h1,if_neg J]
   exists e1,?_;rw[hC,e1];change _=if r=k+1 then _ else _
   rw[if_neg XM]) (λj _=>by
   let e1:Wz R (k+1) (k+1) j=R 0 0*R (k+1) j-R (k+1) 0*R 0 j:=by unfold Wz;rw[if_neg J,if_pos J]
   let e2:Wz R k (k+1) j=R (k+1) j:=by unfold Wz;rw[if_neg oW,if_neg J]
   rw[e1,e2,hC];change _=_+(if k+1=k+1 then-R (k+1) 0*R 0 j else _)
   rw[if_pos Z,ui]
   rfl)
  rw[this,hCz,ih,Vi,OD];rw[<-QR,OI (R 0 0)]
def jh:R 0 0*det m (offN R)=R 0 0^m*det (m+1) R:=by
 rw[<-zr (k:=m) J,Zq9 λi hi=>?_]
 .let e0:Wz R m 0 0=R 0 0:=if_pos rfl;rw[e0];show YS (R 0 0 * ·) (Zl λi j hi hj=>?_);unfold Wz offN;rw[if_neg J,if_pos J]
 .unfold Wz;rw[if_neg J,if_pos J,OI];lia
def ex(k:Nat)(r:Nat->Nat)(i:Nat):(Nat):=if i<k then i else k+r (i-k)
def Qs(A:Mx)(k M:Nat)(R:Mx)(last:Int):(Prop):=last≠0/\∀m r c,(∀i,i<m+1->r i<M/\c i<M)->
 det (m+1) (λi j=>R (r i)<|c j)=det (k+m+1) (λi j=>A (ex k r i)<|ex k c j)*last^m
def Zu9(A:Mx)(n:Nat):Qs A 0 n A 1:={oY,λm r c _=>by rw[Int.one_pow,Jw,SM];show Zl λi j _ _=>?_;unfold ex;rw[if_neg (Sy _),if_neg<|Sy _,SM,SM,uq,uq]}
def Gq{p:Int}(h:p≠0):∀n:Nat,p^n≠0
 |0=>by rw[HK];decide
 |n+1=>by rw[OD];show Int.mul_ne_zero (Gq h n) h
def Nz(r:Nat->Nat):(Nat->Nat)
 |0=>0
 |i+1=>r i+1
def zq(k:Nat)(r:Nat->Nat)(i:Nat):ex k (Nz r) i=ex (k+1) r i:=by
 unfold ex;cases h:i<k
 .rw[if_pos h,if_pos J]
 .rw[if_neg h];cases h2:i=k
  .rw[if_pos J,h2,Ms];rfl
  .rw[if_neg J];obtain⟨d,rfl⟩:∃d,i=k+d+1:={i-k-1,oZ};rw[show k+d+1-k=d+1 by lia,show k+d+1-(k+1)=d by lia];change k+(r d+1)=k+1+r d
   lia
def zp{k M:Nat}(h:Qs A k (M+1) R last)(hp:R 0 0≠0){m:Nat}{r c:Nat->Nat}(hb:∀i,i<m+1->r i<M/\c i<M):
  det (m+1) (λi j=>offN R (r i)<|c j)=R 0 0^m*(last^(m+1)*det (k+1+m+1) λi j=>A (ex (k+1) r i)<|ex (k+1) c j):=by
 let e1:=jh (m:=m+1) (R:=λi j=>R (Nz r i)<|Nz c j);let e2:=h.2 (m+1) (Nz r) (Nz c) λi hi=>by
  cases i with
  |zero=>exists Nat.succ_pos _,Nat.succ_pos _
  |succ i=>have:=hb i J;exists Nat.succ_lt_succ this.1,Nat.succ_lt_succ this.2
 let e3:det (m+1) (offN λi j=>R (Nz r i)<|Nz c j)=det (m+1) (λi j=>offN R (r i)<|c j):=rfl;let e4:det (k+(m+1)+1) (λi j=>A (ex k (Nz r) i)<|ex k (Nz c) j)=det (k+1+m+1) (λi j=>A (ex (k+1) r i)<|ex (k+1) c j):=by rw[show k+(m+1)+1=k+1+m+1 by lia];show Zl λi j _ _=>by rw[zq,zq]
 rw[e3]at e1;rw[e4]at e2;let e5:R (Nz r 0) (Nz c 0)=R 0 0:=rfl
 rw[e5,e2]at e1;generalize det (m+1) (λi j=>offN R (r i)<|c j)=x at *;generalize det (k+1+m+1) (λi j=>A (ex (k+1) r i)<|ex (k+1) c j)=y at *;rw[OD]at e1;show az hp ?_;rw[e1,OI y,OI<|R 0 0^m,QR]
def Gp(A:Mx):det 1 A=A 0 0:=by change 0+sg 0*A 0 0*1=A 0 0;rw[show sg 0=1 from Z];lia
def jg{k M:Nat}(h:Qs A k (M+1) R last)(hp:R 0 0≠0)(hi:i<M)(hj:j<M):
  offN R i j=last*det (k+2) (λa b=>A (ex (k+1) (λ_=>i) a)<|ex (k+1) (λ_=>j) b):=by
 have:=zp h hp (m:=0) (r:=λ_=>i) (c:=λ_=>j) λ_ _=>⟨hi,hj⟩
 rwa[Gp,HK,VD,OD,HK,VD]at this
def zm(h:Qs A k (M+1) R last)(hp:R 0 0≠0)(hR:∀i j,i<M->j<M->R' i j=(offN R i j).fdiv last):Qs A (k+1) M R' (R 0 0):=by
 exists hp,λm r c hb=>?_;let jf:∀i j,i<M->j<M->offN R i j=last*R' i j:=λi j hi hj=>by rw[hR i j hi hj,jg h hp hi hj,Int.mul_fdiv_cancel_left _ h.1]
 let e1:=zp h hp hb;let e2:det (m+1) (λi j=>offN R (r i)<|c j)=last^(m+1)*det (m+1) (λi j=>R' (r i)<|c j):=by rw[<-ZJ5];show Zl λi j hi hj=>jf _ _ (hb i hi).1 (hb j hj).2
 rw[e2]at e1;show az (Gq h.1<|m+1) ?_;rw[e1];generalize det (k+1+m+1) (λi j=>A (ex (k+1) r i)<|ex (k+1) c j)=y;rw[uR,OI y]
def je(h:Qs A k M R last)(ht:t<M):Qs (λi=>A (rotN k t i)) k M (λi=>R (rotN 0 t i)) last:=by
 exists h.1,λm r c hb=>?_;let e:=h.2 m (λi=>rotN 0 t<|r i) c λi hi=>⟨by
  have:=(hb i hi).1
  unfold rotN;rw[if_neg J];split
  .lia
  .split<;>lia,(hb i hi).2⟩
 rw[e];show YS (· * last^m) (Zl λi j _ _=>?_);show YS (λa=>A a<|ex k c j) ?_;unfold ex;cases hi:i<k
 .rw[if_pos hi,if_pos hi];unfold rotN;rw[if_pos hi]
 .rw[if_neg hi,if_neg hi];change k+rotN 0 t (r<|i-k)=rotN k t (k+r (i-k))
  generalize r (i-k)=a;let r1:rotN 0 t a=if a<0 then a else if a=0 then 0+t else if a<=0+t then a-1 else a:=rfl
  let r2:rotN k t (k+a)=if k+a<k then k+a else if k+a=k then k+t else if k+a<=k+t then k+a-1 else k+a:=rfl
  rw[if_neg J]at r1 r2;cases h1:a=0
  .rw[if_pos h1]at r1;rw[if_pos J]at r2;rw[r1,r2];lia
  .rw[if_neg h1]at r1;rw[if_neg J]at r2;cases h2:a<=t
   .rw[if_pos J]at r1;rw[if_pos J]at r2;rw[r1,r2];lia
   .rw[if_neg J]at r1;rw[if_neg J]at r2;rw[r1,r2]
def Kt(k i:Nat):ex k (λi=>i) i=i:=by
 unfold ex;cases h:i<k
 .rw[if_pos h]
 .rw[if_neg h];change k+(i-k)=i
  grind
def zk{k M:Nat}(h:Qs A k (M+1) R last)(h0:∀i,i<M+1->R i 0=0):det (k+M+1) A=0:=by
 let e:=h.2 M (λi=>i) (λi=>i) λi hi=>⟨hi,hi⟩;rw[ji (A:=λi j=>R i j) h0]at e;let e2:det (k+M+1) (λi j=>A (ex k (λi=>i) i)<|ex k (λi=>i) j)=det (k+M+1) A:=Zl λi j _ _=>by rw[Kt,Kt]
 rw[e2]at e;rcases Int.mul_eq_zero.L e.symm with z|z
 .show z
 .show absurd z (Gq h.1 M)
def zj(h:Qs A k 1 R last):R 0 0=det (k+1) A:=by
 let e:=h.2 0 (λi=>i) (λi=>i) λi hi=>⟨J,oW⟩;rw[Gp,HK,Jw]at e;let e2:det (k+0+1) (λi j=>A (ex k (λi=>i) i)<|ex k (λi=>i) j)=det (k+1) A:=Zl λi j _ _=>by rw[Kt,Kt]
 rwa[e2]at e
end My
namespace L2
open PySem PySem.Spec PyProof.Rows
def jd(i j:Int):(Prop):=i.natAbs<2^9000/\j.natAbs<2^9000
def zh(i j:Int):(Prop):=j≠0/\j.natAbs<2^9000
def ZZ5(h:a.natAbs<2^9000):Builtin.Int.intBits a<=9000:=PySem.intBits_le_iff.U h
section
variable{X:Cx}
def jc:Wu X (binaryOp .Mult) (rI jd λi j=>.int (i*j)):=Hl λ_ _ _ _ _ _ _ hc q=>mul_int q (.of_bits (Yl (ZZ5 hc.1) oY)<|Yl (ZZ5 hc.2) oY)
def zg:Wu X (binaryOp .FloorDiv) (rI zh λi j=>.int (i.fdiv j)):=Hl λ_ _ _ _ _ _ _ hc q=>floordiv_int hc.1 q (.inl<|PyProof.noPylong_of_log2<|(Nat.log2_lt (by have:=hc.1;lia)).U hc.2)
end
end L2
namespace My
def fnL(L:Ab):(Mx):=λi j=>(L.S i []).S j 0
def Ua{l:Ac}{x:Int}(h:L[i]?=some l)(h2:l[j]?=some x):fnL L i j=x:=by
 let e:L.S i []=l:=by rw[Wv,h];rfl
 unfold fnL;rw[e,Wv,h2];rfl
def rT(CL:Nat):(Nat->Nat)
 |0=>1
 |n+1=>(n+1)*(CL*rT CL n)
def ze{f:Nat->Int}{C:Nat}:∀{n:Nat},(∀i,i<n->(f i).natAbs<=C)->(sm n f).natAbs<=n*C
 |0,_=>by change(0:Int).natAbs<=0*C;rw[Nat.zero_mul];show XJ 0
 |n+1,h=>by
  let h1:=ze (n:=n) λi hi=>h i J;let h2:=h n J
  let h3:(sm n f+f n).natAbs<=(sm n f).natAbs+(f n).natAbs:=Int.natAbs_add_le ..;change(sm n f+f n).natAbs<=(n+1)*C
  rw[Nat.succ_mul];lia
def zd:∀{n:Nat}{A:Mx},(∀i j,i<n->j<n->(A i j).natAbs<=CL)->(det n A).natAbs<=rT CL n
 |0,_,_=>XJ 1
 |n+1,A,h=>by
  show ze λj hj=>?_;let e:(sg j).natAbs=1:=by unfold sg;split<;>rfl
  rw[Hw,Hw,e,Nat.one_mul];show HM (h 0 j J hj) (zd λi k hi hk=>h (i+1) (sk j k) J<|NA hk)
def zb{b:Nat}:∀{n:Nat},n<=16->rT (2^b) n<=2^((b+4)*n)
 |0,_=>by change 1<=2^((b+4)*0);rw[Nat.mul_zero];show XJ 1
 |n+1,h=>by
  let ih:=zb (b:=b) (n:=n) J;let e:2^((b+4)*(n+1))=16*(2^b*2^((b+4)*n)):=by rw[Nat.mul_succ,Nat.pow_add,Nat.pow_add,uo<|2^((b+4)*n),uo (2^b)<|2^4,Nat.mul_assoc]
  rw[e];change(n+1)*(2^b*rT (2^b) n)<=_
  show HM h (HM (XJ _) ih)
def Zp9(hn:n<=16)(h:∀i j,i<n->j<n->(A i j).natAbs<=2^400):(det n A).natAbs<2^9000:=by
 let h1:=zd h;let h2:=zb (b:=400) hn
 let h3:2^((400+4)*n)<=2^(404*16):=uY oY (HM (XJ _) hn);let h4:2^(404*16)<2^9000:=Nat.pow_lt_pow_right oY oY
 show Dk (Yl h1<|Yl h2 h3) h4
def y9(h:Qs A k M R last){i j:Nat}(hi:i<M)(hj:j<M):R i j=det (k+1) (λa b=>A (ex k (λ_=>i) a) (ex k (λ_=>j) b)):=by
 have:=h.2 0 (λ_=>i) (λ_=>j) λ_ _=>⟨hi,hj⟩
 rwa[Gp,HK,Jw]at this
def Zv9{k M n:Nat}(h:Qs A k M R last)(hn:k+M=n)(hn16:n<=16)(hA:∀i j,i<n->j<n->(A i j).natAbs<=2^400){i j:Nat}(hi:i<M)(hj:j<M):(R i j).natAbs<2^9000:=by
 rw[y9 h hi hj];show Zp9 J λa b ha hb=>hA _ _ ?_ ?_
 .let e:ex k (λ_=>i) a=if a<k then a else k+i:=rfl
  rw[e];split<;>lia
 .let e:ex k (λ_=>j) b=if b<k then b else k+j:=rfl
  rw[e];split<;>lia
def i9{L:Ab}{l:Ac}(h:L[t]?=some l)(i:Nat):(l::L.eraseIdx t)[i]?=L[rotN 0 t i]?:=by
 let ht:=(XF.L h).1;let r:rotN 0 t i=if i<0 then i else if i=0 then 0+t else if i<=0+t then i-1 else i:=rfl
 rw[if_neg J]at r;cases i with
 |zero=>
  rw[if_pos Z,SM]at r;rw[r,h];rfl
 |succ i=>
  rw[if_neg J,SM]at r;rw[r,List.getElem?_cons_succ,p7];cases c:i+1<=t
  .rw[if_pos c,if_pos J];rfl
  .rw[if_neg c,if_neg J]
def i8{l:Ac}(h:L[t]?=some l):fnL (l::L.eraseIdx t)=λi=>fnL L (rotN 0 t i):=by
 funext i j
 change((l::L.eraseIdx t).S i []).S j 0=(L.S (rotN 0 t i) []).S j 0;show YS (λr:Ac=>r.S j 0) ?_;rw[Wv,Wv,i9 h]
def Ny(y:Int)(p:Ac)(last:Int)(l:Ac):(Ac):=List.zipWith (λown other=>(y*own-l.headD 0*other).fdiv last) l.tail p
def ZB9(h:l.f=p.f+1):(Ny y p last l).f=p.f:=by unfold Ny;rw[Dl,List.length_tail];lia
def i7{L:Ab}{M:Nat}(hp:p.f=M)(hL:L.f=M)(hl:∀l∈L,l.f=M+1){i j:Nat}(hi:i<M)(hj:j<M):
  fnL (L.R<|Ny y p last) i j=(offN (fnL<|(y::p)::L) i j).fdiv last:=by
 obtain⟨l,IC⟩:∃l,L[i]?=some l:={_,Xr J};let Ks:=hl l (Xm IC)
 obtain⟨x,l',rfl⟩:∃x l',l=x::l':=by
  cases l with
  |nil=>cases Ks
  |cons x l'=>exists x,l',Z
 let Ox:l'.f=M:=by rw[YG]at Ks;lia
 obtain⟨u,hu⟩:∃u,l'[j]?=some u:={_,Xr J};obtain⟨v,hv⟩:∃v,p[j]?=some v:={_,Xr J};let e1:fnL (L.R<|Ny y p last) i j=(y*u-x*v).fdiv last:=Ua (l:=Ny y p last<|x::l') (by rw[Yv,IC];rfl) (by
  change(List.zipWith _ l' p)[j]?=_;rw[EN,hu,hv]
  rfl)
 let e2:fnL ((y::p)::L) 0 0=y:=rfl;let e3:fnL ((y::p)::L) (i+1) (j+1)=u:=Ua (l:=x::l') IC hu
 let e4:fnL ((y::p)::L) (i+1) 0=x:=Ua (l:=x::l') IC rfl;let e5:fnL ((y::p)::L) 0 (j+1)=v:=Ua (l:=y::p) Z hv
 rw[e1];unfold offN;rw[e2,e3,e4,e5]
end My
namespace My
open PySem L2
def y8(K:Ad)(H:Hp)(v:V)(l:Ac):(Prop):=∃r k,v=.ref r/\SqK k K H r (IL l)
def LiV(d:Addr)(H:Hp)(v:V)(l:Ac):(Prop):=∃r,v=.ref r/\H r=some (.lst<|IL l)/\r≠d
def LiV.same(s:Same H H')(h:LiV d H v l):LiV d H' v l:=by let(r,e,h,n):=h;exists r,e,s _ _ h,n
def LiV.mut(h:LiV d H v l):LiV d (upd H d o) v l:=by let(r,e,h,n):=h;exists r,e,by rw[Zb n];show h,n
def LiV.list(h:LiV d H v l):Me H v l:=by let(r,e,h,_):=h;exists r,e,h
def Bears.erase{α:Type}[DecidableEq α]{R:V->α->Prop}{xs:List V}{l:List α}(h:Bears R xs l)(t:Nat):Bears R (xs.eraseIdx t) (l.eraseIdx t):=by
 let hl:=h.1;show{by rw[HG,HG,hl],λi a e=>?_};rw[p7]at e;rw[p7];split at e
 .next c=>rw[if_pos c];show h.2 _ _ e
 .next c=>rw[if_neg c];show h.2 _ _ e
def y7(x:Int)(l:Ac):WH (IL (x::l)) (some 1) none=IL l:=by rw[ZO5 oY];rfl
def i6(t:Nat):sg t*sg t=1:=by unfold sg;split<;>rfl
end My
namespace My
def i5{f:Nat->Nat->Int}:sm n (λi=>sm m λj=>f i j)=sm m (λj=>sm n λi=>f i j):=js
def y6:∀{n:Nat}{A:Mx},det (n+1) A=sm (n+1) λi=>sg i*A i 0*det n (λr c=>A (sk i r) (c+1))
 |0,A=>rfl
 |n+1,A=>by
  let e1:det (n+2) A=sg 0*A 0 0*det (n+1) (mn A 0)+sm (n+1) λj=>sg (j+1)*A 0 (j+1)*det (n+1) (mn A<|j+1):=zt;let e2:sm (n+2) (λi=>sg i*A i 0*det (n+1) λr c=>A (sk i r)<|c+1)=sg 0*A 0 0*det (n+1) (λr c=>A (sk 0 r)<|c+1)+sm (n+1) λi=>sg (i+1)*A (i+1) 0*det (n+1) (λr c=>A (sk (i+1) r)<|c+1):=zt
  rw[e1,e2];let e3:det (n+1) (mn A 0)=det (n+1) (λr c=>A (sk 0 r)<|c+1):=Zl λr c _ _=>rfl
  rw[e3];show YS (λz:Int=>sg 0*A 0 0*det (n+1) (λr c=>A (sk 0 r)<|c+1)+z) ?_;obtain⟨CM,hD⟩:∃CM:Nat->Nat->Int,CM=λi j=>det n (λr c=>A (sk i r+1)<|sk (j+1)<|c+1):={_,Z};let e4:∀j,j<n+1->det (n+1) (mn A<|j+1)=sm (n+1) λi=>sg i*A (i+1) 0*CM i j:=λj _=>by rw[y6,hD];rfl
  let e5:∀i,i<n+1->det (n+1) (λr c=>A (sk (i+1) r)<|c+1)=sm (n+1) λj=>sg j*A 0 (j+1)*CM i j:=λi hi=>by
   change sm (n+1) (λj=>sg j*A (sk (i+1) 0) (j+1)*det n (mn (λr c=>A (sk (i+1) r)<|c+1) j))=_;show ZK λj _=>?_;rw[hD];change sg j*A (sk (i+1) 0) (j+1)*det n (mn (λr c=>A (sk (i+1) r)<|c+1) j)=sg j*A 0 (j+1)*det n (λr c=>A (sk i r+1)<|sk (j+1)<|c+1)
   rw[show sk (i+1) 0=0 from Z];show YS (sg j*A 0 (j+1) * ·) (Zl λr c _ _=>?_);change A (sk (i+1)<|r+1) (sk j c+1)=A (sk i r+1) (sk (j+1)<|c+1)
   let f1:sk (i+1) (r+1)=sk i r+1:=by
    unfold sk;cases h:r<i
    .rw[if_pos h,if_pos J]
    .rw[if_neg h,if_neg J]
   let f2:sk j c+1=sk (j+1) (c+1):=by
    unfold sk;cases h:c<j
    .rw[if_pos h,if_pos J]
    .rw[if_neg h,if_neg J]
   rw[f1,f2]
  let e6:sm (n+1) (λj=>sg (j+1)*A 0 (j+1)*det (n+1) (mn A<|j+1))=sm (n+1) λj=>sm (n+1) λi=>sg (j+1)*A 0 (j+1)*(sg i*A (i+1) 0*CM i j):=ZK λj hj=>by rw[e4 j hj,DT]
  let e7:sm (n+1) (λi=>sg (i+1)*A (i+1) 0*det (n+1) λr c=>A (sk (i+1) r)<|c+1)=sm (n+1) λi=>sm (n+1) λj=>sg (i+1)*A (i+1) 0*(sg j*A 0 (j+1)*CM i j):=ZK λi hi=>by rw[e5 i hi,DT]
  rw[e6,e7,i5];show ZK λi _=>ZK λj _=>?_;rw[Ku,Ku];generalize CM i j=d;generalize A 0 (j+1)=x;generalize A (i+1) 0=y;generalize sg i=s;generalize sg j=u;simp only[ui,Int.neg_inj];simp only[OI,uR,QR]
def Nx:∀{n:Nat}{A:Mx},det n (λi j=>A j i)=det n A
 |0,_=>rfl
 |n+1,A=>by
  rw[y6 (A:=A)];show ZK λj _=>?_;change sg j*A j 0*det n (λi k=>A (sk j k)<|i+1)=sg j*A j 0*det n (λr c=>A (sk j r)<|c+1)
  rw[<-Nx (A:=λr c=>A (sk j r)<|c+1)]
def pr:(Nat->(Nat->Int)->Int)
 |0,_=>1
 |n+1,f=>pr n f*f n
def i4{n a b:Nat}(ha:a<n)(hb:b<n)(XM:a≠b)(h:∀j,j<n->A a j=A b j):det n A=0:=by
 rcases Nat.lt_or_gt_of_ne XM with c|c
 .obtain⟨d,rfl⟩:∃d,b=a+d+1:={b-a-1,oZ};show rV hb h
 .obtain⟨d,rfl⟩:∃d,a=b+d+1:={a-b-1,oZ};show rV ha λj hj=>(h j hj).symm
def putr(A:Mx)(i:Nat)(x:Nat->Int):(Mx):=λr=>if r=i then x else A r
def yZ{c:Int}{x y:Nat->Int}(hi:i<n):det n (putr A i λj=>c*x j+y j)=c*det n (putr A i x)+det n (putr A i y):=
 Rh hi (λr j _ _ XM=>by unfold putr;rw[if_neg XM,if_neg XM,if_neg XM];exists Z,Z) (λj _=>by unfold putr;rw[if_pos Z,if_pos Z,if_pos Z])
def yY:putr A i (A i)=A:=by
 funext r
 unfold putr;cases h:r=i
 .rw[if_pos h,h]
 .rw[if_neg h]
def yX{n a b:Nat}{c:Int}(ha:a<n)(hb:b<n)(XM:a≠b):det n (putr A a λj=>A a j+c*A b j)=det n A:=by
 let e:(λj=>A a j+c*A b j)=λj=>c*A b j+A a j:=by funext j;lia
 rw[e,yZ ha,yY,i4 ha hb XM (A:=putr A a<|A b) λj _=>?_,QQ,EF];unfold putr;rw[if_pos Z,if_neg (WX XM)]
def i3(a i:Nat):rotN 0 a (i+1)=sk a i:=by
 let r:rotN 0 a (i+1)=if i+1<0 then i+1 else if i+1=0 then 0+a else if i+1<=0+a then i+1-1 else i+1:=rfl
 rw[if_neg J,if_neg J]at r;rw[r];unfold sk;cases h:i<a
 .rw[if_pos h,if_pos J];lia
 .rw[if_neg h,if_neg J]
def ZF9{f:Nat->Int}{a:Nat}:∀{n:Nat},a<n->(∀j,j<n->j≠a->f j=0)->sm n f=f a
 |0,h,_=>absurd h (Sy _)
 |n+1,h,h0=>by
  change sm n f+f n=f a;cases c:a=n
  .rw[Gr λi hi=>h0 i oZ J,c,EF]
  .rw[ZF9 (n:=n) J λj hj XM=>h0 j J XM,h0 n J J,Vi]
def iZ(ha:a<n+1):det (n+1) (putr A a λj=>if j=a then 1 else 0)=det n (λi j=>A (sk a i) (sk a j)):=by
 let e:=jj (n:=n+1) (k:=0) (t:=a) (A:=putr A a λj=>if j=a then 1 else 0) J;let r0:rotN 0 a 0=a:=by change(if 0<0 then 0 else if 0=0 then 0+a else _)=a;rw[if_neg J,if_pos Z,SM]
 let top:det (n+1) (λi=>putr A a (λj=>if j=a then 1 else 0)<|rotN 0 a i)=sg a*det n (λi j=>A (sk a i)<|sk a j):=by
  change sm (n+1) (λj=>sg j*putr A a (λj=>if j=a then 1 else 0) (rotN 0 a 0) j*det n (mn (λi=>putr A a (λj=>if j=a then 1 else 0)<|rotN 0 a i) j))=_;rw[ZF9 ha λj _ XM=>?_]
  .rw[r0];let e1:putr A a (λj=>if j=a then 1 else 0) a a=1:=by unfold putr;rw[if_pos Z,if_pos Z]
   rw[e1,Jw];show YS (sg a * ·) (Zl λi j _ _=>?_);change putr A a (λj=>if j=a then 1 else 0) (rotN 0 a<|i+1) (sk a j)=A (sk a i) (sk a j)
   rw[i3];unfold putr;rw[if_neg (by unfold sk;split<;>lia)]
  .rw[r0];let e1:putr A a (λj=>if j=a then 1 else 0) a j=0:=by unfold putr;rw[if_pos Z,if_neg XM]
   rw[e1,QQ,OE]
 rw[top]at e;let h:=YS (sg a * ·) e
 simp only[<-QR]at h;rw[show sg a*sg a=1 by unfold sg;split<;>rfl,VD,VD]at h
 show h.symm
def yW{w:Int}(ha:a<n+1):det (n+1) (λi j=>A i j+w*((if i=a then 1 else 0)*(if j=a then 1 else 0)))=det (n+1) A+w*det n (λi j=>A (sk a i) (sk a j)):=by
 let e:det (n+1) (λi j=>A i j+w*((if i=a then 1 else 0)*(if j=a then 1 else 0)))=det (n+1) (putr A a λj=>w*(λj=>if j=a then 1 else 0) j+A a j):=Zl λi j _ _=>by
  unfold putr;cases h:i=a
  .subst h;rw[if_pos Z,if_pos Z,VD];change A i j+w*(if j=i then 1 else 0)=w*(if j=i then 1 else 0)+A i j
   show Int.add_comm ..
  .rw[if_neg h,if_neg h,OE,QQ,Vi]
 rw[e,yZ ha,yY,iZ ha];lia
def ind(u v i:Nat):(Int):=(if i=u then 1 else 0)-(if i=v then 1 else 0)
def OW(A:Mx)(a b:Nat):(Mx):=λi j=>(A i j+(if i=b then A a j else 0))+(if j=b then A i a+(if i=b then A a a else 0) else 0)
def ZL5(ha:a<n)(hb:b<n)(XM:a≠b):det n (OW A a b)=det n A:=by
 let e1:det n A=det n (putr A b λj=>A b j+1*A a j):=(yX hb ha<|WX XM).symm;obtain⟨R,hR⟩:∃R:Mx,R=putr A b (λj=>A b j+1*A a j):={_,Z};let e2:det n R=det n (putr (λi j=>R j i) b λj=>(λi j=>R j i) b j+1*(λi j=>R j i) a j):=by rw[yX (A:=λi j=>R j i) hb ha (WX XM)];show Nx.symm
 rw[e1,<-hR,e2,<-Nx (A:=putr (λi j=>R j i) b λj=>(λi j=>R j i) b j+1*(λi j=>R j i) a j)];show Zl λi j _ _=>?_;let rv:∀r c,R r c=A r c+(if r=b then A a c else 0):=λr c=>by
  rw[hR];unfold putr;cases h:r=b
  .rw[if_pos h,if_pos h,h];lia
  .rw[if_neg h,if_neg h];lia
 unfold OW;change _=(putr (λi j=>R j i) b λj=>R j b+1*R j a) j i
 unfold putr;cases h:j=b
 .rw[if_pos h,if_pos h,rv,rv,h];cases h2:i=b
  .rw[if_pos h2,if_pos h2];lia
  .rw[if_neg h2,if_neg h2];lia
 .rw[if_neg h,if_neg h];change _=R i j
  rw[rv];lia
def iY{w:Int}(ha:a<n+1)(hb:b<n+1)(XM:a≠b):det (n+1) (λi j=>A i j+w*(ind a b i*ind a b j))=det (n+1) A+w*det n (λi j=>OW A a b (sk a i) (sk a j)):=by
 let e1:=ZL5 (A:=λi j=>A i j+w*(ind a b i*ind a b j)) ha hb XM;let e2:det (n+1) (OW (λi j=>A i j+w*(ind a b i*ind a b j)) a b)=det (n+1) (λi j=>OW A a b i j+w*((if i=a then 1 else 0)*(if j=a then 1 else 0))):=Zl λi j _ _=>by
  let na:¬a=b:=XM;let nb:¬b=a:=WX XM
  unfold OW ind;cases hi:i=b
  .subst hi;cases hj:j=i
   .subst hj;simp[na,nb];lia
   .cases RJ:j=a
    .subst RJ;simp[na,nb,hj];lia
    .simp[na,nb,hj,RJ]
  .cases VH:i=a
   .subst VH;cases hj:j=b
    .subst hj;simp[na,nb];lia
    .cases RJ:j=i
     .subst RJ;simp[na,nb]
     .simp[na,nb,hj,RJ]
   .cases hj:j=b
    .subst hj;simp[na,nb,hi,VH]
    .cases RJ:j=a
     .subst RJ;simp[na,nb,hi,VH]
     .simp[na,nb,hi,VH,hj,RJ]
 rw[<-e1,e2,yW ha,ZL5 ha hb XM]
end My
namespace My
open PySem L2
abbrev Ed:=Nat×Nat×Int
def lapE:(List Ed->Mx)
 |[]=>λ_ _=>0
 |e::E=>λi j=>e.2.2*(ind e.1 e.2.1 i*ind e.1 e.2.1 j)+lapE E i j
def iX(E:List Ed)(e:Ed)(i j:Nat):lapE (E++[e]) i j=lapE E i j+e.2.2*(ind e.1 e.2.1 i*ind e.1 e.2.1 j):=by
 induction E with
 |nil=>show _+0=0+_;lia
 |cons f E ih=>
  change _+lapE (E++[e]) i j=_+lapE E i j+_;rw[ih];lia
def SG(E:List Ed)(z:Int):(Nat×Nat):=((E.S z.j (0,0,0)).1,(E.S z.j (0,0,0)).2.1)
def TZ(E:List Ed):(Ac->Int)
 |[]=>1
 |z::T=>(E.S z.j (0,0,0)).2.2*TZ E T
def iW(E:List Ed)(S T:Ac):TZ E (S++T)=TZ E S*TZ E T:=by
 induction S with
 |nil=>show _=1*_;rw[VD];rfl
 |cons z S ih=>show _*TZ E (S++T)=_*_*_;rw[ih,QR]
def IsT(k:Nat)(E:List Ed)(T:Ac):(Prop):=IsSet E.f T/\T.f=k/\∀i j,i<k+1->j<k+1->Conn (T.R<|SG E) i j
def TW(k:Nat)(E:List Ed)(s:Int):(Prop):=∃L:Ab,L.Nodup/\(∀T,T∈L↔IsT k E T)/\(L.R<|TZ E).sum=s
def IB{E:List Ed}{e:Ed}{z:Int}(h0:0<=z)(h1:z<E⁻¹):(E++[e]).S z.j (0,0,0)=E.S z.j (0,0,0):=by rw[Wv,Wv,Yp J]
def ZA5(E:List Ed)(e:Ed):(E++[e]).S (E.f:Int).j (0,0,0)=e:=by rw[Wv,YO,Ym<|XJ _,Ms];rfl
def Gn{e:Ed}(h:IsSet E.f T):T.R (SG (E++[e]))=T.R (SG E):=VE λz hz=>by
 have:=h.all z hz
 unfold SG;rw[IB this.1 this.2]
def Gm{e:Ed}(h:∀z∈T,0<=z/\z<E⁻¹):TZ (E++[e]) T=TZ E T:=by
 induction T with
 |nil=>rfl
 |cons z T ih=>
  let hz:=h z Yd;change _*TZ (E++[e]) T=_*TZ E T
  rw[IB hz.1 hz.2,ih λy hy=>h y (Yh _ hy)]
def Kr{e:Ed}(h:IsSet E.f T):IsT k (E++[e]) T↔IsT k E T:=by
 let h2:IsSet (E++[e]).f T:=by rw[Xt];show h.up
 constructor
 .rintro⟨_,a,b⟩;exists h,a,by rwa[Gn h]at b
 .rintro⟨_,a,b⟩;exists h2,a,by rwa[Gn h]
def Zm7{e:Ed}(h:IsSet E.f T):(T++[E⁻¹]).R (SG (E++[e]))=T.R (SG E)++[(e.1,e.2.1)]:=by
 rw[YN,Gn h];change _++[SG (E++[e]) E⁻¹]=_
 unfold SG;rw[ZA5]
def sh(a x:Nat):(Nat):=if x<a then x else x-1
def dl(a b x:Nat):(Nat):=if x=a then sh a b else sh a x
def Gk(a y:Nat):sh a (sk a y)=y:=by
 unfold sk;cases h:y<a
 .rw[if_pos h];unfold sh;rw[if_pos h]
 .rw[if_neg h];unfold sh;rw[if_neg J];lia
def IA(a y:Nat):sk a y≠a:=by unfold sk;split<;>lia
def Qr(h:x≠a):sk a (sh a x)=x:=by
 unfold sh;cases c:x<a
 .rw[if_pos c];unfold sk;rw[if_pos c]
 .rw[if_neg c];unfold sk;rw[if_neg J];lia
def Kq(a b y:Nat):dl a b (sk a y)=y:=by unfold dl;rw[if_neg (IA a y),Gk]
def Gj(hx:x≠a)(hy:y≠a)(h:sh a x=sh a y):x=y:=by
 have:=YS (sk a) h
 rwa[Qr hx,Qr hy]at this
def iV(XM:b≠a)(h:dl a b x=dl a b y):x=y\/(x=a/\y=b)\/(x=b/\y=a):=by
 unfold dl at h;cases hx:x=a
 .rw[if_pos hx]at h;cases hy:y=a
  .show .inl (hx.m hy.symm)
  .rw[if_neg hy]at h;show .inr (.inl {hx,(Gj XM hy h).symm})
 .rw[if_neg hx]at h;cases hy:y=a
  .rw[if_pos hy]at h;show .inr (.inr {Gj hx XM h,hy})
  .rw[if_neg hy]at h;show .inl (Gj hx hy h)
def iU(a b:Nat)(XM:b≠a):dl a b a=dl a b b:=by unfold dl;rw[if_pos Z,if_neg XM]
def iT{es:List (Nat×Nat)}{i j:Nat}(XM:b≠a)(c:Conn (es++[(a,b)]) i j):Conn (es.R λe=>(dl a b e.1,dl a b e.2)) (dl a b i) (dl a b j):=by
 induction c with
 |refl i=>show .refl _
 |edge q=>
  rcases Xz.L q with q|q
  .show .edge (YT.U {_,q,Z})
  .let e:=XB.L q;injection e with e1 e2
   rw[e1,e2,iU a b XM];show .refl _
 |symm _ ih=>show .symm ih
 |trans _ _ a b=>show .trans a b
def iS{es:List (Nat×Nat)}{u v:Nat}(XM:b≠a)(c:Conn (es.R λe=>(dl a b e.1,dl a b e.2)) u v):∀i j,dl a b i=u->dl a b j=v->Conn (es++[(a,b)]) i j:=by
 let he:Conn (es++[(a,b)]) a b:=.edge B;let same:∀i j,dl a b i=dl a b j->Conn (es++[(a,b)]) i j:=λi j e=>by
  rcases iV XM e with e|⟨e1,e2⟩|⟨e1,e2⟩
  .rw[e];show .refl _
  .rw[e1,e2];show he
  .rw[e1,e2];show he.symm
 induction c with
 |refl u=>show λi j e1 e2=>same i j (e1.m e2.symm)
 |edge q=>
  intro i j e1 e2;let((x,y),Kv,e):=YT.L q;injection e with x1 x2
  show(same i x<|e1.m x1.symm).m (.trans (.edge<|Yg _ Kv)<|same y j<|x2.m e2.symm)
 |symm _ ih=>show λi j e1 e2=>(ih j i e2 e1).symm
 |@trans x y z _ _ NF RL=>show λi j e1 e2=>(NF i (sk a y) e1<|Kq a b y).m (RL (sk a y) j (Kq a b y) e2)
def Kp{a b x k:Nat}(ha:a<k+1)(hb:b<k+2)(XM:b≠a)(hx:x<k+2):dl a b x<k+1:=by
 unfold dl sh;cases h:x=a
 .rw[if_pos h];split<;>lia
 .rw[if_neg h];split<;>lia
def cdl{a b k:Nat}{es:List (Nat×Nat)}(ha:a<k+1)(hb:b<k+2)(XM:b≠a):(∀i j,i<k+2->j<k+2->Conn (es++[(a,b)]) i j)↔∀i j,i<k+1->j<k+1->Conn (es.R λe=>(dl a b e.1,dl a b e.2)) i j:=by
 constructor
 .intro c i j h1 h2
  have:=iT XM (c (sk a i) (sk a j) (NA h1)<|NA h2)
  rwa[Kq,Kq]at this
 .show λc i j h1 h2=>iS XM (c _ _ (Kp ha hb XM h1)<|Kp ha hb XM h2) i j Z rfl
def RI(a b:Nat)(E:List Ed):(List Ed):=E.R λe=>(dl a b e.1,dl a b e.2.1,e.2.2)
def yV{z:Int}(h0:0<=z)(h1:z<E⁻¹):(RI a b E).S z.j (0,0,0)=(dl a b (E.S z.j (0,0,0)).1,dl a b (E.S z.j (0,0,0)).2.1,(E.S z.j (0,0,0)).2.2):=by unfold RI;rw[Wv,Wv,Yv,Xr oW];rfl
def yU(h:IsSet E.f T):T.R (SG (RI a b E))=(T.R (SG E)).R λe=>(dl a b e.1,dl a b e.2):=by
 rw[OJ];show VE λz hz=>?_
 have:=h.all z hz
 unfold SG;rw[yV this.1 this.2];rfl
def yT(h:∀z∈T,0<=z/\z<E⁻¹):TZ (RI a b E) T=TZ E T:=by
 induction T with
 |nil=>rfl
 |cons z T ih=>
  let hz:=h z Yd;change _*TZ (RI a b E) T=_*TZ E T
  rw[yV hz.1 hz.2,ih λy hy=>h y (Yh _ hy)]
def yS{e:Ed}(ha:a<k+1)(hb:b<k+2)(XM:b≠a)(he:(e.1=a/\e.2.1=b)\/(e.1=b/\e.2.1=a))(h:IsSet E.f T):IsT (k+1) (E++[e]) (T++[E⁻¹])↔IsT k (RI a b E) T:=by
 let hl:(RI a b E).f=E.f:=Yc ..;let hc:(∀i j,i<k+2->j<k+2->Conn ((T++[E⁻¹]).R (SG<|E++[e])) i j)↔∀i j,i<k+2->j<k+2->Conn (T.R (SG E)++[(a,b)]) i j:=by
  rw[Zm7 h];rcases he with ⟨e1,e2⟩|⟨e1,e2⟩
  .rw[e1,e2]
  .rw[e1,e2];exists λc i j x y=>ZQ5<|c i j x y,λc i j x y=>ZQ5<|c i j x y
 let h2:IsSet (E++[e]).f (T++[E⁻¹]):=by rw[Xt];show h.snoc
 constructor
 .rintro⟨_,x,y⟩;exists hl▸h,?_,?_
  .rw[Xt,Yw]at x;lia
  .rw[yU h];show(cdl ha hb XM).L (hc.L y)
 .rintro⟨_,x,y⟩;rw[yU h]at y;exists h2,by rw[Xt,Yw,x],hc.U<|(cdl ha hb XM).U y
def iR{E:List Ed}{e:Ed}(hE:∀f∈E,f.1<k+1/\f.2.1<k+1)(he:e.1=e.2.1)(h:IsSet E.f T):¬IsT k (E++[e]) (T++[E⁻¹]):=by
 rintro⟨_,x,y⟩;rw[Zm7 h]at y;let ND:∀i j,i<k+1->j<k+1->Conn (T.R<|SG E) i j:=λi j hi hj=>(y i j hi hj).lift λf hf=>by
  rcases Xz.L hf with q|q
  .show .edge q
  .rw[XB.L q,he];show .refl _
 let Wq:InN (k+1) (T.R<|SG E):=λf hf=>by
  let(z,hz,rfl):=YT.L hf
  have:=h.all z hz
  unfold SG;rw[Wv,Xr J];show hE _ (JA _)
 let h2:=(IW J Wq).U ND;let h3:=sH _ Wq
 rw[Yc]at h3;rw[Xt,Yw]at x;lia
def iQ{e:Ed}(hE:∀f∈E,f.1<k+1/\f.2.1<k+1)(he:e.1=e.2.1)(h:TW k E s):TW k (E++[e]) s:=by
 let(L,a1,a2,a3):=h;exists L,a1,λT=>?_,?_
 .rw[a2];constructor
  .show λh=>(Kr h.1).U h
  .intro h;let hs:=h.1
   rw[Xt]at hs;rcases jA hs with c|⟨T',c,c2⟩
   .show(Kr c).L h
   .show absurd (c▸h) (iR hE he c2)
 .rw[<-a3];show YS List.sum (VE λT hT=>Gm ((a2 T).L hT).1.all)
def iP(a b:Ac):(a++b).sum=a.sum+b.sum:=by
 induction a with
 |nil=>rw[ON,List.sum_nil,EF]
 |cons x a ih=>rw[Di,CY,CY,ih];lia
def Zw8(w:Int)(l:Ab)(f:Ac->Int):(l.R λT=>f T*w).sum=w*(l.R f).sum:=by
 induction l with
 |nil=>rw[uj,uj,List.sum_nil,QQ]
 |cons x l ih=>rw[Ur,Ur,CY,CY,ih,HJ,OI]
def iO{e:Ed}(ha:a<k+1)(hb:b<k+2)(XM:b≠a)(he:(e.1=a/\e.2.1=b)\/(e.1=b/\e.2.1=a))(h1:TW (k+1) E s1)(h2:TW k (RI a b E) s2):TW (k+1) (E++[e]) (s1+e.2.2*s2):=by
 let(L,a1,a2,a3):=h1;let(M,b1,b2,b3):=h2;let hl:(RI a b E).f=E.f:=Yc ..
 exists L++M.R (·++[E⁻¹]),Wt.U {a1,?_,λx hx y hy c=>?_},λT=>?_,?_
 .show List.E.R _ (λx y h c=>h<|CT c) b1
 .let⟨z,hz,c2⟩:=YT.L hy
  have:=((a2 x).L hx).1.all E⁻¹ (by rw[c,<-c2];simp)
  lia
 .rw[Xz,a2,YT];constructor
  .rintro(h|⟨T',hT,rfl⟩)
   .show(Kr h.1).U h
   .have:=(b2 T').L hT
    show(yS ha hb XM he<|hl▸this.1).U this
  .intro h;let hs:=h.1
   rw[Xt]at hs;rcases jA hs with c|⟨T',c,c2⟩
   .show .inl ((Kr c).L h)
   .show .inr {T',(b2 T').U ((yS ha hb XM he c2).L (c▸h)),c.symm}
 .rw[YN,iP,OJ];let e1:L.R (TZ<|E++[e])=L.R (TZ E):=VE λT hT=>Gm ((a2 T).L hT).1.all
  let e2:M.R (TZ (E++[e])∘(·++[E⁻¹]))=M.R λT=>TZ (RI a b E) T*e.2.2:=VE λT hT=>by
   let hs:IsSet E.f T:=hl▸((b2 T).L hT).1;change TZ (E++[e]) (T++[E⁻¹])=_
   rw[iW,Gm hs.all,yT hs.all];change _*(((E++[e]).S (E.f:Int).j (0,0,0)).2.2*1)=_
   rw[ZA5,Jw]
  rw[e1,e2,a3,Zw8,b3]
def yR(XM:b≠a):ind (dl a b u) (dl a b v) i=ind u v (sk a i)+(if sk a i=b then ind u v a else 0):=by
 let key:∀x:Nat,((if i=dl a b x then 1 else 0:Int))=(if sk a i=x then 1 else 0)+(if sk a i=b then (if a=x then 1 else 0) else 0):=λx=>by
  unfold dl;cases hx:x=a
  .rw[if_pos hx,if_neg<|show ¬sk a i=x from hx▸IA a i,EF];cases h:sk a i=b
   .rw[if_pos h,if_pos hx.symm,if_pos];rw[<-h,Gk]
   .rw[if_neg h,if_neg];intro e;show h (by rw[e,Qr XM])
  .rw[if_neg hx];let e2:(if sk a i=b then (if a=x then 1 else 0:Int) else 0)=0:=by rw[if_neg (WX hx)];split<;>rfl
   rw[e2,Vi];cases h:sk a i=x
   .rw[if_pos h,if_pos];rw[<-h,Gk]
   .rw[if_neg h,if_neg];intro e;show h (by rw[e,Qr hx])
 unfold ind;rw[key u,key v];cases h:sk a i=b
 .rw[if_pos h,if_pos h,if_pos h];lia
 .rw[if_neg h,if_neg h,if_neg h];lia
def ZV9(XM:b≠a)(i j:Nat):∀E:List Ed,lapE (RI a b E) i j=OW (lapE E) a b (sk a i) (sk a j)
 |[]=>by
  change(0:Int)=_;unfold OW lapE;cases h:sk a i=b
  .cases h2:sk a j=b
   .rw[if_pos h,if_pos h2];rfl
   .rw[if_pos h,if_neg h2];rfl
  .cases h2:sk a j=b
   .rw[if_neg h,if_pos h2];rfl
   .rw[if_neg h,if_neg h2];rfl
 |e::E=>by
  let ih:=ZV9 XM i j E;change e.2.2*(ind (dl a b e.1) (dl a b e.2.1) i*ind (dl a b e.1) (dl a b e.2.1) j)+lapE (RI a b E) i j=_
  rw[ih,yR XM,yR XM];unfold OW;change _=(e.2.2*(ind e.1 e.2.1 (sk a i)*ind e.1 e.2.1 (sk a j))+lapE E (sk a i) (sk a j)+(if sk a i=b then e.2.2*(ind e.1 e.2.1 a*ind e.1 e.2.1 (sk a j))+lapE E a (sk a j) else 0))+(if sk a j=b then (e.2.2*(ind e.1 e.2.1 (sk a i)*ind e.1 e.2.1 a)+lapE E (sk a i) a)+(if sk a i=b then e.2.2*(ind e.1 e.2.1 a*ind e.1 e.2.1 a)+lapE E a a else 0) else 0)
  generalize ind e.1 e.2.1 (sk a i)=x;generalize ind e.1 e.2.1 (sk a j)=y;generalize ind e.1 e.2.1 a=z;generalize e.2.2=w;cases h:sk a i=b
  .cases h2:sk a j=b
   .simp only[if_pos h,if_pos h2,HJ,uh];lia
   .simp only[if_pos h,if_neg h2,HJ,uh,Vi,QQ];lia
  .cases h2:sk a j=b
   .simp only[if_neg h,if_pos h2,HJ,uh,Vi,OE];lia
   .simp only[if_neg h,if_neg h2,Vi]
def ZE7(u v i:Nat):ind v u i=- ind u v i:=by unfold ind;lia
def iN{e:Ed}(ha:a<k+1)(hb:b<k+2)(XM:b≠a)(he:(e.1=a/\e.2.1=b)\/(e.1=b/\e.2.1=a)):det (k+1) (lapE (E++[e]))=det (k+1) (lapE E)+e.2.2*det k (lapE (RI a b E)):=by
 let e1:det (k+1) (lapE<|E++[e])=det (k+1) (λi j=>lapE E i j+e.2.2*(ind a b i*ind a b j)):=Zl λi j _ _=>by
  rw[iX];rcases he with ⟨x,y⟩|⟨x,y⟩
  .rw[x,y]
  .rw[x,y,ZE7 a b i,ZE7 a b j,Int.neg_mul_neg]
 let e2:det k (lapE<|RI a b E)=det k (λi j=>OW (lapE E) a b (sk a i)<|sk a j):=Zl λi j _ _=>ZV9 XM i j E;rw[e1,e2];cases hk:b<k+1
 .show iY ha hk (WX XM)
 .let e3:det (k+1) (λi j=>lapE E i j+e.2.2*(ind a b i*ind a b j))=det (k+1) (λi j=>lapE E i j+e.2.2*((if i=a then 1 else 0)*(if j=a then 1 else 0))):=Zl λi j hi hj=>by unfold ind;rw[if_neg (show ¬i=b by lia),if_neg (show ¬j=b by lia),Int.sub_zero,Int.sub_zero]
  let e4:det k (λi j=>OW (lapE E) a b (sk a i)<|sk a j)=det k (λi j=>lapE E (sk a i)<|sk a j):=Zl λi j hi hj=>by
   let h1:=NA (j:=a) hi;let h2:=NA (j:=a) hj
   unfold OW;rw[if_neg (show ¬sk a i=b by lia),if_neg (show ¬sk a j=b by lia),Vi,Vi]
  rw[e3,e4];show yW ha
def Zp5{e:Ed}(he:e.1=e.2.1):lapE (E++[e])=lapE E:=by
 funext i j
 rw[iX,he];unfold ind;rw[Int.sub_self,OE,QQ,Vi]
def rS:∀m k E,E.f=m->(∀e∈E,e.1<k+1/\e.2.1<k+1)->TW k E (det k (lapE E))
 |0,k,E,hm,_=>by
  let rfl:=YV.L hm;cases k with
  |zero=>
   exists [[]],B,λT=>?_,Z;rw[XB];constructor
   .rintro rfl;show⟨IsSet.nil _,Z,λi j hi hj=>by
     have:i=j:=J
     rw[this];show .refl j⟩
   .intro h;show YV.L h.2.1
  |succ k=>
   exists [],.nil,λT=>{λh=>(by cases h),λh=>?_},?_
   .let h1:=h.1.len;let h2:=h.2.1
    rw[Jz]at h1;lia
   .show(ZY7 (i:=0) J λj _=>rfl).symm
 |m+1,k,E,hm,hE=>by
  obtain⟨E',e,rfl⟩:∃E' e,E=E'++[e]:={E.dropLast,E.getLast (λh=>by rw[h]at hm;cases hm),(aL _).symm};let IZ:E'.f=m:=by rw[Xt]at hm;simpa using hm
  let iM:∀f∈E',f.1<k+1/\f.2.1<k+1:=λf hf=>hE f (Yg _ hf);let he:=hE e B
  let ih:=rS m k E' IZ iM;cases hl:e.1=e.2.1
  .rw[Zp5 hl];show iQ iM hl ih
  .obtain⟨k',rfl⟩:∃k',k=k'+1:={k-1,J};obtain⟨a,b,ha,hb,XM,UU⟩:∃a b,a<k'+1/\b<k'+2/\b≠a/\((e.1=a/\e.2.1=b)\/(e.1=b/\e.2.1=a)):=by
    cases c:e.1<k'+1
    .exists e.1,e.2.1,c,he.2,λh=>hl h.symm,.inl ⟨Z,Z⟩
    .exists e.2.1,e.1,J,he.1,hl,.inr ⟨Z,Z⟩
   let RL:=rS m k' (RI a b E') (by unfold RI;rwa[Yc]) λf hf=>by
    let(g,hg,rfl):=YT.L hf
    have:=iM g hg
    exists Kp ha hb XM this.1,Kp ha hb XM this.2
   rw[iN ha hb XM UU];show iO ha hb XM UU ih RL
def UT(ps:Aa)(ws:Ac):(List Ed):=List.zipWith (λp w=>(p.1.j,p.2.j,w)) ps ws
def ZX9(h1:1<=n)(hw:ws.f=ps.f):IsT (n-1).j (UT ps ws) T↔Zg n ps T:=by
 let hl:(UT ps ws).f=ps.f:=by unfold UT;rw[Dl];lia
 let hm:IsSet ps.f T->T.R (SG<|UT ps ws)=XS ps T:=λhs=>VE λz hz=>by
  have:=hs.all z hz
  unfold SG UT;rw[Wv,EN,Xr J,Xr (show z.j<ws.f by lia),Wv,Xr oW];rfl
 unfold IsT Zg;rw[hl];constructor
 .rintro⟨a,b,c⟩;rw[hm a]at c;exists a,J,λi j hi hj=>c i j J J
 .rintro⟨a,b,c⟩;rw[hm a];exists a,J,λi j hi hj=>c i j J J
def yQ(h:∀e∈E,e.2.2=1):∀{T:Ac},(∀z∈T,0<=z/\z<E⁻¹)->TZ E T=1
 |[],_=>rfl
 |z::T,hb=>by
  let hz:=hb z Yd;change(E.S z.j (0,0,0)).2.2*TZ E T=1
  rw[yQ h λy hy=>hb y<|Yh _ hy,Jw,Wv,Xr J];show h _ (JA _)
def iL{l:Ab}{f:Ac->Int}(h:∀T∈l,f T=1):(l.R f).sum=l⁻¹:=by
 induction l with
 |nil=>rfl
 |cons x l ih=>
  rw[Ur,CY,ih λT hT=>h T<|Yh _ hT,h x Yd,YG];lia
def yP(g:Zz n ps)(ws:Ac):∀e∈UT ps ws,e.1<(n-1).j+1/\e.2.1<(n-1).j+1:=λe he=>by
 unfold UT at he;let(i,hi):=YE he;rw[EN]at hi;let g1:=g.1
 cases h1:ps[i]? with
 |none=>rw[h1]at hi;cases hi
 |some p=>
  cases h2:ws[i]? with
  |none=>rw[h1,h2]at hi;cases hi
  |some w=>
   rw[h1,h2]at hi;let rfl:=Ye hi;let(a,b,c,d):=g.2.2.2 p (Xm h1);exists by change p.1.j<_;lia,by change p.2.j<_;lia
def iK(g:Zz n ps){L:Ab}(hL:L.Nodup)(hm:∀l,l∈L↔Zg n ps l):det (n-1).j (lapE (UT ps (List.replicate ps.f 1)))=L⁻¹:=by
 let g1:=g.1;let hw:(List.replicate ps.f (1:Int)).f=ps.f:=YX
 let(M,a1,a2,a3):=rS _ (n-1).j (UT ps<|List.replicate ps.f 1) Z (yP g _);let hl:(UT ps<|List.replicate ps.f 1).f=ps.f:=by unfold UT;rw[Dl,hw];lia
 let w1:∀e∈UT ps (List.replicate ps.f (1:Int)),e.2.2=1:=λe he=>by
  unfold UT at he;let(i,hi):=YE he;rw[EN]at hi;cases h1:ps[i]? with
  |none=>rw[h1]at hi;cases hi
  |some p=>
   cases h2:(List.replicate ps.f (1:Int))[i]? with
   |none=>rw[h1,h2]at hi;cases hi
   |some w=>
    rw[h1,h2]at hi;let rfl:=Ye hi;show vc (Xm h2)
 rw[<-a3,iL λT hT=>yQ w1 ((a2 T).L hT).1.all];let hp:M.Perm L:=(Ul a1 hL).U λl=>by rw[a2,hm,ZX9 g1 hw]
 rw[hp.length_eq]
end My
namespace L2
open PySem PySem.Spec PyProof.Rows
section
variable{X:Cx}
def iJ(K:Ad):(V->V->Hp->VK->Prop):=λx y H Q=>∃p xs i v,x=.ref p/\y=.int i/\SqL K H p xs/\0<=i/\xs[i.j]?=some v/\Q v H
def rR(K:Ad)(hk:X.K=K:=by rfl):CF X (iJ K):=by
 subst hk;intro pins s σ H o i ov iv Q I ro ri h;let(p,xs,j,z,rfl,rfl,hq,h0,he,q):=h;cases ro;let(t,rfl):=ri;let(XW,r,pl,hz):=I.list hq;let(w,ew,Le):=r.get he;let hl:=r.f
 let hn:=Cj;let Xh:=(XF.L he).1
 show wpAny_getItem_list pl.isList h0 J (by simpa using ew) ⟨z,H,I,Le,q⟩
end
end L2
namespace My
open PySem L2
def iI{g:TG}{tb:TS}{CM:Ends}(Kv:xs.f=ys.f)(Pv:Nat->St->Hp->Prop)(h0:Pv 0 σ H)(hl:∀i σ H,i<=xs.f->Pv i σ H->SqL K H a xs/\SqL K H b ys)
  (hs:∀(i:Nat) x y σ H (p:Addr),H p=none->xs[i]?=some x->ys[i]?=some y->Pv i σ H->g ↑p σ (upd H p<|.tup [x,y]) λσ2 H2=>tb {CM with nx:=Pv<|i+1,ct:=Pv<|i+1,bk:=CM.nx} σ2 H2)(hd:∀σ H,Pv xs.f σ H->CM.nx σ H):
  ∃W:Nat->Nat->St->Hp->Prop,(∃m,W 0 m σ H)/\∀i m σ H,W i m σ H->
   ((DU K a b).stop i H/\CM.nx σ H)\/((DU K a b).go i H/\∃N:St->Hp->Prop,(∀σ' H',N σ' H'->∃m',m'<m/\W (i+1) m' σ' H')/\∀x H',(DU K a b).yld i H x H'->g x σ H' λσ2 H2=>tb {CM with nx:=N,ct:=N,bk:=CM.nx} σ2 H2):=by
 exists λi m σ H=>m=xs.f-i/\i<=xs.f/\Pv i σ H,{xs.f,B,Yj _,h0},?_;rintro i m σ H ⟨rfl,hi,p⟩;let(q,q2):=hl i σ H hi p;cases Xh:i<xs.f
 .show .inr {{xs,ys,xs[i],ys[i]'(by lia),q,q2,by simp[Xh],Xr oW},Pv<|i+1,λσ' H' p'=>{xs.f-(i+1),oZ,Z,Xh,p'},λx H' ⟨T,u,v,hT,ex,eH,hu,hv⟩=>?_};subst ex eH;show hs i u v σ H T hT (hu xs q) (hv ys q2) p
 .let e:i=xs.f:=J;subst e;show .inl {{xs,ys,q,q2,.inl<|XJ _},hd σ H p}
structure TabAt(H0:Hp)(r:Addr)(n:Nat)(H:Hp)(ys:List V)(L:Ab):Prop where
 tab:H r=some (.lst ys)
 rows:Bears (LiV r H) ys L
 len:L.f=n
 all:∀l∈L,l.f=n
 nd:ys.Nodup
 new:∀A,V.ref A∈ys->H0 A=none
def TabAt.same(s:Same H H')(h:TabAt H0 r n H ys L):TabAt H0 r n H' ys L:={s _ _ h.tab,h.rows.imp λ_ _ q=>q.same s,h.len,h.all,h.nd,h.new}
def TabAt.at(h:TabAt H0 r n H ys L){i:Nat}(hi:i<n):∃A l,ys[i]?=some ↑A/\L[i]?=some l/\H A=some (.lst (IL l))/\l.f=n/\H0 A=none/\A≠r:=by let hl:=h.len;obtain⟨l,e⟩:∃l,L[i]?=some l:={_,Xr J};let(v,e1,A,rfl,e2,e3):=h.rows.2 i l e;exists A,l,e1,e,e2,h.all l<|Xm e,h.new A<|Xm e1,e3
def TabAt.put(h:TabAt H0 r n H ys L){l l':Ac}(e1:ys[i]?=some ↑A)(e2:L[i]?=some l)(e3:A≠r)(hl:l'.f=n):TabAt H0 r n (upd H A (.lst (IL l'))) ys (L.set i l'):=by
 let hi:=(XF.L e2).1;let Vp:=(XF.L e1).1
 exists by rw[Zb (WX e3)];show h.tab,{by rw[LF];show h.rows.1,λj m em=>?_},by rw[LF];show h.len,λm hm=>?_,h.nd,h.new
 .rw[LI]at em;cases c:i=j
  .subst c;rw[if_pos Z,if_pos hi]at em;let rfl:=Ye em;exists _,e1,A,Z,XT,e3
  .rw[if_neg c]at em;let(v,f1,CL,rfl,f2,f3):=h.rows.2 j m em;exists _,f1,CL,Z,?_,f3;rw[Zb]
   .show f2
   .intro e;rw[e]at f1;show c (En h.nd e1 f1)
 .rcases aG hm with e|e
  .show h.all m e
  .rw[e];show hl
def iH{L:Ab}{l:Ac}(hi:L[i]?=some l)(hj:j<l.f)(a b:Nat):fnL (L.set i (l.set j x)) a b=if a=i/\b=j then x else fnL L a b:=by
 let Vp:=(XF.L hi).1;unfold fnL;cases ha:a=i
 .subst ha;let e1:(L.set a<|l.set j x).S a []=l.set j x:=by rw[Wv,LI,if_pos Z,if_pos Vp];rfl
  let e2:L.S a []=l:=by rw[Wv,hi];rfl
  rw[e1,e2];cases hb:b=j
  .subst hb;rw[if_pos ⟨Z,Z⟩,Wv,LI,if_pos Z,if_pos hj];rfl
  .rw[if_neg λh=>hb h.2,Wv,LI,if_neg<|WX hb,<-Wv]
 .let e1:(L.set i<|l.set j x).S a []=L.S a []:=by rw[Wv,Wv,LI,if_neg (WX ha)]
  rw[e1,if_neg λh=>ha h.1]
def four{A:Mx}{u v:Nat}{w:Int}(XM:u≠v)(a b:Nat){CL C CM E:Mx}(h1:∀a b,CL a b=if a=u/\b=u then A u u+w else A a b)(h2:∀a b,C a b=if a=v/\b=v then CL v v+w else CL a b)(h3:∀a b,CM a b=if a=u/\b=v then C u v-w else C a b)(h4:∀a b,E a b=if a=v/\b=u then CM v u-w else CM a b):E a b=A a b+w*(ind u v a*ind u v b):=by
 let nv:¬v=u:=WX XM;unfold ind;cases x1:a=u
 .subst x1;cases y1:b=a
  .subst y1;simp[h4,h3,h2,h1,XM,nv]
  .cases y2:b=v
   .subst y2;simp[h4,h3,h2,h1,XM,nv];lia
   .simp[h4,h3,h2,h1,XM,nv,y1,y2]
 .cases x2:a=v
  .subst x2;cases y1:b=u
   .subst y1;simp[h4,h3,h2,h1,XM,nv];omega
   .cases y2:b=a
    .subst y2;simp[h4,h3,h2,h1,XM,nv]
    .simp[h4,h3,h2,h1,XM,nv,y1,y2]
  .simp[h4,h3,h2,h1,XM,nv,x1,x2]
def iG{ps:Aa}{ws:Ac}{p:Int×Int}{w:Int}(hp:ps[i]?=some p)(hw:ws[i]?=some w):UT (ps.M (i+1)) (ws.M (i+1))=UT (ps.M i) (ws.M i)++[(p.1.j,p.2.j,w)]:=by
 let h1:=(XF.L hp).1;let h2:=(XF.L hw).1
 unfold UT;rw[YY,YY,hp,hw];rw[List.zipWith_append (by rw[Yf,Yf];grind)];rfl
def Conn.image{f:Nat->Nat}(h:∀e∈es,Conn fs (f e.1) (f e.2))(c:Conn es i j):Conn fs (f i) (f j):=by
 induction c with
 |refl i=>show .refl _
 |edge e=>show h _ e
 |symm _ ih=>show ih.symm
 |trans _ _ NF RL=>show NF.m RL
def iF(g:Zz n ps)(h:IsSet ps.f T)(c:∀i j,i<n.j->j<n.j->Conn (XS ps T) i j):n-1<=T⁻¹:=by
 let g1:=g.1;let Wq:=ZY (ns:=T) g h.all
 let h2:=(IW J Wq).U c;let h3:=sH _ Wq
 rw[show(XS ps T).f=T.f from Yc ..]at h3;lia
end My
namespace L2
open PySem
def PL(t:SetTable):(Prop):=t.place.l.E (·<·)
def Ko{xs:Array Nat}(h:xs.l.E (·<·)){i k a b:Nat}(iE:i<k)(ha:xs[i]?=some a)(hb:xs[k]?=some b):a<b:=by rw[<-YI]at ha hb;let(h1,e1):=XF.L ha;let(h2,e2):=XF.L hb;rw[<-e1,<-e2];show ME.L h i k h1 h2 iE
def iD(h:xs.l.E (·<·)):∀f lo hi,hi-lo<=f->lo<=hi->hi<=xs.t->(∀i v,xs[i]?=some v->i<lo->v<j)->(∀i v,xs[i]?=some v->hi<=i->j<=v)->
  SetTable.below.go xs j f lo hi<=xs.t/\∀i v,xs[i]?=some v->(i<SetTable.below.go xs j f lo hi↔v<j)
 |0,lo,hi,hf,hl,hs,a,b=>by
  let e:lo=hi:=oZ;unfold SetTable.below.go;exists J,λi v hv=>{a i v hv,λhvj=>Nat.lt_of_not_le λhc=>?_}
  have:=b i v hv J
  lia
 |f+1,lo,hi,hf,hl,hs,a,b=>by
  unfold SetTable.below.go;cases c:lo<hi
  .rw[if_pos c];dsimp only;obtain⟨m,hm⟩:∃m,xs[(lo+hi)/2]?=some m:={_,YR J};let em:xs.S ((lo+hi)/2) j=m:=by rw[YB,hm];rfl
   rw[em];cases d:m<j
   .rw[if_pos d];show iD h f _ hi oZ J hs (λi v hv VH=>?_) b;cases e:i=(lo+hi)/2
    .rw[e,hm]at hv;show Ye hv▸d
    .have:=Ko h (show i<(lo+hi)/2 by lia) hv hm
     lia
   .rw[if_neg d];show iD h f lo _ oZ J J a λi v hv VH=>?_;cases e:i=(lo+hi)/2
    .rw[e,hm]at hv
     have:=Ye hv
     lia
    .have:=Ko h (show(lo+hi)/2<i by lia) hm hv
     lia
  .rw[if_neg c];exists oZ,λi v hv=>{a i v hv,λhvj=>Nat.lt_of_not_le λhc=>?_}
   have:=b i v hv J
   lia
def rQ(h:xs.l.E (·<·))(j:Nat):SetTable.below xs j<=xs.t/\∀i v,xs[i]?=some v->(i<SetTable.below xs j↔v<j):=
 iD h xs.t 0 xs.t J (Yj _) (XJ _) (λi v _ h=>absurd h<|Sy _) λi v hv hi=>by rw[Ly hi]at hv;cases hv
def yN(h:xs.l.E (·<·)){i v:Nat}(hv:xs[i]?=some v):SetTable.below xs v=i:=by
 let(h1,h2):=rQ h v;let a:¬i<SetTable.below xs v:=λq=>by have:=(h2 i v hv).L q;lia
 show pJ J (uP λq=>?_);let Xh:=(aI.L hv).1
 obtain⟨u,hu⟩:∃u,xs[SetTable.below xs v]?=some u:={_,YR J};let b:=Ko h q hu hv
 have:=(h2 _ u hu).U b
 lia
def Zl8(h:xs.l.E (·<·)){i v:Nat}(hv:xs[i]?=some v):SetTable.below xs (v+1)=i+1:=by
 let(h1,h2):=rQ h (v+1);let a:=(h2 i v hv).U (Mu v)
 show pJ (uP λq=>?_) a;obtain⟨u,hu⟩:∃u,xs[i+1]?=some u:={_,YR J};let b:=(h2 _ u hu).L q
 have:=Ko h (Mu i) hv hu
 lia
def Zk8(h:xs.l.E (·<·)):SetTable.below xs 0=0:=by let(h1,h2):=rQ h 0;show Nat.le_zero.L (uP λq=>?_);obtain⟨u,hu⟩:∃u,xs[0]?=some u:={_,YR J};show Sy _ ((h2 _ u hu).L q)
def DS(t:SetTable)(j:Nat):(Prop):=t.place[SetTable.below t.place j]?≠some j
def iC(h:PL t)(hn:DS t j):PL (t.put j).1:=by
 let(h1,h2):=rQ h j;let up:∀i v,t.place[i]?=some v->SetTable.below t.place j<=i->j<v:=λi v hv hi=>by
  let a:¬v<j:=λq=>by have:=(h2 i v hv).U q;lia
  let b:v≠j:=λe=>hn (by rw[e]at hv;rwa[yN h hv]);lia
 change(SetTable.insertAt t.place (SetTable.below t.place j) j).l.E (·<·);rw[SetTable.toList_insertAt];let dn:∀x∈t.place.l.M (SetTable.below t.place j),x<j:=λx hx=>by
  let(i,hi):=YE hx;rw[OQ]at hi;split at hi
  .rename_i q;rw[YI]at hi;show(h2 i x hi).L q
  .cases hi
 let ub:∀x∈t.place.l.drop (SetTable.below t.place j),j<x:=λx hx=>by let(i,hi):=YE hx;rw[Su,YI]at hi;show up _ x hi (Nat.le_add_right _ _)
 show YJ.U {Lv (LJ _ _) h,YZ.U {ub,Lv (OG _ _) h},λa ha b hb=>?_};rcases Yi.L hb with e|e
 .rw[e];show dn a ha
 .show Nat.lt_trans (dn a ha) (ub b e)
def yM(h:t.slot j=.empty\/t.slot j=.dummy):DS t j:=λe=>by
 let e2:t.slot j=.live (SetTable.below t.place j):=by unfold SetTable.slot;dsimp only;rw[if_pos (by rw[e];simp)]
 rw[e2]at h;rcases h with h|h<;>cases h
def iw{f:Nat->Int}:∀n p j d,(∀e,p.dummy=some e->DS t e)->SetTable.probe.go t f h n p=some (.empty j d)->DS t j/\∀e,d=some e->DS t e
 |0,p,j,d,_,h=>by cases h
 |n+1,p,j,d,hp,h=>by
  let adv:∀q:SetTable.Probe,(t.advance q).dummy=q.dummy:=λq=>by unfold SetTable.advance;split<;>rfl
  unfold SetTable.probe.go at h;split at h
  .rename_i hs;cases h;exists yM<|.inl hs,hp
  .rename_i hs;show iw n _ j d (λe he=>by rw[adv]at he;cases he;show yM<|.inr hs) h
  .split at h
   .cases h
   .show iw n _ j d (λe he=>hp e<|by rwa[adv]at he) h
def Zj9{b:Bool}(e:t.freeSlot h=some (s,b)):DS t s:=by
 unfold SetTable.freeSlot at e;split at e
 .rename_i j d hp;let(a1,a2):=iw _ _ j d (λe he=>by cases he) hp;let e1:=YS Prod.fst (Ye e)
  dsimp only at e1;rw[<-e1];cases d with
  |none=>show a1
  |some x=>show a2 x rfl
 .cases e
def rP(t:SetTable)(n:Nat):PL (t.standIn n):=by change(Array.range n).l.E (·<·);rw[Array.toList_range];show Dr
def iu(h:PL t)(es:Array (Int×Value))(k:Int)(x:Value):PL (layNew t es k x).2.1/\(layNew t es k x).2.1.led=t.led:=by
 unfold layNew;split
 .rename_i s b e;dsimp only;unfold SetTable.orStandIn;split
  .exists iC h<|Zj9 e,Z
  .exists rP _ _,Z
 .exists rP _ _,Z
def ZD8(h:PL t)(es:Array (Int×Value))(n:Nat):PL (relayAll t es n).2.1/\(relayAll t es n).2.1.led=t.led:=by
 unfold relayAll;split
 .rename_i t' order e;dsimp only;split
  .unfold SetTable.relaid SetTable.laid at e;cases ho:SetTable.layClean (SetTable.sizeAbove n-1) (es.R (·.1)) with
   |none=>rw[ho]at e;cases e
   |some owner=>
    rw[ho]at e;let e1:=YS Prod.fst (Ye e)
    dsimp only at e1;rw[<-e1];exists ?_,Z;change(List.R _<|List.filterMap _ _).C.l.E (·<·)
    rw[List.toList_toArray,MA,List.pairwise_filterMap];show Dr.imp λ{a b} UU x hx y hy=>?_;let ex:x.1=a:=by
     cases q:owner.S a none with
     |none=>rw[q]at hx;cases hx
     |some z=>rw[q]at hx;cases hx;rfl
    let ey:y.1=b:=by
     cases q:owner.S b none with
     |none=>rw[q]at hy;cases hy
     |some z=>rw[q]at hy;cases hy;rfl
    rwa[ex,ey]
  .exists rP _ _,Z
 .exists rP _ _,Z
end L2
namespace L2
open PySem PySem.Spec PyProof.Rows
def SetR(P:Program)(w:World)(h:Heap)(a:Addr)(led:Bool)(S:Int->Bool)(n:Nat):(Prop):=
 ∃o es ep t,h.H a=some o/\o.ExactSet/\o.data=.set es ep t/\ElemsOf (intKind P w) es.l/\(∀z,S z=true↔∃y∈es.l,(intKind P w).is z y.2=true)/\es.t<scanBound/\t.fits es.t=true/\es.t=n/\PL t/\t.led=led
def SetR.at{S:Int->Bool}(q:SetR P w h a led S n)(k:∀o,h.H a=some o->h'.H a=some o):SetR P w h' a led S n:=
 let ⟨o,es,ep,t,ho,r⟩:=q
 {o,es,ep,t,k o ho,r}
section
variable{prog:Program}{w:World}{A:Around}{E:Ae}{s:Shared}
def yL{h:Heap}{o:Obj}{es:Array (Int×Value)}{ep:Nat}{t:SetTable}(ho:h.H a=some o)(hx:o.ExactSet)(hd:o.data=.set es ep t)(fs:Array (Int×Value))(u:SetTable):
  (h.update a<|Obj.putSet fs u).H a=some {o with data:=.set fs (ep+1) u}/\({o with data:=.set fs (ep+1) u}:Obj).ExactSet:=by let q:=OR (Obj.putSet fs u) ho (by rw[putSet_of fs u hd];rfl);rw[putSet_of fs u hd]at q;exists q,hx
def yK{gv:Bool->Sem Unit}(hgv:∀b s1 R,R () s1->wpAny (model prog w) A (gv b) R E s1)
 {o:Obj}{es fs:Array (Int×Value)}{ep:Nat}{t u:SetTable}(ho:s.G.H a=some o)(hx:o.ExactSet)(hd:o.data=.set es ep t)
  {S:Int->Bool}(he:ElemsOf (intKind prog w) fs.l)(hm:∀z,S z=true↔∃y∈fs.l,(intKind prog w).is z y.2=true)(hb:fs.t<scanBound)(hf:u.fits fs.t=true)(hr:PL u){dm:Bool}{R:Option Bool->Shared->Prop}
  (k:∀h',Heap.SameBut a s.G h'->SetR prog w h' a u.led S fs.t->R (some true) {s with heap:=h'}):
  wpAny (model prog w) A (do
   storeSet a fs u
   if (!dm&&u.tooFull)=true then do
    gv (relayAll u fs<|SetTable.grown fs.t).2.2
    storeSet a (relayAll u fs<|SetTable.grown fs.t).1 (relayAll u fs<|SetTable.grown fs.t).2.1
    pure (some true)
   else pure (some true)) R E s:=by
 let(h1,x1):=yL ho hx hd fs u;let b1:=Sv s.G a (Obj.putSet fs u)
 show XU (wpAny_storeSet_of ho hd ?_<|fits_of_scanBound hb);cases c:(!dm&&u.tooFull)=true
 .rw[if_pos c];let p:=relayAll_perm u fs (SetTable.grown fs.t)
  let f:=relayAll_fits u fs (SetTable.grown fs.t);let(r,l):=ZD8 hr fs (SetTable.grown fs.t);generalize relayAll u fs (SetTable.grown fs.t)=oO at p f r l ⊢;let(gs,v,gave):=oO;dsimp only at p f r l ⊢;let ez:gs.t=fs.t:=by rw[<-Yx,p.length_eq,Yx]
  let(h2,x2):=yL h1 x1 Z gs v;show XU (hgv _ _ _<|XU<|wpAny_storeSet_of h1 Z (Yn ?_)<|fits_of_scanBound<|by rwa[ez]);show k _ (b1.m<|Sv _ a _) ⟨_,gs,_,v,h2,x2,Z,he.perm p,λz=>(hm z).m {λzz=>by let(y,hy,q):=zz;show{y,p.mem_iff.U hy,q},λzz=>by let(y,hy,q):=zz;exists y,p.mem_iff.L hy,q},by rw[ez];show hb,f,ez,r,l⟩
 .rw[if_neg c];show Yn (k _ b1 {_,fs,_,u,h1,x1,Z,he,hm,hb,hf,Z,hr,Z})
def yJ{S:Int->Bool}{z:Int}{x:Value}{R:Bool->Shared->Prop}(hz:(intKind prog w).is z x=true)(Pe:x.scannable=true)(hS:SetR prog w s.G a led S n)(room:n+1<scanBound)
  (k:∀h',Heap.SameBut a s.G h'->SetR prog w h' a led (λy=>S y||decide (y=z)) (if S z then n else n+1)->R (!S z) {s with heap:=h'}):
  wpAny (model prog w) A (setAddHashed a x<|(intKind prog w).hash z) R E s:=by
 let(o,es,ep,t,ho,hx,hd,he,hm,hb,hf,hn,hr,hl):=hS;unfold setAddHashed setAddHashedIn;show Sx (XU<|EJ ho hd hf ?_);dsimp only;rw[if_pos (byScan_of Pe hb he)];unfold setAddByScan;show XU (XU<|Pk<|XU<|wpAny_setScan_of hz ho hd hf he ?_);cases hw:List.findIdx? (λy=>(intKind prog w).is z y.2) es.l with
 |some j=>
  let(j1,j2,_):=List.findIdx?_eq_some_iff_getElem.L hw;let yes:S z=true:=(hm z).U {es.l[j],JA j1,j2}
  let fin:=k s.G (Heap.SameBut.refl a s.G) {o,es,ep,t,ho,hx,hd,he,λy=>by rw[pE,HU,<-hm y];show{λq=>q.elim id λq=>q▸yes,.inl},hb,hf,by rw[yes];show hn,hr,hl}
  rw[yes]at fin;dsimp only;show Yn (Yn fin)
 |none=>
  let no:S z=false:=Bool.eq_false_iff.U λq=>by
   let(y,hy,hp):=(hm z).L q
   have:=List.findIdx?_eq_none_iff.L hw y hy
   rw[hp]at this;cases this
  dsimp only;let p:=layNew_perm t es ((intKind prog w).hash z) x
  let f:=layNew_fits t es ((intKind prog w).hash z) x;let(r,l):=iu hr es ((intKind prog w).hash z) x;generalize layNew t es ((intKind prog w).hash z) x=oO at p f r l ⊢;let(fs,u,dm,gave):=oO;dsimp only at p f r l ⊢;rw[RE]at p;let ez:fs.t=n+1:=by rw[<-Yx,p.length_eq,Xt,Yx,hn];rfl
  let gw:∀(b:Bool){s1:Shared}{R':Unit->Shared->Prop},R' () s1->wpAny (model prog w) A (match b with|true=>rule "set.scan.the-table-gave-way" | false=>pure ()) R' E s1:=λb s1 R' q=>by
   cases b
   .show Yn q
   .show Pk q
  let fin:∀h',Heap.SameBut a s.G h'->SetR prog w h' a led (λy=>S y||decide (y=z)) fs.t->R true {s with heap:=h'}:=λh' q1 q2=>by let q:=k h' q1;rw[no]at q;rw[ez]at q2;show q q2
  let yH:=(he.push hz Pe).perm p;let Tv:∀y,(S y||decide (y=z))=true↔∃v∈fs.l,(intKind prog w).is y v.2=true:=mem_push_iff hz hm p
  let rO:fs.t<scanBound:=J;show XU (gw _ ?_);let tail:∀v:SetTable,v.fits fs.t=true->PL v->v.led=led->wpAny (model prog w) A (do
    storeSet a fs v
    if (!dm&&v.tooFull)=true then do
     (match (relayAll v fs<|SetTable.grown fs.t).2.2 with|true=>rule "set.scan.the-table-gave-way" | false=>pure ())
     storeSet a (relayAll v fs<|SetTable.grown fs.t).1 (relayAll v fs<|SetTable.grown fs.t).2.1
     pure (some true)
    else pure (some true)) (λy s1=>wpAny (model prog w) A (match y with|some added=>pure added|none=>setAddHashedIn a x ((intKind prog w).hash z) 99999) R E s1) E s:=λv a1 a2 a3=>
   yK (gv:=λb=>match b with|true=>rule "set.scan.the-table-gave-way" | false=>pure ()) (λb s1 R' q=>gw b q) ho hx hd yH Tv rO a1 a2 λh' q1 q2=>Yn (fin h' q1<|a3▸q2)
  split
  .show XU ?_;rw[hashByValue_scannable 8 Pe];show Yn ?_;split
   .show tail u f r (l.m hl)
   .show tail _ (SetTable.fits_plain_off f) r (l.m hl)
  .show XU (Yn ?_);rw[if_pos Z];show tail u f r (l.m hl)
end
section
variable{prog:Program}{w:World}{A:Around}{R:Result->Shared->Prop}{I:Addr}{fp wr:List Addr}{G:Array GenState->Array GenState->Prop}{n:Nat}{P:Nat->Value->Prop}{St:Nat->Shared->Prop}
def Zr7(W:WalksS prog w A.in1 I fp wr G n P St)(b:Addr)(Iy:b∉fp)(val:Nat->Int)(hv:∀i v,P i v->∃t,v=.int (val i) t)(hn:n+1<scanBound):
  ∀k i s,n-i=k->i<=n->St i s->SetR prog w s.G b led (λz=>(firstMet val i).any (· == z)) (firstMet val i).f->
   (∀s',Moved (b::wr) G s s'->SetR prog w s'.G b led (λz=>(firstMet val n).any (· == z)) (firstMet val n).f->R (.ok<|.ret .none) s')->
   codeAny (model prog w) A (.builtin "set.update.loop" {[.ref b,.ref I],[]}) R s
 |0,i,s,hk,hi,st,hS,q=>by
  let e:i=n:=oZ;subst e;show QS F.entry_set_update_loop ?_;rw[JD pP _];change wpAny _ A.in1 (pyNext ↑I >>= _) _ _ s
  show XU (W.done s _ _ st λs1 m=>?_);change wpAny _ A.in1 (ret Value.none) _ _ s1
  show Yn (q s1 (m.mono λc hc=>.tail _ hc)<|hS.at λo ho=>m.G b o (λhc=>Iy<|W.sub _ hc) ho)
 |k+1,i,s,hk,hi,st,hS,q=>by
  let Xh:i<n:=oZ;show QS F.entry_set_update_loop ?_;rw[JD pP _];change wpAny _ A.in1 (pyNext ↑I >>= _) _ _ s
  show XU (W.item i s _ _ Xh st λv s1 hP RQ m=>?_);let(t,rfl):=hv i v hP;let IF:=hS.at (h':=s1.G) λo ho=>m.G b o (λhc=>Iy<|W.sub _ hc) ho
  change wpAny _ A.in1 (holding [Value.int (val i) t] (setAdd b<|.int (val i) t) >>= _) _ _ s1;show XU (Sx ?_);unfold setAdd;show Sx (XU<|(intKind prog w).pyHash (k:=val i) (intKind_is _ _ _ _) ?_);let fm:=firstMet_length_le val i
  show yJ (s:={s1 with toks:=s1.toks+1}) (intKind_is _ _ _ _) Z IF J λh2 sb Bm=>?_;let hS3:SetR prog w h2 b led (λz=>(firstMet val<|i+1).any (· == z)) (firstMet val<|i+1).f:=by
   let e1:(λz=>(firstMet val<|i+1).any (· == z))=λy=>((firstMet val i).any (· == y)||decide (y=val i)):=funext λy=>by rw[firstMet_succ,step_any]
   rwa[e1,firstMet_succ,step_length]
  let kept:∀c o,c≠b->s1.G.H c=some o->h2.H c=some o:=λc o hc e=>(sb.2 c hc).m e;show Yn {LB pP _,Zr7 W b Iy val hv hn k (i+1) _ oZ Xh (W.frame _ s1 _ _ RQ (TN _) λc hc o e=>kept c o (λe'=>Iy<|e'▸hc) e) hS3 λs2 m2 iq=>?_};show q s2 (Moved.m W.gtrans ((m.mono λc hc=>.tail _ hc).then_heap (TN _) λc o hc e=>kept c o (λe'=>hc<|e'▸.head _) e) m2) iq
end
section
variable{prog:Program}{w:World}{A:Around}{E:Ae}{s:Shared}
def Iw(w:World):(Obj):={cls:=.type "set",dict:=none,data:=.set #[] 0 (.fresh 0 0<|!w.params.followText "set-order")}
def ik(a:Value){Q:Ae}(k:Q (.ref (~~~s)) {s with heap:=s.G.push (Iw w)}):
  codeAny (model prog w) A (.call (.builtin "set.__new__") {[.type "set",a],[]}) (wants Q E) s:=by
 show codeAny_of_tree ?_;change wpAny _ A.in1 (checkBuiltinCall "set.__new__" {[.type "set",a],[]} >>= λ_=>again<|.builtin "set.__new__" {[.type "set",a],[]}) _ _ s
 show XU (Lu (F.newCall_set_1 a)<|Yn ⟨LB F.plain_set_new _,QS F.entry_set_new ?_⟩);rw[JD F.plain_set_new _];let Ai:=sub_set_self
 unfold Builtin.«set.__new__» Builtin.Frozenset.newClass;let(hp,g,d,tk,os):=s;dsimp only
 wp_walk
 show Qg (Yn ?_);simp only[newObj];show XU (wpAny_alloc<|Yn<|Yn k)
def ZE8(e:h.H a=some (Iw w)):SetR prog w h a (!w.params.followText "set-order") (λz=>(firstMet (λ_=>0) 0).any (· == z)) 0:=by exists _,#[],0,_,e,⟨Z,Z,Z⟩,Z,λy hy=>(by cases hy),λz=>{λq=>(by cases q),λzz=>by let(y,hy,_):=zz;show(by cases hy)},oY,by simp[SetTable.fits,SetTable.fresh,SetTable.fill],Z,.nil,Z
def ij{h0:Heap}{Q:Ae}(hh:A.handled=none)(Km:h0.H b=some (Iw w))(hl:h0.IsList l items)(XM:l≠b)(hi:IntsAre items.l ns)(hn:items.t+1<scanBound)
  (k:∀h' tk,SetR prog w h' b (!w.params.followText "set-order") (λz=>(firstMet (λi=>ns.S i 0) items.t).any (· == z)) (firstMet (λi=>ns.S i 0) items.t).f->(∀c o,c≠b->h0.H c=some o->h'.H c=some o)->Q .none {s with heap:=h',toks:=tk}):
  wpAny (model prog w) A.in1 (Builtin.«set.__init__» {[.ref b,.ref l],[]}) (λfin s'=>match fin with | .done f=>wants Q E (.ok f) s' | .again c'=>c'.quiet=true/\codeAny (model prog w) A c' (wants Q E) s') (λe s'=>wants Q E (.error e) s') {s with heap:=h0}:=by
 let hT:Shared.TypeIs {s with heap:=h0} ↑b "set":={_,Km,Z};let Nw:=hl
 let((ocls,odict,odata,ig),QJ,Nv,nl,hdl):=hl;simp only at Nv hdl;subst Nv hdl;let q1:=F.sub_list_set
 let q2:=F.sub_list_frozenset;let q3:(Value.type "list" == Value.type "dict")=false:=oY
 unfold Iw at Km;unfold Builtin.«set.__init__» noKeywords Builtin.Frozenset.updateFrom;generalize hPI:pyIter=PI
 wp_walk
 subst hPI;show pD Nw ?_;show XU (uw ?_);let ie:l<h0.objs.t:=Yt QJ
 let ltb:b<h0.objs.t:=Yt Km;let bf:b∉[h0.objs.t,l]:=λq=>by
  rcases Yi.L q with e|e
  .show YF ltb e
  .show XM (XB.L e).symm
 show Zr7 ((Walks.list (A:=A.in1.in1) (by simp[hh]) _ l (YF ie) items).toS) b bf (led:=!w.params.followText "set-order") (λi=>ns.S i 0) (λi v hv=>IntsAre.int_at hi i v<|by rw[YI];show hv) hn (items.t-0) 0 _ J (Yj _)
  {{_,Yr _ Z,Z,Z},Nw.push _} ?_ ?_
 .show ZE8 (WY _ Km)
 .rintro⟨h',g',d',tk',nG⟩ m hS;let e1:g'=s.gens:=m.gens
  let e2:d'=s.drawn:=m.drawn;let e3:nG=s.os:=m.os
  subst e1 e2 e3;change wpAny _ _ _ _ _ _
  show Yn ?_;change wpAny _ _ (ret Value.none) _ _ _
  show Yn (k h' tk' hS λc o hc e=>m.G c o (λq=>?_)<|WY _ e);rcases Yi.L q with e'|e'
  .show hc e'
  .show YF (Yt e) (XB.L e')
set_option maxRecDepth 100000 in
set_option maxHeartbeats 3000000 in
def ic{Q:Ae}(hh:A.handled=none)(hl:s.G.IsList l items)(hi:IntsAre items.l ns)(hn:items.t+1<scanBound)
  (k:∀h' tk,SetR prog w h' (~~~s) (!w.params.followText "set-order") (λz=>(firstMet (λi=>ns.S i 0) items.t).any (· == z)) (firstMet (λi=>ns.S i 0) items.t).f->(∀c o,s.G.H c=some o->h'.H c=some o)->Q (.ref (~~~s)) {s with heap:=h',toks:=tk}):
  wpAny (model prog w) A (call (.type "set") [.ref l]) Q E s:=by
 let(c,tl,hmro):=Jx.mro;let a1:=Jx.made
 let a2:=Jx.sub;let a3:=Jx.notType
 let a4:=Jx.canCreate;let a5:=F.typeCall_set_1 ↑l
 show CQ (codeAny_of_tree ?_);change wpAny _ _ (callAny (.type "set") _) _ _ _
 show Yn {uL _ D,QS F.entry_type_call ?_};rw[Around.under_plain (weight_type_call_type "set" [.ref l] []) Z]
 repeat any_goals first|assumption|wp_step
 show Jy (ik ↑l (E:=E) (Q:=λob s1=>ob=.ref (~~~s)/\s1={s with heap:=s.G.push (Iw w)}) ⟨Z,Z⟩) λr s1 hr=>?_
 match r,hr with
 | .error e,hr=>show hr
 | .ok (.ret ob),hr=>
  let(rfl,rfl):=hr;let Km:(s.G.push<|Iw w).H (~~~s)=some (Iw w):=Yr _ rfl
  let hT:Shared.TypeIs {s with heap:=s.G.push (Iw w)} (.ref (~~~s)) "set":={_,Km,Z};let a6:=Jx.init.Y
  let a7:=Jx.init.bind (.ref (~~~s))
  repeat any_goals first|assumption|wp_step
  let ie:l<(~~~s):=by let(_,e,_):=hl;show Yt e
  show Jy (codeAny_call_builtin (R:=wants (λr s2=>r=.none/\Q (.ref (~~~s)) s2) E) Jx.init.plain F.entry_set_init<|check_set_init_1 hT<|ij (A:=_) (s:=s) ?_ Km (hl.push _) (YF ie) hi hn λh' tk hS kp=>{Z,k h' tk hS λc o e=>kp c o (YF<|Yt e)<|WY _ e}) λr2 s2 Vs=>?_
  .simp[hh]
  .match r2,Vs with
   | .error e,Vs=>show Vs
   | .ok (.ret v),Vs=>
    let(rfl,q):=Vs
    repeat any_goals first|assumption|wp_step
end
def ZZ6:Manifest.owners.Y (String.ofList ['r','o','t','a','r','e','t','i','_','t','e','s'].reverse)=some Manifest.sig_set_iterator:=by kernel_rfl
def WT:PySem.Slot "set_iterator" "__next__" "set_iterator.__next__":=
 .of (owner:="set_iterator") (n:="__next__") (by rw[EH,EL];kernel_rfl) D D D
  (by first|show .inl D|show .inr D) (by rw[ur];kernel_rfl)
def rN:entryFor table "set_iterator.__next__"=some Builtin.«set_iterator.__next__»:=entryFor_of_tree o4
def rM(a:Value):argsOk "set_iterator.__next__" {[a],[]}:=by unfold argsOk;rw[signature?_of (id:="set_iterator.__next__") (n:=['_','_','t','x','e','n','_','_']) (o:=['r','o','t','a','r','e','t','i','_','t','e','s']) o4 ZZ6];kernel_rfl
def ZH9:PySem.Slot "set_iterator" "__iter__" "set_iterator.__iter__":=
 .of (owner:="set_iterator") (n:="__iter__") (by rw[EH,EL];kernel_rfl) D D D
  (by first|show .inl D|show .inr D) (by rw[ur];kernel_rfl)
def h8(a:Value):argsOk "set_iterator.__iter__" {[a],[]}:=by unfold argsOk;rw[signature?_of (id:="set_iterator.__iter__") (n:=['_','_','r','e','t','i','_','_']) (o:=['r','o','t','a','r','e','t','i','_','t','e','s']) o4 ZZ6];kernel_rfl
def h7:entryFor table "set_iterator.__iter__"=some Builtin.«dict_keyiterator.__iter__»:=
 entryFor_alias (id':="dict_keyiterator.__iter__") o4 (by first|rfl|decide +kernel|(unfold String.splitOn;simp +decide [String.splitOnAux])) D o4
def g9:Manifest.owners.Y (String.ofList ['t','e','s'].reverse)=some Manifest.sig_set:=by kernel_rfl
def ZE9:PySem.Slot "set" "__iter__" "set.__iter__":=
 .of (owner:="set") (n:="__iter__") (by rw[EH,EL];kernel_rfl) D D D
  (by first|show .inl D|show .inr D) (by rw[ur];kernel_rfl)
def g8(a:Value):argsOk "set.__iter__" {[a],[]}:=by unfold argsOk;rw[signature?_of (id:="set.__iter__") (n:=['_','_','r','e','t','i','_','_']) (o:=['t','e','s']) o4 g9];kernel_rfl
def g7:entryFor table "set.__iter__"=some Builtin.«frozenset.__iter__»:=
 entryFor_alias (id':="frozenset.__iter__") o4 (by first|rfl|decide +kernel|(unfold String.splitOn;simp +decide [String.splitOnAux])) D o4
def IsSi(h:Heap)(I a:Addr)(f:Value)(i n ep:Nat):(Prop):=∃o,h.H I=some o/\o.cls=.type "set_iterator"/\o.data=.fields #[f,rawInt (i:Int),.ref a,rawInt (n:Int),rawInt (ep:Int)]
def IsSi.ty{s:Shared}(x:IsSi s.G I a f i n ep):s.TypeIs ↑I "set_iterator":=by let(o,p,q,_):=x;exists o,p,q
def IsSi.keep(x:IsSi h I a f i n ep)(e:∀o,h.H I=some o->h'.H I=some o):IsSi h' I a f i n ep:=by let(o,p,q):=x;exists o,e _ p,q
def SetIs(h:Heap)(a:Addr)(es:Array (Int×Value))(ep:Nat)(t:SetTable):(Prop):=∃o,h.H a=some o/\o.ExactSet/\o.data=.set es ep t
def SetIs.keep(x:SetIs h a es ep t)(e:∀o,h.H a=some o->h'.H a=some o):SetIs h' a es ep t:=by let(o,p,q):=x;exists o,e _ p,q
section
variable{prog:Program}{w:World}{A:Around}{E:Ae}{s:Shared}
def Zh8{Q:Nat->Shared->Prop}(hn:n≠0)(k:∀i,i<n->∀d,Q i {s with drawn:=d}):wpAny M A (choose src n) Q E s:=
 λΓ p _=>{hn,k _ (Nat.mod_lt _<|Nat.pos_of_ne_zero hn) _}
def Gi{α:Type}:∀{l:List α}{i:Nat}{y:α},l[i]?=some y->(y::l.eraseIdx i).Perm l
 |[],_,_,h=>by simp at h
 |x::l,0,y,h=>by let rfl:x=y:=Ye h;show .rfl
 |x::l,i+1,y,h=>(List.Perm.swap x y<|l.eraseIdx i).m ((Gi (l:=l) (i:=i) h).cons x)
def ZW7{α:Type}:∀(n:Nat)(xs:List α)(s:Shared)(Q:List α->Shared->Prop),n=xs.f->(∀ys d,ys.Perm xs->Q ys {s with drawn:=d})->wpAny M A (drawOrder n xs) Q E s
 |0,xs,s,Q,h,k=>by let e:xs=[]:=YV.L h.symm;subst e;show Yn (k [] s.drawn .rfl)
 |n+1,[],s,Q,h,k=>by cases h
 |n+1,x::xs,s,Q,h,k=>by change wpAny M A (choose .order (x::xs).f >>= _) Q E s;show XU (Zh8 B λi hi d=>?_);obtain⟨y,hy⟩:∃y,(x::xs)[i]?=some y:={_,Xr hi};rw[hy];dsimp only;show XU (ZW7 n ((x::xs).eraseIdx i) _ _ (by rw[aK hi];lia) λys d' hp=>Yn<|k (y::ys) d' ?_);show(hp.cons y).m (Gi hy)
def Ze5{α:Type}{f:Nat->Nat}:∀(n k:Nat)(l:List α)(out:Array α),n=l.f->(pickOrder.go f n k l out).l.Perm (out.l++l)
 |0,k,l,out,h=>by rw[YV.L h.symm,Ys];show .rfl
 |n+1,k,l,out,h=>by let hi:f k%l.f<l.f:=Nat.mod_lt _ J;obtain⟨y,hy⟩:∃y,l[f k%l.f]?=some y:={_,Xr hi};unfold pickOrder.go;rw[hy];dsimp only;show(Ze5 n (k+1) _ _<|by rw[aK hi];lia).m ?_;rw[RE,YA];show MD _ ?_;show Gi hy
def ZG9{Q:Ae}(hr:IsSi s.G I a f i n ep)(h:Q ↑I s):wpAny (model prog w) A (pyIter ↑I) Q E s:=by
 show wpAny_pyIter_slot hr.ty ZH9 (Uj ZH9 hr.ty h7 ?_<|h8 _);change wpAny _ _ (ret<|.ref I) _ _ s
 show Yn {_,Z,"set_iterator",_,hr.ty,WT.Y,h}
def DR(prog:Program)(w:World)(a:Addr)(es:Array (Int×Value))(ep:Nat)(t:SetTable)(ord:Ag)(sl:Nat->Nat):(Prop):=
 ∀A E s i Q,SetIs s.G a es ep t->i<=ord.f->Q ((ord[i]?).R λx=>(x,sl<|i+1)) s->wpAny (model prog w) A (setNext a (sl i) i ep) Q E s
def g6{sl:Nat->Nat}{i:Nat}{x:Value}{Q:Option Value->Shared->Prop}(hN:DR prog w a es ep t ord sl)(hS:SetIs s.G a es ep t)(hf:t.fits es.t=true)(hi:IsSi s.G I a (rawInt (sl i:Nat)) i es.t ep)(hx:ord[i]?=some x)
  (k:∀h',IsSi h' I a (rawInt (sl (i+1):Nat)) (i+1) es.t ep->Heap.SameBut I s.G h'->Q (some x) {s with heap:=h'}):wpAny (model prog w) A (pyNext<|.ref I) Q E s:=by
 let(o,ho,hc,hd):=id hi;let(oa,Iv,gZ,PK):=id hS;unfold pyNext;show XU (ED<|Lx (name:=Str.ofString "__next__") hi.ty WT<|Uj WT hi.ty rN ?_<|rM _);unfold Builtin.«set_iterator.__next__»;show XU (Lu (a:=(Value.ref I,[])) Z ?_);dsimp only;show XU (uu ho hd ?_);dsimp only[rawInt];show XU (Dj Iv PK hf ?_);rw[if_neg B];rw[YO,YO,YO];show XU (hN _ _ s i _ hS (Pl (XF.L hx).1) ?_);rw[hx];dsimp only[Option.map_some];show XU (EG ho hd B ?_);let TF:=OR (Obj.mapFields λvs=>vs.setIfInBounds 0<|rawInt (sl (i+1):Nat)) ho (uX<|MB hd _)
 show XU (EG TF (MB hd _) B ?_);show Yn {x,Z,Yn<|k _ ⟨_,OR _ TF<|uX<|MB (MB hd _) _,?_,?_⟩<|(Sv ..).m (Sv ..)}
 .rw[pC,pC];show hc
 .rw[MB (MB hd _)];simp;rfl
def gY{sl:Nat->Nat}{Q:Option Value->Shared->Prop}(hh:A.handled=none)(hN:DR prog w a es ep t ord sl)(hS:SetIs s.G a es ep t)(hf:t.fits es.t=true)(hi:IsSi s.G I a (rawInt (sl ord.f:Nat)) ord.f es.t ep)
  (k:∀h',Heap.ExtBut I s.G h'->Q none {s with heap:=h'}):wpAny (model prog w) A (pyNext<|.ref I) Q E s:=by
 let(o,ho,hc,hd):=id hi;let(oa,Iv,gZ,PK):=id hS;unfold pyNext;show XU (ED<|Lx (name:=Str.ofString "__next__") hi.ty WT<|Uj WT hi.ty rN ?_<|rM _);unfold Builtin.«set_iterator.__next__»;show XU (Lu (a:=(Value.ref I,[])) Z ?_);dsimp only;show XU (uu ho hd ?_);dsimp only[rawInt];show XU (Dj Iv PK hf ?_);rw[if_neg B];rw[YO,YO,YO];show XU (hN _ _ s ord.f _ hS (XJ _) ?_);rw[VG (XJ _)];dsimp only[Option.map_none];show XU (EG ho hd B ?_);change wpAny _ _ (newExc (.type "StopIteration") [] >>= _) _ _ _
 show XU ?_;simp only[newExc,newTuple];show XU (JC ?_<|by size_fits);show XU (m:=firstArgMember _ _) (Lu (a:=Value.none) (by first|rfl|(simp only[firstArgMember];rfl)) ?_)
 show JC ?_ (by size_fits);simp only[raiseNew];show XU (wpAny_handled ?_);rw[show A.in1.handled=none from hh];show XU (Yn<|wpAny_throw ?_);show XU (Ls (T:="StopIteration") (b:=true) {_,Yr _ Z,Z} isSubtype_stop ?_);show Yn (k _<|(((Sv ..).extBut).push _).push _)
def gX{sl:Nat->Nat}(hh:A.handled=none)(hN:DR prog w a es ep t ord sl)(hf:t.fits es.t=true)(XM:a≠I):
  Walks prog w A I [I,a] [I] ord.f (λi v=>ord[i]?=some v) (λi h=>i<=ord.f/\IsSi h I a (rawInt (sl i:Nat)) i es.t ep/\SetIs h a es ep t) where
 sub:=λb hb=>Yi.U (.inl<|XB.L hb)
 frame:=λ_ _ _ x hk=>{x.1,x.2.1.keep λo e=>hk I B o e,x.2.2.keep λo e=>hk a B o e}
 item:=λi s Q E hi ⟨_,x1,x2⟩ hQ=>by let hx:ord[i]?=some (ord[i]'hi):=Xr hi;show g6 hN x2 hf x1 hx λh' y hs=>hQ _ h' s.toks hx {hi,y,x2.keep λo e=>(hs.2 a XM).m e} λb o hb eo=>hs.extBut b o (λe=>hb<|by simp[e]) eo
 done:=λs Q E zz hQ=>by let(_,x1,x2):=zz;show gY hh hN x2 hf x1 λh' he=>hQ h' s.toks λb o hb eo=>he b o (λe=>hb<|by simp[e]) eo
 self:=λ_ _ _ _ x hQ=>ZG9 x.2.1 hQ
def gW(hf:t.fits es.t=true)(hr:PL t)(hb:w.params.followText "set-order"=false)(hl:t.led=true)(hd:(!t.plain&&decide (es.t>1))=false):
  DR prog w a es ep t (es.l.R (·.2)) (λi=>if i=0 then 0 else (t.place.S (i-1) 0)+1):=by
 intro A E s i Q ⟨o,ho,hx,PK⟩ hi q;let hps:t.place.t=es.t:=by unfold SetTable.fits at hf;simp only[HQ,Qh]at hf;show hf.1
 rw[Yc,Yx]at hi;unfold setNext;show XU (EJ ho PK hf ?_);dsimp only;show XU ?_;unfold setsByText;show XU (Qg<|Yn ?_);change wpAny _ _ (if (w.params.followText "set-order")=true then _ else _) _ _ _
 rw[if_neg (by rw[hb];decide)];change wpAny _ _ (if (!t.plain&&decide (es.t>1))=true then _ else _) _ _ _
 rw[if_neg (by rw[hd];decide)];show XU ?_;change wpAny _ _ (if (!t.led && !es.isEmpty)=true then _ else _) _ _ _
 rw[if_neg (by rw[hl];simp)];show Yn ?_;let eb:SetTable.below t.place (if i=0 then 0 else (t.place.S (i-1) 0)+1)=i:=by
  cases c:i=0
  .rw[if_pos c,c];show Zk8 hr
  .rw[if_neg c];obtain⟨v,hv⟩:∃v,t.place[i-1]?=some v:={_,YR J};let e:t.place.S (i-1) 0=v:=by rw[YB,hv];rfl
   rw[e,Zl8 hr hv];lia
 rw[eb];show Yn ?_;cases c:i<es.t
 .obtain⟨v,hv⟩:∃v,t.place[i]?=some v:={_,YR J};obtain⟨y,hy⟩:∃y,es[i]?=some y:={_,YR c};let e:t.place.S i 0=v:=by rw[YB,hv];rfl
  rw[Yv,YI,hy]at q;rw[hv,hy];simp only[Dg,pT,e,if_neg (Nat.succ_ne_zero i)]at q;show q
 .let e1:es[i]?=none:=Ly J;rw[Yv,YI,e1]at q;rwa[e1]
def ZP8(hf:t.fits es.t=true)(hb:w.params.followText "set-order"=true):
  DR prog w a es ep t ((pickOrder (w.params.setOrder a ep) es).l.R (·.2)) (λ_=>0):=by
 intro A E s i Q ⟨o,ho,hx,PK⟩ hi q;unfold setNext;show XU (EJ ho PK hf ?_);dsimp only;show XU ?_;unfold setsByText;show XU (Qg<|Yn ?_);change wpAny _ _ (if (w.params.followText "set-order")=true then _ else _) _ _ _
 rw[if_pos hb,if_neg B];show XU ?_;unfold setWalk;show XU (EJ ho PK hf ?_);dsimp only;show XU ?_;unfold setsByText;show XU (Qg<|Yn ?_);change wpAny _ _ (if (w.params.followText "set-order")=true then _ else _) _ _ _
 rw[if_pos hb];show XU (Qg<|Yn ?_);rw[Yv,YI,Option.map_map]at q;show Yn q
def IsPl(h:Heap)(b:Addr)(pl:List Nat):(Prop):=∃o n,h.H b=some o/\o.data=.seq (pl.R λ(i:Nat)=>rawInt (i:Int)).C n
def IsPl.keep(x:IsPl h b pl)(e:∀o,h.H b=some o->h'.H b=some o):IsPl h' b pl:=by let(o,n,p,q):=x;exists o,n,e _ p,q
def gV{i j:Nat}{x:Int×Value}{Q:Option Value->Shared->Prop}(hS:SetIs s.G a es ep t)(hf:t.fits es.t=true)(hi:IsSi s.G I a ↑b i es.t ep)(hb:IsPl s.G b pl)(hj:pl[i]?=some j)(hx:es[j]?=some x)
  (k:∀h',IsSi h' I a ↑b (i+1) es.t ep->Heap.SameBut I s.G h'->Q (some x.2) {s with heap:=h'}):wpAny (model prog w) A (pyNext<|.ref I) Q E s:=by
 let(o,ho,hc,hd):=id hi;let(oa,Iv,gZ,PK):=id hS;let(ob,nb,Og,Ru):=hb;unfold pyNext;show XU (ED<|Lx (name:=Str.ofString "__next__") hi.ty WT<|Uj WT hi.ty rN ?_<|rM _);unfold Builtin.«set_iterator.__next__»;show XU (Lu (a:=(Value.ref I,[])) Z ?_);dsimp only;show XU (uu ho hd ?_);dsimp only[rawInt];show XU (Dj Iv PK hf ?_);rw[if_neg B];show XU (RC Og Ru ?_);dsimp only;let e:(pl.R λ(i:Nat)=>rawInt (i:Int)).C[(i:Int).j]?=some (.int (j:Int) 0):=by rw[YO,af,Yv,hj];rfl
 rw[e];dsimp only;rw[YO,YO];show XU ?_;unfold setNextDrawn;show XU (EJ Iv PK hf ?_);dsimp only;rw[if_neg B,hx];show Yn ?_;show XU (EG ho hd B ?_);show Yn {x.2,Z,Yn<|k _ ⟨_,OR _ ho<|uX<|MB hd _,?_,?_⟩<|Sv ..}
 .rw[pC];show hc
 .rw[MB hd];simp;rfl
def gU{Q:Option Value->Shared->Prop}(hh:A.handled=none)(hS:SetIs s.G a es ep t)(hf:t.fits es.t=true)(hi:IsSi s.G I a ↑b pl.f es.t ep)(hb:IsPl s.G b pl)
  (k:∀h',Heap.ExtBut I s.G h'->Q none {s with heap:=h'}):wpAny (model prog w) A (pyNext<|.ref I) Q E s:=by
 let(o,ho,hc,hd):=id hi;let(oa,Iv,gZ,PK):=id hS;let(ob,nb,Og,Ru):=hb;unfold pyNext;show XU (ED<|Lx (name:=Str.ofString "__next__") hi.ty WT<|Uj WT hi.ty rN ?_<|rM _);unfold Builtin.«set_iterator.__next__»;show XU (Lu (a:=(Value.ref I,[])) Z ?_);dsimp only;show XU (uu ho hd ?_);dsimp only[rawInt];show XU (Dj Iv PK hf ?_);rw[if_neg B];show XU (RC Og Ru ?_);dsimp only;let e:(pl.R λ(i:Nat)=>rawInt (i:Int)).C[(pl.f:Int).j]?=none:=by rw[YO,af];show VG B
 rw[e];dsimp only;show XU (EG ho hd B ?_);let TF:=OR (Obj.mapFields λvs=>vs.setIfInBounds 0<|rawInt 0) ho (uX<|MB hd _)
 show XU (EG TF (MB hd _) B ?_);change wpAny _ _ (newExc (.type "StopIteration") [] >>= _) _ _ _
 show XU ?_;simp only[newExc,newTuple];show XU (JC ?_<|by size_fits);show XU (m:=firstArgMember _ _) (Lu (a:=Value.none) (by first|rfl|(simp only[firstArgMember];rfl)) ?_)
 show JC ?_ (by size_fits);simp only[raiseNew];show XU (wpAny_handled ?_);rw[show A.in1.handled=none from hh];show XU (Yn<|wpAny_throw ?_);show XU (Ls (T:="StopIteration") (b:=true) {_,Yr _ Z,Z} isSubtype_stop ?_);show Yn (k _<|((((Sv ..).m (Sv ..)).extBut).push _).push _)
def gT(hh:A.handled=none)(hp:pl.Perm (List.range es.t))(hf:t.fits es.t=true)(XM:a≠I)(KA:b≠I):
  Walks prog w A I [I,a,b] [I] pl.f (λi v=>(pl.filterMap λj=>(es[j]?).R (·.2))[i]?=some v) (λi h=>i<=pl.f/\IsSi h I a ↑b i es.t ep/\SetIs h a es ep t/\IsPl h b pl) where
 sub:=λc hc=>Yi.U (.inl<|XB.L hc)
 frame:=λ_ _ _ x hk=>{x.1,x.2.1.keep λo e=>hk I B o e,x.2.2.1.keep λo e=>hk a B o e,x.2.2.2.keep λo e=>hk b B o e}
 item:=λi s Q E hi ⟨_,x1,x2,x3⟩ hQ=>by
  let hj:pl[i]?=some (pl[i]'hi):=Xr hi;let Xh:=YW.L (hp.mem_iff.L<|Xm hj)
  let hx:es[pl[i]'hi]?=some (es[pl[i]'hi]'Xh):=YR Xh;let fm:∀(l:List Nat),(∀j∈l,j<es.t)->l.filterMap (λj=>(es[j]?).R (·.2))=l.R λj=>(es.S j (0,.none)).2:=λl hl=>by
   induction l with
   |nil=>rfl
   |cons y l ih=>
    let hy:=hl y Yd;rw[uU,Ur,ih λj h=>hl j<|Yh _ h,YR hy,YB,YR hy];rfl
  let hv:(pl.filterMap λj=>(es[j]?).R (·.2))[i]?=some (es[pl[i]'hi]'Xh).2:=by rw[fm pl λj hj=>YW.L<|hp.mem_iff.L hj,Yv,hj,Dg,YB,hx];rfl
  show gV x2 hf x1 x3 hj hx λh' y hs=>hQ _ h' s.toks hv {hi,y,x2.keep λo e=>(hs.2 a XM).m e,x3.keep λo e=>(hs.2 b KA).m e} λc o hc eo=>hs.extBut c o (λe=>hc<|by simp[e]) eo
 done:=λs Q E zz hQ=>by let(_,x1,x2,x3):=zz;show gU hh x2 hf x1 x3 λh' he=>hQ h' s.toks λc o hc eo=>he c o (λe=>hc<|by simp[e]) eo
 self:=λ_ _ _ _ x hQ=>ZG9 x.2.1 hQ
end
section
variable{prog:Program}{w:World}{A CL:Around}{E:Ae}{s:Shared}
def SetIs.ty(x:SetIs s.G a es ep t):s.TypeIs ↑a "set":=by let(o,p,q,_):=x;exists o,p,q.1
def gS{Q:Ae}(hh:A.handled=none)(hS:SetIs s.G a es ep t)(hf:t.fits es.t=true)(hr:PL t)(hl:t.led=!w.params.followText "set-order")(hz:es.t<=sizeLine)
  (k:∀(I:Addr)(h':Heap) d (ord:Ag) (fp:List Addr) (St:Nat->Heap->Prop),ord.Perm (es.l.R (·.2))->Walks prog w A I fp [I] ord.f (λi v=>ord[i]?=some v) St->St 0 h'->(∀b∈fp,b<h'.objs.t/\(b=a\/(~~~s)<=b))->I∈fp->(~~~s)<=I->(∀c o,s.G.H c=some o->h'.H c=some o)->Q ↑I {s with heap:=h',drawn:=d}):
  wpAny (model prog w) CL (pyIter<|.ref a) Q E s:=by
 let(o,ho,hx,hd):=id hS;let Iu:a<(~~~s):=Yt ho
 show wpAny_pyIter_slot hS.ty ZE9 (Uj ZE9 hS.ty g7 ?_<|g8 _);unfold Builtin.«frozenset.__iter__»;show XU (Lu (a:=a) rfl ?_);show XU ?_;unfold Builtin.Frozenset.sizeOf;show XU (Dj ho hd hf<|Yn ?_);show XU ?_;unfold setDrawn;show XU (EJ ho hd hf ?_);dsimp only;show XU ?_;unfold setsByText;show XU (Qg<|Yn<|Yn ?_);let num:∀ord sl,sl 0=0->DR prog w a es ep t ord sl->ord.Perm (es.l.R (·.2))->wpAny (model prog w) CL.in1 (pure (rawInt 0) >>= λfirst=>setEpoch a >>= λe=>newFields "set_iterator" [first,rawInt 0,.ref a,rawInt (es.t:Int),rawInt (e:Int)] >>= λit=>ret it)
   (λfin s'=>∃v,fin=Fin.done (Flow.ret v)/\∃T' r,s'.TypeIs v T'/\typeLookup (Value.type T') (Str.ofString "__next__")=pure (some r)/\Q v s') E s:=λord sl h0 hN hp=>by
  show XU (Yn<|XU<|wpAny_setEpoch_of ho hd hf<|XU ?_);unfold newFields;show JC ?_ (by size_fits);let hI:IsSi (s.G.push {cls:=.type "set_iterator",data:=.fields [rawInt 0,rawInt 0,.ref a,rawInt (es.t:Int),rawInt (ep:Int)].C}) (~~~s) a (rawInt (sl 0:Nat)) 0 es.t ep:={_,Yr _ Z,Z,by rw[h0];rfl}
  show Yn {_,Z,"set_iterator",_,IsSi.ty (s:={s with heap:=_}) hI,WT.Y,?_};let ne:a≠(~~~s):=YF Iu
  show k _ _ s.drawn ord _ _ hp (gX hh hN hf ne) {Yj _,hI,hS.keep λo e=>WY _ e} (λb hb=>?_) B (XJ _) λc o e=>WY _ e;rw[LC];rcases Yi.L hb with e|e
  .rw[e];exists Mu _,.inr<|XJ _
  .rw[XB.L e];exists Sr Iu,.inl Z
 cases hb:w.params.followText "set-order"=true
 .rw [if_neg (by change ¬(!w.params.followText "set-order" && _)=true;rw[hb];simp)];show num _ (λ_=>0) Z (ZP8 hf hb) ?_
  have:=Ze5 (f:=w.params.setOrder a ep) es.t 0 es.l #[] (by rw[Yx])
  show this.R _
 .let Oh:w.params.followText "set-order"=false:=by simpa using hb
  rw[Oh]at hl;cases c:(!t.plain&&decide (es.t>1))=true
  .rw [if_pos (by change(!w.params.followText "set-order" && (!t.plain&&decide (es.t>1)))=true;rw[Oh,c];rfl)];show XU (ZW7 es.t (List.range es.t) s _ (by rw[Mz]) λpl d hp=>?_);let UG:pl.f=es.t:=by rw[hp.length_eq,Mz]
   show XU (wpAny_newTuple ?_<|by rwa[Yc,UG]);let hoS:∀(h:Heap) o,h.H a=some o->(h.push {cls:=.type "tuple",data:=.seq (List.R (λi=>rawInt ((i:Nat):Int)) pl).C}).H a=some o:=λh o e=>WY _ e
   show XU (wpAny_setEpoch_of (hoS s.G o ho) hd hf<|XU ?_);unfold newFields;show JC ?_ (by size_fits);let ne:a≠(~~~s):=YF Iu
   generalize gR:s.G.push {cls:=.type "tuple",data:=.seq (List.R (λi=>rawInt ((i:Nat):Int)) pl).C}=h1;let s1:h1.objs.t=(~~~s)+1:=by rw[<-gR];show LC ..
   let yG:∀c o,s.G.H c=some o->h1.H c=some o:=λc o e=>by rw[<-gR];show WY _ e
   let Kl:IsPl h1 (~~~s) pl:=by rw[<-gR];exists _,0,Yr _ Z,Z
   let hI:IsSi (h1.push {cls:=.type "set_iterator",data:=.fields [Value.ref (~~~s),rawInt 0,.ref a,rawInt (es.t:Int),rawInt (ep:Int)].C}) h1.objs.t a (.ref (~~~s)) 0 es.t ep:={_,Yr _ Z,Z,Z};show Yn {_,Z,"set_iterator",_,IsSi.ty (s:={s with heap:=_,drawn:=d}) hI,WT.Y,?_};let Nu:(pl.filterMap λj=>(es[j]?).R (·.2)).Perm (es.l.R (·.2)):=by show(hp.filterMap _).m ?_;rw[<-filterMap_getElem?_range es,List.map_filterMap]
   let QJ:(pl.filterMap λj=>(es[j]?).R (·.2)).f=pl.f:=by rw[Nu.length_eq,Yc,Yx,UG]
   let W:=gT (prog:=prog) (w:=w) (A:=A) (I:=h1.objs.t) (a:=a) (b:=(~~~s)) (es:=es) (ep:=ep) (t:=t) hh hp hf (by rw[s1];show YF<|Sr Iu) (by rw[s1];show YF<|Mu _);rw[<-QJ]at W;show k _ _ d _ _ _ Nu W {Yj _,hI,hS.keep λo e=>WY _<|yG _ o e,Kl.keep λo e=>WY _ e} (λb hb=>?_) B (by rw[s1];show TN _) λc o e=>WY _ (yG c o e);rw[LC,s1];rcases Yi.L hb with e|e
   .rw[e,s1];exists Mu _,.inr<|TN _
   .rcases Yi.L e with e|e
    .rw[e];exists Sr<|Sr Iu,.inl Z
    .rw[XB.L e];exists Sr<|Mu _,.inr<|XJ _
  .let c':(!t.plain&&decide (es.t>1))=false:=by simpa using c
   rw[if_neg (by change ¬(!w.params.followText "set-order" && (!t.plain&&decide (es.t>1)))=true;rw[c'];simp)];show num _ _ Z (gW hf hr Oh hl c') .rfl
end
def gQ:typeLookup (.type "set") "__len__"=pure (some (.builtin "set.__len__")):=by rw[EH,EL];kernel_rfl
section
variable{prog:Program}{w:World}{A:Around}{E:Ae}{s:Shared}
def gP{r:Addr}{Q:Bool->Shared->Prop}(hT:s.TypeIs ↑r "set")(h:Q false s):wpAny (model prog w) A (Builtin.List.listLengthHint ↑r) Q E s:=by
 unfold Builtin.List.listLengthHint;show XU (wpAny_specialOf hT gQ ?_);generalize Bn:("set.__len__":String)=lr
 wp_delta
 rw[show splitId lr=some ("set","__len__") from by subst Bn;decide +kernel];subst Bn;show XU (Ls (T:="set") (b:=true) hT sub_set_self ?_);change wpAny _ A (typeOf (Value.ref r) >>= _) _ _ _
 show XU (ug (T:="set") hT<|Yn h)
def Zu6{Q:List Value->Shared->Prop}(hh:A.handled=none)(hS:SetIs s.G a es ep t)(hf:t.fits es.t=true)(hr:PL t)(hl:t.led=!w.params.followText "set-order")(hz:es.t<=sizeLine)
  (k:∀(out:Ag) h' tk d,out.Perm (es.l.R (·.2))->(~~~s)<=h'.objs.t->(∀c o,s.G.H c=some o->h'.H c=some o)->Q out {s with heap:=h',toks:=tk,drawn:=d}):wpAny (model prog w) A (collect<|.ref a) Q E s:=by
 let GO:(s.G.push<|seqObj "list" #[] 0).H (~~~s)=some (seqObj "list" #[] 0):=Yr _ rfl;let IF:SetIs (s.G.push<|seqObj "list" #[] 0) a es ep t:=hS.keep λo e=>WY _ e
 let Iu:a<(~~~s):=by let(_,e,_):=hS;show Yt e
 unfold collect;show XU (uw<|QS pj ?_);change wpAny _ _ (newList [] >>= λv=>again<|.builtin "list.__iadd__" {[v,.ref a],[]}) _ _ s
 show XU (Mt<|Yn ⟨uL _ D,QS entry_list_iadd' ?_⟩);change wpAny _ _ (Builtin.List.listExtendWith (.ref (~~~s)) ↑a<|.ref (~~~s)) _ _ {s with heap:=s.G.push (seqObj "list" #[] 0)}
 unfold Builtin.List.listExtendWith;show XU (ug (T:="set") (SetIs.ty (s:={s with heap:=s.G.push (seqObj "list" #[] 0)}) IF) ?_);let e1:Builtin.List.listSameRef (.ref (~~~s)) ↑a=false:=by change((~~~s) == a)=false;show uK (RD Iu)
 rw[if_neg (by rw[e1];decide)];show XU (gS (A:=A.in1) (by simp[hh]) IF hf hr hl hz λI h' d ord fp St Nu W Ek rL hI SW kp=>?_);let rK:Shared.TypeIs {s with heap:=h',drawn:=d} ↑a "set":=SetIs.ty (s:={s with heap:=h',drawn:=d}) (IF.keep λo e=>kp a o e)
 show XU (Sx<|gP rK ?_);rw[if_pos D];let hL2:=kp _ _ GO
 show XU (Pk<|XU ?_);unfold Builtin.List.listTouch;show XU (Mr (xs:=#[]) (n:=0) hL2 Z ?_ (Yj _)<|by change 1<=sizeLine+1;lia);let DQ:=OR (Obj.mapSeq (·.push Value.none)) hL2 rfl
 show Mr (xs:=#[].push Value.none) (n:=1) DQ Z ?_ (by change 1<=sizeLine;decide) (by change 0<=sizeLine+1;lia);let hL4:=OR (Obj.mapSeq Array.pop) DQ rfl
 let old:∀c o,c≠(~~~s)->h'.H c=some o->((h'.update (~~~s) (Obj.mapSeq (·.push Value.none))).update (~~~s) (Obj.mapSeq Array.pop)).H c=some o:=λc o hc e=>by rwa[VN _ _ (WX hc),VN _ _ (WX hc)]
 generalize (h'.update (~~~s) (Obj.mapSeq (·.push Value.none))).update (~~~s) (Obj.mapSeq Array.pop)=h4 at *;let Rr:(~~~s)∉fp:=λq=>by
  rcases(rL _ q).2 with e|e
  .show RD Iu e
  .rw [show({s with heap:=s.G.push (seqObj "list" #[] 0)}:Shared).G.objs.t=(~~~s)+1 from LC ..] at e;show Nat.not_succ_le_self _ e
 let gO:ord.f=es.t:=by rw[Nu.length_eq,Yc,Yx]
 show Yn {LB aH _,codeAny_extend_loopS W.toS (by rwa[gO]) (~~~s) Rr _ ord.f 0 _ #[] _ Z (Yj _) (W.frame 0 _ _ Ek λb hb o e=>old b o (λq=>Rr<|q▸hb) e) hL4 (ItemsOf.nil _) λs2 acc c m rJ Vu=>?_};let eo:acc.l=ord:=by
  show Mv λi=>?_;rw[YI];cases hi:i<ord.f
  .let q:acc[i]?=some (acc[i]'(by rwa[Vu.1])):=YR _;rw[q,Vu.2 i _ q]
  .rw[VG oZ,Ly (by rw[Vu.1];omega)]
 change wpAny _ A (load (~~~s) >>= _) Q E s2;show XU (wpAny_load rJ ?_);show Yn ?_;rw[eo,Moved.eq_with m];show k ord s2.G s2.toks d Nu (Pl<|Yt rJ) λc o e=>?_;let lt:=Yt e
 show m.G c o (λq=>?_) (old c o (YF lt)<|kp c o<|WY _ e);rcases Yi.L q with e'|e'
 .show YF lt e'
 .rw[XB.L e']at lt
  have:=YD lt (Yl (TN _)<|LC .. ▸ SW)
  show Qi _ this
end
def Zc3:∀{l:Ac},m.Nodup->l.f=m.f->(∀x∈m,x∈l)->l.Perm m:=by
 induction m with
 |nil=>intro l _ h _;rw[YV.L h]
 |cons x m ih=>
  intro l hn hl hs;let hx:=hs x Yd
  let Qe:=Pn.L hn;show(List.perm_cons_erase hx).m ((ih Qe.2 (by rw[qh hx,hl];rfl) λy hy=>?_).cons x);let ne:y≠x:=λe=>Qe.1 (by rwa[<-e])
  show(HH ne).U (hs y<|Yh _ hy)
def Za9(p:us.Perm vs):∀{ns:Ac},IntsAre vs ns->∃ms,IntsAre us ms/\ms.Perm ns:=by
 induction p with
 |nil=>intro ns h;exists ns,h,.rfl
 |cons x _ ih=>
  intro ns h;cases h with
  |cons n t h=>
   let(ms,h1,h2):=ih h;exists n::ms,.cons n t h1,h2.cons n
 |swap x y l=>
  intro ns h;cases h with
  |cons n t h=>
   cases h with
   |cons m u h=>exists m::n::_,.cons m u<|.cons n t h,.swap n m _
 |trans _ _ NF RL=>
  intro ns h;let(ms,h1,h2):=RL h;let(ls,h3,h4):=NF h1;exists ls,h3,h4.m h2
def gN(h:IntsAre vs ns):vs.f=ns.f:=by
 induction h with
 |nil=>rfl
 |cons n t _ ih=>rw[YG,YG,ih]
def Kk(val:Nat->Int):∀i,(firstMet val i).Nodup
 |0=>.nil
 |i+1=>by
  rw[firstMet_succ];unfold step_dedup;split
  .show Kk val i
  .rename_i h;show Wt.U {Kk val i,B,λa ha b hb e=>?_};rw[XB.L hb]at e;show h (Dh.U {a,ha,by rw[e];simp})
section
variable{prog:Program}{w:World}{A:Around}{E:Ae}{s:Shared}
def ZZ2:∀{l:List (Int×Value)},ElemsOf (intKind prog w) l->∃ms,IntsAre (l.R (·.2)) ms/\∀z,z∈ms↔∃y∈l,(intKind prog w).is z y.2=true
 |[],_=>{[],.nil,λz=>{λh=>(by cases h),λzz=>by let(y,h,_):=zz;show(by cases h)}}
 |y::l,h=>by
  let(ms,h1,h2):=ZZ2 h.tail;let((z,hz,_),_):=h.head;let(hy,v):=y;let(u,rfl):=Value.isInt_shape (show Value.isInt z v=true from hz);exists z::ms,.cons z u h1,λx=>?_;rw[Yi,h2];constructor
  .rintro(e|⟨y,hy,q⟩)
   .exists _,Yd,e▸hz
   .exists y,Yh _ hy,q
  .rintro⟨y,hy,q⟩;rcases Yi.L hy with e|e
   .rw[e]at q;show .inl ((intKind prog w).inj _ _ _ q hz)
   .show .inr ⟨y,e,q⟩
def ZU6{led:Bool}{S:Int->Bool}{Q:Ae}(hh:A.handled=none)(hS:SetR prog w s.G a (!w.params.followText "set-order") S n)(QC:n<64)
  (k:∀(ms:Ac)(out:Ag) r h' tk d c,IntsAre out ms->ms.E (·<=·)->ms.f=n->(∀z,z∈ms↔S z=true)->(~~~s)<=r->h'.H r=some (seqObj "list" out.C c)->(∀c o,s.G.H c=some o->h'.H c=some o)->Q ↑r {s with heap:=h',toks:=tk,drawn:=d}):
  wpAny (model prog w) A (call (.builtin "sorted") [.ref a]) Q E s:=by
 let(o,es,ep,t,ho,hx,hd,he,hm,hb,hf,hn,hr,hl):=hS;let(ns,hI,hmem):=ZZ2 he;let KJ:sizeLine=16777216:=TM
 show uZ kind_sorted OA Oy (args_sorted1 _) ?_;unfold Builtin.«sorted»;show XU (m:=checkCount "sorted" 1 1 _) (Yn ?_);show XU (Zu6 (A:=A.in1) (by simp[hh]) ⟨o,ho,hx,hd⟩ hf hr hl J λout h1 tk d hp SW kp=>?_);let(ls,hI2,VL):=Za9 hp hI;let lo:=gN hI2
 let ll:ls.f=n:=by rw[<-lo,hp.length_eq,Yc,Yx,hn]
 show XU (Mt ?_);let hL:(h1.push<|seqObj "list" out.C 0).H h1.objs.t=some (seqObj "list" out.C 0):=Yr _ rfl
 show XU (Sx<|Uj CV ⟨_,hL,Z⟩ OB (list_sort_tree hL hI2 J λres ms b1 b2 b3=>{_,Z,?_})<|uf _);let(c,hc):=sortedHeap_at (out:=res) hL;show Yn {_,Z,k ms res.l h1.objs.t _ tk d c b1 b3 (by rw[b2.length_eq,ll]) (λz=>by rw[b2.mem_iff,VL.mem_iff,hmem,hm]) SW (by rwa[Hz]) λb ob e=>?_};let lt:=Yt (kp b ob e)
 rw[sortedHeap_old (YF lt) (by rw[EA];show Sr lt)];show WY _ (kp b ob e)
end
section
variable{X:Cx}{p p2 pos Uz:Pos}{e:Expr}{t:TA}
def Inv.drew(I:Inv X pins σ H s)(d:Drawn):Inv X pins σ H {s with drawn:=d}:=
 I.step (g':=s.gens) (d':=d) (t':=s.toks) (h':=s.G) (ch:=[]) (λb hb=>(by cases hb)) (λb o _ _ _ q _=>q) (λb o _ _ _ q _=>⟨o.slots,q⟩) (λb o _ _ n=>n) (λb o _ q=>⟨o,q⟩) (λb xs q=>q) (λb o u q=>q) (λb ps q=>{#[],by rw[q];simp}) (λm hm=>hm) I.hok I.bare
def ZP6(K:Ad)(t:TA):(TE):=λσ H Q=>t σ H λvs H1=>∃(a:Addr)(ns:Ac),vs=[.ref a]/\SqL K H1 a (ns.R V.int)/\ns.f<64/\∀ms:Ac,ms.E (·<·)->(∀z,z∈ms↔z∈ns)->∀l,H1 l=none->Q ↑l (upd H1 l<|.lst<|ms.R V.int)
def ZA4(K:Ad)(hc:X.calm=true)(g1:Gl X "sorted")(m1:X.mg "sorted"=none)(g2:Gl X "set")(m2:X.mg "set"=none)(ha:PA X [e] t)(hk:X.K=K:=by rfl)
  (he:starEach [e] X.env=[(false,eval e X.env)]:=by rfl)
  (Oe:starEach [.Call (.Name "set" p2) [e] [] Uz] X.env=[(false,eval (.Call (.Name "set" p2) [e] [] Uz) X.env)]:=by rfl):
  PE X (.Call (.Name "sorted" p) [.Call (.Name "set" p2) [e] [] Uz] [] pos) (ZP6 K t):=by
 subst hk;intro pins s σ H Q I h;show MC (Ph I g1 m1 Boot.«sorted» ?_);show aO ?_ (by rw[Oe];rfl) rfl;rw[Oe];change wpAny _ _ (spliced<|(false,eval (.Call (.Name "set" p2) [e] [] Uz) X.env)::backTo pos []) _ _ s
 show pF ?_;show MC (Ph I g2 m2 Boot.«set» ?_);show HY (thn (ha Uz pins s σ H _ I h) λus s1 zz=>?_) (by rw[he];rfl) rfl;let(vs,H1,I1,r1,q1):=zz;let(a,ns,rfl,hq,hn,q):=q1;let(u,rfl,ru):=VZ r1;let rfl:u=Value.ref a:=ru;let(XW,rv,pl,hz):=I1.list hq;let hi:=ZG rv
 let el:XW.C.t=ns.f:=by rw[Yb,<-rv.f,Yc]
 let sb:scanBound=4096:=rfl;show ic (I.ok.hd hc) pl.isList (ns:=ns) (by simpa using hi) J λh2 tk hS kp=>?_;show Hv ?_;let fl:=firstMet_length_le (λi=>ns.S i 0) XW.C.t
 show ZU6 (led:=true) (s:={s1 with heap:=h2,toks:=tk}) (I.ok.hd hc) hS J λms out r h3 tk3 d c hI hs hl hmem SW hr kp3=>?_;let em:∀z,z∈ms↔z∈ns:=λz=>by
  rw[hmem,firstMet_any,el];let e1:(List.range ns.f).R (λi=>ns.S i 0)=ns:=by
   show Mv λi=>?_;rw[Yv];cases c:i<ns.f
   .rw[pV c,Xr c,Dg,Wv,Xr c];rfl
   .rw[VG (by rw[Mz];lia),VG oW];rfl
  rw[e1];simp
 let Uo:ms.Nodup:=(Zc3 (Kk _ _) hl λx hx=>(hmem x).U (Dh.U ⟨x,hx,B⟩)).nodup_iff.U (Kk _ _);let Xh:(~~~s1)<=h2.objs.t:=by let(_,_,_,_,e,_):=hS;show Pl (Yt e)
 let yE:(~~~s1)<=r:=Yl Xh SW;let Md:ms.f<=ns.f:=by rwa[hl,<-el]
 let I2:=(I1.laid (o:=.lst<|ms.R V.int) (h':=h3) (t':=tk3) (λb o e=>kp3 b o<|kp b o e) yE ⟨by rw[Yc];have:sizeLine=16777216:=TM;lia,out,c,PZ hI,hr⟩).drew d;exists .ref r,_,I2,Z,q ms (My.Uu hs Uo) em r<|I1.hok.fresh yE
end
end L2
namespace My
open PySem L2
def Zb8{f g:Nat->Nat}{N k:Nat}(hf:∀i j,i<N->j<N->(f i=f j↔Conn A i j))(hk:∀i,i<N->f i<k)(hg:∀a,a<k->g a<N/\f (g a)=a)(hA:InN N A)(hB:InN N CL):
  (∀i j,i<N->j<N->Conn (A++CL) i j)↔∀a b,a<k->b<k->Conn (CL.R λe=>(f e.1,f e.2)) a b:=by
 let gi:∀i,i<N->Conn A (g<|f i) i:=λi hi=>by let(h1,h2):=hg (f i) (hk i hi);show(hf _ _ h1 hi).L h2
 constructor
 .intro c a b ha hb;let(a1,a2):=hg a ha;let(b1,b2):=hg b hb;let q:=(c (g a) (g b) a1 b1).image (f:=f) (fs:=CL.R λe=>(f e.1,f e.2)) λe he=>by
   rcases Xz.L he with q|q
   .let⟨e1,e2⟩:=hA e q;rw[(hf _ _ e1 e2).U (.edge q)];show .refl _
   .show .edge (YT.U ⟨e,q,Z⟩)
  rwa[a2,b2]at q
 .intro c i j hi hj;let up:∀{i j:Nat},Conn A i j->Conn (A++CL) i j:=λq=>q.mono λe he=>Yg _ he
  let q:=(c (f i) (f j) (hk i hi)<|hk j hj).image (f:=g) (fs:=A++CL) λe he=>by let(d,hd,rfl):=YT.L he;let(d1,d2):=hB d hd;show(up<|gi _ d1).m ((Conn.edge<|Yk _ hd).m (up<|gi _ d2).symm)
  show(up<|gi i hi).symm.m (q.m<|up<|gi j hj)
def PC(n:Int)(ps:Aa)(I O:Ac)(c:Nat):(Prop):=∃L:Ab,L.Nodup/\(∀l,l∈L↔Zg n ps l/\(∀z∈I,z∈l)/\∀z∈O,z∉l)/\L.f=c
def PC.uniq(h1:PC n ps I O c)(h2:PC n ps I O d):c=d:=by
 let(L,a1,a2,a3):=h1;let(M,b1,b2,b3):=h2
 have:L.Perm M:=(Ul a1 b1).U λl=>by rw[a2,b2]
 rw[<-a3,<-b3,this.length_eq]
def XA(m:Nat)(gone:Ac):(Ac):=(VB m).Q λz=>decide (z∉gone)
def WK{z:Int}:z∈XA m gone↔(0<=z/\z<(m:Int))/\z∉gone:=by unfold XA;rw[Ya,YL,Xq]
def ZN7(m:Nat)(gone:Ac):(XA m gone).E (·<·):=(XR.L<|su m).2.Q _
def Sf(f:Nat->Nat)(ps:Aa)(R:Ac):(Aa):=R.R λz=>((f (Zu ps z).1:Int),(f (Zu ps z).2:Int))
def PJ(R:Ac)(S:Ac):(Ac):=S.R λt=>R.S t.j 0
def gM(hR:R.E (·<·))(hS:IsSet R.f S):(PJ R S).E (·<·):=by
 let(a1,a2):=XR.L hS;show MA.U (a2.imp_of_mem λ{a b} ha hb UU=>?_);let h1:=a1 a ha
 let h2:=a1 b hb;rw[Wv,Wv,Xr J,Xr J];show ME.L hR a.j b.j oW oW J
def Nt(hS:IsSet R.f S){z:Int}(h:z∈PJ R S):z∈R:=by
 let(t,ht,rfl):=YT.L h;let h1:=hS.all t ht
 rw[Wv,Xr J];show JA _
def gL{f:Nat->Nat}(hS:IsSet R.f S):XS (Sf f ps R) S=(XS ps (PJ R S)).R λe=>(f e.1,f e.2):=by
 unfold XS PJ;rw[OJ,OJ];show VE λt ht=>?_;let h1:=hS.all t ht
 let e:(Sf f ps R).S t.j (0,0)=((f (Zu ps<|R.S t.j 0).1:Int),(f (Zu ps<|R.S t.j 0).2:Int)):=by unfold Sf;rw[Wv,Yv,Wv,Xr oW];rfl
 rw[e];rfl
def Vo(m:Nat)(I R S:Ac):(Ac):=(VB m).Q λz=>decide (z∈I\/z∈PJ R S)
def gK(m:Nat)(I R S:Ac):(Vo m I R S).E (·<·):=(XR.L<|su m).2.Q _
def WM{z:Int}:z∈Vo m I R S↔(0<=z/\z<(m:Int))/\(z∈I\/z∈PJ R S):=by unfold Vo;rw[Ya,YL,Xq]
section
variable{n:Int}{ps:Aa}{I O S:Ac}{f g:Nat->Nat}{k:Nat}
def Gh(hI:IsSet ps.f I)(hS:IsSet (XA ps.f (I++O)).f S):(Vo ps.f I (XA ps.f (I++O)) S).Perm (I++PJ (XA ps.f (I++O)) S):=by
 let ua:=gM (ZN7 ps.f<|I++O) hS;show(Ul (NX<|gK _ _ _ _)<|Wt.U {hI.nodup,NX ua,λa ha b hb e=>?_}).U λz=>?_
 .have:=(WK.L<|Nt hS hb).2
  show this (Yg _<|e▸ha)
 .rw[WM,Xz];exists λh=>h.2,λh=>{?_,h};rcases h with q|q
  .show hI.all z q
  .show(WK.L<|Nt hS q).1
theorem Zc8(g0:Zz n ps)(hI:IsSet ps.f I)(hf:∀i j,i<n.j->j<n.j->(f i=f j↔Conn (XS ps I) i j))(hk:∀i,i<n.j->f i<k)(hg:∀a,a<k->g a<n.j/\f (g a)=a)(hS:IsSet (XA ps.f (I++O)).f S):
  ((∀i j,i<n.j->j<n.j->Conn (XS ps<|Vo ps.f I (XA ps.f<|I++O) S) i j)↔∀a b,a<k->b<k->Conn (XS (Sf f ps<|XA ps.f<|I++O) S) a b):=by
 let hp:=Gh (O:=O) hI hS;let hA:=ZY (ns:=I) g0 hI.all
 let hB:=ZY (ns:=PJ (XA ps.f<|I++O) S) g0 λz hz=>(WK.L<|Nt hS hz).1;let e:XS ps (I++PJ (XA ps.f<|I++O) S)=XS ps I++XS ps (PJ (XA ps.f<|I++O) S):=by unfold XS;show YN
 rw[gL hS,<-Zb8 hf hk hg hA hB,<-e];exists λc i j hi hj=>(KL λz=>hp.mem_iff).L (c i j hi hj),λc i j hi hj=>(KL λz=>hp.mem_iff).U (c i j hi hj)
def yD(hI:IsSet ps.f I)(hT:IsSet ps.f T)(h1:∀z∈I,z∈T)(h2:∀z∈O,z∉T):∃S,IsSet (XA ps.f (I++O)).f S/\T=Vo ps.f I (XA ps.f (I++O)) S:=by
 exists (VB (XA ps.f<|I++O).f).Q λt=>decide<|(XA ps.f<|I++O).S t.j 0∈T,XR.U {λt ht=>Xq.L (Ya.L ht).1,(XR.L<|su _).2.Q _},jP (XR.L hT).2 (gK _ _ _ _) λz=>?_;rw[WM];constructor
 .intro hz;exists hT.all z hz,?_;cases c:z∈I
  .show .inl c
  .right;let hR:z∈XA ps.f (I++O):=WK.U ⟨hT.all z hz,λq=>by
    rcases Xz.L q with q|q
    .show c q
    .show h2 z q hz⟩
   let(t,ht):=YE hR;let e:(XA ps.f<|I++O).S ((t:Int)).j 0=z:=by rw[YO];show Wa ht
   show YT.U {(t:Int),Ya.U {Xq.U {J,by have:=(XF.L ht).1;omega},Yq<|by rwa[e]},e}
 .rintro⟨_,q|q⟩
  .show h1 z q
  .let⟨t,ht,rfl⟩:=YT.L q;show Yu (Ya.L ht).2
def Zw9{S':Ac}(hS:IsSet (XA ps.f (I++O)).f S)(Ub:IsSet (XA ps.f (I++O)).f S')(e:Vo ps.f I (XA ps.f (I++O)) S=Vo ps.f I (XA ps.f (I++O)) S'):S=S':=by
 let key:∀{A CL:Ac},IsSet (XA ps.f<|I++O).f A->IsSet (XA ps.f<|I++O).f CL->Vo ps.f I (XA ps.f<|I++O) A=Vo ps.f I (XA ps.f<|I++O) CL->∀t,t∈A->t∈CL:=λ{A CL} hA hB e t ht=>by
  let h1:=hA.all t ht;let hm:(XA ps.f<|I++O).S t.j 0∈PJ (XA ps.f<|I++O) A:=YT.U ⟨t,ht,Z⟩
  let hR:=WK.L (Nt hA hm);let h2:(XA ps.f<|I++O).S t.j 0∈Vo ps.f I (XA ps.f<|I++O) CL:=e▸WM.U {hR.1,.inr hm}
  rcases(WM.L h2).2 with q|q
  .show absurd (Yg _ q) hR.2
  .let⟨u,hu,e2⟩:=YT.L q;let h3:=hB.all u hu
   rw[Wv,Wv,Xr J,Xr J]at e2
   have:=En (NX<|ZN7 ps.f<|I++O) (i:=u.j) (j:=t.j) (Xr oW) (by rw[Xr oW];show YS some e2.symm)
   let e3:u=t:=J;show e3▸hu
 show jP (XR.L hS).2 (XR.L Ub).2 λt=>{key hS Ub e t,key Ub hS e.symm t}
def rH(f:Nat->Nat)(ps:Aa)(R:Ac):(Sf f ps R).f=R.f:=Yc ..
def gJ(g0:Zz n ps)(hI:IsSet ps.f I)(UH:∀z∈I,z∉O)(hf:∀i j,i<n.j->j<n.j->(f i=f j↔Conn (XS ps I) i j))(hk:∀i,i<n.j->f i<k)(hg:∀a,a<k->g a<n.j/\f (g a)=a)(hn:(k:Int)+I⁻¹=n)(h:TC k (Sf f ps (XA ps.f (I++O))) c):PC n ps I O c:=by
 let(L,h1,h2,h3):=h;let hs:∀l∈L,IsSet (XA ps.f<|I++O).f l:=λl hl=>rH f ps _▸((h2 l).L hl).1
 let len:∀{S:Ac},IsSet (XA ps.f<|I++O).f S->(Vo ps.f I (XA ps.f<|I++O) S).f=I.f+S.f:=λ{S} hS=>by rw[(Gh hI hS).length_eq,Xt];unfold PJ;rw[Yc]
 let iff:∀{S:Ac},IsSet (XA ps.f<|I++O).f S->(Zg n ps (Vo ps.f I (XA ps.f<|I++O) S)↔Zg k (Sf f ps<|XA ps.f<|I++O) S):=λ{S} hS=>by
  let l:=len hS;let q:=Zc8 (O:=O) g0 hI hf hk hg hS
  constructor
  .rintro⟨a1,a2,a3⟩;exists by rw[rH];show hS,J,λa b ha hb=>q.L a3 a b J J
  .rintro⟨a1,a2,a3⟩;exists XR.U {λz hz=>(WM.L hz).1,gK _ _ _ _},J,q.U λa b ha hb=>a3 a b J J
 show{L.R<|Vo ps.f I<|XA ps.f<|I++O,MA.U<|h1.imp_of_mem λ{a b} ha hb UU e=>UU<|Zw9 (hs a ha) (hs b hb) e,λT=>?_,by rw[Yc,h3]};rw[YT];constructor
 .rintro⟨S,hS,rfl⟩;exists (iff<|hs S hS).U ((h2 S).L hS),λz hz=>WM.U {hI.all z hz,.inl hz},λz hz q=>?_;rcases(WM.L q).2 with q|q
  .show UH z q hz
  .show(WK.L<|Nt (hs S hS) q).2 (Yk _ hz)
 .rintro⟨hT,q1,q2⟩;let(S,hS,rfl):=yD hI hT.1 q1 q2;exists S,(h2 S).U ((iff hS).L hT),Z
def Zd8(g0:Zz n ps)(gone:Ac)(hk:∀i,i<n.j->f i<k)(k1:1<=k)(kn:k<=n.j):Zz k (Sf f ps (XA ps.f gone)):=by
 let(g1,g2,g3,g4):=g0;exists J,J,?_,λp hp=>?_
 .rw[rH]
  have:(XA ps.f gone).f<=(VB ps.f).f:=Yo ..
  have:=(su ps.f).len
  lia
 .let⟨z,hz,rfl⟩:=YT.L hp;let hz1:=(WK.L hz).1
  obtain⟨q,hq⟩:∃q,ps[z.j]?=some q:={_,Xr J};let(e1,e2,e3,e4):=g4 q (Xm hq);let ee:Zu ps z=(q.1.j,q.2.j):=by unfold Zu;rw[Wa hq]
  rw[ee];let a:=hk q.1.j J
  let b:=hk q.2.j J;exists by change(0:Int)<=(f q.1.j:Int);lia,by change(f q.1.j:Int)<(k:Int);lia,by change(0:Int)<=(f q.2.j:Int);lia,by change(f q.2.j:Int)<(k:Int);lia
def yC(g0:Zz n ps)(hI:IsSet ps.f I)(hf:∀i j,i<n.j->j<n.j->(f i=f j↔Conn (XS ps I) i j))(hk:∀i,i<n.j->f i<k)(hg:∀a,a<k->g a<n.j/\f (g a)=a)(k1:1<=k)(kn:k<=n.j)(hn:n<(k:Int)+I⁻¹):PC n ps I O 0:=by
 exists [],.nil,λT=>{λh=>(by cases h),λzz=>?_},Z;let(hT,q1,q2):=zz;let(S,hS,rfl):=yD hI hT.1 q1 q2;let q:=(Zc8 (O:=O) g0 hI hf hk hg hS).L hT.2.2
 let gg:=Zd8 (f:=f) g0 (I++O) hk k1 kn;let l:=iF gg (by rwa[rH]) λa b ha hb=>q a b J J
 let l2:=hT.2.1;rw[(Gh hI hS).length_eq,Xt]at l2;unfold PJ at l2;rw[Yc]at l2;omega
end
def Us:(Ac->Int->Nat)
 |[],_=>0
 |x::l,z=>if x=z then 0 else Us l z+1
def Gg:∀{l:Ac}{z:Int},z∈l->l[Us l z]?=some z
 |x::l,z,h=>by
  unfold Us;cases c:x=z
  .rw[if_pos c,c];rfl
  .rw[if_neg c];show Gg ((Yi.L h).resolve_left λe=>c e.symm)
def gI(h:z∈l):Us l z<l.f:=(XF.L<|Gg h).1
def yB(hz:z∈l)(hy:y∈l):Us l z=Us l y↔z=y:=by
 show{λe=>?_,λe=>by rw[e]};let h1:=Gg hz
 rw[e,Gg hy]at h1;show(Ye h1).symm
def gH(hn:l.Nodup){i:Nat}{z:Int}(h:l[i]?=some z):Us l z=i:=En hn (Gg<|Xm h) h
def yA(h:i<M.f):mk M i∈M:=by unfold mk;rw[Wv,Xr h];show JA h
section
variable{N:Nat}{es:List (Nat×Nat)}{F:Ac}
def gG(h:InN N es)(hF:F.E (·<·))(hm:∀z,z∈F↔z∈Xy N es):
  ∃g:Nat->Nat,(∀i j,i<N->j<N->(Us F (mk (Xy N es) i)=Us F (mk (Xy N es) j)↔Conn es i j))/\(∀i,i<N->Us F (mk (Xy N es) i)<F.f)/\∀a,a<F.f->g a<N/\Us F (mk (Xy N es)<|g a)=a:=by
 let hl:=ZH N es;let gF:∀i,i<N->mk (Xy N es) i∈F:=λi hi=>(hm _).U (yA J)
 let ex:∀a,∃i,a<F.f->i<N/\Us F (mk (Xy N es) i)=a:=λa=>by
  cases c:a<F.f
  .let q:=(hm _).L (JA c);let(i,hi):=YE q;let VH:=(XF.L hi).1
   exists i,λ_=>{J,?_};let e:mk (Xy N es) i=F[a]:=by unfold mk;show Wa hi
   rw[e];show gH (NX hF) (Xr c)
  .exists 0,λh=>absurd h c
 exists λa=>Classical.choose<|ex a,λi j hi hj=>?_,λi hi=>gI<|gF i hi,λa ha=>ae (ex a) ha;rw[yB (gF i hi) (gF j hj)];show QE h hi hj
def gE:∀i,∃p,p<=i/\VX M p=true/\mk M p=mk M i:=by
 intro i
 induction i using Nat.strongRecOn with
 |_ i ih=>
  cases c:VX M i=true
  .exists i,XJ _,c,Z
  .obtain⟨j,hj,e⟩:∃j,j<i/\mk M j=mk M i:=Yy λno=>c (Xw.U λj hj e=>no ⟨j,hj,e⟩);let(p,h1,h2,h3):=ih j hj;exists p,J,h2,h3.m e
def Zl9(hF:F.E (·<·))(hm:∀z,z∈F↔z∈M):F.f=cnt M:=by
 let e:F.Perm ((UP M M.f).R (mk M)):=by
  show(Ul (NX hF) ?_).U λz=>?_
  .show MA.U ?_;unfold UP;show(Dr.Q<|VX M).imp_of_mem λ{a b} ha hb UU=>?_;show Xw.L (Ya.L hb).2 a UU
  .rw[hm,YT];constructor
   .intro hz;let(i,hi):=YE hz;let VH:=(XF.L hi).1
    let(p,h1,h2,h3):=gE (M:=M) i;exists p,Ya.U {YW.U J,h2},h3.m ?_;unfold mk;show Wa hi
   .rintro⟨p,hp,rfl⟩;show yA (YW.L (Ya.L hp).1)
 rw[e.length_eq,Yc];rfl
def ZI4(h:InN N es)(hN:1<=N)(hF:F.E (·<·))(hm:∀z,z∈F↔z∈Xy N es):1<=F.f/\F.f<=N/\N<=F.f+es.f:=by
 let e:=Zl9 hF hm;let hl:=ZH N es
 let e2:=jI (sW (n:=N) (es:=es) h);let e3:=sH es h
 let e4:=kQ (M:=Xy N es) J;let e5:cnt (Xy N es)<=N:=by unfold cnt UP;show Yl (Yo ..) ?_;rw[Mz];lia
 lia
end
def FD(A CL:Ac)(t:Int):(Prop):=t∈A/\t∉CL/\∀s,s<t->(s∈A↔s∈CL)
def gD:∀{A CL:Ac},A.E (·<·)->CL.E (·<·)->A.f=CL.f->(HT.lexLt A CL=true↔∃t,FD A CL t)
 |[],[],_,_,_=>{λh=>(by cases h),λzz=>by let(t,h,_):=zz;show(by cases h)}
 |x::A,y::CL,hA,hB,hl=>by
  let(a1,a2):=YZ.L hA;let(b1,b2):=YZ.L hB;let Ox:A.f=CL.f:=LA hl
  change(if x=y then HT.lexLt A CL else decide (x<y))=true↔_;cases c:x=y
  .subst c;rw[if_pos Z,gD a2 b2 Ox];constructor
   .rintro⟨t,h1,h2,h3⟩;let tx:=a1 t h1
    exists t,Yh _ h1,λq=>?_,λs hs=>?_
    .rcases Yi.L q with e|e
     .lia
     .show h2 e
    .rw[Yi,Yi,h3 s hs]
   .rintro⟨t,h1,h2,h3⟩;let tx:t≠x:=λe=>h2 (e▸Yd)
    let DP:=(Yi.L h1).resolve_left tx;exists t,DP,λq=>h2<|Yh _ q,λs hs=>?_
    have:=h3 s hs
    rw[Yi,Yi]at this;cases e:s=x
    .rw[e];exists λq=>absurd (a1 x q)<|Int.lt_irrefl x,λq=>absurd (b1 x q)<|Int.lt_irrefl x
    .exists λq=>(this.L<|.inr q).resolve_left e,λq=>(this.U<|.inr q).resolve_left e
  .rw[if_neg c,YL];constructor
   .intro h;exists x,Yd,λq=>?_,λs hs=>{λq=>?_,λq=>?_}
    .rcases Yi.L q with e|e
     .show c e
     .have:=b1 x e;lia
    .rcases Yi.L q with e|e
     .lia
     .have:=a1 s e;lia
    .rcases Yi.L q with e|e
     .lia
     .have:=b1 s e;lia
   .rintro⟨t,h1,h2,h3⟩;let tx:x<=t:=by
     rcases Yi.L h1 with e|e
     .lia
     .have:=a1 t e;lia
    show Yy λhc=>?_;let hyx:y<x:=J
    have:=(h3 y J).U Yd
    rcases Yi.L this with e|e
    .lia
    .have:=a1 y e;lia
def rG{α:Type}[DecidableEq α]:∀{l m:List α},l.Nodup->(∀x∈l,x∈m)->l.f<=m.f
 |[],_,_,_=>Yj _
 |x::l,m,hn,hs=>by
  let hx:=hs x Yd;let(h1,h2):=Pn.L hn
  have:=rG (m:=m.erase x) h2 λy hy=>(HH λe=>h1<|by rwa[<-e]).U (hs y<|Yh _ hy)
  rw[qh hx]at this
  have:=EO hx
  rw[YG];lia
def Kj{s rest:TS}{CM:Ends}{σ:L2.St}{H:Hp}(P:L2.St->Hp->Prop)(h1:∀σ' H',P σ' H'->rest CM σ' H')(h2:∀K:L2.St->Hp->Prop,(∀σ' H',P σ' H'->K σ' H')->s {CM with nx:=K} σ H):Uh s rest CM σ H:=h2 _ h1
def ZU5{m:Nat}(hm:m<=30):∀k,(NV (m:Int) k).f<=30^k
 |0=>XJ 1
 |k+1=>by
  let h1:=ZR7 (m:=m) (NV (m:Int) k) λs hs=>(VR.L hs).2;let h2:=ZU5 hm k
  let h3:m*(NV (m:Int) k).f<=30*30^k:=HM hm h2;rw[Nat.pow_succ,uo];show Yl h1 h3
def ZN6(g:Zz n ps)(h:TC n ps c):c<10^20:=by
 let(L,hn,hm,rfl):=h;let(g1,g2,g3,_):=g;show Dk (m:=30^13) (Yl (rG (m:=NV ps⁻¹ (n-1).j) hn λx hx=>VR.U {?_,((hm x).L hx).1})<|Yl (ZU5 J _)<|uY oY oW) oY
 have:=((hm x).L hx).2.1
 lia
def gC(g:Zz n ps):∃L:Ab,(∀l,l∈L↔Zg n ps l)/\L.E UY:={Ti n.j ps (n-1).j,λ_=>ZL7 g,(Ak _ _).Q _}
def ev(b:Int):(Ac->Int)
 |[]=>0
 |d::l=>d+b*ev b l
abbrev Gf(ls:Ac)(z:Int):Int:=ls.S z.j 0
def lwS(ls:Ac)(x:Int):(Ac):=(VB ls.f).Q λz=>decide (Gf ls z<x)
def mA(N:Nat)(ps:Aa)(ls:Ac)(x:Int):(Ac):=Xy N (XS ps<|lwS ls x)
def lvl(ls:Ac)(x:Int)(i:Nat):(Ac):=(VB i).Q λz=>decide (Gf ls z=x)
def yy(ls T:Ac):(Int):=(T.R<|Gf ls).sum
section
variable{n:Int}{ps:Aa}{T:Ac}(g:Zz n ps)
include g
def gB(hT:Zg n ps T)(hW:Zg n ps W)(h:∀z∈T,z∈W):T.Perm W:=by
 have:=Zc3 (l:=W) hT.1.nodup (by have:=hT.2.1;have:=hW.2.1;lia) h
 show this.symm
end
def Zo9(hT:Zg n ps T)(hW:Zg n ps W):(T.Q λy=>decide (y∉W)).f=(W.Q λy=>decide (y∉T)).f:=by
 let e1:=Zj4 (λy=>decide<|y∈W) T;let e2:=Zj4 (λy=>decide<|y∈T) W
 let p:(T.Q λy=>decide<|y∈W).Perm (W.Q λy=>decide<|y∈T):=(Ul (hT.1.nodup.Q _)<|hW.1.nodup.Q _).U λy=>by rw[Ya,Ya,YL,YL];show And.comm
 let f1:(T.Q λy=>decide<|y∉W)=T.Q λy=>!decide (y∈W):=Mw λy _=>B;let f2:(W.Q λy=>decide<|y∉T)=W.Q λy=>!decide (y∈T):=Mw λy _=>B
 have:=p.length_eq
 let h1:=hT.2.1;let h2:=hW.2.1
 rw[f1,f2];lia
end My
namespace HT
open PySem PyProof.Rows
section
def ltP(x y:Int×Ac):(Bool):=decide (x.1<y.1)||(decide (x.1=y.1)&&lexLt x.2 y.2)
end
end HT
namespace L2
open PySem PySem.Spec PyProof.Rows
section
variable{prog:Program}{w:World}{A:Around}{E:Ae}{s:Shared}
def Zt6{P:Nat->Value->Prop}{OK:Heap->Prop}{Q:List Value->Shared->Prop}(K:PySem.W.KdlSrc prog w T r d n P OK)(hh:A.handled=none)(hok:OK s.G)(hn:n<=sizeLine)
  (k:∀(out:Ag) h' tk,out.f=n->(∀i v,out[i]?=some v->P i v)->(~~~s)<=h'.objs.t->(∀c o,s.G.H c=some o->h'.H c=some o)->Q out {s with heap:=h',toks:=tk}):wpAny (model prog w) A (collect<|.ref r) Q E s:=by
 let GO:(s.G.push<|seqObj "list" #[] 0).H (~~~s)=some (seqObj "list" #[] 0):=Yr _ rfl;let Xh:=K.there _ hok
 obtain⟨R,hR⟩:∃R:Result->Shared->Prop,R=λr s'=>∃h' tk acc c,r=.ok (.ret<|.ref (~~~s))/\s'={s with heap:=h',toks:=tk}/\(∀b o,b≠(~~~s)->(s.G.push<|seqObj "list" #[] 0).H b=some o->h'.H b=some o)/\h'.H (~~~s)=some {cls:=.type "list",dict:=none,data:=.seq acc c,slots:=#[]}/\ItemsOf P acc n:={_,Z};unfold collect;show XU (uw<|Jy (R:=R) (QS pj ?_) λr0 s0 h0=>?_)
 .change wpAny _ _ (newList [] >>= λv=>again<|.builtin "list.__iadd__" {[v,.ref r],[]}) _ _ s;show XU (Mt<|Yn ⟨uL _ D,QS entry_list_iadd' ?_⟩);rw[JD D _];change wpAny _ A.in1 (Builtin.List.listExtendWith (.ref (~~~s)) ↑r<|.ref (~~~s)) _ _ {s with heap:=s.G.push (seqObj "list" #[] 0)}
  show PySem.W.kdl_extend (A:=A) (R:=R) (s:={s with heap:=s.G.push (seqObj "list" #[] 0)}) K hh (K.keep _ _ hok λb _ o e=>WY _ e) (~~~s) (RD Xh.1) (RD Xh.2) _ 0 GO (λh' tk acc c hk hS Vu=>?_) hn;rw[hR];exists h',tk,acc,c,Z,Z,hk,hS,Vu
 .rw[hR]at h0;let(h',tk,acc,c,rfl,rfl,hk,hS,Vu):=h0;change wpAny _ A (load (~~~s) >>= _) Q E _
  show XU (wpAny_load hS<|Yn ?_);show k acc.l h' tk (by rw[Yx];show Vu.1) (λi v e=>Vu.2 i v<|by rwa[<-YI]) (Pl<|Yt hS) λc o e=>hk c o (YF<|Yt e) (WY _ e)
def ZT6{P:Nat->Value->Prop}{OK:Heap->Prop}{Q:Ae}(K:PySem.W.KdlSrc prog w T r d n P OK)(hh:A.handled=none)(hok:OK s.G)(QC:n<64)
  (hP:∀out:Ag,out.f=n->(∀i v,out[i]?=some v->P i v)->IntsAre out ns)
  (k:∀(ms:Ac)(out:Ag) a h' tk c,IntsAre out ms->ms.E (·<=·)->ms.Perm ns->(~~~s)<=a->h'.H a=some (seqObj "list" out.C c)->(∀c o,s.G.H c=some o->h'.H c=some o)->Q ↑a {s with heap:=h',toks:=tk}):
  wpAny (model prog w) A (call (.builtin "sorted") [.ref r]) Q E s:=by
 let KJ:sizeLine=16777216:=TM;show uZ kind_sorted OA Oy (args_sorted1 _) ?_;unfold Builtin.«sorted»;show XU (m:=checkCount "sorted" 1 1 _) (Yn ?_);show XU (Zt6 (A:=A.in1) K (by simp[hh]) hok J λout h1 tk lo hp SW kp=>?_);let hI:=hP out lo hp
 show XU (Mt ?_);let hL:(h1.push<|seqObj "list" out.C 0).H h1.objs.t=some (seqObj "list" out.C 0):=Yr _ rfl
 show XU (Sx<|Uj CV ⟨_,hL,Z⟩ OB (list_sort_tree hL hI J λres ms b1 b2 b3=>{_,Z,?_})<|uf _);let(c,hc):=sortedHeap_at (out:=res) hL;show Yn {_,Z,k ms res.l h1.objs.t _ tk c b1 b3 b2 SW (by rwa[Hz]) λb ob e=>?_};let lt:=Yt (kp b ob e)
 rw[sortedHeap_old (YF lt) (by rw[EA];show Sr lt)];show WY _ (kp b ob e)
end
section
variable{X:Cx}
def Rg(p d:Addr):(HO):=.ext λh=>PySem.W.KdlKeysView h p d
def gz:(V->List V->Hp->VK->Prop):=λx vs H Q=>∃d kvs,x=.ref d/\vs=[]/\H d=some (.dK kvs)/\∀p,H p=none->Q ↑p (upd H p<|Rg p d)
def gy:Lc X "dict.keys" gz:=by
 intro pins s σ H x vs v us Q I rx rv h;let(d,kvs,rfl,rfl,hH,q):=h;cases rx;cases rv;let(z,hd,ws,rel,dd):=Qb I.hok hH;show call_meetsIn aj dd.typeIs PySem.F.entry_dict_keys (PySem.F.args_dict_keys_1 _) (PySem.W.kdl_meets_keys (ZV X.prog X.w) d hd) {⟨ws,dd⟩,?_};exists .ref (~~~s),_,I.laid (o:=Rg (~~~s) d) (λb u e=>WY _ e) (XJ _) ?_,Z,q _<|I.hok.fresh<|XJ _;let e:=Yr s.G (o:={cls:=.type "dict_keys",data:=.fields #[.ref d]}) rfl
 exists {_,e,Z,Z},{_,e},λh1 h2 zz k=>by let(o,ho,r):=zz;exists o,k o ho,r
def Zq5:∀{kvs:List (Key×V)}{ws:List (Key×Value)}{ks:Ac},KV kvs ws->kvs.R (·.1)=ks.R Sum.inl->∀out:Ag,out.f=ws.f->(∀(i:Nat)(v:Value),out[i]?=some v->∃k x,ws[i]?=some (k,x)/\(ZV P w).is k v=true)->IntsAre out ks
 |[],_,ks,.nil,hk,out,hl,_=>by
  let e1:ks=[]:=by simpa using hk.symm
  let e2:out=[]:=YV.L hl;subst e1 e2;show .nil
 |_::_,_,[],.cons r t,hk,out,hl,hv=>by simp at hk
 |_::_,_,k::ks,.cons r t,hk,[],hl,hv=>by simp at hl
 |_::_,_,k::ks,.cons r t,hk,v::out,hl,hv=>by
  let(k',x,e,hi):=hv 0 v rfl;let e:_=(k',x):=Ye e
  let hk1:=(List.cons.inj hk).1;let hr:=r.1
  rw[e]at hr;let ek:k'=Sum.inl k:=hr.symm.m hk1
  subst ek;obtain⟨i,tt,e1,e2⟩|⟨y,tt,e1,_⟩:=ZJ (show Rz (Sum.inl k) v=true from hi)
  .cases e1;subst e2;show .cons _ tt (Zq5 (P:=P) (w:=w) t (List.cons.inj hk).2 out (by simpa using hl) λj u e=>?_);show hv (j+1) u e
  .cases e1
def Za3(hc:X.calm=true):TK X (.builtin "sorted") (λxs H Q=>∃p d kvs ks,xs=[.ref p]/\H p=some (Rg p d)/\H d=some (.dK kvs)/\kvs.R (·.1)=ks.R Sum.inl/\ks.f<64/\∀ms:Ac,ms.Perm ks->ms.E (·<=·)->∀l,H l=none->Q ↑l (upd H l (.lst (My.IL ms)))):=by
 intro pins s σ H xs us Q I r h;let(p,d,kvs,ks,rfl,hp,hd,RM,QC,q):=h;let(u,rfl,ru):=VZ r;let rfl:u=Value.ref p:=ru;let(hv,_,_):=(show ObjOk X.prog X.w H s.G p (Rg p d) from I.hok p _ hp);let(z,hds,ws,rel,dd):=Qb I.hok hd;let(ep,da):=ZI5 dd;let hl:ws.f=kvs.f:=rel.f.symm
 let Vj:kvs.f=ks.f:=by have:=YS List.f RM;simpa using this
 show ZT6 (PySem.W.kdl_keys (knd:=ZV X.prog X.w) (kvs:=ws) (ep:=ep) (r:=p) (d:=d)) (I.ok.hd hc) ⟨hv,da⟩ J (λout lo hP=>Zq5 (P:=X.prog) (w:=X.w) rel RM out lo hP) λms out a h' tk c b1 b2 b3 SW ha kp=>?_;let Md:=b3.length_eq
 let KJ:sizeLine=16777216:=TM;exists .ref a,_,I.laid (o:=.lst<|ms.R V.int) (h':=h') (t':=tk) kp SW {by rw[Yc];lia,out,c,PZ b1,ha},Z,q ms b3 b2 a<|I.hok.fresh SW
end
section
variable{X:Cx}{a:Expr}{ta:TE}{pos:Pos}
def yx(ha:PE X a ta)(h1:starEach [a] X.env=[(false,eval a X.env)]:=by rfl):PE X (.List [a] pos) (Hi<|Jn ta Qd):=UR (XY ha XX h1)
end
end L2
namespace My
open PySem L2
section
variable{one d0 d1:Int}{other:Option Int}
def hdD(one:Int)(other:Option Int)(d0 d1 y:Int):(Int):=if y=one then d0 else if some y=other then d1 else y
end
def Ki(cs:List Nat):(List Nat):=if cs.head?=some 45 then cs.tail else cs
def gx(cs:List Nat):(Bool):=decide (1<=(Ki cs).f/\(Ki cs).f<=60/\(∀c∈Ki cs,48<=c/\c<=57)/\(cs=[48]\/(Ki cs).head?≠some 48))
abbrev Tr:=Int×Aa×Ac
end My
namespace L2
open PySem PySem.Spec PyProof.Rows
section
variable{X:Cx}{a b c d:Expr}{ta tb tc td:TE}{pos:Pos}
def gu(ha:PE X a ta)(hb:PE X b tb)(hc:PE X c tc)(hd:PE X d td)(s0:starEach [a,b,c,d] X.env=(false,eval a X.env)::starEach [b,c,d] X.env:=by rfl)(s1:starEach [b,c,d] X.env=(false,eval b X.env)::starEach [c,d] X.env:=by rfl)(s2:starEach [c,d] X.env=(false,eval c X.env)::starEach [d] X.env:=by rfl)(s3:starEach [d] X.env=[(false,eval d X.env)]:=by rfl):PE X (.List [a,b,c,d] pos) (Hi<|Jn ta<|Jn tb<|Jn tc<|Jn td Qd):=UR (XY ha (XY hb (XY hc (XY hd XX s3) s2) s1) s0)
end
end L2
namespace My
open PySem PySem.W PyProof.Rows
def Tt{α:Type}(c:Nat->Nat->Bool):(KasT α->α)
 | .ret a=>a
 | .ask i j k=>Tt c (k<|c i j)
def DO{α β:Type}{c:Nat->Nat->Bool}{f:α->KasT β}:∀t:KasT α,Tt c (t.bind f)=Tt c (f (Tt c t))
 | .ret _=>rfl
 | .ask i j k=>DO (k<|c i j)
section
variable{n:Nat}{key:Nat->Int}
def Ahd(key:Nat->Int)(i j:Nat):(Prop):=key i<key j\/(key i=key j/\i<j)
def Ahd.trans{i j k:Nat}(h1:Ahd key i j)(h2:Ahd key j k):Ahd key i k:=by unfold Ahd at *;lia
structure Ord(n m:Nat)(p:Array Nat):Prop where
 perm:p.Perm (List.range n).C
 suf:∀i,m<=i->i<n->p.S i 0=i
def Ord.size(h:Ord n m p):p.t=n:=by rw[h.perm.size_eq];simp
def Kh{p:Array Nat}(h:i<p.t):p[i]?=some (p.S i 0):=by rw[YB,YR h];rfl
def Ord.inj(h:Ord n m p)(hi:i<n)(hj:j<n)(e:p.S i 0=p.S j 0):i=j:=by
 let hn:p.l.Nodup:=(Uk.L h.perm).nodup_iff.U List.nodup_range;let hs:=h.t
 let e1:=Kh (p:=p) (i:=i) J;let e2:=Kh (p:=p) (i:=j) J
 rw[<-YI]at e1 e2;show(Sq (i:=i) (j:=j) (by rw[Yx];omega) hn).L (by rw[e1,e2,e])
def Ord.lt(h:Ord n m p)(hm:m<=n)(hi:i<m):p.S i 0<m:=by
 cases hc:p.S i 0<m
 .show hc
 .let hs:=h.t;let hb:p.S i 0<n:=by let e1:=Kh (p:=p) (i:=i) J;rw[<-YI]at e1;show YW.L ((Uk.L h.perm).mem_iff.L (Xm e1))
  let e:=h.inj J hb (h.suf _ oW hb).symm;lia
def Ord.mono(h:Ord n m p)(hk:m<=k):Ord n k p:={h.perm,λi hi=>h.suf i J}
def TY{i j k:Nat}(hj:j<=p.t):(kas_rev p i j).S k 0=if i<=k/\k<j then p.S (i+j-1-k) 0 else p.S k 0:=by unfold kas_rev;rw[YB,pd hj,apply_ite λo:Option Nat=>o.S 0,<-YB,<-YB]
def Ord.rev(h:Ord n m p)(hj:j<=m)(hm:m<=n):Ord n m (kas_rev p i j):=by let hs:=h.t;exists (mirror_perm _ _ _ _).m h.perm,λk hk hn=>?_;rw[TY J,if_neg J];show h.suf k hk hn
def Asc(key:Nat->Int)(m:Nat)(p:Array Nat):(Prop):=∀i j,i<j->j<m->Ahd key (p.S i 0) (p.S j 0)
def Asc.more(hm:1<=m)(h:Asc key m p)(h2:Ahd key (p.S (m-1) 0) (p.S m 0)):Asc key (m+1) p:=λi j WJ hj=>by
 cases e:j=m
 .subst e;cases e2:i=j-1
  .rw[e2];show h2
  .show(h i (j-1) J oW).m h2
 .show h i j WJ J
def Nr:∀f m p,m+f=n->1<=m->Ord n m p->Asc key m p->∃k,Tt (λi j=>decide (key i<key j)) (kas_asc p f m)=k/\m<=k/\k<=n/\Asc key k p/\(k<n->key (p.S k 0)<key (p.S (k-1) 0))
 |0,m,p,hf,h1,ho,ha=>{m,Z,XJ _,J,ha,λh=>J}
 |f+1,m,p,hf,h1,ho,ha=>by
  change ∃k,Tt _ (if decide (key (p.S m 0)<key (p.S (m-1) 0))=true then KasT.ret m else kas_asc p f (m+1))=k/\_;cases hc:key (p.S m 0)<key (p.S (m-1) 0)
  .rw[if_pos (Yq hc)];exists m,Z,XJ _,J,ha,λ_=>hc
  .rw[if_neg λz=>hc (Yu z)];let e:=ho.suf m (XJ _) J
   let l:=ho.lt J (i:=m-1) J;let(k,e1,e2,e3,e4,e5):=Nr f (m+1) p J J (ho.mono J) (ha.more h1<|by unfold Ahd;rw[e]at hc ⊢;lia);exists k,e1,J,e3,e4,e5
structure Dsc(key:Nat->Int)(m g:Nat)(p:Array Nat):Prop where
 le:g+1<=m
 old:∀i j,i<j->j<m-(g+1)->Ahd key (p.S j 0) (p.S i 0)
 mid:∀i j,i<m-(g+1)->m-(g+1)<=j->j<m->key (p.S j 0)<key (p.S i 0)
 own:∀i j,m-(g+1)<=i->i<j->j<m->key (p.S i 0)=key (p.S j 0)/\p.S i 0<p.S j 0
def Fall(key:Nat->Int)(m:Nat)(p:Array Nat):(Prop):=∀i j,i<j->j<m->Ahd key (p.S j 0) (p.S i 0)
def Dsc.turn(h:Dsc key m g p)(hs:m<=p.t):Fall key m (kas_rev p (m-(g+1)) m):=λi j WJ hj=>by
 let hl:=h.le;rw[TY hs,TY hs];cases c1:m-(g+1)<=j
 .rw[if_pos ⟨c1,hj⟩];cases c2:m-(g+1)<=i
  .rw[if_pos ⟨c2,J⟩];show .inr (h.own (m-(g+1)+m-1-j) (m-(g+1)+m-1-i) oW oW J)
  .rw[if_neg J];show .inl (h.mid i _ J J J)
 .rw[if_neg J,if_neg J];show h.old i j WJ J
def Dsc.last(h:Dsc key m g p)(hs:m<=p.t):key ((kas_rev p (m-(g+1)) m).S (m-1) 0)=key (p.S (m-1) 0):=by
 let hl:=h.le;rw[TY hs,if_pos J];cases e:g=0
 .congr 2;lia
 .show(h.own (m-(g+1)+m-1-(m-1)) (m-1) oW oW J).1
def Dsc.fall(h:Dsc key m 0 p):Fall key m p:=λi j WJ hj=>by
 let hl:=h.le;cases e:j<m-(0+1)
 .show h.old i j WJ e
 .show .inl (h.mid i j J J hj)
def Fall.new(hm:1<=m)(h:Fall key m p)(hk:key (p.S m 0)<key (p.S (m-1) 0)):Dsc key (m+1) 0 p:=by
 exists J,λi j WJ hj=>h i j WJ J,λi j hi h1 h2=>?_,λi j h1 h2 h3=>J;let e:j=m:=J
 subst e;cases c:i=j-1
 .rw[c];show hk
 .have:=h i (j-1) J oW
  unfold Ahd at this;omega
def Fall.rev(h:Fall key m p)(hs:m<=p.t):Asc key m (kas_rev p 0 m):=λi j WJ hj=>by rw[TY hs,TY hs,if_pos {Yj _,J},if_pos {Yj _,hj}];show h _ _ oW oW
def Asc.rev(h:Asc key m p)(hs:m<=p.t):Fall key m (kas_rev p 0 m):=λi j WJ hj=>by rw[TY hs,TY hs,if_pos {Yj _,hj},if_pos {Yj _,oW}];show h _ _ oW oW
def rF:∀f m g p,m+f=n->Ord n m p->Dsc key m g p->∃p' m' g',Tt (λi j=>decide (key i<key j)) (kas_desc f p m g)=(p',m',g')/\m<=m'/\m'<=n/\Ord n m' p'/\Dsc key m' g' p'
 |0,m,g,p,hf,ho,hd=>{p,m,g,Z,XJ _,oW,ho,hd}
 |f+1,m,g,p,hf,ho,hd=>by
  let hl:=hd.le;let hs:=ho.t
  let em:=ho.suf m (XJ _) J;let ll:=ho.lt J (i:=m-1) J
  change ∃p' m' g',Tt _ (if decide (key (p.S m 0)<key (p.S (m-1) 0))=true then (if g>0 then kas_desc f (kas_rev p (m-(g+1)) m) (m+1) 0 else kas_desc f p (m+1) 0) else KasT.ask (p.S (m-1) 0) (p.S m 0) λd=>if d=true then .ret (p,m,g) else kas_desc f p (m+1) (g+1))=_/\_;cases hc:key (p.S m 0)<key (p.S (m-1) 0)
  .rw[if_pos (Yq hc)];cases hg:g>0
   .rw[if_pos hg];let hr:=ho.rev (i:=m-(g+1)) (XJ m) J
    let em2:=hr.suf m (XJ _) J;let(p',m',g',e1,e2,e3,e4,e5):=rF f (m+1) 0 (kas_rev p (m-(g+1)) m) J (hr.mono J) ((hd.turn J).new J (by rw[hd.last oW,em2];rwa[em]at hc));exists p',m',g',e1,J,e3,e4,e5
   .rw[if_neg hg];let rfl:g=0:=J;let(p',m',g',e1,e2,e3,e4,e5):=rF f (m+1) 0 p oW (ho.mono oW) (hd.fall.new J hc);exists p',m',g',e1,J,e3,e4,e5
  .rw[if_neg λz=>hc (Yu z)];change ∃p' m' g',Tt _ (if decide (key (p.S (m-1) 0)<key (p.S m 0))=true then KasT.ret (p,m,g) else kas_desc f p (m+1) (g+1))=_/\_
   cases UQ:key (p.S (m-1) 0)<key (p.S m 0)
   .rw[if_pos (Yq UQ)];exists p,m,g,Z,XJ _,oW,ho,hd
   .rw[if_neg λz=>UQ (Yu z)];let ek:key (p.S (m-1) 0)=key (p.S m 0):=J
    let(p',m',g',e1,e2,e3,e4,e5):=rF f (m+1) (g+1) p oW (ho.mono oW) ⟨J,λi j h1 h2=>hd.old i j h1 J,λi j h1 h2 h3=>by
     cases c:j=m
     .rw[c,<-ek];show hd.mid i (m-1) J J J
     .show hd.mid i j J J J,λi j h1 h2 h3=>by
     cases c:j=m
     .rw[c];cases c2:i=m-1
      .rw[c2,em];rw[em]at ek;exists ek,ll
      .have:=hd.own i (m-1) J J oW
       rw[em];rw[em]at ek;exists this.1.m ek,J
     .show hd.own i j J h2 oW⟩
    exists p',m',g',e1,J,e3,e4,e5
def ZC9(hm:1<=m)(hn:m<=n)(ho:Ord n m p)(hf:Fall key m p):∃k p',Tt (λi j=>decide (key i<key j)) (kas_tail3 m n p)=(k,p')/\1<=k/\k<=n/\Ord n k p'/\Asc key k p':=by
 let hs:=ho.t;unfold kas_tail3;rw[DO];let hr:=ho.rev (i:=0) (XJ m) hn
 let(k,e1,e2,e3,e4,_):=Nr (n-m) m (kas_rev p 0 m) J hm hr (hf.rev J);rw[e1];exists k,_,Z,J,e3,hr.mono e2,e4
def ZO9(hm:1<=m)(hn:m<n)(ho:Ord n m p)(hf:Fall key m p)(hk:key (p.S m 0)<key (p.S (m-1) 0)):∃k p',Tt (λi j=>decide (key i<key j)) (kas_descPart m n p)=(k,p')/\1<=k/\k<=n/\Ord n k p'/\Asc key k p':=by
 unfold kas_descPart;rw[DO];let(p',m',g',e1,e2,e3,e4,e5):=rF (n-(m+1)) (m+1) 0 p J (ho.mono J) (hf.new hm hk);rw[e1];let hs:=e4.t
 change ∃k q,Tt _ (if g'>0 then kas_tail3 m' n (kas_rev p' (m'-(g'+1)) m') else kas_tail3 m' n p')=_/\_;cases hg:g'>0
 .rw[if_pos hg];show ZC9 J e3 (e4.rev (XJ _) e3) (e5.turn J)
 .rw[if_neg hg];let rfl:g'=0:=J;show ZC9 J e3 e4 e5.fall
def gr(hn:1<=n)(ho:Ord n 1 p):∃k p',Tt (λi j=>decide (key i<key j)) (kas_count n p)=(k,p')/\1<=k/\k<=n/\Ord n k p'/\Asc key k p':=by
 unfold kas_count;rw[DO];let(k,e1,e2,e3,e4,e5):=Nr (key:=key) (n-1) 1 p J (XJ _) ho λi j h1 h2=>J;rw[e1];let hs:=ho.t
 let hk:=ho.mono e2;cases c:k=n
 .rw[if_pos (by rw[c];show HR n)];exists k,p,Z,e2,e3,hk,e4
 .rw[if_neg λz=>c (Qh.L z)];let Xh:k<n:=J
  let h5:=e5 Xh;cases c1:k>1
  .rw[if_pos c1];change ∃k' p',Tt _ (if decide (key (p.S 0 0)<key (p.S (k-1) 0))=true then KasT.ret (k,p) else kas_descPart k n (kas_rev p 0 k))=_/\_
   cases c2:key (p.S 0 0)<key (p.S (k-1) 0)
   .rw[if_pos (Yq c2)];exists k,p,Z,e2,e3,hk,e4
   .rw[if_neg λz=>c2 (Yu z)];let a0:=e4 0 (k-1) J J
    let eq:key (p.S 0 0)=key (p.S (k-1) 0):=by unfold Ahd at a0;lia
    let hr:=hk.rev (i:=0) (XJ k) J;show ZO9 e2 Xh hr (e4.rev J) ?_;rwa[TY oW,TY oW,if_neg J,if_pos J,show 0+k-1-(k-1)=0 by lia,eq]
  .rw[if_neg c1];let rfl:k=1:=J;show ZO9 (XJ _) Xh hk (λi j h1 h2=>J) h5
def gq(hk:Asc key k p):∀f l r,r-l<=f->l<=r->r<=k->(∀i,i<l->¬key (p.S k 0)<key (p.S i 0))->(∀i,r<=i->i<k->key (p.S k 0)<key (p.S i 0))->∃l',Tt (λi j=>decide (key i<key j)) (kas_place p k f l r)=l'/\l'<=k/\(∀i,i<l'->¬key (p.S k 0)<key (p.S i 0))/\(∀i,l'<=i->i<k->key (p.S k 0)<key (p.S i 0))
 |0,l,r,hf,h1,h2,ha,hb=>{l,Z,J,ha,λi hi=>hb i J}
 |f+1,l,r,hf,h1,h2,ha,hb=>by
  let mono:∀i j,i<=j->j<k->key (p.S i 0)<=key (p.S j 0):=λi j WJ hj=>by
   cases e:i=j
   .rw[e];show Jv _
   .have:=hk i j J hj
    unfold Ahd at this;lia
  unfold kas_place;cases c:l >= r
  .rw[if_pos c];exists l,Z,J,ha,λi hi=>hb i J
  .rw[if_neg c];change ∃l',Tt _ (if decide (key (p.S k 0)<key (p.S ((l+r)/2) 0))=true then kas_place p k f l ((l+r)/2) else kas_place p k f ((l+r)/2+1) r)=l'/\_
   cases c2:key (p.S k 0)<key (p.S ((l+r)/2) 0)
   .rw[if_pos (Yq c2)];show gq hk f l ((l+r)/2) J J J ha λi hi iE=>by
     have:=mono ((l+r)/2) i hi iE
     omega
   .rw[if_neg λz=>c2 (Yu z)];show gq hk f ((l+r)/2+1) r J J J (λi hi=>by
     have:=mono i ((l+r)/2) J J
     omega) hb
def Ge{k d x:Nat}(hk:k<p.t)(hd:d<=k):(bubble p k d).S x 0=if x=k-d then p.S k 0 else if k-d<x/\x<=k then p.S (x-1) 0 else p.S x 0:=by rw[YB,getElem?_bubble hk d hd,apply_ite λo:Option Nat=>o.S 0,apply_ite λo:Option Nat=>o.S 0,<-YB,<-YB,<-YB]
def yw:∀f k p,k+f=n->Ord n k p->Asc key k p->∃p',Tt (λi j=>decide (key i<key j)) (kas_bin f p k)=p'/\Ord n n p'/\Asc key n p'
 |0,k,p,hf,ho,ha=>by let rfl:k=n:=J;exists p,Z,ho,ha
 |f+1,k,p,hf,ho,ha=>by
  let hs:=ho.t;let ek:=ho.suf k (XJ _) J
  unfold kas_bin;rw[DO];let(l,e1,e2,e3,e4):=gq ha k 0 k J J (XJ _) (λi hi=>J) λi hi VH=>J;rw[e1];show yw f (k+1) (bubble p k<|k-l) J {(bubble_perm _ _ _).m ho.perm,λi hi hn=>?_} λi j WJ hj=>?_
  .rw[Ge J J,if_neg J,if_neg J];show ho.suf i J hn
  .let low:∀x,x<k->p.S x 0<k:=λx hx=>ho.lt J hx;rw[Ge J J,Ge oW oW];let ekl:k-(k-l)=l:=J
   rw[ekl];cases c1:i=l
   .rw[if_pos c1,if_neg J,if_pos J];show .inl (e4 (j-1) J J)
   .rw[if_neg c1];cases c2:j=l
    .rw[if_pos c2,if_neg J];let a:=e3 i J
     let b:=low i J;rw[ek]at a ⊢;unfold Ahd;lia
    .rw[if_neg c2];cases c3:l<i
     .rw[if_pos ⟨c3,J⟩,if_pos ⟨J,J⟩];show ha _ _ J J
     .rw[if_neg J];cases c4:l<j
      .rw[if_pos ⟨c4,oW⟩];show ha _ _ J J
      .rw[if_neg J];show ha _ _ WJ J
def Kg(hn:1<=n):∃p,Tt (λi j=>decide (key i<key j)) (kas_sort n)=p/\p.l.Perm (List.range n)/\p.l.E (Ahd key):=by
 let fin:∀p,Ord n n p->Asc key n p->p.l.Perm (List.range n)/\p.l.E (Ahd key):=λp ho ha=>by
  let hs:=ho.t;exists Uk.L ho.perm,ME.U λi j hi hj WJ=>?_;rw[Yx]at hi hj
  have:=ha i j WJ J
  rwa[YB,YB,YR hi,YR hj]at this
 unfold kas_sort;rw[DO];let(k,p,e1,e2,e3,e4,e5):=gr (key:=key) hn (p:=(List.range n).C) {Dc _,λi _ hi=>by simp[Array.getD,hi]};rw[e1];change ∃q,Tt _ (if k<n then kas_bin (n-max k 1) p (max k 1) else .ret p)=q/\_
 cases c:k<n
 .rw[if_pos c,Nat.max_eq_left e2];let(q,h1,h2,h3):=yw (n-k) k p J e4 e5;exists q,h1,fin q h2 h3
 .rw[if_neg c];let rfl:k=n:=J;exists p,Z,fin p e4 e5
end
end My
namespace L2
open PySem PySem.Spec PyProof.Rows
def Nq(P:Program)(w:World)(K:Ad)(mg:Af)(base:Heap)(N:List Str)(qual:Str)(scope:Scope)(f:Addr)(cd:Value)(cl:List (Str×Addr))(A:Around)(outer:List Env)(s:Shared)(H:Hp):(Cx) where
 prog:=P
 w:=w
 K:=K
 mg:=mg
 base:=base
 A:=A.deeper (PySem.W.envX qual scope (~~~s) f cd cl)
 N:=N
 s₀:=s
 H₀:=H
 env:=PySem.W.envX qual scope (~~~s) f cd cl
 outer:=outer
 stack:=PySem.W.envX qual scope (~~~s) f cd cl::outer
 ex:=[]
 calm:=true
 fn:=λ_=>false
 pn:=[]
 xe:=λ_ _=>False
structure LamScope(v x:Str)(sc:Scope):Prop where
 kind:sc.kind=.function
 co:sc.isCoroutine=false
 gen:sc.isGenerator=false
 nocell:∀y∈sc.names,y.2≠.cell
 par:sc.names.Y v=some .local
 free:sc.names.Y x=some .free
 only:∀y,sc.names.Y y=some .free->y=x
 ne:v≠x
section
variable{P:Program}{w:World}{K:Ad}{mg:Af}{base:Heap}{qual name v x:Str}{scope:Scope}{f c c':Addr}{cd pm Qq u ux:Value}{A:Around}{outer:List Env}{s:Shared}{H:Hp}{vv vx:V}{params:Arguments}{body:Expr}{k:Nat}{t:TE}{Q:VK}
def rE{c2:Addr}(h:List.Y y [(x,c)]=some c2):y=x/\c2=c:=by
 unfold List.lookup at h;split at h
 .rename_i e;exists Qh.L e,(Ye h).symm
 .cases h
def gn(S:LamScope v x scope)(hd:A.handled=none)(e0:Env0 P w K mg base A outer s H)(hc:s.G.IsCell c (some ux))(rx:RelV vx ux)(gm:H c=none)(rv:RelV vv u){h1:Heap}{tk:Nat}
  (Qp:h1.Ns (~~~s) λy=>[(v,u)].reverse.Y y)(hk:∀b o,s.G.H b=some o->h1.H b=some o):
  Inv (Nq P w K mg base [v,x] qual scope f cd [(x,c)] A outer s H) [] [some vv,some vx] H {s with heap:=h1,toks:=tk}:=by
 let Hh:∀b:Addr,b∉(Nq P w K mg base [v,x] qual scope f cd [(x,c)] A outer s H).ex:=λb z=>absurd (show b∈([]:List Addr) from z) B;let hck:h1.IsCell c (some ux):=by let(o,e,d):=hc;exists o,hk _ _ e,d
 let lk:List.Y x [(x,c)]=some c:=by unfold List.lookup;rw[HR]
 show⟨{e0.mod,S.kind,Z,Z,XJ _,λy z c2 h1 h2=>?_,λy hy=>?_,λy c2 z _=>(nomatch z),λ_=>hd,Around.frames_deeper e0.frames,.inr ⟨Z,Z⟩,λb z=>absurd z<|Hh b,e0.bs,e0.bsz,λb _ _=>Hh b,λb z=>absurd z<|Hh b,e0.funs,e0.frf},
  rfl,e0.bare,Un.kept hk,{_,Qp,λi y v' h1 h2 h3=>?_},λy c2 h=>?_,e0.hok.fresh<|XJ _,λy c2 h=>?_,λp hp=>absurd (show p∈([]:List (Addr×Obj)) from hp) B,e0.hok.kept hk,Z⟩
 .rw[(rE h1).1,(rE h2).1]
 .let hy:scope.names.Y y=some .cell\/scope.names.Y y=some .free:=hy;rcases hy with hy|hy
  .show absurd Z (S.nocell _<|HW hy)
  .rw[S.only y hy];exists c,lk
 .match i,h1,h2 with
  |0,h1,h2=>
   let rfl:v=y:=Ye h1;let rfl:vv=v':=Ye (Ye h2);exists u,rv,.inl {S.par,?_};change List.Y v [(v,u)]=some u
   unfold List.lookup;rw[HR]
  |1,h1,h2=>
   let rfl:x=y:=Ye h1;let rfl:vx=v':=Ye (Ye h2);exists ux,rx,.inr {.inr S.free,c,lk,hck}
  |i+2,h1,h2=>cases h1
 .rw[(rE h).2];exists _,hck
 .rw[(rE h).2];show gm
def gk(S:LamScope v x scope)(hr:Room (k+1) A)(e0:Env0 P w K mg base A outer s H)(ho:s.G.H f=some (PySem.W.kla_obj name qual params body scope [(x,c)] pm c' Qq))(RW:s.G.CodeRec ↑c' qual)
  (Se:bindArgs (PySem.W.kla_fn name qual params body scope [(x,c)] pm ↑c' Qq) {[u],[]}=pure [(v,u)])(hc:s.G.IsCell c (some ux))(rx:RelV vx ux)(gm:H c=none)(rv:RelV vv u)
  (hb:PE (Nq P w K mg base [v,x] qual scope f ↑c' [(x,c)] A outer s H) body t)(hq:t [some vv,some vx] H Q):
  codeAny (model P w) A (.call ↑f {[u],[]}) (λr s'=>∃u',r=.ok (.ret u')/\CE outer P w H s Q u' s') s:=by
 let lim:s.G.NoLimit:=e0.mod.nolimit.keeps λb o e=>(e0.bs b o e).1;show PySem.W.kla_callFunE hr.depth ho Z S.co S.gen Z RW ?_;rw[Se];show Yn (wpAny_newFunctionEnv S.nocell (λy hy=>?_) (λh1 Qp hsb=>{lim.fresh _ hsb,?_}) S.kind)
 .rw[XB.L hy];show S.par
 let hk:∀b o,s.G.H b=some o->h1.H b=some o:=λb o e=>hsb.extBut b o (YF<|Yt e) (WY _ e);let I:Inv (Nq P w K mg base [v,x] qual scope f ↑c' [(x,c)] A outer s H) [] [some vv,some vx] H {s with heap:=h1,toks:=s.toks+[(v,u)].f}:=gn S hr.hd e0 hc rx gm rv Qp hk
 show PySem.W.kla_codeExpr (RX (hb [] _ _ H _ I hq) (λu' s' h=>?_) λe s' h=>False.elim h);let(y,H',AP,r,q):=h;exists u',Z,y,H',AP.os,AP.bare,AP.base,AP.hok,r,q
end
end L2
namespace My
open PySem PySem.W PyProof.Rows
def Asks{α:Type}(n:Nat)(R:α->Prop):(KasT α->Prop)
 | .ret a=>R a
 | .ask i j k=>i<n/\j<n/\∀b,Asks n R (k b)
def Asks.bind{α β:Type}{R:α->Prop}{S:β->Prop}{f:α->KasT β}:∀{t:KasT α},Asks n R t->(∀a,R a->Asks n S (f a))->Asks n S (t.bind f)
 | .ret a,h,hf=>hf a h
 | .ask _ _ _,h,hf=>{h.1,h.2.1,λb=>Asks.bind (h.2.2 b) hf}
def goT_wp'{α:Type}{R:α->Prop}{c:Nat->Nat->Bool}{cmp:Nat->Nat->(Bool->Shared->Prop)->Shared->Prop}{AP:Shared->Prop}(h:∀i j C s,i<n->j<n->AP s->(∀s',AP s'->C (c i j) s')->cmp i j C s){Q:α->Shared->Prop}:∀t s,Asks n R t->AP s->(∀s',AP s'->Q (Tt c t) s')->t.kasWp cmp Q s
 | .ret _,s,_,hs,q=>q s hs
 | .ask i j k,s,ha,hs,q=>h i j _ s ha.1 ha.2.1 hs λs' Wb=>goT_wp' h (k<|c i j) s' (ha.2.2 _) Wb q
section
variable{n:Nat}
def Bd(n:Nat)(p:Array Nat):(Prop):=p.Perm (List.range n).C
def Bd.lt(h:Bd n p)(hn:1<=n)(i:Nat):p.S i 0<n:=by
 cases hi:i<p.t
 .let e1:=Kh (p:=p) hi;rw[<-YI]at e1;show YW.L ((Uk.L h).mem_iff.L (Xm e1))
 .rw[YB,Ly J];show hn
def Bd.rev(h:Bd n p)(i j:Nat):Bd n (kas_rev p i j):=(mirror_perm _ _ _ _).m h
def gj(hn:1<=n)(hp:Bd n p):∀f m:Nat,Asks n (λ_=>True) (kas_asc p f m)
 |0,m=>trivial
 |f+1,m=>⟨hp.lt hn _,hp.lt hn _,λb=>by
  cases b with
  |true=>show trivial
  |false=>show gj hn hp f<|m+1⟩
def rD(hn:1<=n):∀f p m q,Bd n p->Asks n (λr=>Bd n r.1) (kas_desc f p m q)
 |0,p,m,q,hp=>hp
 |f+1,p,m,q,hp=>⟨hp.lt hn _,hp.lt hn _,λb=>by
  cases b with
  |true=>
   change Asks n _ (if q>0 then kas_desc f (kas_rev p (m-(q+1)) m) (m+1) 0 else kas_desc f p (m+1) 0);split
   .show rD hn f _ _ _ (hp.rev _ _)
   .show rD hn f _ _ _ hp
  |false=>
   exists hp.lt hn _,hp.lt hn _,λd=>?_;cases d with
   |true=>show hp
   |false=>show rD hn f _ _ _ hp⟩
def yt(hn:1<=n)(hp:Bd n p)(m r:Nat):Asks n (λz=>Bd n z.2) (kas_tail3 m r p):=
 (gj hn (hp.rev _ _) _ _).bind λ_ _=>hp.rev _ _
def Zf5(hn:1<=n)(hp:Bd n p)(m r:Nat):Asks n (λz=>Bd n z.2) (kas_descPart m r p):=
 (rD hn _ p _ _ hp).bind λz hz=>by
  split
  .show yt hn (hz.rev _ _) _ _
  .show yt hn hz _ _
def Za8(hn:1<=n)(hp:Bd n p)(r:Nat):Asks n (λz=>Bd n z.2) (kas_count r p):=
 (gj hn hp _ _).bind λz _=>by
  split
  .show hp
  .split
   .exists hp.lt hn _,hp.lt hn _,λb=>?_;cases b with
    |true=>show hp
    |false=>show Zf5 hn (hp.rev _ _) _ _
   .show Zf5 hn hp _ _
def gh(hn:1<=n)(hp:Bd n p)(k:Nat):∀f l r:Nat,Asks n (λ_=>True) (kas_place p k f l r)
 |0,l,r=>trivial
 |f+1,l,r=>by
  unfold kas_place;split
  .show trivial
  .exists hp.lt hn _,hp.lt hn _,λb=>?_;cases b with
   |true=>show gh hn hp k f _ _
   |false=>show gh hn hp k f _ _
def Zj8(hn:1<=n):∀f p k,Bd n p->Asks n (λz=>Bd n z) (kas_bin f p k)
 |0,p,k,hp=>hp
 |f+1,p,k,hp=>(gh hn hp k _ _ _).bind λl _=>Zj8 hn f _ _ ((bubble_perm _ _ _).m hp)
def PH(hn:1<=n):Asks n (λz=>Bd n z) (kas_sort n):=
 (Za8 hn (p:=(List.range n).C) (Dc _) n).bind λz hz=>by
  split
  .show Zj8 hn _ _ _ hz
  .show hz
end
end My
namespace L2
open PySem PySem.Spec PyProof.Rows PySem.W
def Rf(key:Int->Int)(ns ms:Ac):(Prop):=∃p:List Nat,p.Perm (List.range ns.f)/\p.E (My.Ahd λi=>key<|ns.S i 0)/\ms=p.R λi=>ns.S i 0
section
variable{X:Cx}{pins:List (Addr×Obj)}{σ:St}{H:Hp}{s:Shared}{b:Addr}{o:Obj}
def Inv.pin1(I:Inv X pins σ H s)(F:FpOk X pins H b)(e:s.G.H b=some o)(hd:∀v,o.data≠.cell v):Inv X (pins++[(b,o)]) σ H s:=I.pins_of λp hp=>by
 rcases Xz.L hp with hp|hp
 .show I.pin p (Yk _ hp)
 .rw[XB.L hp];exists e,F.1,F.2.1,F.2.2.1,hd
def FpOk.more{pl:List (Addr×Obj)}(F:FpOk X pins H b)(hn:∀p∈pl,p.1≠b):FpOk X (pins++pl) H b:=⟨F.1,F.2.1,F.2.2.1,F.2.2.2.1,F.2.2.2.2.1,λp hp=>by
 rcases Xz.L hp with hp|hp
 .show F.2.2.2.2.2 p (Yg _ hp)
 .rcases Xz.L hp with hp|hp
  .show F.2.2.2.2.2 p (Yk _ hp)
  .show hn p hp⟩
def Inv.changed{h':Heap}{t':Nat}(I:Inv X pins σ H s)(F:FpOk X pins H b)(k:∀c o,c≠b->s.G.H c=some o->h'.H c=some o):Inv X pins σ H {s with heap:=h',toks:=t'}:=
 I.turned k F.1 F.2.1 F.2.2.2.1 F.2.2.2.2.1 F.2.2.2.2.2
def Inv.adopt(I:Inv X pins σ H s)(hex:X.ex=[])(F:FpOk X pins H b)(new:ObjOk X.prog X.w (upd H b u) s.G b u):Inv X pins σ (upd H b u) s:=by
 let f4:(~~~X.s₀)<=b:=F.2.2.2.1.resolve_left (by rw[hex];simp);let hn:=F.1
 exists I.ok,I.os,I.bare,{I.base.keep,I.base.slot,λc o e n hc=>?_,I.base.there,λc xs q=>?_,λc o w q=>?_,λc ps q=>?_},I.loc,I.cell,?_,λx c e=>?_,λp hp=>?_,λc w e=>?_,I.len
 .rw[Zb (YF<|YD (Yt e) f4)];show I.base.free c o e n hc
 .have:=I.base.tups c xs q
  rwa[Zb (WC this hn)]
 .have:=I.base.frzs c o w q
  rwa[Zb (WC this hn)]
 .let⟨m,this⟩:=I.base.tbls c ps q;exists m,by rwa[Zb (WC this hn)]
 .rw[Zb (WX F.2.1)];show I.free
 .rw[Zb (F.2.2.2.2.1 x c e)];show I.freeC x c e
 .have:=I.pin p hp
  exists this.1,by rw[Zb (F.2.2.2.2.2 p hp)];show this.2.1,this.2.2
 .cases hb:c=b
  .subst hb;rw[XT]at e;cases e;show new
  .rw[Zb hb]at e;show(I.hok c w e).stay (λ_ _ _ q=>q) (λd q=>by rwa[Zb (WC q hn)]) λd xs q=>by rwa[Zb (WC q hn)]
end
section
variable{X:Cx}{pins:List (Addr×Obj)}{σ:St}{H:Hp}{s:Shared}{a kS:Addr}{A:Around}{E:Ae}{P:PySem.Fin->Shared->Prop}{kA:Array Value}{e e1:Nat}{ns:Ac}{vs:Ag}
def ZB7{st:SortSt}{out:Ag}(I:Inv X (pins++[(a,seqObj "list" #[] e1),(kS,seqObj "list" kA e)]) σ H s)(Fa:FpOk X pins H a)(Fk:FpOk X pins H kS)(NJ:a≠kS)(hz:kA.t<64)(KW:failedOf st=none)
  (Gd:(arrOf st).R (·.2)=out.C)(hlen:out.f<64)(h:∀s' m,Inv X pins σ H s'->s'.G.H a=some (seqObj "list" out.C m)->P (.done<|.ret .none) s'):
  wpAny (model X.prog X.w) A (ksk_tail a false e1 ↑kS st) P E s:=by
 let KJ:sizeLine=16777216:=TM;let pa:=(I.pin (a,seqObj "list" #[] e1) B).1
 let pk:=(I.pin (kS,seqObj "list" kA e) B).1;let I0:Inv X pins σ H s:=I.unpinned
 let gf:(s.G.update kS<|Obj.mapSeq λ_=>(#[]:Array Value)).H a=some (seqObj "list" #[] e1):=(VN _ _<|WX NJ).m pa;obtain⟨m,hm⟩:∃m,((s.G.update kS<|Obj.mapSeq λ_=>(#[]:Array Value)).update a (Obj.mapSeq λ_=>out.C)).H a=some (seqObj "list" out.C m):={_,OC gf λ_=>out.C};unfold ksk_tail;dsimp only;rw[Gd];show XU (Mr pk Z ?_ J<|Yj _);show XU (EB ?_);show XU (seqEpoch_at gf Z ?_);show XU (Mr gf Z ?_ (Yj _)<|by simp;lia);rw[KW];simp only[pQ,QT,Vw];show Yn (h _ m ?_ hm);let I1:Inv X pins σ H {s with heap:=s.G.update kS<|Obj.mapSeq λ_=>(#[]:Array Value),toks:=s.toks}:=I0.changed Fk λc o hc q=>(VN _ _<|WX hc).m q
 show I1.changed (t':=s.toks) Fa λc o hc q=>(VN _ _<|WX hc).m q
def ZY9{vs:Ag}{ns:Ac}(h0:IntsAre vs ns):∀i,i<ns.f->∃t,vs[i]?=some (.int (ns.S i 0) t):=by
 induction h0 with
 |nil=>show λi h=>absurd h (Sy _)
 |cons n t r ih=>
  intro i h;cases i with
  |zero=>exists t,Z
  |succ i=>show ih i (by rw[YG]at h;lia)
end
def DN(c:Addr)(qual:Str):(HO):=.ext λh=>h.CodeRec ↑c qual
def TabH(H:Hp)(Pt:Addr)(pos:Pos)(qual:Str):(Prop):=∃ps:Array Value,H Pt=some (.tbl ps)/\TriplesOk ps.l/\(codeAmong pos ps.l=none\/∃c,codeAmong pos ps.l=some ↑c/\H c=some (DN c qual))
def SameX(Pt:Addr)(H H':Hp):(Prop):=∀b o,b≠Pt->H b=some o->H' b=some o
def yr{c:Addr}(h1 h2:Heap)(r:h1.CodeRec ↑c qual)(k:∀o,h1.H c=some o->h2.H c=some o):h2.CodeRec ↑c qual:=by let(c2,o,vs,t,e,g,r):=r;cases e;exists c,o,vs,t,Z,k _ g,r
section
variable{X:Cx}{pins:List (Addr×Obj)}{σ:St}{H:Hp}{s:Shared}{c Pt cc:Addr}{x:Str}{params:Arguments}{body:Expr}{scope:Scope}{pos:Pos}{E:Ae}{Q:Ae}
def Inv.builtinsAt(I:Inv X pins σ H s)(hB:X.base.BuiltinsAt X.mg Pt):s.G.BuiltinsAt X.mg Pt:=by let(bm,o,h1,h2,h3,h4,h5,h6):=hB;exists bm,o,h1,h2,h3,h4,I.bk _ _ h5,h6
def gd(I:Inv X pins σ H s)(Ts:X.env.code=.ref c)(hC:codeHdIn X.K c Pt=true)(hB:X.base.BuiltinsAt X.mg Pt)(hT:TabH H Pt pos (X.env.qual++Str.ofString "<lambda>"))(Nv:closureFor scope X.env=pure [(x,cc)])(Gb:defaultsOf params X.env=([],[]))(yq:mainGlobals≠Pt)
  (h:∀f c' pm Qq s' H',SameX Pt H H'->TabH H' Pt pos (X.env.qual++Str.ofString "<lambda>")->FpOk X pins H' f->Inv X pins σ H' s'->s'.G.H f=some (kla_obj (Str.ofString "<lambda>") (X.env.qual++Str.ofString "<lambda>") params body scope [(x,cc)] pm c' Qq)->H' c'=some (DN c'<|X.env.qual++Str.ofString "<lambda>")->Q ↑f s'):
  wpAny (model X.prog X.w) X.A (eval (.Lambda params body scope pos) X.env) Q E s:=by
 let(ps,hP,Ir,Vr):=hT;let VJ:s.G.H Pt=some (tabObj ps):=I.hok Pt _ hP
 let Qp:s.G.Ns mainGlobals X.mg:=I.mod.glob.keeps I.bk;let hHd:=codeHd_of_K I.kIn hC
 show kla_eval Gb ?_;rcases Vr with hnf|⟨c',hf,WS⟩
 .show kla_makeFunction Nv I.ok.glob Qp Ts hHd VJ Ir hnf yq (I.builtinsAt hB) λc' Qq h' tk hx SW Xh Kf htb=>?_;let hPl:Pt<(~~~s):=Yt VJ
  let rC:H c'=none:=I.hok.fresh SW;let hcP:c'≠Pt:=RD (YD hPl SW)
  let keep:∀b o,b≠Pt->s.G.H b=some o->(h'.push<|kla_obj (Str.ofString "<lambda>") (X.env.qual++Str.ofString "<lambda>") params body scope [(x,cc)] ((X.mg "__name__").S .none) c' Qq).H b=some o:=λb o hb e=>WY _ (hx b o hb e);let sx:SameX Pt H (upd (upd H Pt<|.tbl<|ps++#[rawInt pos.line,rawInt pos.col,.ref c']) c'<|DN c'<|X.env.qual++Str.ofString "<lambda>"):=λb o hb e=>by rwa[Zb (WC e rC),Zb hb]
  let tb:TabH (upd (upd H Pt<|.tbl<|ps++#[rawInt pos.line,rawInt pos.col,.ref c']) c'<|DN c'<|X.env.qual++Str.ofString "<lambda>") Pt pos (X.env.qual++Str.ofString "<lambda>"):=by let et:(ps++#[rawInt pos.line,rawInt pos.col,Value.ref c']).l=ps.l++[rawInt pos.line,rawInt pos.col,.ref c']:=B;exists ps++#[rawInt pos.line,rawInt pos.col,.ref c'],by rw[Zb (WX hcP),XT],by rw[et];show TriplesOk_snoc _ _ _ _ Ir,.inr {c',by rw[et];show codeAmong_snoc _ Ir hnf,XT}
  let Ga:∀b,H b=none->b≠Pt:=λb n z=>by rw[z,hP]at n;cases n
  show h h'.objs.t c' _ Qq _ _ sx tb ?_ (I.un {λb o e n _ _=>keep b o (Ga b n) e,λb o e n _ _=>{o.slots,keep b o (Ga b n) e},λb o e n _=>?_,λb o e _=>?_,λb xs e=>?_,λb o u e=>?_,λb qs e=>?_} λb u e=>?_) (Yr _ Z) XT
  .let gc:(~~~s)<=h'.objs.t:=J;show I.fpOk gc ?_;rw[Zb (RD Xh),Zb (RD<|YD hPl gc)];show I.hok.fresh gc
  .rw[Zb (YF<|YD (Yt e) SW),Zb (Ga b n)];show n
  .cases hb:b=Pt
   .rw[hb];exists _,WY _ htb
   .exists o,keep b o hb e
  .show sx b _ (λz=>by rw[z,hP]at e;cases e) e
  .show sx b _ (λz=>by rw[z,hP]at e;cases e) e
  .cases hb:b=Pt
   .subst hb;rw[hP]at e;let rfl:ps=qs:=by cases e;rfl
    exists #[rawInt pos.line,rawInt pos.col,.ref c'],by rw[Zb (WX hcP),XT]
   .exists #[],by rw[sx b _ hb e];simp
  .cases hb:b=c'
   .subst hb;rw[XT]at e;cases e;exists yr _ _ Kf λo g=>WY _ g,?_,yr;let(c2,o,_,_,e2,g,_):=Kf;cases e2;exists o,WY _ g
   .rw[Zb hb]at e;cases FZ:b=Pt
    .subst FZ;rw[XT]at e;cases e;show WY _ htb
    .rw[Zb FZ]at e;show(I.hok b u e).stay (λd o hd g=>keep d o (λz=>?_) g) (λd g=>sx d _ (λz=>by rw[z,hP]at g;cases g) g) λd xs g=>sx d _ (λz=>by rw[z,hP]at g;cases g) g;rcases hd with hd|hd
     .show FZ (hd.symm.m z)
     .rw[z,hP]at hd;cases hd
 .show kla_makeFunctionHit Nv I.ok.glob Qp Ts hHd VJ Ir hf (I.builtinsAt hB) λQq h' tk hk hsz=>?_;show h h'.objs.t c' _ Qq _ H (λ_ _ _ e=>e) {ps,hP,Ir,.inr ⟨c',hf,WS⟩} (I.fpOk hsz<|I.hok.fresh hsz) (I.kept λb o e=>WY _<|hk b o e) (Yr _ Z) WS
end
section
variable{TX:Pos}{Pt:Addr}
def SqT.samex{K:Ad}{H H2:Hp}{a:Addr}{xs:List V}{qual:Str}(h:SqT K H a xs)(t:TabH H Pt TX qual)(sx:SameX Pt H H2):SqT K H2 a xs:=by
 let(ps,hP,_):=t;rcases h with (h|⟨o,h⟩)|h
 .show .inl (.inl<|sx _ _ (λz=>by rw[z,hP]at h;cases h) h)
 .show .inl (.inr {o,sx _ _ (λz=>by rw[z,hP]at h;cases h) h})
 .show .inr h
end
def Np(Pt:Addr)(H:Hp):(Prop):=H Pt=some (.tbl #[])/\∀b,b=Pt\/H b=none\/∃o xs,H b=some (.frz o<|.lst xs)
def gb{P:Program}{w:World}{K:Ad}{mg mb:Af}{CX:Pg}{k:Nat}{fa a Pt c:Addr}{fd:FuncData}{x:Str}{sp:Sp}{s₁:Shared}{vs:Ag}{ns:Ac}
  (KX:K.In s₁.G)(Qp:s₁.G.Ns mainGlobals mg)(hb:s₁.G.Ns builtinsNs mb)(jF:∀x:Str,x≠"__name__"->mb x=bootBuiltins x)(f9:s₁.G.NoLimit)(hg:s₁.gens=#[])
  (hT:s₁.G.H Pt=some (tabObj #[]))(hC:codeHdIn K c Pt=true)(f7:K.Y Pt=none)(hbm:∃bm ob,mg (Str.ofString "__builtins__")=some ↑bm/\bm≠builtinsNs/\s₁.G.H bm=some ob/\ob.cls=.type "module"/\ob.dict=some builtinsNs/\ob.data=.plain)
  (ha:s₁.G.H a=some {cls:=.type "list",data:=.seq vs.C})(hi:IntsAre vs ns)(hl:ns.f<=sizeLine)(hr:Room k callerA)
  (F:∀base:Heap,K.In base->base.Ns mainGlobals mg->base.BuiltinsAt mg Pt->FnOk P w K mg base CX k fa fd [x] sp)(Se:∀s u,BindsTo s fd {[u],[]} [(x,u)])
  (RT:∀H:Hp,Np Pt H->SqL K H a (ns.R V.int)->sp [.ref a] H (λv _=>v=.bl true) λ_ _ _=>False)
  (fZ:∀H e s',CX [] H s₁ (λ_ _ _=>False) e s'->False):
  codeAny (model P w) callerA (.call ↑fa {[.ref a],[]}) (λr s'=>r=.ok (.ret<|.bool true)/\OldK s₁.G s'.G/\s'.os=s₁.os/\AllBare s'.gens) s₁:=by
 let rv:=Zq8 hi;let fX:=hi.f
 let haP:a≠Pt:=λz=>by rw[z,hT]at ha;cases ha
 let core:∀H:Hp,Np Pt H->SqL K H a (ns.R V.int)->HOk P w H s₁.G->(∀b,H b≠none->b=a\/b=Pt)->(H a≠none->K.Y a=none)->
   codeAny (model P w) callerA (.call ↑fa {[.ref a],[]}) (λr s'=>r=.ok (.ret<|.bool true)/\OldK s₁.G s'.G/\s'.os=s₁.os/\AllBare s'.gens) s₁:=by
  intro H hO hS hok hA hK;let base_of:∀{b:Addr}{o:Obj},s₁.G.H b=some o->H b=none->(Ui s₁.G H).H b=some o:=λe n=>Zah e n
  let free:∀{b:Addr}{o:Obj},s₁.G.H b=some o->(∀XW n,o.data≠.seq XW n)->(∀vs,o.data≠.fields vs)->H b=none:=λ{b o} e d1 d2=>by
   cases q:H b with
   |none=>rfl
   |some u=>
    rcases hA b (by rw[q];simp) with e'|e'
    .subst e';rw[ha]at e;cases e;show absurd Z (d1 _ _)
    .subst e';rw[hT]at e;cases e;show absurd Z (d2 _)
  let rB:∀{b:Addr}{m:Af},s₁.G.Ns b m->(Ui s₁.G H).Ns b m:=λ{b m} ⟨o,es,ep,e,d,r⟩=>{o,es,ep,base_of e (free e (λ_ _ z=>by rw[d]at z;cases z) λ_ z=>by rw[d]at z;cases z),d,r};let hKb:K.In (Ui s₁.G H):=λb o e=>base_of (KX b o e) (by
   cases q:H b with
   |none=>rfl
   |some u=>
    rcases hA b (by rw[q];simp) with e'|e'
    .subst e';rw[hK (by rw[q];simp)]at e;cases e
    .subst e';rw[f7]at e;cases e)
  let hM:Mod K mg (Ui s₁.G H):={hKb,rB Qp,{mb,rB hb,jF},by let(mc,h1,h2):=f9;exists mc,rB h1,h2};let hB:(Ui s₁.G H).BuiltinsAt mg Pt:=by
   let(bm,ob,b1,b2,b3,b4,b5,b6):=hbm;exists bm,ob,b1,b2,λz=>?_,λz=>?_,base_of b3 (free b3 (λ_ _ z=>by rw[b6]at z;cases z) λ_ z=>by rw[b6]at z;cases z),b4,b5,b6
   .let⟨o,es,ep,e,d,_⟩:=Qp;rw[z,e]at b3;cases b3;rw[d]at b6;cases b6
   .rw[z,hT]at b3;cases b3;cases b4
  let e0:Env0 P w K mg (Ui s₁.G H) callerA [] s₁ H:={Z,hM,λb o e=>Zai e,um<|Zb9 _ _,trivial,λb hb=>absurd (show b∈([]:List Addr) from hb) B,hok,.of_eq hg};show Jy ((F _ hKb (rB Qp) hB).run callerA [] s₁ H {[.ref a],[]} [.ref a] [.ref a] _ _ hr e0 (Se s₁<|.ref a) (.cons Z .nil) (RT H hO hS)) λr s' h=>?_;cases r with
  |error e=>show(fZ H e s' h).elim
  |ok fl=>
   cases fl with
   |next=>show False.elim h
   |brk=>show False.elim h
   |cont=>show False.elim h
   |ret u=>
    let(v,H',os,bare,un,yp,r',q):=h;let q':v=.bl true:=q
    subst q';let rfl:u=Value.bool true:=r';let(more,eP):=un.tbls Pt #[] hO.1;let hP':s'.G.H Pt=some {cls:=.none,data:=.fields (#[]++more)}:=yp Pt _ eP
    let kept:∀b o,b≠Pt->s₁.G.H b=some o->s'.G.H b=some o:=λb o Vn e=>by
     cases q:H b with
     |none=>show un.keep b o e q (by intro z;show absurd (show b∈([]:List Addr) from z) B) B
     |some u=>
      rcases hO.2 b with z|z|⟨ob,xs,z⟩
      .show absurd z Vn
      .rw[q]at z;cases z
      .let z2:=un.frzs b ob _ z;let(e1,_):=hok b _ z;let(e2,_):=yp b _ z2;rw[e]at e1;cases e1;show e2
    exists Z,{λb o e=>?_,λb o e=>?_},os,bare
    .cases Vn:b=Pt
     .subst Vn;rw[hT]at e;let rfl:=Ye e;let(oc,vsc,_,_,_,_,_,_,_,c1,c2,c3,c4,_):=codeHd_of_K KX hC;show .inr (.inl {⟨c,oc,vsc,c1,c2,c3,c4⟩,Z,#[],more,Z,hP'})
     .show .inl (kept b o Vn e)
    .cases Vn:b=Pt
     .rw[Vn];exists _,hP'
     .exists o,kept b o Vn e
 cases hk:K.Y a with
 |some o=>
  let e:=KX a o hk;rw[ha]at e;cases e;show core (λb=>if b=Pt then some (.tbl #[]) else none) {if_pos Z,λb=>?_} (.inr {_,vs.C,_,hk,Z,Z,Z,by rw[Yb,fX];show hl,by simpa using rv}) (λb u z=>?_) (λb z=>?_) λz=>absurd (if_neg haP) z
  .cases Vn:b=Pt
   .show .inl Vn
   .show .inr (.inl<|if_neg Vn)
  .cases Vn:b=Pt
   .let z':=(if_pos Vn).symm.m z;cases z';subst Vn;show hT
   .let z':=(if_neg Vn).symm.m z;cases z'
  .cases Vn:b=Pt
   .show .inr Vn
   .show absurd (if_neg Vn) z
 |none=>
  show core (λb=>if b=Pt then some (.tbl #[]) else if b=a then some (.frz {cls:=.type "list",data:=.seq vs.C} (.lst<|ns.R V.int)) else none) {if_pos Z,λb=>?_} (.inl<|.inr {{cls:=.type "list",data:=.seq vs.C},(if_neg haP).m (if_pos Z)}) (λb u z=>?_) (λb z=>?_) λ_=>hk
  .cases Vn:b=Pt
   .show .inl Vn
   .cases hb:b=a
    .show .inr (.inr {_,_,(if_neg Vn).m (if_pos hb)})
    .show .inr (.inl<|(if_neg Vn).m (if_neg hb))
  .cases Vn:b=Pt
   .let z':=(if_pos Vn).symm.m z;cases z';subst Vn;show hT
   .cases hb:b=a
    .let z':=((if_neg Vn).m (if_pos hb)).symm.m z;cases z';subst hb;exists ha,by rw[Yc];show hl,vs,_,rv,ha
    .let z':=((if_neg Vn).m (if_neg hb)).symm.m z;cases z'
  .cases Vn:b=Pt
   .show .inr Vn
   .cases hb:b=a
    .show .inl hb
    .show absurd ((if_neg Vn).m (if_neg hb)) z
def Nn{l:PySem.W.OpenLaw}{n k:Nat}{q:Program}{loose:List Str}{XP:Af->Heap->Prop}{YP:World->Heap->Prop}{d:DefRec}{K:Params->Ad}{CX:Pg}{sp:Ad->Sp}{x:Str}{c Pt:Addr}
  (hn:l.most=some n)(Om:n<=sizeLine)(mH:d.params.defaults=[])(hr:Room k callerA)
  (hY:∀(w:World)(h:Heap),YP w h->(K w.params).In h/\h.H Pt=some (tabObj #[]))(hC:∀w:World,codeHdIn (K w.params) c Pt=true)(f7:∀w:World,(K w.params).Y Pt=none)
  (F:∀(w:World)(mg:Af)(fa:Addr)(h:Heap),(K w.params).In h->h.Ns mainGlobals mg->mg d.name=some ↑fa->
   ∃fd:FuncData,(∀(s:Shared)(u:Value),BindsTo s fd {[u],[]} [(x,u)])/\
    ∀base:Heap,(K w.params).In base->base.Ns mainGlobals mg->base.BuiltinsAt mg Pt->FnOk l.prog w (K w.params) mg base CX k fa fd [x] (sp<|K w.params))
  (RT:∀(w:World)(H:Hp)(a:Addr)(ns:Ac),ns.f<=n->Np Pt H->SqL (K w.params) H a (ns.R V.int)->sp (K w.params) [.ref a] H (λv _=>v=.bl true) λ_ _ _=>False)
  (fZ:∀(H:Hp)(s:Shared)(e:Value)(s':Shared),CX [] H s (λ_ _ _=>False) e s'->False):
  PySem.W.WalkO q loose XP YP l.row.toRowW d [] (λf vs=>PySem.call f vs):=by show Att.Sl hn mH λw s₀ s₁ mg mb fa o pm cd doc a vs ns G Y ho hd RW BG Hb hints hlen hg=>?_;let(KX,hT):=hY w _ Y;let(fd,hb,hF):=F w mg fa _ KX G.T.g BG;show gb KX G.T.g G.T.b G.T.builtins G.T.nolimit hg hT (hC w) (f7 w) G.T.bmain Hb hints (Yl hlen Om) hr hF hb (λH hO hS=>RT w H a ns hlen hO hS) λH e s'=>fZ H s₁ e s'
def Vm(K:Ad)(mg:Af)(base:Heap)(fd:FuncData)(Pt:Addr):(Prop):=∃c,fd.code=.ref c/\codeHdIn K c Pt=true/\base.BuiltinsAt mg Pt/\mainGlobals≠Pt
def LamScope.of(h1:sc.kind=.function)(h2:sc.isCoroutine=false)(h3:sc.isGenerator=false)(h4:sc.names=[(v,.local),(x,.free)]\/sc.names=[(x,.free),(v,.local)])(hn:v≠x):LamScope v x sc:=by
 let b1:(v == x)=false:=uK hn;let b2:(x == v)=false:=uK (WX hn)
 exists h1,h2,h3,λy hy=>?_,?_,?_,λy hy=>?_,hn
 .let l1:NameKind.local≠NameKind.cell:=oY;let l2:NameKind.free≠NameKind.cell:=oY
  rcases h4 with e|e<;>rw[e]at hy<;>rcases Yi.L hy with rfl|hy
  .show l1
  .rw[XB.L hy];show l2
  .show l2
  .rw[XB.L hy];show l1
 .rcases h4 with e|e<;>rw[e]<;>simp[List.lookup,b1,b2]
 .rcases h4 with e|e<;>rw[e]<;>simp[List.lookup,b1,b2]
 .rcases h4 with e|e<;>rw[e]at hy<;>simp only[List.lookup]at hy
  .split at hy
   .cases hy
   .split at hy
    .rename_i q;show Qh.L q
    .cases hy
  .split at hy
   .rename_i q;show Qh.L q
   .split at hy
    .cases hy
    .cases hy
section
variable{P:Program}{w:World}{K:Ad}{mg:Af}{base:Heap}
def Fun.okL{x qual:Str}{st:Stmt}{f c:Addr}{fd:FuncData}{N ps:List Str}{k:Nat}{sp:Sp}(F:Fun K x qual st f fd)(hc:fd.code=.ref c)(S:FnScope N ps (Xd st))(len:∀vs H Q E,sp vs H Q E->vs.f=ps.f)
  (Vv:∀A outer s H vs Q E,Room k (A.deeper<|envOfC qual (Xd st) (~~~s) f<|.ref c)->sp vs H Q E->
   ∃t,PSs (Te Xi P w K mg base N qual (Xd st) f ↑c A outer s H E).nox (Qa st) t/\t {nx:=λ_ H'=>Q .non H',rt:=Q} (start N vs) H):FnOk P w K mg base Xi (k+1) f fd ps sp:=by let(oc,od,kV,doc,pm,an,Xv,ct,SK,rfl,lk,RW):=F.ex;let rfl:Xv=.ref c:=hc;show BY lk RW S len λA outer s H vs Q E hr RT=>?_;let(t,h,q):=Vv A outer s H vs Q E hr RT;exists t,h.nox,q
end
end L2
namespace My
open PySem L2
def pl(ls T U:Ac):(Prop):=HT.ltP (yy ls T,T) (yy ls U,U)=true
def OrdL(ls:Ac)(m:Nat)(os:Ac):(Prop):=os.Perm (VB m)/\os.E λx y=>Gf ls x<Gf ls y\/(Gf ls x=Gf ls y/\x<y)
def rz(g:Zz n ps)(hT:Zg n ps T)(hW:Zg n ps W)(h:∀z∈T,z∈W):T=W:=
 jP (rY hT) (rY hW) λz=>(gB g hT hW h).mem_iff
structure Ent where
 T:Ac
 I:Ac
 O:Ac
deriving DecidableEq
end My
namespace L2
open PySem PySem.Spec PyProof.Rows PySem.W My
def SameX.same(s:Same H H'):SameX Pt H H':=λb o _ e=>s b o e
def SameX.trans{Pt:Addr}{H H1 H2:Hp}(a:SameX Pt H H1)(b:SameX Pt H1 H2):SameX Pt H H2:=λc o hc e=>b c o hc (a c o hc e)
def TabH.same(t:TabH H Pt pos qual)(s:Same H H'):TabH H' Pt pos qual:=by
 let(ps,h1,h2,h3):=t;exists ps,s _ _ h1,h2,?_;rcases h3 with h|⟨c,h,h'⟩
 .show .inl h
 .show .inr {c,h,s _ _ h'}
def TabH.ne{Pt a:Addr}{o:HO}(t:TabH H Pt pos qual)(h:H a=some o)(hn:∀ps,o≠.tbl ps):a≠Pt:=λe=>by let(ps,h1,_):=t;rw[e,h1]at h;show hn ps (Ye h).symm
def TabH.put{Pt r:Addr}{zs:List V}{u:List V}(t:TabH H Pt pos qual)(hr:H r=some (.lst zs)):TabH (upd H r (.lst u)) Pt pos qual:=by
 let(ps,h1,h2,h3):=t;show{ps,by rw[Zb (Ry h1 hr B)];show h1,h2,?_};rcases h3 with h|⟨c,h,h'⟩
 .show .inl h
 .show .inr {c,h,by rwa[Zb (Ry h' hr<|by unfold DN;simp)]}
end L2
namespace My
open PySem L2
def SqK.samex(h:SqK kd K H a xs)(t:TabH H Pt pos qual)(sx:SameX Pt H H2):SqK kd K H2 a xs:=by
 cases kd with
 |true=>show SqT.samex (show SqT K H a xs from h) t sx
 |false=>
  rcases(show SqL K H a xs from h) with (h|⟨o,h⟩)|h
  .show .inl (.inl<|sx _ _ (t.ne h B) h)
  .show .inl (.inr {o,sx _ _ (t.ne h B) h})
  .show .inr h
def WebAt.samex(h:WebAt C H w n ps)(t:TabH H Pt pos qual)(sx:SameX Pt H H2):WebAt C H2 w n ps:=by let(dx,tl,xs,h1,h2,h3):=h;exists dx,tl,xs,sx _ _ (t.ne h1 B) h1,sx _ _ (t.ne h2 B) h2,h3.1,λi p hp=>?_;let(x,hx,q,e,hq):=h3.2 i p hp;exists x,hx,q,e,sx _ _ (t.ne hq B) hq
end My
namespace My
def un1{α:Type}{P:List α->Prop}(h:∀a,P [a])(l:List α)(e:l.f=1):P l:=by let(a,rfl):=z9 e;show h a
def mC{α:Type}{P:List α->Prop}(h:∀a b,P [a,b])(l:List α)(e:l.f=2):P l:=by let(a,b,rfl):=z8 e;show h a b
def un3{α:Type}{P:List α->Prop}(h:∀a b c,P [a,b,c])(l:List α)(e:l.f=3):P l:=by let(a,b,c,rfl):=z7 e;show h a b c
def un4{α:Type}{P:List α->Prop}(h:∀a b c d,P [a,b,c,d])(l:List α)(e:l.f=4):P l:=by let(a,b,c,d,rfl):=zy e;show h a b c d
def un5{α:Type}{P:List α->Prop}(h:∀a b c d e,P [a,b,c,d,e])(l:List α)(e:l.f=5):P l:=by
 cases l with
 |nil=>cases e
 |cons x r=>
  let(a,b,c,d,rfl):=zy (LA e);show h x a b c d
end My
namespace My
open PySem L2
def yn(h:TC n ps c):c=0↔∀T,¬Zg n ps T:=by
 let(L,a1,a2,a3):=h;constructor
 .intro e T hT;rw[e]at a3
  have:=(a2 T).U hT
  rw[YV.L a3]at this;cases this
 .intro e;rw[<-a3,YV];show ET.U λT hT=>e T ((a2 T).L hT)
end My
namespace L2
open PySem PySem.Spec PyProof.Rows PySem.W
def Zh3:∀bs:List Bool,(bs.R Value.bool).mapM firstOfTuple'=(pure ((bs.R Value.bool).R λ_=>none):Sem _)
 |[]=>B
 |b::bs=>by rw[Ur,List.mapM_cons,Zh3 bs];change(pure none >>= λb=>pure _ >>= λbs=>pure<|b::bs)=_;simp
def ZL2:∀bs:List Bool,(bs.R Value.bool).mapM typeOf=(pure ((bs.R Value.bool).R λ_=>Value.type "bool"):Sem _)
 |[]=>B
 |b::bs=>by rw[Ur,List.mapM_cons,ZL2 bs];change(pure (Value.type "bool") >>= λb=>pure _ >>= λbs=>pure<|b::bs)=_;simp
def ZA7{ns:Ac}{key:Int->Bool}(hk:kA.l=ns.R λz=>Value.bool (key z))(h2:2<=ns.f):keyKind' kA=pure oneType':=by
 let e:kA=((ns.R key).R Value.bool).C:=by rw[<-Hz (xs:=kA),hk,OJ];rfl
 rw[e];obtain⟨b1,b2,bs,eb⟩:∃b1 b2 bs,ns.R key=b1::b2::bs:=by
  match ns,h2 with
  |x::y::l,_=>exists _,_,_,Z
 rw[eb,keyKind'_eq,List.mapM_toArray,Zh3];simp only[map_pure,pure_bind];rw[if_neg B,if_neg B];rw[oneTypeOnly'_eq,List.mapM_toArray,ZL2];simp only[map_pure,pure_bind];let UC:((List.R (λ_=>Value.type "bool")<|List.R Value.bool<|b1::b2::bs).C.all λx=>x == Value.type "bool")=true:=by simp only[List.all_toArray,List.all_map,OP];intro _ _;rfl
 let h0:(List.R (λ_=>Value.type "bool")<|List.R Value.bool<|b1::b2::bs).C[0]?=some (Value.type "bool"):=B;rw[h0];simp only[UC,Hu,pure_bind,Option.isSome_some]
def fW{E:Ae}{s:Shared}{Q:Bool->Shared->Prop}(h:Q (decide (b2i p<b2i q)) s):wpAny (model prog w) A (keyLt' oneType' (.bool p) (.bool q)) Q E s:=by rw[keyLt'_oneType,oneLt'_eq];simp only[Hu];show XU (wpAny_cRoomFor_byValue Z ?_);show XU (wpAny_callSpecialIfBound?_slot (typeIs_bool' s p) F.slot_bool_lt<|call_gives F.slot_bool_lt (typeIs_bool' s p) F.entry_int_lt (F.args_int_lt_2 _ _) (gives_int_lt_bools p q) ?_);show Tj h
section
variable{X:Cx}{pins:List (Addr×Obj)}{σ:St}{H:Hp}{s:Shared}{a kS:Addr}{A:Around}{E:Ae}{P:PySem.Fin->Shared->Prop}{kA:Array Value}{e e1:Nat}{f:Value}{key:Int->Bool}{ns:Ac}{vs:Ag}
def fV(hv:IntsAre vs ns)(hk:kA.l=ns.R λz=>Value.bool (key z))(hi:i<ns.f):∃u,kas_item (kA.zip vs.C) i=(.bool (key (ns.S i 0)),.int (ns.S i 0) u):=by
 let(u,hu):=ZY9 hv i hi;let ht:kA.l[i]?=some (Value.bool<|key<|ns.S i 0):=by rw[hk,Yv,Wv,Xr hi];rfl
 exists u,?_;unfold kas_item;rw[YB,<-YI,ksk_zip,(aE (z:=(Value.bool<|key<|ns.S i 0,Value.int (ns.S i 0) u))).U ⟨ht,hu⟩];rfl
def Zu5(hv:IntsAre vs ns)(hk:kA.l=ns.R λz=>Value.bool (key z)):∀l:List Nat,(∀i∈l,i<ns.f)->IntsAre (l.R λi=>(kas_item (kA.zip vs.C) i).2) (l.R λi=>ns.S i 0)
 |[],_=>.nil
 |i::l,h=>by
  let(u,e):=fV hv hk (h i Yd);let r:=Zu5 hv hk l λj hj=>h j (Yh _ hj)
  rw[Ur,Ur,e];show .cons _ u r
def fU(I:Inv X (pins++[(a,seqObj "list" #[] e1),(kS,seqObj "list" kA e)]) σ H s)(Fa:FpOk X pins H a)(Fk:FpOk X pins H kS)(NJ:a≠kS)(hv:IntsAre vs ns)(QC:ns.f<64)(hk:kA.l=ns.R λz=>Value.bool (key z))
  (h:∀s' m out ms,Inv X pins σ H s'->s'.G.H a=some (seqObj "list" out m)->IntsAre out.l ms->Rf (λz=>b2i<|key z) ns ms->P (.done<|.ret .none) s'):
  wpAny (model X.prog X.w) A (ksk_end a false vs.C e1 ↑kS kA) P E s:=by
 let yk:=hv.f;let hkl:=YS List.f hk
 rw[Yx,Yc]at hkl;let DM:(kA.zip vs.C).t=ns.f:=by rw[Array.size_zip,show vs.C.t=vs.f from Yb];lia
 unfold ksk_end;dsimp only;rw[if_neg oY];cases h2:vs.C.t<2
 .rw[if_pos h2,if_pos h2];rw[Yb]at h2;show XU (Yn ?_);rw[StateT.run_pure];show XU (Yn ?_);dsimp only;show ZB7 (out:=vs) I Fa Fk NJ J Z ?_ J λs' m AP e=>h s' m vs.C ns AP e (by simpa using hv) ?_
  .change(if false=true then (kA.zip vs.C).reverse else kA.zip vs.C).R (·.2)=vs.C;rw[if_neg oY,Array.map_snd_zip (by rw[Yb];lia)]
  .exists List.range ns.f,Hx _,?_,?_
   .match ns.f,(show ns.f<2 by lia) with
    |0,_=>show List.E.nil
    |1,_=>show JE _ _
   .match ns,(show ns.f<2 by omega) with
    |[],_=>rfl
    |[x],_=>rfl
 .rw[if_neg h2,if_neg h2];rw[Yb]at h2;rw[ZA7 hk J];show XU (Yn ?_);rw[if_neg oY];let(p,Um,VL,LU):=My.Kg (n:=ns.f) (key:=λi=>b2i<|key<|ns.S i 0) J;let runs:=kas_runs (prog:=X.prog) (w:=X.w) (A:=A) (E:=E) (κ:=oneType') (it:=kA.zip vs.C) (n:=ns.f) (s:=s) (Q:=λ_ st s'=>s'=s/\failedOf st=none/\arrOf st=p.R (kas_item<|kA.zip vs.C))
   (G:=λq s'=>s'=s/\q=p) oW QC (λq st s' _ e2 e3 e4=>{e4.1,e3,by rw[e2,e4.2]})
   (My.goT_wp' (c:=λi j=>decide<|b2i (key<|ns.S i 0)<b2i (key<|ns.S j 0)) (AP:=λs'=>s'=s) (λi j C s' hi hj hs hC=>by let(u,e):=fV hv hk hi;let(u',e'):=fV hv hk hj;unfold kas_cmp;rw[e,e'];show fW<|hC s' hs) _ s (My.PH oW) Z λs' hs=>⟨hs,Um⟩)
  unfold kasC kas_st at runs;rw[<-DM,kas_range]at runs;show XU (RX runs ?_ λ_ _ z=>z);rintro⟨⟨⟩,st⟩ s' ⟨rfl,hf,ha⟩;dsimp only;let hb:∀i∈p.l,i<ns.f:=λi hi=>YW.L (VL.mem_iff.L hi)
  let UG:p.l.f=ns.f:=by rw[VL.length_eq,Mz]
  show ZB7 (out:=p.l.R λi=>(kas_item (kA.zip vs.C) i).2) I Fa Fk NJ J hf ?_ (by rw[Yc];lia) λRU m AP e=>h RU m _ _ AP e (by simpa using Zu5 hv hk p.toList hb) ⟨p.l,VL,LU,Z⟩;let ha:arrOf st=p.R (kas_item<|kA.zip vs.C):=ha
  rw[ha,Array.map_map];show Array.toList_inj.L B
def fS(I:Inv X (pins++[(a,seqObj "list" #[] e1),(kS,seqObj "list" #[] 0)]) σ H s)(Fa:FpOk X pins H a)(Fk:FpOk X pins H kS)(NJ:a≠kS)(hv:IntsAre vs ns)(QC:ns.f<64)
  (turn:∀pl z t s',z∈ns->Inv X (pins++pl) σ H s'->wpAny (model X.prog X.w) A (call f [.int z t]) (λv RU=>v=.bool (key z)/\Inv X (pins++pl) σ H RU) (λ_ _=>False) s')
  (h:∀s' m out ms,Inv X pins σ H s'->s'.G.H a=some (seqObj "list" out m)->IntsAre out.l ms->Rf (λz=>b2i<|key z) ns ms->P (.done<|.ret .none) s'):
  wpAny (model X.prog X.w) A (ksk_rest a f false vs.C e1<|.ref kS) P E s:=by
 let KJ:sizeLine=16777216:=TM;let yk:=hv.f
 unfold ksk_rest;show XU (Pk ?_);rw[<-Array.forIn_toList];simp only[List.toList_toArray];show XU (ksk_fold (λi s'=>∃kA e,Inv X (pins++[(a,seqObj "list" #[] e1),(kS,seqObj "list" kA e)]) σ H s'/\kA.l=(ns.M i).R λz=>Value.bool<|key z) vs 0 s ⟨#[],0,I,Z⟩ ?step ?done)
 case step=>
  rintro j x s' hx ⟨kA,e,AP,hk⟩;rw[SM]at hk ⊢;let hj:j<ns.f:=by rw[<-yk];show(XF.L hx).1
  let(t,ht):=ZY9 hv j hj;rw[hx]at ht;let rfl:=Ye ht;let hz:kA.t<=j:=by let h1:=YS List.f hk;rw[Yx,Yc,Yf]at h1;lia
  let eg:ns.S j 0=ns[j]:=by rw[Wv,Xr hj];rfl
  let hmem:ns.S j 0∈ns:=by rw[eg];show JA hj
  show XU (ED<|RX (turn _ _ t s' hmem AP) (λv RU he=>?_) λ_ _ hF=>hF.elim);let(rfl,J2):=he;dsimp only;let pk:=(J2.pin (kS,seqObj "list" kA e) B).1
  obtain⟨c2,UQ⟩:∃c2,(RU.G.update kS (Obj.mapSeq (·.push (.bool<|key<|ns.S j 0)))).H kS=some (seqObj "list" (kA.push<|.bool<|key<|ns.S j 0) c2):={_,OC pk (·.push (.bool<|key<|ns.S j 0))};show XU (Mr pk Z ?_ J<|by rw[Array.size_push];lia);show Yn {Z,kA.push<|.bool<|key<|ns.S j 0,c2,?_,?_}
  .let J3:Inv X (pins++[(a,seqObj "list" #[] e1)]) σ H RU:=J2.pins_of λp hp=>J2.pin p (Yk _ (by
    rcases Xz.L hp with hp|hp
    .show Yg _ hp
    .show Yk _<|by rw[XB.L hp];show Yd))
   let Fk2:FpOk X (pins++[(a,seqObj "list" #[] e1)]) H kS:=Fk.more λp hp=>by rw[XB.L hp];show NJ
   let J4:=(J3.changed (t':=RU.toks) Fk2 λc o hc q=>(VN RU.G (Obj.mapSeq (·.push (.bool<|key<|ns.S j 0)))<|WX hc).m q).pin1 Fk2 UQ λv z=>by cases z
   rwa[YA]at J4
  .let ek:((ns.M<|j+1).R λz=>Value.bool<|key z)=((ns.M j).R λz=>Value.bool<|key z)++[Value.bool (key<|ns.S j 0)]:=by rw[List.take_add_one,Xr hj,YN,eg];rfl
   rw[RE,ek,hk]
 case done=>
  rintro s' ⟨kA,e,AP,hk⟩;rw[SM,yk,Yz]at hk;let pk:=(AP.pin (kS,seqObj "list" kA e) B).1
  show XU (Oz pk Z ?_);show fU AP Fa Fk NJ hv QC hk h
def fR(I:Inv X pins σ H s)(Fa:FpOk X pins H a)(ho:s.G.H a=some (seqObj "list" vs.C n))(hv:IntsAre vs ns)(QC:ns.f<64)
  (turn:∀pl z t s',z∈ns->Inv X (pins++pl) σ H s'->wpAny (model X.prog X.w) A (call f [.int z t]) (λv RU=>v=.bool (key z)/\Inv X (pins++pl) σ H RU) (λ_ _=>False) s')
  (h:∀s' m out ms,Inv X pins σ H s'->s'.G.H a=some (seqObj "list" out m)->IntsAre out.l ms->Rf (λz=>b2i<|key z) ns ms->P (.done<|.ret .none) s'):
  wpAny (model X.prog X.w) A (ksk_tree a f false) P E s:=by
 let KJ:sizeLine=16777216:=TM;let yk:=hv.f
 obtain⟨e1,LW⟩:∃e1,(s.G.update a<|Obj.mapSeq λ_=>(#[]:Array Value)).H a=some (seqObj "list" #[] e1):={_,OC ho λ_=>#[]};let I1:Inv X pins σ H {s with heap:=s.G.update a<|Obj.mapSeq λ_=>(#[]:Array Value),toks:=s.toks}:=I.changed Fa λc o hc q=>(VN _ _<|WX hc).m q
 let I2:Inv X pins σ H {s with heap:=(s.G.update a<|Obj.mapSeq λ_=>(#[]:Array Value)).push (seqObj "tuple" vs.C 0),toks:=s.toks}:=I1.kept λc o q=>WY _ q;let TF:((s.G.update a<|Obj.mapSeq λ_=>(#[]:Array Value)).push (seqObj "tuple" vs.C 0)).H a=some (seqObj "list" #[] e1):=WY _ LW
 unfold ksk_tree;show XU (Oz ho Z ?_);show XU (Mr ho Z ?_ (by rw[Yb];lia)<|Yj _);show XU (seqEpoch_at LW Z ?_);show XU (wpAny_newTuple ?_<|by change vs.f<=_;omega);show XU (Mt ?_<|Yj _);show Sx ?_;let Fk:FpOk X pins H ((s.G.update a<|Obj.mapSeq λ_=>(#[]:Array Value)).push (seqObj "tuple" vs.C 0)).objs.t:=I2.fpOk (XJ _) (I2.hok.fresh<|XJ _)
 let NJ:a≠((s.G.update a<|Obj.mapSeq λ_=>(#[]:Array Value)).push (seqObj "tuple" vs.C 0)).objs.t:=YF (Yt TF);let I3:Inv X pins σ H {s with heap:=((s.G.update a<|Obj.mapSeq λ_=>(#[]:Array Value)).push (seqObj "tuple" vs.C 0)).push (seqObj "list" #[] 0),toks:=s.toks}:=I2.kept λc o q=>WY _ q
 let I4:=(I3.pin1 Fa (WY _ TF) λv z=>by cases z).pin1 (Fk.more (pl:=[(a,seqObj "list" #[] e1)]) λp hp=>by rw[XB.L hp];show NJ) (Yr _ Z) λv z=>by cases z
 rw[YA]at I4;show fS I4 Fa Fk NJ hv QC turn h
def Zg6{tp q:Addr}{Q:Ae}(I:Inv X pins σ H s)(ht:s.G.IsList tp vs.C)(hv:IntsAre vs ns)(QC:ns.f<64)
  (turn:∀pl z t s',z∈ns->Inv X (pins++pl) σ H s'->wpAny (model X.prog X.w) A.in1.in1 (call ↑q [.int z t]) (λv RU=>v=.bool (key z)/\Inv X (pins++pl) σ H RU) (λ_ _=>False) s')
  (h:∀s' a m out ms,FpOk X pins H a->Inv X pins σ H s'->s'.G.H a=some (seqObj "list" out m)->IntsAre out.l ms->Rf (λz=>b2i<|key z) ns ms->Q ↑a s'):
  wpAny (model X.prog X.w) A (call (.builtin "sorted") [.ref tp] [(Str.ofString "key",.ref q)]) Q E s:=by
 let KJ:sizeLine=16777216:=TM;let yk:=hv.f
 show call_function_entry_kw kind_sorted OA Oy (ksk_s1 _ _) ?_;unfold Builtin.«sorted»;show XU (m:=checkCount "sorted" 1 1 _) (Yn ?_);show XU (collect_list ht ?_ oW);show XU (Mt ?_ oW);let hsz:((s.G.push<|seqObj "list" #[] 0).update (~~~s) (Obj.mapSeq (·++vs.C))).objs.t=(~~~s)+1:=by rw[pf,EA]
 let Mo:(((s.G.push<|seqObj "list" #[] 0).update (~~~s) (Obj.mapSeq (·++vs.C))).push (seqObj "list" vs.C 0)).H ((~~~s)+1)=some (seqObj "list" vs.C 0):=by rw[<-hsz];show Yr _ rfl
 let keep:∀b o,s.G.H b=some o->(((s.G.push<|seqObj "list" #[] 0).update (~~~s) (Obj.mapSeq (·++vs.C))).push (seqObj "list" vs.C 0)).H b=some o:=λb o q=>by let Xh:b<(~~~s):=Yt q;show WY _ ((VN _ _<|RD Xh).m (WY _ q))
 change wpAny _ _ _ _ _ {s with heap:=((s.G.push<|seqObj "list" #[] 0).update (~~~s) (Obj.mapSeq (·++vs.C))).push (seqObj "list" vs.C 0)};rw[hsz];let Fa:FpOk X pins H ((~~~s)+1):=I.fpOk (TN _) (I.hok.fresh<|TN _)
 show XU (Sx<|wpAny_call_entry_kw CV ⟨_,Mo,Z⟩ OB ?body (ksk_l1 _ _));change wpAny (model X.prog X.w) A.in1.in1 (Builtin.«list.sort» {[.ref ((~~~s)+1)],[(Str.ofString "key",.ref q)]}) _ _ _
 rw[ksk_t1];show fR (s:={s with heap:=((s.G.push<|seqObj "list" #[] 0).update (~~~s) (Obj.mapSeq (·++vs.C))).push (seqObj "list" vs.C 0),toks:=s.toks}) (I.kept keep) Fa Mo hv QC turn λs' m out ms AP e hi hs=>{_,Z,?_};show Yn {_,Z,h s' _ m out ms Fa AP e hi hs}
end
def fQ(K:Ad)(Pt:Addr)(TX:Pos)(qual:Str)(i:Nat)(te tb:TE):(TE):=λσ H Q=>te σ H λy H1=>∃(p:Addr)(ns:Ac)(vx:V)(key:Int->Bool),y=.ref p/\SqL K H1 p (ns.R V.int)/\ns.f<64/\TabH H1 Pt TX qual/\σ[i]?=some (some vx)/\
 (∀H2,SameX Pt H1 H2->∀z∈ns,tb [some (.int z),some vx] H2 λr H3=>r=.bl (key z)/\H3=H2)/\
 ∀(ms:Ac)(l:Addr)(H2:Hp),Rf (λz=>b2i<|key z) ns ms->SameX Pt H1 H2->TabH H2 Pt TX qual->H2 l=none->Q ↑l (upd H2 l<|.lst<|ms.R V.int)
section
variable{X:Cx}{p kp pos TX:Pos}{e body:Expr}{params:Arguments}{scope:Scope}{te tb:TE}{v x:Str}{i k:Nat}{c Pt cc:Addr}
def SqL.samexT{K:Ad}{H H2:Hp}{a:Addr}{xs:List V}{qual:Str}(h:SqL K H a xs)(t:TabH H Pt TX qual)(sx:SameX Pt H H2):SqL K H2 a xs:=by
 let(ps,hP,_):=t;rcases h with (h|⟨o,h⟩)|h
 .show .inl (.inl<|sx _ _ (λz=>by rw[z,hP]at h;cases h) h)
 .show .inl (.inr {o,sx _ _ (λz=>by rw[z,hP]at h;cases h) h})
 .show .inr h
def Zk6(he:PE X e te)(hg:Gl X (Str.ofString "sorted"))(hm:X.mg (Str.ofString "sorted")=none)(hr:Room (k+3) X.A)(hex:X.ex=[])(Ts:X.env.code=.ref c)(hC:codeHdIn X.K c Pt=true)(hB:X.base.BuiltinsAt X.mg Pt)(yq:mainGlobals≠Pt)
  (S:LamScope v x scope)(Nv:closureFor scope X.env=pure [(x,cc)])(Gb:defaultsOf params X.env=([],[]))(Se:∀(c':Addr)(pm Qq u:Value),bindArgs (kla_fn (Str.ofString "<lambda>") (X.env.qual++Str.ofString "<lambda>") params body scope [(x,cc)] pm ↑c' Qq) {[u],[]}=pure [(v,u)])
  (hi:X.N[i]?=some x)(hkx:X.env.kindOf x=some .cell)(VM:X.env.cells.Y x=some cc)
  (hb:∀(f c':Addr)(A:Around)(outer:List Env)(s:Shared)(H:Hp),Room k (A.deeper<|envX (X.env.qual++Str.ofString "<lambda>") scope (~~~s) f ↑c' [(x,cc)])->PE (Nq X.prog X.w X.K X.mg X.base [v,x] (X.env.qual++Str.ofString "<lambda>") scope f ↑c' [(x,cc)] A outer s H) body tb)(hs:starEach [e] X.env=[(false,eval e X.env)]:=by rfl):
  PE X (.Call (.Name (Str.ofString "sorted") p) [e] [{some<|Str.ofString "key",.Lambda params body scope TX,kp}] pos) (fQ X.K Pt TX (X.env.qual++Str.ofString "<lambda>") i te tb):=by
 intro pins s σ H Q I h;show MC (Ph I hg hm Boot.«sorted» ?_ oY oY);let ha:PA X [e] (Jn te Qd):=XY he XX hs
 show callWith_kw (thn (ha pos pins s σ H (λvs H1=>match vs with
  |[y]=>∃(p:Addr)(ns:Ac)(vx:V)(key:Int->Bool),y=.ref p/\SqL X.K H1 p (ns.R V.int)/\ns.f<64/\TabH H1 Pt TX (X.env.qual++Str.ofString "<lambda>")/\σ[i]?=some (some vx)/\
   (∀H2,SameX Pt H1 H2->∀z∈ns,tb [some (.int z),some vx] H2 λr H3=>r=.bl (key z)/\H3=H2)/\
   ∀(ms:Ac)(l:Addr)(H2:Hp),Rf (λz=>b2i<|key z) ns ms->SameX Pt H1 H2->TabH H2 Pt TX (X.env.qual++Str.ofString "<lambda>")->H2 l=none->Q ↑l (upd H2 l<|.lst<|ms.R V.int)
  |_=>False) I h) λus s1 hh=>?_) (by rw[hs];rfl) (by rw[hs];rfl) Z rfl
 let(vs,H1,I1,r,q):=hh
 match vs,r,q with
 |[],_,q=>show False.elim q
 |_::_::_,_,q=>show False.elim q
 |[y],r,q=>
  let(p2,ns,vx,key,rfl,hq,QC,hT,hσ,hk,q):=q;let(u,rfl,ru):=VZ r;let rfl:u=Value.ref p2:=ru;show kws_cons (gd I1 Ts hC hB hT Nv Gb yq λf c' pm Qq s2 H2 sx tab F I2 hf WS=>kws_nil ?_);let I3:=I2.pin1 F hf λv z=>by cases z
  let RN:=SqL.samexT hq hT sx;let(XW,rv,g1,hz):=I2.list RN;let hv:=ZG rv
  show Zg6 I3 g1.isList hv QC (key:=key) (λpl z t s3 hmem AP=>?_) λs3 a m out ms Fa AP Ke Gd Wk=>?_
  .-- the lambda called
   let Og:s3.G.H f=some (kla_obj (Str.ofString "<lambda>") (X.env.qual++Str.ofString "<lambda>") params body scope [(x,cc)] pm c' Qq):=(AP.pin (f,_)<|Yk _<|Yg _<|Yk _ Yd).1;let(mm,_,fP):=AP.loc;let(ux,rx,yj):=fP i x vx hi hσ (.inr<|.inl hkx);let QO:s3.G.IsCell cc (some ux):=by
    rcases yj with ⟨kz,_⟩|⟨_,c2,e2,UQ⟩
    .rw[hkx]at kz;cases kz
    .rw[VM]at e2;cases e2;show UQ
   let Kf:s3.G.CodeRec ↑c' (X.env.qual++Str.ofString "<lambda>"):=(AP.hok c' _ WS).1;let Vs:Room (k+1) X.A.in1.in1:=(hr.in1).in1
   show CQ (Jy (gk (u:=.int z t) (vv:=.int z) S Vs AP.env0.in1.in1 Og Kf (Se c' pm Qq _) QO rx (AP.freeC x cc VM) ⟨t,Z⟩ (hb f c' _ _ s3 H2<|Vs.deeper _)<|hk H2 sx z hmem) λrr s4 hh=>?_);let(u',rfl,ce):=hh;let(v',H',J',jw,e1,e2):=AP.after ce;subst e1 e2;let rfl:=jw;exists Z,J'
  .let J0:Inv X pins σ H2 s3:=AP.unpinned;let Fa0:FpOk X pins H2 a:=⟨Fa.1,Fa.2.1,Fa.2.2.1,Fa.2.2.2.1,Fa.2.2.2.2.1,λp hp=>Fa.2.2.2.2.2 p (by
    rcases Xz.L hp with hp|hp
    .show Yg _ hp
    .show Yk _<|Yg _ hp)⟩
   let Md:ms.f=ns.f:=by let(pp,h1,_,rfl):=Wk;rw[Yc,h1.length_eq,Mz]
   exists .ref a,_,J0.adopt hex Fa0 (u:=.lst<|ms.R V.int) {?_,out.l,m,PZ Gd,by simpa using Ke},Z,q ms a H2 Wk sx tab Fa.1;rw[Yc,Md]
   have:sizeLine=16777216:=TM
   lia
end
abbrev PF:List (Str×Value):=[(Str.ofString "default",.none)]
section
variable{prog:Program}{w:World}{A:Around}{I S:Addr}{fp wr:List Addr}{n:Nat}{P:Nat->Value->Prop}{St:Nat->Heap->Prop}{R:Result->Shared->Prop}
def ZV8(W:Walks prog w A.in1 I fp wr n P St)(lt:Nat->Nat->Bool)(C:Heap->Prop)(ck:∀h h',C h->(∀b o,b≠S->b∉wr->h.H b=some o->h'.H b=some o)->C h')(cc:∀s i j v u E Q,C s.G->i≠j->P i v->P j u->Q (.bool (lt i j)) s->wpAny (model prog w) A.in1 (compareOp .Lt v u) Q E s)(Rr:S∉fp):∀k j s vb c,n-(j+1)=k->j+1<=n->St (j+1) s.G->P (argBest lt j) vb->C s.G->
  s.G.H S=some {cls:=.type "list",dict:=none,data:=.seq #[vb,vb] c,slots:=#[]}->
  (∀v h' tk,P (argBest lt<|n-1) v->(∀b o,b≠S->b∉wr->s.G.H b=some o->h'.H b=some o)->R (.ok<|.ret v) {s with heap:=h',toks:=tk})->
  codeAny (model prog w) A (.builtin "min.loop" {[.ref I,.none,.ref S],PF}) R s:=by
 let rq:S∉wr:=λh=>Rr (W.sub _ h);let nm:(toString "min"++toString ".loop":String)="min.loop":=oY
 intro k
 induction k with
 |zero=>
  intro j s vb c hk hj st pb ta hS hR;let ej:j+1=n:=oZ
  show QS uH ?_;rw[JD LG _];change wpAny _ A.in1 (seqItems? ↑S >>= _) _ _ s
  show XU (RC hS Z ?_);change wpAny _ A.in1 (tryCatch (pyNext<|.ref I) _ >>= _) _ _ s
  show XU (CW<|W.done s _ _ (ej▸st) λh' tk Up=>?_);let Ub:=Up S _ rq hS
  change wpAny _ A.in1 (updateSeq S (λ_=>#[]) >>= _) _ _ _;show XU (uG Ub Z<|XU<|EB<|Yn ?_);show hR vb _ tk (by rwa[<-ej]) λb o b1 b2 e=>(VN _ _<|WX b1).m (Up b o b2 e)
 |succ k ih=>
  intro j s vb c hk hj st pb ta hS hR;let Xh:j+1<n:=oW
  show QS uH ?_;rw[JD LG _];change wpAny _ A.in1 (seqItems? ↑S >>= _) _ _ s
  show XU (RC hS Z ?_);change wpAny _ A.in1 (tryCatch (pyNext<|.ref I) _ >>= _) _ _ s
  show XU (CW<|W.item (j+1) s _ _ Xh st λv h' tk pv XQ Up=>?_);let Ub:=Up S _ rq hS
  let fO:=ck _ h' ta λb o _ b2 e=>Up b o b2 e;change wpAny _ A.in1 (tryCatch (holding [v,v]<|richCompare .Lt (v) (vb) >>= _) _ >>= _) _ _ _
  show XU (CW<|Sx<|XU<|show wpAny _ _ (compareOp .Lt (v)<|vb) _ _ _ from cc {s with heap:=h',toks:=tk} (j+1) _ v vb _ _ fO (RD<|Nat.lt_succ_of_le<|My.QB _ _) pv pb ?_);show XU (Sx<|Tj ?_);show XU (EB<|Yn ?_);cases hb:lt (j+1) (argBest lt j) with
  |true=>
   simp only[Hu];show XU (uG Ub Z<|XU<|EB ?_);rw[nm];let up:∀b o,b≠S->h'.H b=some o->(h'.update S<|Obj.mapSeq λ_=>#[v,v]).H b=some o:=λb o b1 e=>(VN _ _<|WX b1).m e
   show Yn {LB LG _,ih (j+1) _ (v) _ oW Xh (W.frame _ h' _ XQ λb Iy o e=>up b o (λh=>Rr<|h▸Iy) e) ?_ (ck _ _ fO λb o b1 _ e=>up b o b1 e) (OR _ Ub Z) λv' yi Nm yh yg=>?_}
   .unfold argBest;rw[if_pos hb];show pv
   .show hR v' yi Nm yh λb o b1 b2 e=>yg b o b1 b2 (up b o b1<|Up b o b2 e)
  |false=>
   simp only[QT,Vw];show XU (EB ?_);rw[nm];show Yn {LB LG _,ih (j+1) _ (vb) c oW Xh XQ ?_ fO Ub λv' yi Nm yh yg=>?_}
   .unfold argBest;rwa[if_neg (by rw[hb];decide)]
   .show hR v' yi Nm yh λb o b1 b2 e=>yg b o b1 b2 (Up b o b2 e)
def Zi7(W:Walks prog w A.in1 I fp wr n P St)(lt:Nat->Nat->Bool)(C:Heap->Prop)(ck:∀h h',C h->(∀b o,b≠S->b∉wr->h.H b=some o->h'.H b=some o)->C h')(cc:∀s i j v u E Q,C s.G->i≠j->P i v->P j u->Q (.bool (lt i j)) s->wpAny (model prog w) A.in1 (compareOp .Lt v u) Q E s)(Rr:S∉fp)(hn:0<n){c:Nat}(st:St 0 s.G)(ta:C s.G)(hS:s.G.H S=some {cls:=.type "list",dict:=none,data:=.seq #[] c,slots:=#[]})
  (hR:∀v h' tk,P (argBest lt<|n-1) v->(∀b o,b≠S->b∉wr->s.G.H b=some o->h'.H b=some o)->R (.ok<|.ret v) {s with heap:=h',toks:=tk}):
  codeAny (model prog w) A (.builtin "min.loop" {[.ref I,.none,.ref S],PF}) R s:=by
 let rq:S∉wr:=λh=>Rr (W.sub _ h);let nm:(toString "min"++toString ".loop":String)="min.loop":=oY
 show QS uH ?_;rw[JD LG _];change wpAny _ A.in1 (seqItems? ↑S >>= _) _ _ s
 show XU (RC hS Z ?_);change wpAny _ A.in1 (tryCatch (pyNext<|.ref I) _ >>= _) _ _ s
 show XU (CW<|W.item 0 s _ _ hn st λv h' tk pv XQ Up=>?_);let Ub:=Up S _ rq hS
 change wpAny _ A.in1 (updateSeq S (λ_=>#[v,v]) >>= _) _ _ _;show XU (uG Ub Z ?_);rw[nm];let up:∀b o,b≠S->h'.H b=some o->(h'.update S<|Obj.mapSeq λ_=>#[v,v]).H b=some o:=λb o b1 e=>(VN _ _<|WX b1).m e
 show Yn {LB LG _,ZV8 W lt C ck cc Rr _ 0 _ v _ Z hn (W.frame _ h' _ XQ λb Iy o e=>up b o (λh=>Rr<|h▸Iy) e) pv (ck _ _ ta λb o b1 b2 e=>up b o b1<|Up b o b2 e) (OR _ Ub Z) λv' yi Nm yh yg=>?_};show hR v' yi Nm yh λb o b1 b2 e=>yg b o b1 b2 (up b o b1<|Up b o b2 e)
def ZU8(W:Walks prog w A.in1 I fp wr n P St)(hn:n=0)(Rr:S∉fp){c:Nat}(st:St 0 s.G)(hS:s.G.H S=some {cls:=.type "list",dict:=none,data:=.seq #[] c,slots:=#[]})
  (hR:∀h' tk,(∀b o,b≠S->b∉wr->s.G.H b=some o->h'.H b=some o)->R (.ok<|.ret .none) {s with heap:=h',toks:=tk}):
  codeAny (model prog w) A (.builtin "min.loop" {[.ref I,.none,.ref S],PF}) R s:=by
 subst hn;show QS uH ?_;rw[JD LG _];change wpAny _ A.in1 (seqItems? ↑S >>= _) _ _ s
 show XU (RC hS Z ?_);change wpAny _ A.in1 (tryCatch (pyNext<|.ref I) _ >>= _) _ _ s
 show XU (CW<|W.done s _ _ st λh' tk Up=>?_);show XU (Pk<|Yn ?_);show hR h' tk λb o _ b2 e=>Up b o b2 e
def ZP4{E:Ae}{s:Shared}{id:String}{b:Builtin}{args:Ag}{kw:List (Str×Value)}{Q:Ae}(hk:builtinKind id=none)(hp:plainId id=true)(hb:entryFor table id=some b)(ha:argsOk id ⟨args,kw⟩)
  (hc:wpAny (model prog w) A.in1 (b ⟨args,kw⟩) (λfin s'=>match fin with
   | .done f=>(match (Except.ok f:Result) with | .ok (.ret v)=>Q v s' | .ok _=>False | .error e=>E e s')
   | .again c'=>c'.quiet=true/\codeAny (model prog w) A c' (λr s'=>match r with | .ok (.ret v)=>Q v s' | .ok _=>False | .error e=>E e s') s') E s):wpAny (model prog w) A (call (.builtin id) args kw) Q E s:=by
 show CQ (codeAny_call_builtin hp hb ?_);simp only[checkBuiltinCall,hk];cases fN:Manifest.signature? id with
 |none=>show Yn hc
 |some sig=>
  let Ei:Bind.checkArgs id sig ⟨args,kw⟩=pure ():=by simpa only[argsOk,fN] using ha
  simp only[Ei];show Yn hc
def fM(a:Value):argsOk "min" {[a],PF}:=by unfold argsOk;kernel_rfl
def fL{E:Ae}{s:Shared}{Q:Ae}(hh:A.handled=none)(hl:s.G.IsList l (intItems xs))
  (h0:xs.t=0->∀h' tk,(∀b o,s.G.H b=some o->h'.H b=some o)->Q .none {s with heap:=h',toks:=tk})
  (h:0<xs.t->∀v h' tk,(intItems xs)[argBest (λi j=>decide<|numAt xs i<numAt xs j) (xs.t-1)]?=some v->(∀b o,s.G.H b=some o->h'.H b=some o)->Q v {s with heap:=h',toks:=tk}):
  wpAny (model prog w) A (call (.builtin "min") [.ref l] PF) Q E s:=by
 let nm:(toString "min"++toString ".loop":String)="min.loop":=oY;show ZP4 F.kind_min F.plain_min F.entry_min (fM _) ?_;change wpAny _ A.in1 (Builtin.Builtins.bindParams "min" ["key","default"] 0 {[],PF} >>= _) _ _ s
 show XU (Lu (a:=[none,some .none]) Z ?_);show XU (Yn ?_);show XU (iter_intList hl λs₂ e st rL hlI=>?_);subst e;show XU (JC ?_);rw[nm];let W:=Walks.list (prog:=prog) (w:=w) (A:=A.in1) hh (~~~s) l hlI (intItems xs)
 obtain⟨G,hG⟩:∃G,G=s.G.push {cls:=.type "list_iterator",data:=.fields #[.ref l,.int 0 0]}:={_,Z};let hold:∀b o,s.G.H b=some o->b≠G.objs.t/\b∉[(~~~s)]/\(G.push {cls:=.type "list",data:=.seq #[] 0}).H b=some o:=λb o e=>by
  let Xh:=Yt e;let fK:b<G.objs.t:=by rw[hG];show YD Xh (by rw[LC];show TN _)
  exists YF fK,λhm=>by rw[XB.L hm]at Xh;show Qi _ Xh,WY _<|by rw[hG];show WY _ e
 rw[<-hG]at st rL ⊢;let Rr:G.objs.t∉[(~~~s),l]:=λhm=>Qi _ (rL _ hm)
 let Xa:=W.frame 0 G (G.push {cls:=.type "list",data:=.seq #[] 0}) st λb _ o e=>WY _ e;let fJ:(intItems xs).t=xs.t:=by simp[intItems]
 rcases Nat.eq_zero_or_pos xs.t with hz|hz
 .show Yn {LB LG _,ZU8 W (fJ.m hz) Rr Xa (Yr _ Z) λh' tk hk=>?_};show h0 hz h' tk λb o e=>by let(a1,a2,a3):=hold b o e;show hk b o a1 a2 a3
 .show Yn {LB LG _,Zi7 W (λi j=>decide<|numAt xs i<numAt xs j) (λ_=>True) (λ_ _ _ _=>trivial) (λs i j v u E Q _ _ pv pu q=>?_) Rr (by rwa[fJ]) Xa trivial (Yr _ Z) λv h' tk pv hk=>?_}
  .let⟨t1,rfl⟩:=intItems_at pv;let(t2,rfl):=intItems_at pu;show lt_int q
  .rw[fJ]at pv;show h hz v h' tk pv λb o e=>by let(a1,a2,a3):=hold b o e;show hk b o a1 a2 a3
end
def fI(K:Ad)(te:TE):(TE):=λσ H Q=>te σ H λy H1=>∃p ns,y=.ref p/\SqL K H1 p (ns.R V.int)/\(ns=[]->Q .non H1)/\∀m:Int,m∈ns->(∀a∈ns,m<=a)->Q (.int m) H1
def ZL9{p kp pos cp:Pos}{j:Nat}(hc:X.calm=true)(hg:Gl X (Str.ofString "min"))(hm:X.mg (Str.ofString "min")=none)(he:PE X e te)(hs:starEach [e] X.env=[(false,eval e X.env)]:=by rfl):
  PE X (.Call (.Name (Str.ofString "min") p) [e] [{some<|Str.ofString "default",.Constant .none j cp,kp}] pos) (fI X.K te):=by
 intro pins s σ H Q I h;show MC (Ph I hg hm Boot.«min» ?_ oY oY);let ha:PA X [e] (Jn te Qd):=XY he XX hs
 show callWith_kw (thn (ha pos pins s σ H (λvs H1=>match vs with
  |[y]=>∃p ns,y=.ref p/\SqL X.K H1 p (ns.R V.int)/\(ns=[]->Q .non H1)/\∀m:Int,m∈ns->(∀a∈ns,m<=a)->Q (.int m) H1
  |_=>False) I h) λus s1 hh=>?_) (by rw[hs];rfl) (by rw[hs];rfl) Z rfl
 let(vs,H1,I1,r,q):=hh
 match vs,r,q with
 |[],_,q=>show False.elim q
 |_::_::_,_,q=>show False.elim q
 |[y],r,q=>
  let(p2,ns,rfl,hq,q0,q1):=q;let(u,rfl,ru):=VZ r;let rfl:u=Value.ref p2:=ru;show kws_cons (Constant_none<|kws_nil ?_);let(XW,rv,pl,hz):=I1.list hq;let hi:=ZG rv
  let(xs,e'):=hi.allInts.items;let Qp:ns=xs.l.R (·.1):=by rw[<-hi.numsOf,<-nums_intItems,<-e']
  let hl:=pl.isList;rw[e']at hl;show fL (I1.ok.hd hc) hl (λhsz h' tk hk=>?_) λhsz v h' tk hv hk=>?_
  .exists .non,H1,I1.kept (t':=tk) hk,Z,q0 ?_;rw[Qp,Dm];show YV.L (by rwa[Yx])
  .let⟨t,rfl⟩:=intItems_at hv;let(h1,h2):=argBest_lt (numAt xs) (xs.t-1);exists .int _,H1,I1.kept (t':=tk) hk,⟨t,Z⟩,q1 _ ?_ λa ha=>?_
   .rw[Qp,numAt_eq];show getD_mem (by rw[Yc,Yx];omega)
   .rw[Qp]at ha;let(j,hj,rfl):=mem_getD ha;rw[Yc,Yx]at hj;rw[<-numAt_eq];show h2 j oZ
end L2
namespace My
open PySem L2
def yf(K:Ad)(mg:Af)(x qual:Str)(st:Stmt)(fs:List Str)(Pt:Addr):(Prop):=∃C f fd c,mg x=some ↑C/\Fun K "__init__" qual st f fd/\Cls K C/\Mk K C f/\(∀a∈fs,NoAttr K C a)/\fd.code=.ref c/\PySem.W.codeHdIn K c Pt=true
def FY{mg:Af}{oc:Value}{od an:Option Addr}{SK:Array (Option Value)}{kV doc pm ct:Value}(X:K.In h)(G:h.Ns mainGlobals mg)
  (aC:PySem.W.nsIn K mainGlobals x=some (some<|.ref C))(a:PySem.W.findIn K ↑C "__init__"=some (some<|.ref f))(i:PySem.W.isFn K ↑f=true)
  (l:K.Y f=some {oc,od,.func<|PySem.W.fnOf "__init__" qual (Jf st) (Qa st) (Xd st) .none kV doc pm an ↑cA ct,SK})(c:PySem.W.codeIn K ↑cA qual=true)(k:PySem.W.keepIn K ↑f=true)
  (pg:PySem.W.plainGet K C Str.empty=true)(hd:PySem.W.hasDictIn K C=true)(po:PySem.W.plainOver K C=true)(sa:PySem.W.findIn K ↑C "__setattr__"=some (some<|.builtin "object.__setattr__"))(mk:PySem.W.makesIn K C=true)(kc:PySem.W.keepIn K ↑C=true)
  (na:∀a∈fs,PySem.W.findIn K ↑C a=some none)(z:PySem.W.codeHdIn K cA Pt=true):yf K mg x qual st fs Pt:=
 {C,f,_,cA,uC X G aC,tJ l c k,⟨pg,hd,po,sa⟩,⟨mk,a,i,kc⟩,na,Z,z}
def LS(M:Ac)(ps:Aa)(g:Ac)(i:Nat):(Ac):=(VB i).Q λz=>decide (z∉g/\mk M (ps.S z.j (0,0)).1.j≠mk M (ps.S z.j (0,0)).2.j)
def ye(M:Ac)(ps:Aa)(g:Ac)(i:Nat):LS M ps g (i+1)=LS M ps g i++if (i:Int)∉g/\mk M (ps.S i (0,0)).1.j≠mk M (ps.S i (0,0)).2.j then [(i:Int)] else []:=by
 unfold LS;rw[Ah,QU];congr 1;rw[YU,pH];change(if decide ((i:Int)∉g/\mk M (ps.S ((i:Int).j) (0,0)).1.j≠mk M (ps.S ((i:Int).j) (0,0)).2.j)=true then [(i:Int)] else [])=_
 rw[YO];simp only[HU]
def rp(M:Ac)(ps:Aa)(g:Ac)(i:Nat):(LS M ps g i).f<=i:=Yl (Yo ..) (by rw[ZU];show XJ _)
def WV:(Option Int->V)
 |none=>.non
 |some z=>.int z
def rn(w k s ld l i fu:V):(List (Str×V)):=[("web",w),("kept",k),("shut",s),("lead",ld),("least",l),("incoming",i),("further",fu)]
def Wn:SameX x H (upd H x o):=λb o' hb e=>by rwa[Zb hb]
def WebAt.but{C CP w x dx:Addr}(h:WebAt C H w n ps)(hx:H x=some (.ins CP dx []))(s:SameX x H H1):WebAt C H1 w n ps:=by
 let(d,tl,xs,h1,h2,h3):=h;exists d,tl,xs,s _ _ (λe=>?_) h1,s _ _ (λe=>?_) h2,h3.1,λi p e=>?_
 .rw[e,hx]at h1
  have:=YS (λo=>match o with|some (HO.ins _ _ fs)=>fs.f|_=>0) h1
  show absurd this (by change ¬0=2;decide)
 .rw[e,hx]at h2;cases h2
 .let⟨v,a1,tt,a2,a3⟩:=h3.2 i p e;exists v,a1,tt,a2,s _ _ (λe=>by rw[e,hx]at a3;cases a3) a3
def Nl{CP a x dx:Addr}(h:SqT K H a xs)(hx:H x=some (.ins CP dx []))(s:SameX x H H1):SqT K H1 a xs:=by
 rcases h with (h|⟨o,h⟩)|h
 .show .inl (.inl<|s _ _ (λz=>by rw[z,hx]at h;cases h) h)
 .show .inl (.inr {o,s _ _ (λz=>by rw[z,hx]at h;cases h) h})
 .show .inr h
def fH{CP Pt x dx:Addr}(t:TabH H Pt pos qual)(hx:H x=some (.ins CP dx []))(s:SameX x H H1):TabH H1 Pt pos qual:=by
 let(ps,h1,h2,h3):=t;exists ps,s _ _ (λe=>by rw[e,hx]at h1;cases h1) h1,h2,?_;rcases h3 with h|⟨c,h,h'⟩
 .show .inl h
 .show .inr {c,h,s _ _ (λe=>by rw[e,hx]at h';cases h') h'}
def yd(ha:SqT K H a (IL l))(hb:SqT K H b (IL m))(hl:l.f+m.f<=1000)(k:∀r H',Same H H'->SqT K H' r (IL (l++m))->Q ↑r H'):GN K ↑a ↑b H Q:=by
 exists a,b,_,_,Z,Z,ha,hb,by rw[XG,XG];show Yl hl oY,λe=>?_,λ_ e=>?_,λ_ _ p hp=>?_
 .let el:l=[]:=Dm.L e;rw[el,ON]at k;show k b H (Same.refl _) hb
 .let em:m=[]:=Dm.L e;rw[em,Ys]at k;show k a H (Same.refl _) ha
 .show k p _ (XZ hp) (SqT.of ?_);rw[XT,tE]
def VQ(M:Ac)(ps:Aa)(z:Int):(Int×Int):=(min (mk M (ps.S z.j (0,0)).1.j)<|mk M (ps.S z.j (0,0)).2.j,max (mk M (ps.S z.j (0,0)).1.j)<|mk M (ps.S z.j (0,0)).2.j)
def Kd{l:Ac}(hp:l.Perm [a,b])(hs:l.E (·<=·)):l=[min a b,max a b]:=by
 cases c:a<=b
 .rw[uJ c,pL c];show Rq hp hs (by simpa using c)
 .rw[pM J,pG oW];show Rq (hp.m<|List.Perm.swap b a []) hs (by simp;omega)
def ZP9{z:Int}(h:z∈LS M ps g i):0<=z/\z<(i:Int):=Xq.L (Ya.L h).1
def Xk(n:Int)(ps:Aa)(I O F:Ac):(Ac):=LS (Xy n.j<|XS ps I) ps (I++O++F) ps.f
def TV(n:Int)(ps:Aa)(I O F:Ac)(ld:Option Int):(Ac):=(Xk n ps I O F).Q λz=>decide (∃y,ld=some y/\VQ (Xy n.j<|XS ps I) ps z=VQ (Xy n.j<|XS ps I) ps y)
def Wc(n:Int)(ps:Aa)(I O F:Ac)(ld:Option Int):(Ac):=(Xk n ps I O F).Q λz=>decide (z∉TV n ps I O F ld)
def PartAt(K:Ad)(CP C:Addr)(H:Hp)(x:Addr)(n:Int)(ps:Aa)(I O F inc:Ac)(ld fu:Option Int):(Prop):=∃dx w a b l i,H x=some (.ins CP dx<|rn ↑w ↑a ↑b (WV ld) ↑l ↑i<|WV fu)/\WebAt C H w n ps/\SqT K H a (IL I)/\SqT K H b (IL O)/\H l=some (.tup<|IL F)/\H i=some (.lst<|IL inc)
def PartAt.samex(h:PartAt K CP C H x n ps I O F inc ld fu)(t:TabH H Pt pos qual)(sx:SameX Pt H H2):PartAt K CP C H2 x n ps I O F inc ld fu:=by let(dx,w,a,b,l,i,h1,h2,h3,h4,h5,h6):=h;exists dx,w,a,b,l,i,sx _ _ (t.ne h1 B) h1,h2.samex t sx,SqK.samex (kd:=true) h3 t sx,SqK.samex (kd:=true) h4 t sx,sx _ _ (t.ne h5 B) h5,sx _ _ (t.ne h6 B) h6
structure PartOk(n:Int)(ps:Aa)(I O:Ac)(ld:Option Int)(F inc:Ac)(fu:Option Int):Prop where
 tr:With n ps I O F
 least:∀U,With n ps I O U->HT.lexLt U F=false
 inc:Rf (λz=>PyProof.Rows.b2i<|decide<|ld=some z) (TV n ps I O F ld) inc
 none:fu=none↔Wc n ps I O F ld=[]
 some:∀y,fu=some y->y∈Wc n ps I O F ld/\∀z∈Wc n ps I O F ld,y<=z
def xchT(F:Ac)(o z:Int):(Ac):=(wo F o++[z]).mergeSort λa b=>decide (a<=b)
def UM(F:Ac)(o z:Int):(xchT F o z).Perm (wo F o++[z]):=List.mergeSort_perm _ _
def LR(F:Ac)(o z:Int):(xchT F o z).E (·<=·):=by
 show(aq (le:=λa b:Int=>decide<|a<=b) (λa b c h1 h2=>?_) (λa b=>?_) _).imp λh=>Yu h
 .simp only[HU]at *;lia
 .simp only[pE,HU];lia
def WR(n:Int)(ps:Aa)(I F:Ac)(z:Int):(Ac):=(SI n ps F z F).Q λt=>decide (t∉I)
section
variable{n:Int}{ps:Aa}{I O F T M:Ac}{x y z:Int}(g:Zz n ps)
include g
def DL(hF:With n ps I O F)(he:exg n ps F x y)(hx:x∉I)(hy:y∉O)(hp:M.Perm (wo F x++[y]))(hs:M.E (·<=·)):With n ps I O M:=by
 exists NW g hF.1 he hp hs,λv hv=>(sG g hF.1 he hp hs).U (.inl {hF.2.1 v hv,λe=>hx<|e▸hv}),λv hv h=>?_;rcases(sG g hF.1 he hp hs).L h with h|h
 .show hF.2.2 v hv h.1
 .show hy (h▸hv)
def Zm5(hF:Zg n ps F)(he:exg n ps F x y)(h:y<x)(hp:M.Perm (wo F x++[y]))(hs:M.E (·<=·)):HT.lexLt M F=true:=by
 let tM:=NW g hF he hp hs;let yF:y∉F:=((Eg g hF).L he).2.1
 show(gD (XR.L tM.1).2 (XR.L hF.1).2 (by have:=tM.2.1;have:=hF.2.1;lia)).U ⟨y,(sG g hF he hp hs).U (.inr Z),yF,λs Wb=>?_⟩;rw[sG g hF he hp hs];constructor
 .rintro(q|q)
  .show q.1
  .lia
 .show λq=>.inl ⟨q,J⟩
def FX(hF:With n ps I O F)(VU:∀U,With n ps I O U->HT.lexLt U F=false)(hT:With n ps (I++[z]) O T)(Iq:∀U,With n ps (I++[z]) O U->HT.lexLt U T=false):∀v∈T,v∈F\/v=z:=λv hv=>Yy λno=>by
 let vF:v∉F:=λh=>no (.inl h);let vz:v≠z:=λh=>no (.inr h)
 let(u,e1,e2):=jL g hT.1 hF.1 hv vF;let uF:u∈F:=e2.1
 let uT:u∉T:=((Eg g hT.1).L e1).2.1;let uI:u∉I:=λh=>uT (hT.2.1 u<|Yg _ h)
 let vO:v∉O:=λh=>hT.2.2 v h hv;let uO:u∉O:=λh=>hF.2.2 u h uF
 let vI:v∉I++[z]:=λh=>by
  rcases Xz.L h with h|h
  .show vF (hF.2.1 v h)
  .show vz (XB.L h)
 let uv:u≠v:=λe=>uT (e▸hv);let(M1,p1,q1):=jJ (wo F u++[v]);let w1:=DL g hF e2 uI vO p1 q1
 let(M2,p2,q2):=jJ (wo T v++[u]);let w2:=DL g hT e1 vI uO p2 q2
 rcases Int.lt_or_lt_of_ne uv with h|h
 .have:=Zm5 g hT.1 e1 h p2 q2
  rw[Iq M2 w2]at this;cases this
 .have:=Zm5 g hF.1 e2 h p1 q1
  rw[VU M1 w1]at this;cases this
def rm(hF:With n ps I O F)(VU:∀U,With n ps I O U->HT.lexLt U F=false)(hz:z∉F):With n ps I (O++[z]) F/\∀U,With n ps I (O++[z]) U->HT.lexLt U F=false:=
 {{hF.1,hF.2.1,λv hv=>(Xz.L hv).elim (hF.2.2 v) λh=>by rwa[XB.L h]},λU hU=>VU U {hU.1,hU.2.1,λv hv=>hU.2.2 v<|Yg _ hv}}
end
def Wm{z:Int}:With n ps I O T↔With n ps I (O++[z]) T\/With n ps (I++[z]) O T:=by
 constructor
 .intro h;cases c:z∈T
  .show .inr {h.1,λv hv=>(Xz.L hv).elim (h.2.1 v) λe=>by rw[XB.L e];show c,h.2.2}
  .show .inl {h.1,h.2.1,λv hv=>(Xz.L hv).elim (h.2.2 v) λe=>by rwa[XB.L e]}
 .rintro(h|h)
  .exists h.1,h.2.1,λv hv=>h.2.2 v<|Yg _ hv
  .exists h.1,λv hv=>h.2.1 v<|Yg _ hv,h.2.2
def RowAll(n:Int)(ps:Aa)(I O:Ac)(R:Ab):(Prop):=R.Nodup/\∀T,T∈R↔With n ps I O T
def RowAll.pc(h:RowAll n ps I O R):PC n ps I O R.f:={R,h.1,λl=>h.2 l,Z}
def fG{z:Int}(hA:RowAll n ps I (O++[z]) A)(hB:RowAll n ps (I++[z]) O CL):RowAll n ps I O (A++CL.reverse):=by
 exists Wt.U {hA.1,(EK CL).nodup_iff.U hB.1,λa ha b hb e=>?_},λT=>?_
 .subst e;show((hA.2 a).L ha).2.2 z B (((hB.2 a).L (SA.L hb)).2.1 z B)
 .rw[Xz,SA,hA.2,hB.2];show Wm.symm
def fF{a b c d:Int}(h1:min a b=min c d)(h2:max a b=max c d):(a=c/\b=d)\/(a=d/\b=c):=by
 rcases Int.le_total a b with p|p<;>rcases Int.le_total c d with q|q<;>simp only[uJ,pM,pG,pL,p,q]at h1 h2
 .show .inl ⟨h1,h2⟩
 .show .inr ⟨h1,h2⟩
 .show .inr ⟨h2,h1⟩
 .show .inl ⟨h2,h1⟩
section
variable{n:Int}{ps:Aa}{I O F T:Ac}{o t t':Int}(g:Zz n ps)
include g
def ZM6(hT:Zg n ps T)(ho:o∈T):¬Conn (XS ps (wo T o)) (Zu ps o).1 (Zu ps o).2:=by let(o0,o1):=hT.1.all o ho;show(Pb g hT o0 o1).L ((Bg g hT ho ho).U Z)
def Zu8(hT:Zg n ps T)(hI:∀v∈I,v∈T)(ht:t∈T)(hn:t∉I):¬Conn (XS ps I) (Zu ps t).1 (Zu ps t).2:=λc=>
 ZM6 g hT ht (c.mono<|Vt λv hv=>Xg.U {hI v hv,λe=>hn<|by rwa[<-e]})
def ZV7(XD:∀z∈I,0<=z/\z<ps⁻¹)(t0:0<=t)(t1:t<ps⁻¹)(s0:0<=t')(s1:t'<ps⁻¹)(h:VQ (Xy n.j (XS ps I)) ps t=VQ (Xy n.j (XS ps I)) ps t'):
  (Conn (XS ps I) (Zu ps t).1 (Zu ps t').1/\Conn (XS ps I) (Zu ps t).2 (Zu ps t').2)\/(Conn (XS ps I) (Zu ps t).1 (Zu ps t').2/\Conn (XS ps I) (Zu ps t).2 (Zu ps t').1):=by
 let Wq:=ZY g XD;let a:=SY (z:=t) g t0 t1
 let b:=SY (z:=t') g s0 s1;let h:(min (mk (Xy n.j<|XS ps I) (Zu ps t).1)<|mk (Xy n.j<|XS ps I) (Zu ps t).2,max (mk (Xy n.j<|XS ps I) (Zu ps t).1)<|mk (Xy n.j<|XS ps I) (Zu ps t).2)=(min (mk (Xy n.j<|XS ps I) (Zu ps t').1)<|mk (Xy n.j<|XS ps I) (Zu ps t').2,max (mk (Xy n.j<|XS ps I) (Zu ps t').1)<|mk (Xy n.j<|XS ps I) (Zu ps t').2):=h
 let(h1,h2):=Prod.mk.inj h;rw[<-QE Wq a.1 b.1,<-QE Wq a.2 b.2,<-QE Wq a.1 b.2,<-QE Wq a.2 b.1];show fF h1 h2
def Zx9(XD:∀z∈I,0<=z/\z<ps⁻¹)(hT:Zg n ps T)(hI:∀v∈I,v∈T)(ht:t∈T)(hs:t'∈T)(hn:t∉I)(Qe:t'∉I)(h:VQ (Xy n.j (XS ps I)) ps t=VQ (Xy n.j (XS ps I)) ps t'):t=t':=Yy λne=>by
 let(t0,t1):=hT.1.all t ht;let(s0,s1):=hT.1.all t' hs;let sub:∀v∈I++[t],v∈wo T t':=λv hv=>by
  rcases Xz.L hv with hv|hv
  .show Xg.U {hI v hv,λe=>Qe<|by rwa[<-e]}
  .rw[XB.L hv];show Xg.U ⟨ht,ne⟩
 let up:∀{i j},Conn (XS ps I) i j->Conn (XS ps<|I++[t]) i j:=λc=>c.mono (Vt λv hv=>Yg _ hv);let ed:Conn (XS ps<|I++[t]) (Zu ps t).1 (Zu ps t).2:=.edge (YT.U ⟨t,B,Z⟩)
 let c:Conn (XS ps<|I++[t]) (Zu ps t').1 (Zu ps t').2:=by
  rcases ZV7 g XD t0 t1 s0 s1 h with ⟨a,b⟩|⟨a,b⟩
  .show((up a).symm.m ed).m (up b)
  .show((up b).symm.m ed.symm).m (up a)
 show ZM6 g hT hs (c.mono<|Vt sub)
def rj(XD:∀z∈I,0<=z/\z<ps⁻¹)(hT:With n ps I O T)(hF:∀v∈I,v∈F)(ht:t∈T)(hn:t∉F):t∈Xk n ps I O F:=by
 let(t0,t1):=hT.1.1.all t ht;let a:=SY (z:=t) g t0 t1
 let hI:t∉I:=λh=>hn (hF t h);show Ya.U {Xq.U ⟨t0,t1⟩,Yq {λh=>?_,λe=>?_}}
 .rcases Xz.L h with h|h
  .rcases Xz.L h with h|h
   .show hI h
   .show hT.2.2 t h ht
  .show hn h
 .show Zu8 g hT.1 hT.2.1 ht hI ((QE (ZY g XD) a.1 a.2).L e)
end
def Vl(n:Int)(ps:Aa)(I F:Ac)(asc:Bool)(z:Int):(Ab):=if asc then (WR n ps I F z).R λo=>xchT F o z else ((WR n ps I F z).R λo=>xchT F o z).reverse
def UX(n:Int)(ps:Aa)(I F:Ac):(Ac->Bool->Ab)
 |[],_=>[]
 |z::r,asc=>Vl n ps I F asc z++UX n ps I F r (!asc)
def rh(n:Int)(ps:Aa)(I F:Ac)(z:Int):∀l asc,UX n ps I F (l++[z]) asc=UX n ps I F l asc++Vl n ps I F (asc != (l.f%2 == 1)) z
 |[],asc=>by change Vl n ps I F asc z++[]=[]++Vl n ps I F (asc != false) z;rw[Ys,ON,Bool.bne_false]
 |y::l,asc=>by change Vl n ps I F asc y++UX n ps I F (l++[z]) (!asc)=Vl n ps I F asc y++UX n ps I F l (!asc)++_;rw[rh n ps I F z l,YA,YG];congr 3;rcases(by lia:l.f%2=0/\(l.f+1)%2=1\/l.f%2=1/\(l.f+1)%2=0) with ⟨a,b⟩|⟨a,b⟩<;>rw[a,b]<;>cases asc<;>rfl
def fE(n:Int)(ps:Aa)(I F:Ac)(asc:Bool)(z:Int):(Vl n ps I F asc z).f<=F.f:=by
 unfold Vl;let h:(WR n ps I F z).f<=F.f:=Yl (Yo ..) (GP n ps F z F)
 split
 .rw[Yc];show h
 .rw[YK,Yc];show h
def Yz9(n:Int)(ps:Aa)(I F:Ac):∀l asc,(UX n ps I F l asc).f<=l.f*F.f
 |[],_=>Yj _
 |z::l,asc=>by
  change(Vl n ps I F asc z++UX n ps I F l (!asc)).f<=_;rw[Xt,YG,Nat.succ_mul]
  have:=fE n ps I F asc z
  have:=Yz9 n ps I F l (!asc)
  lia
def x9(n:Int)(ps:Aa)(I F inc:Ac):(Ab):=F::UX n ps I F inc (inc.f%2 == 1)
def Xb:o∈SI n ps F t F↔o∈F/\t∈Uy n ps F o:=by unfold SI;rw[Ya,YL];show Iff.rfl
def XH{o t v:Int}:v∈xchT F o t↔(v∈F/\v≠o)\/v=t:=by rw[(UM F o t).mem_iff,Xz,Xg,XB]
section
variable{n:Int}{ps:Aa}{I O F T:Ac}{ld:Option Int}{o t:Int}(g:Zz n ps)
include g
def fD(XD:∀z∈I,0<=z/\z<ps⁻¹)(hF:With n ps I O F)(hu:Wc n ps I O F ld=[])(hT:With n ps I O T):T=F\/∃t∈Xk n ps I O F,∃o∈WR n ps I F t,T=xchT F o t:=by
 cases c:∀v∈T,v∈F
 .show .inl (rz g hT.1 hF.1 c)
 .obtain⟨t,ht,hn⟩:∃t,t∈T/\t∉F:=Yy λno=>c λv hv=>Yy λhn=>no ⟨v,hv,hn⟩;let hto:=rj g XD hT hF.2.1 ht hn
  let alike:∀v∈Xk n ps I O F,∃y,ld=some y/\VQ (Xy n.j<|XS ps I) ps v=VQ (Xy n.j<|XS ps I) ps y:=λv hv=>by
   let hm:v∈TV n ps I O F ld:=Yy λno=>by
    have:v∈Wc n ps I O F ld:=Ya.U {hv,Yq no}
    rw[hu]at this;cases this
   show Yu (Ya.L hm).2
  let only:∀v∈T,v∉F->v=t:=λv hv hvn=>by let(y,e1,e2):=alike v (rj g XD hT hF.2.1 hv hvn);let(y',e3,e4):=alike t hto;rw[e1]at e3;cases e3;show Zx9 g XD hT.1 hT.2.1 hv ht (λh=>hvn<|hF.2.1 v h) (λh=>hn<|hF.2.1 t h) (e2.m e4.symm)
  let(o,e1,e2):=jL g hT.1 hF.1 ht hn;let oT:o∉T:=((Eg g hT.1).L e1).2.1
  let hM:=NW g hF.1 e2 (UM F o t) (LR F o t);show .inr {t,hto,o,Ya.U {Xb.U ⟨e2.1,e2.2.2⟩,Yq λh=>oT<|hT.2.1 o h},rz g hT.1 hM λv hv=>XH.U ?_};cases cv:v∈F
  .show .inl {cv,λe=>oT<|by rwa[<-e]}
  .show .inr (only v hv cv)
def ZH6(hF:With n ps I O F)(ht:t∈Xk n ps I O F)(ho:o∈WR n ps I F t):With n ps I O (xchT F o t):=by
 let(h1,h2):=Ya.L ht;let(hg,_):=Yu h2;let(h3,h4):=Ya.L ho;let(h5,h6):=Xb.L h3;let tF:t∉F:=λh=>hg (Yk _ h)
 show DL g hF {h5,λe=>tF (by rwa[e]),h6} (Yu h4) (λh=>hg<|Yg _<|Yk _ h) (UM F o t) (LR F o t)
end
def Qo{I F T:Ac}:T∈Vl n ps I F asc z↔∃o∈WR n ps I F z,T=xchT F o z:=by
 let h:T∈((WR n ps I F z).R λo=>xchT F o z)↔∃o∈WR n ps I F z,T=xchT F o z:=by rw[YT];exists λzz=>by let(o,h1,h2):=zz;show⟨o,h1,h2.symm⟩,λzz=>by let(o,h1,h2):=zz;exists o,h1,h2.symm
 unfold Vl;split
 .show h
 .rw[SA];show h
def Vk{I F T:Ac}:∀{l:Ac}{asc:Bool},T∈UX n ps I F l asc↔∃z∈l,∃o∈WR n ps I F z,T=xchT F o z
 |[],_=>{λh=>(by cases h),λzz=>by let(_,h,_):=zz;show(by cases h)}
 |z::l,asc=>by
  change T∈Vl n ps I F asc z++UX n ps I F l (!asc)↔_;rw[Xz,Qo,Vk];constructor
  .rintro(h|⟨z',h1,h2⟩)
   .exists z,Yd,h
   .exists z',Yh _ h1,h2
  .rintro⟨z',h1,h2⟩;rcases Yi.L h1 with e|e
   .show .inl (e▸h2)
   .show .inr ⟨z',e,h2⟩
def fC(ht:t∉F)(e:xchT F o t=xchT F o' t'):t=t':=by
 have:t∈xchT F o' t':=e▸XH.U (.inr Z)
 rcases XH.L this with h|h
 .show absurd h.1 ht
 .show h
def fB(ho:o∈F)(ht:t∉F)(e:xchT F o t=xchT F o' t):o=o':=Yy λne=>by
 let h1:o∈xchT F o' t:=XH.U (.inl ⟨ho,ne⟩);rw[<-e]at h1;rcases XH.L h1 with h|h
 .show h.2 rfl
 .show ht (h▸ho)
def ZW8(hF:F.Nodup)(hz:z∉F):(Vl n ps I F asc z).Nodup:=by
 let hm:∀v∈WR n ps I F z,v∈F:=λv hv=>(Xb.L (Ya.L hv).1).1;let h:((WR n ps I F z).R λo=>xchT F o z).Nodup:=by let hd:(WR n ps I F z).E (·≠·):=(hF.Q _).Q _;show MA.U (Ds (λ{a b} ha hb UU e=>UU<|fB (hm a ha) hz e) hd)
 unfold Vl;split
 .show h
 .show(EK _).nodup_iff.U h
def x8(hF:F.Nodup):∀{l:Ac}{asc:Bool},l.Nodup->(∀z∈l,z∉F)->(UX n ps I F l asc).Nodup
 |[],_,_,_=>.nil
 |z::l,asc,hn,hl=>by
  let(n1,n2):=Pn.L hn;show Wt.U {ZW8 hF<|hl z Yd,x8 hF n2 λv hv=>hl v<|Yh _ hv,λa ha b hb e=>?_};let(o,_,h1):=Qo.L ha;let(z',r6,o',_,h2):=Vk.L hb;rw[h1,h2]at e
  have:=fC (hl z Yd) e
  show n1 (this▸r6)
def fw(g:Zz n ps)(XD:∀z∈I,0<=z/\z<ps⁻¹)(hF:With n ps I O F)(hu:Wc n ps I O F ld=[])(Sd:∀z,z∈inc↔z∈Xk n ps I O F)(hn:inc.Nodup):RowAll n ps I O (x9 n ps I F inc):=by
 let rf:∀z∈inc,z∉F:=λz hz h=>(Yu (Ya.L<|(Sd z).L hz).2).1 (Yk _ h);exists Pn.U {λh=>?_,x8 hF.1.1.nodup hn rf},λT=>?_
 .let⟨z,hz,o,_,e⟩:=Vk.L h;show rf z hz (by rw[e];show XH.U<|.inr Z)
 .unfold x9;rw[Yi,Vk];constructor
  .rintro(h|⟨z,hz,o,ho,rfl⟩)
   .rw[h];show hF
   .show ZH6 g hF ((Sd z).L hz) ho
  .intro h;rcases fD g XD hF hu h with e|⟨t,ht,o,ho,e⟩
   .show .inl e
   .show .inr {t,(Sd t).U ht,o,ho,e}
def ZP5{u v i j:Nat}(c:Conn (es++[(u,v)]) i j):Conn es i j\/(Conn es i u/\Conn es v j)\/(Conn es i v/\Conn es u j):=by
 induction c with
 |refl i=>show .inl (.refl i)
 |edge h=>
  rcases Xz.L h with h|h
  .show .inl (.edge h)
  .cases XB.L h;show .inr (.inl {.refl _,.refl _})
 |symm _ ih=>
  rcases ih with a|⟨a,b⟩|⟨a,b⟩
  .show .inl a.symm
  .show .inr (.inr ⟨b.symm,a.symm⟩)
  .show .inr (.inl ⟨b.symm,a.symm⟩)
 |trans _ _ NF RL=>
  rcases NF with a|⟨a,b⟩|⟨a,b⟩<;>rcases RL with c|⟨c,d⟩|⟨c,d⟩
  .show .inl (a.m c)
  .show .inr (.inl {a.m c,d})
  .show .inr (.inr {a.m c,d})
  .show .inr (.inl {a,b.m c})
  .show .inr (.inl ⟨a,d⟩)
  .show .inl (a.m d)
  .show .inr (.inr {a,b.m c})
  .show .inl (a.m d)
  .show .inr (.inr ⟨a,d⟩)
def FW{key:Int->Int}(h:Rf key ns ms):ms.Perm ns:=by
 let(p,h1,_,rfl):=h;let e:(List.range ns.f).R (λi=>ns.S i 0)=ns:=by
  show Mv λi=>?_;rw[Yv];cases c:i<ns.f
  .rw[pV c,Xr c];change some (ns.S i 0)=_
   rw[Wv,Xr c];rfl
  .rw[VG (by simpa using c),VG J];rfl
 have:=h1.R λi=>ns.S i 0
 rwa[e]at this
def fv(key:Int->Int)(ns:Ac):∃ms,Rf key ns ms:=by
 let hp:=List.mergeSort_perm (List.range ns.f) λi j=>decide (key (ns.S i 0)<key (ns.S j 0)\/(key (ns.S i 0)=key (ns.S j 0)/\i<=j));let hs:=aq (le:=λi j=>decide<|key (ns.S i 0)<key (ns.S j 0)\/(key (ns.S i 0)=key (ns.S j 0)/\i<=j)) (λa b c h1 h2=>by simp only[HU]at *;grind) (λa b=>by simp only[pE,HU];grind) (List.range ns.f)
 exists _,_,hp,?_,Z;show(hs.and<|hp.nodup_iff.U List.nodup_range).imp λ{a b} h=>?_;let h1:=Yu h.1
 let h2:=h.2;change key (ns.S a 0)<key (ns.S b 0)\/(key (ns.S a 0)=key (ns.S b 0)/\a<b)
 grind
def ft(n:Int)(ps:Aa)(I O F:Ac)(ld:Option Int):(Wc n ps I O F ld).E (·<·):=((IU _).Q _).Q _
def SU(g:Zz n ps)(ld:Option Int)(h:∃U,With n ps I O U):∃F inc fu,PartOk n ps I O ld F inc fu:=by
 let(L,l1,l2):=gC g;let(U,hU):=h;obtain⟨F,hF,hm⟩:∃F,With n ps I O F/\∀U,With n ps I O U->HT.lexLt U F=false:=by
  let key:∀M:Ab,M.E UY->(∃U∈M,With n ps I O U)->∃F∈M,With n ps I O F/\∀U∈M,With n ps I O U->HT.lexLt U F=false:=by
   intro M
   induction M with
   |nil=>rintro _ ⟨U,h,_⟩;cases h
   |cons x M ih=>
    intro hp hex;let(p1,p2):=YZ.L hp;cases c:With n ps I O x
    .exists x,Yd,c,λV hV _=>?_;rcases Yi.L hV with e|e
     .rw[e];show WN x
     .cases q:HT.lexLt V x with
      |false=>rfl
      |true=>
       let z:=Wr q (p1 V e);rw[WN]at z;cases z
    .let⟨V,hV,hw⟩:=hex;let(F,hF,a,b):=ih p2 {V,(Yi.L hV).resolve_left λe=>c<|e▸hw,hw};exists F,Yh _ hF,a,λV hV hw=>?_;rcases Yi.L hV with e|e
     .show absurd (e▸hw) c
     .show b V e hw
  let(F,_,a,b):=key L l2 {U,(l1 U).U hU.1,hU};exists F,a,λV hV=>b V ((l1 V).U hV.1) hV
 let(inc,hi):=fv (λz=>PyProof.Rows.b2i<|decide<|ld=some z) (TV n ps I O F ld);let Vz:=ft n ps I O F ld
 cases hu:Wc n ps I O F ld with
 |nil=>exists F,inc,none,hF,hm,hi,{λ_=>hu,λ_=>rfl},λy h=>by cases h
 |cons y l=>
  rw[hu]at Vz;exists F,inc,some y,hF,hm,hi,{λh=>(by cases h),λh=>(by rw[hu]at h;cases h)},λv h=>?_;cases h;rw[hu];exists Yd,λv hv=>?_;rcases Yi.L hv with e|e
  .rw[e];show Jv _
  .show Lz ((YZ.L Vz).1 v e)
inductive RowR(n:Int)(ps:Aa):Nat->Ac->Ac->Option Int->Ab->Prop
 |und {d:Nat} {I O F inc:Ac} {ld:Option Int}:PartOk n ps I O ld F inc none->inc.f<=30->(∀z∈inc,z∉F/\0<=z/\z<ps⁻¹)->RowR n ps d I O ld (x9 n ps I F inc)
 |div {d:Nat} {I O F inc:Ac} {z y:Int} {A CL:Ab}:PartOk n ps I O (some z) F inc (some y)->(I++[z]).Nodup->(∀v∈I++[z],0<=v/\v<ps⁻¹)->(∀v∈I++[z],v∉O)->(O++[z]).f<=30->(∃U,With n ps (I++[z]) O U)->(∃U,With n ps I (O++[z]) U)->0<=y->y<ps⁻¹->PC n ps I (O++[z]) A.f->RowR n ps d I (O++[z]) (some y) A->RowR n ps d (I++[z]) O (some y) CL->RowR n ps (d+1) I O (some z) (A++CL.reverse)
def Zy8{key:Int->Int}(h:Rf key ns ms)(h':Rf key ns ms'):ms=ms':=by
 let(p,h1,h2,rfl):=h;let(p',DP,fq,rfl):=h';let e:p=p':=CS (le:=Ahd λi=>key<|ns.S i 0) (λa b _ _ x y=>by unfold Ahd at x y;omega) h2 fq (h1.m DP.symm)
 rw[e]
def PartOk.uniq{n:Int}{ps:Aa}{I O F F' inc We:Ac}{ld fu Kc:Option Int}(h1:PartOk n ps I O ld F inc fu)(h2:PartOk n ps I O ld F' We Kc):F=F'/\inc=We/\fu=Kc:=by
 let eF:F=F':=Xu (h2.least F h1.tr) (h1.least F' h2.tr);subst eF;exists Z,Zy8 h1.inc h2.inc,?_;cases fu with
 |none=>
  cases Kc with
  |none=>rfl
  |some y=>
   have:=(h2.some y Z).1
   rw[h1.none.L Z]at this;cases this
 |some y=>
  cases Kc with
  |none=>
   have:=(h1.some y Z).1
   rw[h2.none.L Z]at this;cases this
  |some y'=>
   let(a1,a2):=h1.some y rfl;let(b1,b2):=h2.some y' rfl
   have:=a2 y' b1
   have:=b2 y a1
   rw[show y=y' by omega]
def RowW(n:Int)(ps:Aa)(R:Ab):(Prop):=∃ld F inc fu,PartOk n ps [] [] ld F inc fu/\(ld=none↔Xk n ps [] [] F=[])/\(∀y,ld=some y->y∈Xk n ps [] [] F/\∀z∈Xk n ps [] [] F,y<=z)/\RowR n ps 31 [] [] ld R/\TC n ps R.f
section
variable{n:Int}{ps:Aa}{I O F:Ac}{y z:Int}(g:Zz n ps)
include g
def ZS(XD:∀v∈I,0<=v/\v<ps⁻¹):z∈Xk n ps I O F↔(0<=z/\z<ps⁻¹)/\z∉I/\z∉O/\z∉F/\¬Conn (XS ps I) (Zu ps z).1 (Zu ps z).2:=by
 unfold Xk LS;rw[Ya,Xq,YL];constructor
 .rintro⟨h,h1,h2⟩;let a:=SY (z:=z) g h.1 h.2
  exists h,λq=>h1<|Yg _<|Yg _ q,λq=>h1<|Yg _<|Yk _ q,λq=>h1<|Yk _ q,λc=>h2<|(QE (ZY g XD) a.1 a.2).U c
 .rintro⟨h,h1,h2,h3,h4⟩;let a:=SY (z:=z) g h.1 h.2
  exists h,λq=>?_,λe=>h4<|(QE (ZY g XD) a.1 a.2).L e;rcases Xz.L q with q|q
  .rcases Xz.L q with q|q
   .show h1 q
   .show h2 q
  .show h3 q
def DK(XD:∀v∈I,0<=v/\v<ps⁻¹)(hF:With n ps I O F)(hz:z∈Xk n ps I O F):∃U,With n ps (I++[z]) O U:=by
 let((z0,z1),zI,zO,zF,hc):=(ZS g XD).L hz;obtain⟨o,ho,hoI⟩:∃o,o∈SI n ps F z F/\o∉I:=Yy λno=>hc ((Za5 g hF.1 z0 z1).mono (Vt λv hv=>Yy λh=>no ⟨v,hv,h⟩));let(h5,h6):=Xb.L ho;let he:exg n ps F o z:={h5,λe=>zF (by rwa[e]),h6}
 let hw:=DL g hF he hoI zO (UM F o z) (LR F o z);exists xchT F o z,hw.1,λv hv=>?_,hw.2.2;rcases Xz.L hv with hv|hv
 .show hw.2.1 v hv
 .rw[XB.L hv];show XH.U (.inr Z)
def xZ(XD:∀v∈I,0<=v/\v<ps⁻¹)(y0:0<=y/\y<ps⁻¹)(z0:0<=z/\z<ps⁻¹)(h:(Conn (XS ps I) (Zu ps y).1 (Zu ps z).1/\Conn (XS ps I) (Zu ps z).2 (Zu ps y).2)\/(Conn (XS ps I) (Zu ps y).1 (Zu ps z).2/\Conn (XS ps I) (Zu ps z).1 (Zu ps y).2)):VQ (Xy n.j (XS ps I)) ps y=VQ (Xy n.j (XS ps I)) ps z:=by
 let Wq:=ZY g XD;let a:=SY (z:=y) g y0.1 y0.2
 let b:=SY (z:=z) g z0.1 z0.2;rw[<-QE Wq a.1 b.1,<-QE Wq b.2 a.2,<-QE Wq a.1 b.2,<-QE Wq b.1 a.2]at h;change(min (mk (Xy n.j<|XS ps I) (Zu ps y).1)<|mk (Xy n.j<|XS ps I) (Zu ps y).2,max (mk (Xy n.j<|XS ps I) (Zu ps y).1)<|mk (Xy n.j<|XS ps I) (Zu ps y).2)=(min (mk (Xy n.j<|XS ps I) (Zu ps z).1)<|mk (Xy n.j<|XS ps I) (Zu ps z).2,max (mk (Xy n.j<|XS ps I) (Zu ps z).1)<|mk (Xy n.j<|XS ps I) (Zu ps z).2)
 rcases h with ⟨e1,e2⟩|⟨e1,e2⟩
 .rw[e1,<-e2]
 .rw[e1,<-e2,Int.min_comm,Int.max_comm]
end
section
variable{n:Int}{ps:Aa}(g:Zz n ps)
include g
def xY(d:Nat)(hP:PartOk n ps I O ld F inc fu)(XD:∀v∈I,0<=v/\v<ps⁻¹)(hu:Wc n ps I O F ld=[]):∃R,RowR n ps d I O ld R/\RowAll n ps I O R:=by
 let rfl:=hP.none.U hu;let hp:=FW hP.inc
 let Uo:(TV n ps I O F ld).Nodup:=((((IU _).imp λh e=>by lia:(VB ps.f).Nodup)).Q _).Q _;let Sd:∀z,z∈inc↔z∈Xk n ps I O F:=λz=>by
  rw[hp.mem_iff];constructor
  .show λh=>(Ya.L h).1
  .intro h;show Yy λno=>?_
   have:z∈Wc n ps I O F ld:=Ya.U {h,Yq no}
   rw[hu]at this;cases this
 let hlen:inc.f<=30:=by rw[hp.length_eq];show Yl (Yo ..) (Yl (rp _ _ _ _) g.2.2.1)
 exists _,.und hP hlen λz hz=>by let(h1,_,_,h2,_):=(ZS g XD).L ((Sd z).L hz);show⟨h2,h1⟩,fw g XD hP.tr hu Sd<|hp.nodup_iff.U Uo
def fk:∀d I O F inc ld fu,PartOk n ps I O ld F inc fu->I.Nodup->(∀v∈I,0<=v/\v<ps⁻¹)->(∀v∈I,v∉O)->O.Nodup->(∀v∈O,0<=v/\v<ps⁻¹)->(ld=none->Xk n ps I O F=[])->(∀z,ld=some z->z∈Xk n ps I O F)->ps.f<=d+I.f+O.f->∃R,RowR n ps d I O ld R/\RowAll n ps I O R:=by
 intro d
 induction d with
 |zero=>
  intro I O F inc ld fu hP hIn XD UH rd q9 _ _ hm;show xY g 0 hP XD ?_;let rf:Xk n ps I O F=[]:=ET.U λz hz=>by
   let(h1,h2,h3,_):=(ZS g XD).L hz;let nd:(z::(I++O)).Nodup:=Pn.U {λh=>(Xz.L h).elim h2 h3,Wt.U {hIn,rd,λa ha b hb e=>UH a ha<|e▸hb}}
   have:=Gw (m:=VB ps.f) nd λv hv=>Xq.U (by
    rcases Yi.L hv with e|e
    .rw[e];show h1
    .show(Xz.L e).elim (XD v) (q9 v))
   rw[ZU,YG,Xt]at this;lia
  unfold Wc;rw[rf];rfl
 |succ d ih=>
  intro I O F inc ld fu hP hIn XD UH rd q9 Nw SF hm;cases hu:Wc n ps I O F ld=[]
  .show xY g _ hP XD hu
  obtain⟨y,rfl⟩:∃y,fu=some y:=by
   cases fu with
   |none=>show absurd (hP.none.L Z) hu
   |some y=>exists y,Z
  let(yu,_):=hP.some y rfl;let(yo,ya):=Ya.L yu;let ya:=Yu ya
  obtain⟨z,rfl⟩:∃z,ld=some z:=by
   cases ld with
   |none=>rw[Nw Z]at yo;cases yo
   |some z=>exists z,Z
  let zo:=SF z rfl;let(Kb,yI,yO,yF,yc):=(ZS g XD).L yo;let(Ip,zI,zO,zF,zc):=(ZS g XD).L zo;let XM:VQ (Xy n.j<|XS ps I) ps y≠VQ (Xy n.j<|XS ps I) ps z:=λe=>ya (Ya.U {yo,Yq ⟨z,Z,e⟩})
  let yz:y≠z:=λe=>XM (by rw[e]);let hIz:(I++[z]).Nodup:=Wt.U {hIn,B,λa ha b hb e=>zI<|by rwa[<-XB.L hb,<-e]}
  let hOz:(O++[z]).Nodup:=Wt.U {rd,B,λa ha b hb e=>zO<|by rwa[<-XB.L hb,<-e]};let SS:∀v∈I++[z],0<=v/\v<ps⁻¹:=λv hv=>(Xz.L hv).elim (XD v) λh=>by rwa[XB.L h]
  let xX:∀v∈O++[z],0<=v/\v<ps⁻¹:=λv hv=>(Xz.L hv).elim (q9 v) λh=>by rwa[XB.L h]
  let Rc:(O++[z]).f<=30:=by
   have:=Gw (m:=VB ps.f) hOz λv hv=>Xq.U (xX v hv)
   rw[ZU]at this
   have:=g.2.2.1
   lia
  let xW:∀v∈I++[z],v∉O:=λv hv=>(Xz.L hv).elim (UH v) λh=>by rwa[XB.L h]
  let fj:∀v∈I,v∉O++[z]:=λv hv h=>(Xz.L h).elim (UH v hv) λh=>zI (by rwa[<-XB.L h]);let(s1,s2):=rm g hP.tr hP.least zF;let(F1,Rb,FV,Kl):=SU g (some y) ⟨F,s1⟩;let e1:F1=F:=Xu (s2 F1 Kl.tr) (Kl.least F s1)
  subst e1;let hW:=DK g XD hP.tr zo
  let(F2,Nk,xV,Ra):=SU g (some y) hW;let yF2:y∉F2:=λh=>(FX g hP.tr hP.least Ra.tr Ra.least y h).elim yF yz
  let(A,QD,SJ):=ih I (O++[z]) F1 Rb (some y) FV Kl hIn XD fj hOz xX (λh=>by cases h) (λv h=>by cases h;show(ZS g XD).U {Kb,yI,λh=>(Xz.L h).elim yO λh=>yz<|XB.L h,yF,yc}) (by rw[Xt,Yw];lia)
  let(CL,hB1,KN):=ih (I++[z]) O F2 Nk (some y) xV Ra hIz SS xW rd q9 (λh=>by cases h) (λv h=>by
   cases h;show(ZS g SS).U {Kb,λh=>(Xz.L h).elim yI λh=>yz<|XB.L h,yO,yF2,λc=>?_};let e:XS ps (I++[z])=XS ps I++[((Zu ps z).1,(Zu ps z).2)]:=YN
   rw[e]at c;rcases ZP5 c with h|h
   .show yc h
   .show XM<|xZ g XD Kb Ip h) (by rw[Xt,Yw];lia)
  exists _,.div hP hIz SS xW Rc hW ⟨F1,s1⟩ Kb.1 Kb.2 SJ.pc QD hB1,fG SJ KN
def fi(h:∃U,Zg n ps U):∃R,RowW n ps R/\R.Nodup/\∀T,T∈R↔Zg n ps T:=by
 let(U,hU):=h;let hw:∀T,With n ps [] [] T↔Zg n ps T:=λT=>{λh=>h.1,λh=>{h,λz q=>(by cases q),λz q=>(by cases q)}}
 let(F,_,_,hP0):=SU g none {U,(hw U).U hU};let Vz:(Xk n ps [] [] F).E (·<·):=(IU _).Q _
 obtain⟨ld,h1,h2⟩:∃ld:Option Int,(ld=none↔Xk n ps [] [] F=[])/\∀y,ld=some y->y∈Xk n ps [] [] F/\∀z∈Xk n ps [] [] F,y<=z:=by
  cases ho:Xk n ps [] [] F with
  |nil=>exists none,{λ_=>rfl,λ_=>rfl},λy h=>by cases h
  |cons y l=>
   rw[ho]at Vz;exists some y,{λh=>(by cases h),λh=>(by cases h)},λv h=>?_;cases h;exists Yd,λv hv=>?_;rcases Yi.L hv with e|e
   .rw[e];show Jv _
   .show Lz ((YZ.L Vz).1 v e)
 let(F',inc,fu,hP):=SU g ld {U,(hw U).U hU};let eF:F'=F:=Xu (hP0.least F' hP.tr) (hP.least F hP0.tr)
 subst eF;let(R,r1,r2):=fk g 31 [] [] F' inc ld fu hP .nil (λv h=>by cases h) (λv h=>by cases h) .nil (λv h=>by cases h) (λe=>h1.L e) (λz e=>(h2 z e).1) (by have:=g.2.2.1;simp;lia);exists R,{ld,F',inc,fu,hP,h1,h2,r1,R,r2.1,λl=>(r2.2 l).m (hw l),Z},r2.1,λT=>(r2.2 T).m (hw T)
end
end My
namespace L2
open PySem PySem.Spec PyProof.Rows PySem.MeetsSeq
section
variable{X:Cx}
def fh(K:Ad):(V->List V->Hp->VK->Prop):=λx vs H Q=>∃(n:Nat)(l:Addr)(xs:List V)(y:V)(e:Addr->Bool)(j:Nat)(a:Addr),x=.ref l/\vs=[y]/\H l=some (.lst xs)/\n<=6/\(∀v∈xs,∃a,v=.ref a/\EqD K H n v y (e a))/\xs[j]?=some ↑a/\e a=true/\(∀m b,m<j->xs[m]?=some ↑b->e b=false)/\Q (.int j) H
def ZR8(K:Ad)(hu:X.A.units+8<cLine)(hk:X.K=K:=by rfl):Lc X "list.index" (fh K):=by
 subst hk;intro pins s σ H x vs v us Q I rx rv h;let(n,l,xs,y,e,j,a,rfl,rfl,hH,hn,he,hj,hy,QG,q):=h;cases rx;let(u,rfl,ru):=rv.one;let(z,XW,m,r,hl,ho):=I.lstM hH;let hsz:sizeLine=16777216:=TM
 let Vf:j<xs.f:=(XF.L hj).1;let at_:∀(i:Nat)(hi:i<XW.C.t),∃b,xs[i]?=some ↑b/\XW.C[i]=.ref b:=λi hi=>by
  let VH:i<XW.f:=by simpa using hi
  let(w,ew,Le):=r.at VH;let(b,rfl,_):=he w (Xm ew);let e3:XW[i]=Value.ref b:=Le
  exists b,ew,by simpa using e3
 let hjs:j<XW.C.t:=by rw[Yb];lia
 show Ju F.slot_list_index {_,ho,Z} F.entry_list_index (F.args_list_index_2 _ _) (SeqAt.list_indexAt l XW.C m none #[] u (λw=>match w with | .ref b=>e b|_=>false) j hjs J ?_ ?_) {ho,λw hw=>?_,?_}
 .let⟨b,e1,e2⟩:=at_ j hjs;rw[hj]at e1;cases e1;rwa[e2]
 .intro i hi WJ;let(b,e1,e2):=at_ i hi;rw[e2];show QG i b WJ e1
 .show Zl7 I (by change X.A.units+1+n<cLine;lia) ru r he w (by simpa using hw)
 .exists .int j,H,I.tok _,{_,Z},q
end
end L2
namespace My
open PySem L2
def fg{mg:Af}:FnOk P w K mg base Xi k f fd ps λ_ _ _ _=>False:={λ_ _ _ _ h=>h.elim,λ_ _ _ _ _ _ _ _ _ _ _ _ _ h=>h.elim}
def ZS7{α:Type}[DecidableEq α]{x:α}:∀{l:List α},x∈l->∃j:Nat,l[j]?=some x/\∀i:Nat,i<j->l[i]?≠some x
 |y::l,h=>by
  cases c:y=x
  .exists 0,by rw[c];rfl,λi hi=>absurd hi<|Sy _
  .let⟨j,h1,h2⟩:=ZS7 ((Yi.L h).resolve_left λe=>c e.symm);exists j+1,h1,λi hi=>?_
   match i,hi with
   |0,_=>show λe=>c (Ye e)
   |i+1,hi=>show h2 i J
def Zt8(hX:Bears (Xn H) xs L)(q8:SqT K H ta (IL U))(hU:U∈L):∃(e:Addr->Bool)(j:Nat)(a:Addr),(∀v∈xs,∃a,v=.ref a/\EqD K H 1 v ↑ta (e a))/\xs[j]?=some ↑a/\e a=true/\(∀m b,m<j->xs[m]?=some ↑b->e b=false)/\L[j]?=some U:=by
 let key:∀{c:Addr}{w:Ac},H c=some (.tup<|IL w)->(Xn H ↑c U↔w=U):=λ{c w} hc=>by
  constructor
  .rintro⟨c',e,h⟩;cases e;rw[hc]at h;injection h with h
   injection h with h;show(List.map_inj_right λ_ _ h=>by injection h).L h
  .rintro rfl;exists c,Z,hc
 let(j,h1,h2):=ZS7 hU;let(v,hv,c,rfl,hc):=hX.2 j U h1;exists λa=>@decide (Xn H ↑a U)<|Classical.propDecidable _,j,c,λv hv=>?_,hv,?_,λm b hm hb=>?_,h1
 .let⟨i,hi⟩:=YE hv;let(w,hw,c',rfl,WS):=hX.at hi;exists c',Z,?_;let e:@decide (Xn H ↑c' U) (Classical.propDecidable _)=decide (w=U):=by rw[HS];show key WS
  change EqD K H 1 ↑c' ↑ta (@decide (Xn H ↑c' U)<|Classical.propDecidable _);rw[e];show ZG5 (SqT.of WS) q8
 .show @Yq _ (Classical.propDecidable _) ((key hc).U Z)
 .let⟨w,hw,c',e,WS⟩:=hX.at hb;cases e;show @Sz _ (Classical.propDecidable _) λh=>h2 m hm (by rw[hw,(key WS).L h])
def Nj(g:Zz n ps)(h:RowR n ps d I O ld R):∀T∈R,With n ps I O T:=by
 induction h with
 |und hP _ _=>
  intro T hT;rcases Yi.L hT with e|e
  .rw[e];show hP.tr
  .let⟨z,hz,o,ho,rfl⟩:=Vk.L e;show ZH6 g hP.tr (Ya.L<|(FW hP.inc).mem_iff.L hz).1 ho
 |div _ _ _ _ _ _ _ _ _ _ _ _ xU ff=>
  intro T hT;rcases Xz.L hT with h|h
  .show Wm.U (.inl<|xU T h)
  .show Wm.U (.inr<|ff T<|SA.L h)
def fe{key:Int->Int}(h:Rf key ns ms):ms.E λa b=>key a<=key b:=by
 let(p,h1,h2,rfl):=h;show MA.U (h2.imp λ{a b} h=>?_);let h:key (ns.S a 0)<key (ns.S b 0)\/(key (ns.S a 0)=key (ns.S b 0)/\a<b):=h
 lia
def ZK6{k:Int->Int}:∀{l:Ac},(∀a∈l,k a=0\/k a=1)->l.E (λa b=>k a<=k b)->∃l1 l2,l=l1++l2/\(∀a∈l1,k a=0)/\∀a∈l2,k a=1
 |[],_,_=>{[],[],Z,λa h=>(by cases h),λa h=>(by cases h)}
 |a::l,h0,h=>by
  let(p1,p2):=YZ.L h;rcases h0 a Yd with e|e
  .let⟨l1,l2,rfl,q1,q2⟩:=ZK6 (λb hb=>h0 b<|Yh _ hb) p2;exists a::l1,l2,Z,λb hb=>(Yi.L hb).elim (λz=>z▸e) (q1 b),q2
  .exists [],a::l,Z,λa h=>(by cases h),λb hb=>?_;rcases Yi.L hb with z|z
   .rw[z];show e
   .have:=p1 b z
    have:=h0 b (Yh _ z)
    lia
def VP{z a:Int}:(PyProof.Rows.b2i (decide (some z=some a))=0↔a≠z)/\(PyProof.Rows.b2i (decide (some z=some a))=1↔a=z):=by
 cases c:a=z
 .subst c;simp[PyProof.Rows.b2i]
 .simp[PyProof.Rows.b2i,c,WX c]
def fc{ns ms:Ac}{z:Int}(h:Rf (λa=>PyProof.Rows.b2i (decide (some z=some a))) ns ms):∃l1 l2,ms=l1++l2/\(∀a∈l1,a≠z)/\∀a∈l2,a=z:=by
 let(l1,l2,e,h1,h2):=ZK6 (λa _=>by
  cases c:a=z
  .show .inr (VP.2.U c)
  .show .inl<|VP.1.U c) (fe h)
 exists l1,l2,e,λa ha=>VP.1.L<|h1 a ha,λa ha=>VP.2.L<|h2 a ha
def Ka{z:Int}(h:z∈Xk n ps I O F):z∉F:=λq=>(Yu (Ya.L h).2).1 (Yk _ q)
def qZ{y z:Int}(h:y∈Wc n ps I O F (some z)):y∉F/\y≠z:=by let(h1,h2):=Ya.L h;exists Ka h1,λe=>Yu h2<|Ya.U {h1,Yq {z,Z,by rw[e]}}
section
variable{n:Int}{ps:Aa}{d:Nat}{I O:Ac}{R:Ab}(g:Zz n ps)
include g
def xT(h:RowR n ps d I O ld R):∀F,With n ps I O F->(∀U,With n ps I O U->HT.lexLt U F=false)->(∀z,ld=some z->z∉F)->R[0]?=some F:=by
 induction h with
 |und hP _ _=>
  intro F hF hm _;rw[Xu (hP.least F hF) (hm _ hP.tr)];rfl
 |div hP _ _ _ _ _ _ _ _ _ _ _ xU _=>
  intro F hF hm hz;let(s1,s2):=rm g hF hm (hz _ Z);let e:=Xu (hP.least F hF) (hm _ hP.tr)
  have:=xU F s1 s2 λy' e'=>by cases e';rw[e];show(qZ (hP.some _ Z).1).1
  rw[Yp (XF.L this).1,this]
end
def Ni(T U:Ac):(Prop):=(T.Q λy=>decide<|y∉U).f=1
def xS{a:Int}(hT:T.Nodup)(ha:a∈T)(hU:a∉U)(h:∀v∈T,v∈U\/v=a):Ni T U:=by
 let p:(T.Q λy=>decide<|y∉U).Perm [a]:=(Ul (hT.Q _) B).U λv=>by
  rw[Ya,YL,XB];constructor
  .show λq=>(h v q.1).resolve_left q.2
  .rintro rfl;exists ha,hU
 show p.length_eq
def ZQ6(hT:Zg n ps T)(hU:Zg n ps U)(h:Ni T U):Ni U T:=(Zo9 hU hT).m h
def Adj{α:Type}(P:α->α->Prop)(l:List α):(Prop):=∀i a b,l[i]?=some a->l[i+1]?=some b->P a b
def Adj.nil{α:Type}{P:α->α->Prop}:Adj P []:=λi a b h=>by simp at h
def Adj.one{α:Type}{P:α->α->Prop}{x:α}:Adj P [x]:=λi a b _ h=>by simp at h
def Adj.append{α:Type}{P:α->α->Prop}{l m:List α}(h1:Adj P l)(h2:Adj P m)(h:∀a b,l[l.f-1]?=some a->m[0]?=some b->P a b):Adj P (l++m):=λi a b ha hb=>by
 cases c:i+1<l.f
 .rw[Yp J]at ha hb;show h1 i a b ha hb
 .rw[Ym J]at hb;cases c':i<l.f
  .rw[Yp c',show i=l.f-1 by lia]at ha;rw[show i+1-l.f=0 by omega]at hb;show h a b ha hb
  .rw[Ym oW]at ha;rw[show i+1-l.f=i-l.f+1 by grind]at hb;show h2 _ a b ha hb
def Adj.rev{α:Type}{P:α->α->Prop}{l:List α}(h:Adj P l)(hs:∀a∈l,∀b∈l,P a b->P b a):Adj P l.reverse:=λi a b ha hb=>by
 let hi:=(XF.L hb).1;rw[YK]at hi;rw[LL oW]at ha hb
 have:=h (l.f-1-(i+1)) b a hb (by rwa[show l.f-1-(i+1)+1=l.f-1-i by grind])
 show hs b (Xm hb) a (Xm ha) this
def Yz7{α:Type}(l:List α):l.reverse[l.reverse.f-1]?=l[0]?:=by
 cases l with
 |nil=>rfl
 |cons x l=>
  rw[YK,LL B];simp
def ZE5{α:Type}(l:List α):l.reverse[0]?=l[l.f-1]?:=by
 cases l with
 |nil=>rfl
 |cons x l=>rw[LL B];simp
def Zy9(hF:F.Nodup)(hz:z∉F):(xchT F o z).Nodup:=(UM F o z).nodup_iff.U (Wt.U {hF.Q _,B,λa ha b hb e=>hz<|by rw[<-XB.L hb,<-e];show(Ya.L ha).1})
def ZJ6{n:Int}{ps:Aa}{I F L:Ac}(hF:F.Nodup)(hL:L.Nodup)(fb:∀o∈L,o∈F):∀l asc,l.Nodup->(∀z∈l,z∉F)->(∀z∈l,WR n ps I F z=L)->Adj Ni (UX n ps I F l asc)/\∀U,(UX n ps I F l asc)[0]?=some U->∃o z,l[0]?=some z/\(if asc then L[0]? else L[L.f-1]?)=some o/\U=xchT F o z
 |[],asc,_,_,_=>{Adj.nil,λU h=>by simp[UX]at h}
 |z::l,asc,hn,hz,hl=>by
  let(n1,n2):=Pn.L hn;let(NF,RL):=ZJ6 hF hL fb l (!asc) n2 (λv hv=>hz v<|Yh _ hv) λv hv=>hl v (Yh _ hv);let zF:=hz z Yd
  let e0:WR n ps I F z=L:=hl z Yd;let same:∀o∈L,∀o'∈L,o≠o'->Ni (xchT F o z) (xchT F o' z):=λo ho o' UI ne=>xS (a:=o') (Zy9 hF zF) (XH.U<|.inl {fb o' UI,WX ne}) (λh=>by
   rcases XH.L h with q|q
   .show q.2 rfl
   .show zF<|q▸fb o' UI) λv hv=>by
   rcases XH.L hv with q|q
   .cases c:v=o'
    .show .inr c
    .show .inl (XH.U<|.inl ⟨q.1,c⟩)
   .show .inl (XH.U<|.inr q)
  let am:Adj Ni (L.R λo=>xchT F o z):=λi a b ha hb=>by
   rw[Yv]at ha hb;cases ea:L[i]? with
   |none=>rw[ea]at ha;cases ha
   |some o=>
    cases eb:L[i+1]? with
    |none=>rw[eb]at hb;cases hb
    |some o'=>
     rw[ea]at ha;rw[eb]at hb;cases ha;cases hb;show same o (Xm ea) o' (Xm eb) λe=>?_;subst e
     have:=(Sq (XF.L ea).1 hL).L (ea.m eb.symm)
     lia
  let ar:Adj Ni (Vl n ps I F asc z):=by
   unfold Vl;rw[e0];cases asc with
   |true=>show am
   |false=>
    show am.rev λa ha b hb _=>?_;let(o,ho,rfl):=YT.L ha;let(o',UI,rfl):=YT.L hb;cases c:o'=o
    .rename_i h;subst c;show h
    .show same o' UI o ho c
  let hlen:(L.R λo=>xchT F o z).f=L.f:=Yc _;let last:∀U,(Vl n ps I F asc z)[(Vl n ps I F asc z).f-1]?=some U->∃o∈L,(if asc then L[L.f-1]? else L[0]?)=some o/\U=xchT F o z:=λU h=>by
   unfold Vl at h;rw[e0]at h;cases asc with
   |true=>
    rw[if_pos Z,hlen,Yv]at h;cases e:L[L.f-1]? with
    |none=>rw[e]at h;cases h
    |some o=>rw[e]at h;cases h;exists o,Xm e,Z,Z
   |false=>
    rw[if_neg oY,Yz7,Yv]at h;cases e:L[0]? with
    |none=>rw[e]at h;cases h
    |some o=>rw[e]at h;cases h;exists o,Xm e,Z,Z
  let head:∀U,(Vl n ps I F asc z)[0]?=some U->∃o,(if asc then L[0]? else L[L.f-1]?)=some o/\U=xchT F o z:=λU h=>by
   unfold Vl at h;rw[e0]at h;cases asc with
   |true=>
    rw[if_pos Z,Yv]at h;cases e:L[0]? with
    |none=>rw[e]at h;cases h
    |some o=>rw[e]at h;cases h;exists o,Z,Z
   |false=>
    rw[if_neg oY,ZE5,hlen,Yv]at h;cases e:L[L.f-1]? with
    |none=>rw[e]at h;cases h
    |some o=>rw[e]at h;cases h;exists o,Z,Z
  exists ar.append NF λa b ha hb=>?_,λU h=>?_
  .let⟨o,ho,e1,rfl⟩:=last a ha;let(o',z',r6,e2,rfl):=RL b hb;let eo:o'=o:=by
    cases asc with
    |true=>show(Ye<|e1.symm.m e2).symm
    |false=>show(Ye<|e1.symm.m e2).symm
   subst eo;let zl:=Xm r6
   show xS (a:=z) (Zy9 hF zF) (XH.U<|.inr Z) (λh=>?_) λv hv=>?_
   .rcases XH.L h with q|q
    .show zF q.1
    .show n1 (q▸zl)
   .rcases XH.L hv with q|q
    .show .inl (XH.U<|.inl q)
    .show .inr q
  .cases hh:Vl n ps I F asc z with
   |cons x r=>
    let h':(Vl n ps I F asc z)[0]?=some U:=by
     have:=h
     unfold UX at this;rw[hh]at this ⊢;show this
    let(o,e1,e2):=head U h';exists o,z,Z,e1,e2
   |nil=>
    exfalso;let hL0:L=[]:=by
     have:(Vl n ps I F asc z).f=L.f:=by unfold Vl;rw[e0];cases asc<;>simp
     rw[hh]at this;show YV.L this.symm
    let(o,z',_,e2,_):=RL U (by have:=h;unfold UX at this;rwa[hh]at this);rw[hL0]at e2;cases asc<;>simp at e2
section
variable{n:Int}{ps:Aa}{d:Nat}{I O F T:Ac}{R:Ab}{y z:Int}(g:Zz n ps)
include g
def Io(hF:With n ps I O F)(hz:z∉F)(VU:∀U,With n ps I O U->HT.lexLt U F=false)(hT:With n ps (I++[z]) O T)(Iq:∀U,With n ps (I++[z]) O U->HT.lexLt U T=false):∃o∈WR n ps I F z,T=xchT F o z/\∀o'∈WR n ps I F z,o'<=o:=by
 let half:=FX g hF VU hT Iq;let zT:z∈T:=hT.2.1 z B
 let(o,e1,e2):=jL g hT.1 hF.1 zT hz;let oT:o∉T:=((Eg g hT.1).L e1).2.1
 let oI:o∉I:=λh=>oT (hT.2.1 o<|Yg _ h);let zO:z∉O:=λh=>hT.2.2 z h zT
 let hM:=NW g hF.1 e2 (UM F o z) (LR F o z);let eT:T=xchT F o z:=rz g hT.1 hM λv hv=>XH.U <| by
  rcases half v hv with q|q
  .show .inl {q,λe=>oT<|by rwa[<-e]}
  .show .inr q
 exists o,Ya.U {Xb.U ⟨e2.1,e2.2.2⟩,Yq oI},eT,λo' UI=>Yy λno=>?_;let(h3,h4):=Ya.L UI;let(h5,h6):=Xb.L h3;let he:exg n ps F o' z:={h5,λe=>hz (by rwa[e]),h6}
 let w:=DL g hF he (Yu h4) zO (UM F o' z) (LR F o' z);let w2:With n ps (I++[z]) O (xchT F o' z):=(Wm (z:=z).L w).resolve_left λq=>q.2.2 z B (XH.U<|.inr Z)
 let lt:HT.lexLt (xchT F o' z) T=true:=by
  show(gD (XR.L w.1.1).2 (XR.L hT.1.1).2 (by have:=w.1.2.1;have:=hT.1.2.1;lia)).U ⟨o,XH.U<|.inl ⟨e2.1,λe=>no J⟩,oT,λs hs=>?_⟩;rw[eT,XH,XH];constructor
  .rintro(q|q)
   .show .inl ⟨q.1,J⟩
   .show .inr q
  .rintro(q|q)
   .show .inl ⟨q.1,J⟩
   .show .inr q
 rw[Iq _ w2]at lt;cases lt
def qY(XD:∀v∈I,0<=v/\v<ps⁻¹)(h:RowR n ps d I O (some z) R)(hF:With n ps I O F)(VU:∀U,With n ps I O U->HT.lexLt U F=false)(hz:z∉F)(hT:With n ps (I++[z]) O T)(Iq:∀U,With n ps (I++[z]) O U->HT.lexLt U T=false):R[R.f-1]?=some T:=by
 cases h with
 |und hP hl hi=>
  rename_i F' inc;let eF:=Xu (hP.least F hF) (VU _ hP.tr)
  subst eF;let(o,ho,eT,eZ):=Io g hF hz VU hT Iq;let zo:z∈Xk n ps I O F:=rj g XD (Wm.U<|.inr hT) hF.2.1 (hT.2.1 z B) hz
  let za:z∈TV n ps I O F (some z):=Ya.U {zo,Yq ⟨z,Z,Z⟩};let hp:=FW hP.inc
  let Uo:inc.Nodup:=hp.nodup_iff.U (((((IU _).imp λh e=>by lia:(VB ps.f).Nodup)).Q _).Q _);let zi:=hp.mem_iff.U za
  let(l1,l2,rfl,q1,q2):=fc hP.inc;let e2:l2=[z]:=by
   let(_,n2,_):=Wt.L Uo;let zl:z∈l2:=(Xz.L zi).resolve_left λh=>q1 z h rfl
   match l2,zl,n2,q2 with
   |[a],_,_,q=>rw[q a B]
   |a::b::r,_,nd,q=>
    let e1:=q a B;let e2:=q b B
    rw[e1,e2]at nd;simp at nd
  subst e2;let flag:(((l1++[z]).f%2 == 1) != (l1.f%2 == 1))=true:=by
   rw[Xt,Yw];rcases qm l1.f with c|c
   .rw[c,show(l1.f+1)%2=1 by lia];rfl
   .rw[c,show(l1.f+1)%2=0 by lia];rfl
  unfold x9;rw[rh,flag];unfold Vl;rw[if_pos Z];let asc:(WR n ps I F z).E (·<·):=(((XR.L hF.1.1).2).Q _).Q _
  let pos:=EO ho;let lo:(WR n ps I F z)[(WR n ps I F z).f-1]?=some o:=by
   let(i,hi,e):=pW ho;cases c:i=(WR n ps I F z).f-1
   .rw[<-c,Xr hi,e]
   .let lt:=ME.L asc i ((WR n ps I F z).f-1) hi oW J;let le:=eZ _ (JA<|show(WR n ps I F z).f-1<_ by omega)
    rw[e]at lt;lia
  change((F::UX n ps I F l1 ((l1++[z]).f%2 == 1))++(WR n ps I F z).R λo=>xchT F o z)[_]?=_;rw[Ym (by simp;lia),Yv]
  have:((F::(UX n ps I F l1 ((l1++[z]).f%2 == 1)++(WR n ps I F z).R λo=>xchT F o z)).f-1-(F::UX n ps I F l1 ((l1++[z]).f%2 == 1)).f)=(WR n ps I F z).f-1:=by
   simp;lia
  rw[this,lo,eT];rfl
 |div hP a1 a2 a3 a4 a5 a6 a7 a8 a9 hA hB=>
  rename_i d F' inc y A CL;let eF:=Xu (hP.least F hF) (VU _ hP.tr)
  subst eF;let(yF,yz):=qZ (hP.some _ Z).1;let hf:=xT g hB T hT Iq λv e=>by cases e;show λq=>(FX g hF VU hT Iq y q).elim yF yz
  let hb:=(XF.L hf).1;rw[<-Yz7]at hf;rw[Ym (by rw[Xt,YK];lia)];rw[YK]at hf;rwa[show(A++CL.reverse).f-1-A.f=CL.f-1 by rw[Xt,YK];lia]
def ZA9(XD:∀v∈I,0<=v/\v<ps⁻¹)(hF:With n ps I O F)(y0:0<=y/\y<ps⁻¹)(z0:0<=z/\z<ps⁻¹)(h:VQ (Xy n.j (XS ps I)) ps y=VQ (Xy n.j (XS ps I)) ps z):WR n ps I F y=WR n ps I F z:=by
 let key:∀a∈F,a∉I->(y∈Uy n ps F a↔z∈Uy n ps F a):=λa ha hn=>by
  rw[Pb g hF.1 y0.1 y0.2,Pb g hF.1 z0.1 z0.2];show not_congr ?_;let up:∀{i j},Conn (XS ps I) i j->Conn (XS ps<|wo F a) i j:=λc=>c.mono (Vt λv hv=>Xg.U {hF.2.1 v hv,λe=>hn<|by rwa[<-e]})
  rcases ZV7 g XD y0.1 y0.2 z0.1 z0.2 h with ⟨a,b⟩|⟨a,b⟩
  .exists λc=>((up a).symm.m c).m (up b),λc=>((up a).m c).m (up b).symm
  .exists λc=>((up b).symm.m c.symm).m (up a),λc=>((up a).m c.symm).m (up b).symm
 unfold WR SI;rw[pS,pS];show Mw λa ha=>?_;cases c:a∈I
 .simp[c]
 .have:=key a ha c
  unfold Uy at this;simp[c,this]
def eW(XD:∀v∈I,0<=v/\v<ps⁻¹)(hF:With n ps I O F)(VU:∀U,With n ps I O U->HT.lexLt U F=false)(hz:z∈Xk n ps I O F)(hy:y∈Wc n ps I O F (some z)):y∈Xk n ps I (O++[z]) F/\(With n ps (I++[z]) O F2->(∀U,With n ps (I++[z]) O U->HT.lexLt U F2=false)->y∈Xk n ps (I++[z]) O F2):=by
 let(yF,yz):=qZ hy;let(yo,ya):=Ya.L hy;let(Kb,yI,yO,_,yc):=(ZS g XD).L yo;let(Ip,zI,zO,zF,zc):=(ZS g XD).L hz;exists (ZS g XD).U {Kb,yI,λh=>(Xz.L h).elim yO λh=>yz<|XB.L h,yF,yc},λh2 h2m=>?_;let SS:∀v∈I++[z],0<=v/\v<ps⁻¹:=λv hv=>(Xz.L hv).elim (XD v) λh=>by rwa[XB.L h]
 show(ZS g SS).U {Kb,λh=>(Xz.L h).elim yI λh=>yz<|XB.L h,yO,λh=>(FX g hF VU h2 h2m y h).elim yF yz,λc=>?_};let e:XS ps (I++[z])=XS ps I++[((Zu ps z).1,(Zu ps z).2)]:=YN
 rw[e]at c;rcases ZP5 c with h|h
 .show yc h
 .show Yu ya (Ya.U {yo,Yq {z,Z,xZ g XD Kb Ip h}})
end
def ZB8(g:Zz n ps)(h:RowR n ps d I O ld R):(∀v∈I,0<=v/\v<ps⁻¹)->(∀F z,With n ps I O F->(∀U,With n ps I O U->HT.lexLt U F=false)->ld=some z->z∈Xk n ps I O F)->Adj Ni R:=by
 induction h with
 |@und d I O F inc ld hP hl hi=>
  intro XD xR;let hp:=FW hP.inc
  let Uo:inc.Nodup:=hp.nodup_iff.U (((((IU _).imp λh e=>by omega:(VB ps.f).Nodup)).Q _).Q _);let eV:=hP.tr.1.1.nodup
  cases ld with
  |none=>
   let e:inc=[]:=by show ET.U λz hz=>?_;let(y,h,_):=Yu (Ya.L<|hp.mem_iff.L hz).2;cases h
   subst e;show Adj.one
  |some z=>
   let zo:=xR F z hP.tr hP.least rfl;let(Ip,_):=(ZS g XD).L zo;let(c1,c2):=ZJ6 (n:=n) (ps:=ps) (I:=I) (F:=F) (L:=WR n ps I F z) eV ((eV.Q _).Q _) (λo ho=>(Xb.L (Ya.L ho).1).1) inc (inc.f%2 == 1) Uo (λv hv=>(hi v hv).1) (λv hv=>by let(y,e,h):=Yu (Ya.L<|hp.mem_iff.L hv).2;cases e;show ZA9 g XD hP.tr (hi v hv).2 Ip h)
   change Adj Ni ([F]++UX n ps I F inc (inc.f%2 == 1));show Adj.one.append c1 λa b ha hb=>?_;cases ha;let(o,v,hv,ho,rfl):=c2 b hb;let vF:=(hi v<|Xm hv).1
   let oL:o∈WR n ps I F z:=by
    split at ho
    .show Xm ho
    .show Xm ho
   let oF:=(Xb.L (Ya.L oL).1).1;show xS (a:=o) eV oF (λh=>?_) λw hw=>?_
   .rcases XH.L h with q|q
    .show q.2 rfl
    .show vF (q▸oF)
   .cases c:w=o
    .show .inr c
    .show .inl (XH.U<|.inl ⟨hw,c⟩)
 |@div d I O F inc z y A CL hP hIn SS UH hO hW _ _ _ _ hA hB xU ff=>
  intro XD xR;let zo:=xR F z hP.tr hP.least rfl
  let zF:=Ka zo;let yu:=(hP.some y Z).1
  let(yF,yz):=qZ yu;let(s1,s2):=rm g hP.tr hP.least zF;let(F2,_,_,Ra):=SU g (some y) hW;let(y1,y2):=eW (F2:=F2) g XD hP.tr hP.least zo yu;let y2:=y2 Ra.tr Ra.least
  let aA:=xU XD λF' v h1 h2 e=>by cases e;rwa[Xu (s2 F' h1) (h2 F s1)]
  let aB:=ff SS λF' v h1 h2 e=>by cases e;rwa[Xu (Ra.least F' h1) (h2 F2 Ra.tr)]
  show aA.append (aB.rev λa ha b hb q=>ZQ6 (Nj g hB a ha).1 (Nj g hB b hb).1 q) λa b ha hb=>?_;rw[ZE5]at hb;let(G,_,_,hG):=SU g none (DK g XD hP.tr (Ya.L yu).1);let zG:z∉G:=λh=>(FX g hP.tr hP.least hG.tr hG.least z h).elim zF (WX yz)
  let(g1,g2):=rm g hG.tr hG.least zG;let ea:=qY g XD hA s1 s2 yF g1 g2
  rw[<-Ye (ea.symm.m ha)];let(T2,_,_,h2):=SU g none (DK g SS Ra.tr y2);let eb:=qY g SS hB Ra.tr Ra.least (Ka y2) h2.tr h2.least
  rw[<-Ye (eb.symm.m hb)];let sw:∀U,With n ps (I++[z]++[y]) O U↔With n ps (I++[y]++[z]) O U:=λU=>by
   unfold With;show and_congr_right λ_=>and_congr_left λ_=>{λh v hv=>h v ?_,λh v hv=>h v ?_}
   all_goals
    simp only[Xz,XB]at hv ⊢;rcases hv with (q|q)|q
    .show .inl (.inl q)
    .show .inr q
    .show .inl (.inr q)
  let hh:=FX g hG.tr hG.least ((sw T2).L h2.tr) λU hU=>h2.least U ((sw U).U hU);show ZQ6 h2.tr.1 g1.1 (xS (a:=z) h2.tr.1.1.nodup (h2.tr.2.1 z B) zG λv hv=>hh v hv)
def Zv7{l:Ac}{ld JZ:Option Int}(h1:ld=none↔l=[])(h2:∀y,ld=some y->y∈l/\∀z∈l,y<=z)(DP:JZ=none↔l=[])(fq:∀y,JZ=some y->y∈l/\∀z∈l,y<=z):ld=JZ:=by
 cases ld with
 |none=>show(DP.U<|h1.L Z).symm
 |some y=>
  cases JZ with
  |none=>show absurd (h1.U<|DP.L Z) B
  |some y'=>
   let(a1,a2):=h2 y rfl;let(b1,b2):=fq y' rfl
   have:=a2 y' b1
   have:=b2 y a1
   rw[show y=y' by lia]
def VO:With n ps [] [] T↔Zg n ps T:={λh=>h.1,λh=>{h,λz q=>(by cases q),λz q=>(by cases q)}}
def eS{F L:Ac}(g:Zz n ps)(hR:RowW n ps R)(hF:Zg n ps F)(VU:∀U,Zg n ps U->HT.lexLt U F=false):R[0]?=some F/\Adj Ni R/\(1<R.f->R[R.f-1]?=some L->Ni L F):=by
 let Nh:=VO.U hF;let QZ:∀U,With n ps [] [] U->HT.lexLt U F=false:=λU hU=>VU U hU.1
 let XD:∀v∈([]:Ac),0<=v/\v<ps⁻¹:=λv h=>by cases h
 let(ld,F',inc,fu,hP,h1,h2,Qn,_):=id hR;let eF:F'=F:=Xu (VU F' hP.tr.1) (hP.least F Nh)
 subst eF;exists xT g Qn F' Nh QZ λz e=>Ka (h2 z e).1,ZB8 g Qn XD λF2 z a b e=>?_,λhl hL=>?_
 .rw[Xu (QZ F2 a) (b F' Nh)];show(h2 z e).1
 .cases ld with
  |none=>
   exfalso;let eo:=h1.L rfl
   cases Qn with
   |und FU _ _=>
    let(rfl,rfl,rfl):=hP.uniq FU;let e:inc=[]:=ET.U λz hz=>by
     have:=(Ya.L<|(FW hP.inc).mem_iff.L hz).1
     rw[eo]at this;cases this
    subst e;show absurd hl (by change ¬1<1;decide)
  |some z=>
   let zo:=(h2 z Z).1;let(T2,_,_,Ng):=SU g none (DK g XD Nh zo);rw[qY g XD Qn Nh QZ (Ka zo) Ng.tr Ng.least]at hL;let rfl:=Ye hL;show xS (a:=z) Ng.tr.1.1.nodup (Ng.tr.2.1 z B) (Ka zo) λv hv=>FX g Nh QZ Ng.tr Ng.least v hv
end My
namespace L2
open PySem PySem.Spec PyProof.Rows
def RH{N P:List Str}{sc:Scope}(h:sc.kind=.function/\sc.isCoroutine=false/\sc.isGenerator=false/\N.Nodup/\N.M P.f=P/\(∀x∈P,sc.names.Y x=some .local\/sc.names.Y x=some .cell)/\∀y∈sc.names,y.2≠.free):FnScope N P sc:=⟨h.1,h.2.1,h.2.2.1,h.2.2.2.1,h.2.2.2.2.1,h.2.2.2.2.2.1,h.2.2.2.2.2.2⟩
structure DfA(K:Ad)(mg:Af)(x:Str)(st:Stmt)(f:Addr)(fd:FuncData)(ps:List Str):Prop where
 fn:Fun K x x st f fd
 bi:Binds K fd ps []
 mm:mg x=some ↑f
def Xp{X:Cx}{CX:Pg}{k m:Nat}{f:Addr}{fd:FuncData}{ps:List Str}{sp:Sp}{x:Str}{st:Stmt}{e:Expr}{es:List Expr}{t:TA}{p pos:Pos}{E:XK}(F:FnOk X.prog X.w X.K X.mg X.base CX k f fd ps sp)(hr:Room m X.A)(d:DfA X.K X.mg x st f fd ps)(hx:Eu CX X E)(ha:PA X (e::es) t)(hk:k<=m:=by decide)(hg:Gl X x:=by show Z)(Ru:(x == ("__debug__":Str))=false:=by decide)(he:starEach (e::es) X.env=(false,eval e X.env)::starEach es X.env:=by rfl)(UG:(backTo pos<|starEach es X.env).any (·.1)=false:=by rfl):PE X (.Call (.Name x p) (e::es) [] pos) (Jm sp [] E t):=
 Wj F (hr.mono hk) hg d.mm d.fn.kp d.bi .nil hx ha Ru he UG
def qX(N P:List Str)(sc:Scope):(Prop):=sc.kind=.function/\sc.isCoroutine=false/\sc.isGenerator=false/\N.Nodup/\N.M P.f=P/\(∀x∈P,sc.names.Y x=some .local\/sc.names.Y x=some .cell)/\∀y∈sc.names,y.2≠.free
instance (N P:List Str) (sc:Scope):Decidable (qX N P sc):=by unfold qX;infer_instance
section
variable{P:Program}{w:World}{K:Ad}{mg:Af}{base:Heap}{x:Str}{st:Stmt}{f:Addr}{fd:FuncData}{ps:List Str}{k:Nat}{sp:Sp}
abbrev WZ(P:Program)(w:World)(base:Heap)(CX:Pg)(_:DfA K mg x st f fd ps)(k:Nat)(sp:Sp):Prop:=FnOk P w K mg base CX k f fd ps sp
def DfA.okI(q:DfA K mg x st f fd ps)(N:List Str)(S:qX N ps (Xd st))
  (Vv:∀Xv A outer s H vs Q E,Room k (A.deeper<|envOfC x (Xd st) (~~~s) f Xv)->sp vs H Q E->
   ∃t,PSs (Te Xi P w K mg base N x (Xd st) f Xv A outer s H E).nox (Qa st) t/\t {nx:=λ_ H'=>Q .non H',rt:=Q} (start N vs) H) (len:∀vs H Q E,sp vs H Q E->vs.f=ps.f:=by intro _ _ _ _ h;cases h;subst_vars;rfl):WZ P w base Xi q (k+1) sp:=q.fn.ok (RH S) len Vv
def DfA.ok(q:DfA K mg x st f fd ps)(N:List Str)(S:qX N ps (Xd st))(len:∀vs H Q E,sp vs H Q E->vs.f=ps.f)
  (Vv:∀Xv A outer s H vs Q E,Room k (A.deeper<|envOfC x (Xd st) (~~~s) f Xv)->sp vs H Q E->
   ∃t,PSs (Te Xi P w K mg base N x (Xd st) f Xv A outer s H E).nox (Qa st) t/\t {nx:=λ_ H'=>Q .non H',rt:=Q} (start N vs) H):WZ P w base Xi q (k+1) sp:=q.fn.ok (RH S) len Vv
end
end L2
namespace My
open PySem L2
def FQ(K:Ad)(mg:Af)(x:Str)(st:Stmt)(ps:List Str):(Prop):=∃f fd,DfA K mg x st f fd ps
def xQ{K:Ad}{h:Heap}{mg:Af}{x:Str}{st:Stmt}{ps:List Str}{f:Addr}{oc:Value}{od an:Option Addr}{SK:Array (Option Value)}{kV doc pm Xv ct:Value}(X:K.In h)(G:h.Ns mainGlobals mg)
  (a:PySem.W.nsIn K mainGlobals x=some (some<|.ref f))(l:K.Y f=some {oc,od,.func<|PySem.W.fnOf x x (Jf st) (Qa st) (Xd st) .none kV doc pm an Xv ct,SK})(c:PySem.W.codeIn K Xv x=true)(k:PySem.W.keepIn K ↑f=true)
  (b:∀kV doc pm an Xv ct us,us.f=ps.f->bindArgs (PySem.W.fnOf x x (Jf st) (Qa st) (Xd st) .none kV doc pm an Xv ct) {us,[]}=pure (ps.zip us)):FQ K mg x st ps:=
 {f,_,tJ l c k,(tJ l c k).binds b,uC X G a}
def xP:(List Str):=["count","cheapest"]
def eR:(List Str):=["tree","row","rank"]
def xO:(List Str):=["number","place","next","share"]
def isN(w:Str):(Bool):=gx w.cps.l
def xN(x0:Str)(r:List Str):(Prop):=(x0∈xP/\r.f+1=1)\/(x0∈eR/\r.f+1=2/\r.all isN=true)\/(x0∈xO/\1<r.f+1/\(r=[("-":Str)]\/r.all isN=true))
instance:Decidable (xN x0 r):=by unfold xN;infer_instance
def eQ{F M:Ac}{o z:Int}(g:Zz n ps)(hF:Zg n ps F)(ho:o∈F)(hz:z∉F)(z0:0<=z)(z1:z<ps⁻¹)(hp:M.Perm (wo F o++[z]))(hs:M.E (·<=·)):Zg n ps M↔exg n ps F o z:=
 {λh=>Zq6 g hF hp h ho hz z0 z1,λh=>NW g hF h hp hs}
def ZA8{F:Ac}(g:Zz n ps)(hR:RowW n ps R)(hF:Zg n ps F)(VU:∀U,Zg n ps U->HT.lexLt U F=false)(hl:1<R.f):
  ∃z o,z∈Xk n ps [] [] F/\(∀y∈Xk n ps [] [] F,z<=y)/\exg n ps F o z/\(∀x,exg n ps F x z->x<=o)/\R[R.f-1]?=some (xchT F o z):=by
 let Nh:=VO.U hF;let QZ:∀U,With n ps [] [] U->HT.lexLt U F=false:=λU hU=>VU U hU.1
 let XD:∀v∈([]:Ac),0<=v/\v<ps⁻¹:=λv h=>by cases h
 let(ld,F',inc,fu,hP,h1,h2,Qn,_):=id hR;let eF:F'=F:=Xu (VU F' hP.tr.1) (hP.least F Nh)
 subst eF;cases ld with
 |none=>
  exfalso;let eo:=h1.L rfl
  cases Qn with
  |und FU _ _=>
   let(rfl,rfl,rfl):=hP.uniq FU;let e:inc=[]:=ET.U λz hz=>by
    have:=(Ya.L<|(FW hP.inc).mem_iff.L hz).1
    rw[eo]at this;cases this
   subst e;show absurd hl (by change ¬1<1;decide)
 |some z=>
  let zo:=(h2 z Z).1;let(T2,_,_,Ng):=SU g none (DK g XD Nh zo);let(o,o1,e,o2):=Io g Nh (Ka zo) QZ Ng.tr Ng.least;let lv:∀x,x∈WR n ps [] F' z↔exg n ps F' x z:=λx=>by unfold WR;rw[Ya,Xb];exists λh=>{h.1.1,λe=>Ka zo<|e▸h.1.1,h.1.2},λh=>{⟨h.1,h.2.2⟩,B}
  exists z,o,zo,(h2 z Z).2,(lv o).L o1,λx hx=>o2 x<|(lv x).U hx,by rw[<-e];show qY g XD Qn Nh QZ (Ka zo) Ng.tr Ng.least
def TupsV.rev{H:Hp}{xs:List V}{L:Ab}(h:TupsV H xs L):TupsV H xs.reverse L.reverse:=by
 show{by rw[YK,YK,h.1],λi l e=>?_};let hi:i<L.f:=by have:=(XF.L e).1;rwa[YK]at this
 let hl:=h.1;rw[LL hi]at e;let(v,hv,r):=h.2 _ l e;exists v,by rw[LL J,hl];show hv,r
def ZT7{L:Ab}{F:Ac}{p:Ac->Bool}(h0:L[0]?=some F)(hp:p F=true):(L.Q p)[0]?=some F:=by
 cases L with
 |nil=>cases h0
 |cons G L=>
  let rfl:G=F:=Ye h0;rw[YU,if_pos hp];rfl
def Zf4{W:Ac}{y:Int}(asc:W.E (·<·))(hy:y∈W)(hm:∀z∈W,y<=z):W[0]?=some y:=by
 cases W with
 |nil=>cases hy
 |cons x W=>
  rcases Yi.L hy with e|e
  .rw[e];rfl
  .have:=(YZ.L asc).1 y e
   have:=hm x Yd
   lia
def eO{L:Ab}{F:Ac}(h:L.E UY)(h0:L[0]?=some F):∀U∈L,HT.lexLt U F=false:=λU hU=>by
 cases L with
 |nil=>cases h0
 |cons G L=>
  let rfl:G=F:=Ye h0;rcases Yi.L hU with e|e
  .rw[e];show WN _
  .show Bool.eq_false_iff.U λq=>ZZ8 q ((YZ.L h).1 U e)
def eN{ns ms:Ac}{z:Int}(h:Rf (λa=>PyProof.Rows.b2i (decide (some z=some a))) ns ms)(asc:ns.E (·<·))(hz:z∈ns):ms=(ns.Q λa=>decide (a≠z))++[z]:=by
 let hp:=FW h;let(p,h1,h2,e):=h;let k0:∀a,a≠z->PyProof.Rows.b2i (decide<|some z=some a)=0:=λa ha=>VP.1.U ha
 let k1:PyProof.Rows.b2i (decide<|some z=some z)=1:=VP.2.U rfl;show CS (le:=λa b:Int=>PyProof.Rows.b2i (decide<|some z=some a)<PyProof.Rows.b2i (decide<|some z=some b)\/(PyProof.Rows.b2i (decide<|some z=some a)=PyProof.Rows.b2i (decide<|some z=some b)/\a<b)) (λa b _ _ x y=>J) ?_ ?_ ?_
 .rw[e,MA];show Ds (λ{i j} hi hj hA=>?_) h2;let i1:=YW.L (h1.mem_iff.L hi)
  let j1:=YW.L (h1.mem_iff.L hj);rcases hA with q|⟨q,r⟩
  .show .inl q
  .show .inr {q,?_}
   have:=ME.L asc i j i1 j1 r
   rwa[Wv,Wv,Xr i1,Xr j1]
 .show YJ.U {?_,JE _ _,λa ha b hb=>?_}
  .show Ds (λ{a b} ha hb q=>.inr {?_,q}) (asc.Q _);rw[k0 a (Yu (Ya.L ha).2),k0 b (Yu (Ya.L hb).2)]
  .rw[XB.L hb];show .inl ?_;rw[k0 a (Yu (Ya.L ha).2),k1];decide
 .show hp.m ((Ul (NX asc) ?_).U λa=>?_)
  .show Wt.U {(NX asc).Q _,B,λa ha b hb q=>Yu (Ya.L ha).2 (by rw[q,XB.L hb])}
  .rw[Xz,Ya,XB,YL];cases c:a=z
   .rw[c];exists λ_=>.inr Z,λ_=>hz
   .exists λq=>.inl ⟨q,c⟩,λq=>q.elim (λq=>q.1) λq=>absurd q c
section
variable{n:Int}{ps:Aa}{I O F:Ac}{z:Int}
def QY:(Xk n ps I O F).E (·<·):=(IU ps.f).Q _
def eM:((Xk n ps I O F).Q λt=>!decide (VQ (Xy n.j (XS ps I)) ps z=VQ (Xy n.j (XS ps I)) ps t))=Wc n ps I O F (some z):=by unfold Wc;show Mw λt ht=>?_;rw[<-decide_not];show HS.U (not_congr ?_);unfold TV;rw[Ya,YL];exists λq=>⟨ht,z,Z,q.symm⟩,λzz=>by let(_,y,e,q):=zz;rw[Ye e];show q.symm
def xM(h:Wc n ps I O F (some z)=[]):TV n ps I O F (some z)=Xk n ps I O F:=by
 let all:∀t∈Xk n ps I O F,t∈TV n ps I O F (some z):=λt ht=>Yy λno=>by
  have:t∈Wc n ps I O F (some z):=Ya.U {ht,Yq no}
  rw[h]at this;cases this
 show uV.U λt ht=>(Ya.L<|all t ht).2
def eK{L:Ab}(g:Zz n ps)(XD:∀v∈I,0<=v/\v<ps⁻¹)(hF:With n ps I O F)(hz:z∈Xk n ps I O F)(hL:∀T,T∈L↔With n ps I O T):(F.Q λt=>decide (t∉I/\xchT F t z∈L))=WR n ps I F z:=by let((z0,z1),_,zO,zF,_):=(ZS g XD).L hz;unfold WR SI;rw[pS];show Mw λt ht=>?_;rw[<-Bool.decide_and];show HS.U {λ⟨q,r⟩=>{q,?_},λzz=>by let(q,r):=zz;exists q,(hL _).U (DL g hF (show exg n ps F t z from{ht,λe=>zF (by rwa[e]),r}) q zO (UM F t z)<|LR F t z)};show((eQ g hF.1 ht zF z0 z1 (UM F t z)<|LR F t z).L ((hL _).L r).1).2.2
def eJ{L:Ab}(hL:∀T,T∈L↔With n ps I O T)(T:Ac):(T∈L.Q λT=>decide (z∉T))↔With n ps I (O++[z]) T:=by rw[Ya,hL,YL];exists λzz=>by let(a,b):=zz;show{a.1,a.2.1,λv hv=>(Xz.L hv).elim (a.2.2 v) λe=>by rwa[XB.L e]},λa=>{{a.1,a.2.1,λv hv=>a.2.2 v<|Yg _ hv},a.2.2 z B}
def qW{L:Ab}(hL:∀T,T∈L↔With n ps I O T)(T:Ac):(T∈L.Q λT=>decide (z∈T))↔With n ps (I++[z]) O T:=by rw[Ya,hL,YL];exists λzz=>by let(a,b):=zz;show{a.1,λv hv=>(Xz.L hv).elim (a.2.1 v) λe=>by rw[XB.L e];show b,a.2.2},λa=>{{a.1,λv hv=>a.2.1 v<|Yg _ hv,a.2.2},a.2.1 z B}
end
end My
namespace L2
open PySem PySem.Spec PyProof.Rows
section
variable{X:Cx}
def xK(K:Ad):(R2):=λx y H Q=>rEqD K true x y H Q\/rNe x y H Q
def eE(K:Ad)(hu:X.A.units+8<cLine)(h:X.K=K:=by rfl):Wu X (compareOp .NotEq) (xK K):=by
 intro pins s σ H x y u v Q I ru rv q;rcases q with q|q
 .show tm K hu h pins s σ H x y u v Q I ru rv q
 .show Rw pins s σ H x y u v Q I ru rv q
end
end L2
namespace My
open PySem L2
section
variable{K:Ad}{H:Hp}
def xJ(hx:TupN H x o)(hy:TupN H y o):EqD K H 1 x y true:=by
 cases o with
 |none=>
  let rfl:x=.non:=hx;let rfl:y=.non:=hy;show EqD.flat Z rfl
 |some l=>
  have:=ZU7 (K:=K) (show Xn H x l from hx) (show Xn H y l from hy)
  rwa[Yq Z]at this
def eD(hx:TupN H x o)(hy:TupN H y o)(q:Q (.bl false) H):xK K x y H Q:=by
 cases o with
 |none=>
  let rfl:x=.non:=hx;let rfl:y=.non:=hy;show .inr ⟨Z,q⟩
 |some l=>
  let e:=xJ (K:=K) hx hy;let(a,rfl,_):=(show Xn H x l from hx);let(b,rfl,_):=(show Xn H y l from hy);show .inl ⟨1,true,a,b,Z,Z,oY,e,q⟩
def xI{p q:Addr}{xs ys:List V}{l:List (Option Ac)}(hp:SqL K H p xs)(hq:SqL K H q ys)(h1:Bears (TupN H) xs l)(h2:Bears (TupN H) ys l):EqD K H 2 ↑p ↑q true:=by
 let key:=EqD.lsts (n:=1) (e:=λ_=>true) hp hq (h1.1.m h2.1.symm) λi x y ex ey=>by let(a,ea,ra):=h1.at ex;let(b,eb,rb):=h2.at ey;cases ea.symm.m eb;show xJ ra rb
 rwa[show(List.range xs.f).all (λ_=>true)=true by simp]at key
def TupN.samex(h:TupN H v o)(t:TabH H Pt pos qual)(sx:SameX Pt H H2):TupN H2 v o:=by
 cases o with
 |none=>show h
 |some l=>
  let(a,rfl,ha):=(show Xn H v l from h);exists a,Z,sx _ _ (t.ne ha B) ha
def qV{R:V->α->Prop}:Bears R [] []:={Z,λi a e=>by cases e}
def ZW{R:V->α->Prop}{x:V}{a:α}(h:R x a)(hs:Bears R xs l):Bears R (x::xs) (a::l):=⟨by simp[hs.1],λi b e=>by
 cases i with
 |zero=>cases e;exists x,Z,h
 |succ i=>show hs.2 i b e⟩
def fo(U V:Ac):(Ac):=(U.Q λy=>decide<|y∉V).M 1
def xH(U:Ac)(o:Option Ac):(Option Ac):=o.R λV=>fo U V++fo V U
end
def top(i:Nat):(Stmt):=PySem.Challenge.pw_spanrow_k40_trees_beside_one_another.main.body.S i (.Pass ⟨0,0,0,0⟩)
abbrev sZ8:Stmt:=Jg (top 18) 0
abbrev sZt:Stmt:=Jg (top 46) 0
abbrev sZW:Stmt:=top 75
set_option genInjectivity false in
structure Adr where
 (aZ0 aZ1 aZ2 aZ3 aZ4 aZ5 aZ6 aZ7 aZ8 aZ9 aZa aZb aZc aZd aZe aZf aZg aZh aZi aZj aZk aZl aZm aZn aZo aZp aZq aZr aZs aZt aZu aZv aZw aZx aZy aZz aZA aZB aZC aZD aZE aZF aZG aZH aZI aZJ aZK aZL aZM aZN aZO aZP aZQ aZR aZS aZT aZU aZV aZW A_Web A_Part:Addr)
 (dZ0 dZ1 dZ2 dZ3 dZ4 dZ5 dZ6 dZ7 dZ8 dZ9 dZa dZb dZc dZd dZe dZf dZg dZh dZi dZj dZk dZl dZm dZn dZo dZp dZq dZr dZs dZt dZu dZv dZw dZx dZy dZz dZA dZB dZC dZD dZE dZF dZG dZH dZI dZJ dZK dZL dZM dZN dZO dZP dZQ dZR dZS dZT dZU dZV dZW:FuncData)
def Txt(K:Ad)(mg:Af)(t:Adr):(Prop):=(((((((DfA K mg "refuse_not_square" (top 9) t.aZ0 t.dZ0 ["table"]/\DfA K mg "row_taken_off" (top 10) t.aZ1 t.dZ1 ["row","pivot","last"])/\DfA K mg "first_with_some" (top 11) t.aZ2 t.dZ2 ["rows"])/\((DfA K mg "determinant" (top 12) t.aZ3 t.dZ3 ["table"]/\DfA K mg "row_without" (top 13) t.aZ4 t.dZ4 ["row","number"])/\DfA K mg "table_without" (top 14) t.aZ5 t.dZ5 ["table","number"]))/\(((DfA K mg "is_tie" (top 20) t.aZ6 t.dZ6 ["web","number"]/\DfA K mg "refuse_bad_web" (top 19) t.aZ7 t.dZ7 ["places","ties"])/\Fun K "__init__" "Web.__init__" sZ8 t.aZ8 t.dZ8)/\((Binds K t.dZ8 ["self","places","ties"] []/\DfA K mg "ties_beside" (top 21) t.aZ9 t.dZ9 ["web","ties"])/\DfA K mg "ties_without" (top 22) t.aZa t.dZa ["ties","left_out"])))/\((((DfA K mg "is_set" (top 23) t.aZb t.dZb ["web","ties"]/\DfA K mg "made_set" (top 24) t.aZc t.dZc ["web","ties"])/\DfA K mg "merged_marks" (top 25) t.aZd t.dZd ["web","marks","ties"])/\((DfA K mg "piece_marks" (top 26) t.aZe t.dZe ["web","ties"]/\DfA K mg "pieces_of" (top 27) t.aZf t.dZf ["web","ties"])/\DfA K mg "is_joined" (top 28) t.aZg t.dZg ["web","ties"]))/\(((DfA K mg "weighted_table" (top 30) t.aZh t.dZh ["web","weights"]/\DfA K mg "pull_table" (top 31) t.aZi t.dZi ["web"])/\DfA K mg "tree_count" (top 32) t.aZj t.dZj ["web"])/\(DfA K mg "part_count" (top 33) t.aZk t.dZk ["web","inside","outside"]/\DfA K mg "is_tree" (top 35) t.aZl t.dZl ["web","ties"]))))/\(((((DfA K mg "refuse_no_tree" (top 36) t.aZm t.dZm ["web","tree"]/\DfA K mg "grown_tree" (top 37) t.aZn t.dZn ["web","inside","order"])/\DfA K mg "tree_cut" (top 38) t.aZo t.dZo ["web","tree","tie"])/\((DfA K mg "ring_of" (top 39) t.aZp t.dZp ["web","tree","tie"]/\DfA K mg "least_in" (top 41) t.aZq t.dZq ["web","inside","outside"])/\DfA K mg "end_pieces" (top 44) t.aZr t.dZr ["web","marks","tie"]))/\(((DfA K mg "open_ties" (top 45) t.aZs t.dZs ["web","marks","gone"]/\Fun K "__init__" "Part.__init__" sZt t.aZt t.dZt)/\Binds K t.dZt ["self","web","kept","shut","lead"] [])/\((DfA K mg "whole_part" (top 47) t.aZu t.dZu ["web"]/\DfA K mg "half_without" (top 48) t.aZv t.dZv ["part"])/\DfA K mg "half_with" (top 49) t.aZw t.dZw ["part"])))/\((((DfA K mg "part_size" (top 50) t.aZx t.dZx ["part"]/\DfA K mg "trees_with_tie" (top 51) t.aZy t.dZy ["part","into"])/\DfA K mg "undivided_row" (top 52) t.aZz t.dZz ["part"])/\((DfA K mg "trees_between" (top 53) t.aZA t.dZA ["part","size","start","stop"]/\DfA K mg "number_in" (top 54) t.aZB t.dZB ["part","size","tree"])/\DfA K mg "refuse_below_nought" (top 42) t.aZC t.dZC ["number"]))/\(((DfA K mg "row_from" (top 55) t.aZD t.dZD ["web","number","most"]/\DfA K mg "row_at" (top 56) t.aZE t.dZE ["web","number"])/\DfA K mg "row_number" (top 57) t.aZF t.dZF ["web","tree"])/\(DfA K mg "row_next" (top 58) t.aZG t.dZG ["web","tree"]/\DfA K mg "row_ahead" (top 59) t.aZH t.dZH ["web","tree"])))))/\((((((DfA K mg "row_step" (top 60) t.aZI t.dZI ["web","tree"]/\DfA K mg "_law_at" (top 62) t.aZJ t.dZJ ["script","k"])/\DfA K mg "_law_mixed" (top 63) t.aZK t.dZK ["cell","k"])/\((DfA K mg "_law_ties" (top 64) t.aZL t.dZL ["script","count","most"]/\DfA K mg "_law_trees" (top 65) t.aZM t.dZM ["count","ties"])/\DfA K mg "_law_swapped" (top 66) t.aZN t.dZN ["tree","out","into"]))/\(((DfA K mg "_law_marks" (top 67) t.aZO t.dZO ["count","ties","kept"]/\DfA K mg "_law_twins" (top 68) t.aZP t.dZP ["count","ties","kept","lead","other"])/\DfA K mg "_law_open" (top 69) t.aZQ t.dZQ ["trees","kept"])/\((DfA K mg "_law_row" (top 70) t.aZR t.dZR ["count","ties","trees","kept","lead"]/\DfA K mg "_law_whole_row" (top 71) t.aZS t.dZS ["count","ties"])/\DfA K mg "_law_whole" (top 72) t.aZT t.dZT ["found"])))/\((((DfA K mg "_law_step" (top 73) t.aZU t.dZU ["tree","behind_it"]/\DfA K mg "_law_good" (top 74) t.aZV t.dZV ["web","row","at"])/\DfA K mg "law" sZW t.aZW t.dZW ["script"])/\((mg "Web"=some (.ref t.A_Web)/\Cls K t.A_Web)/\Mk K t.A_Web t.aZ8))/\(((NoAttr K t.A_Web "places"/\NoAttr K t.A_Web "ties")/\mg "Part"=some (.ref t.A_Part))/\(Cls K t.A_Part/\Mk K t.A_Part t.aZt))))/\(((((NoAttr K t.A_Part "web"/\NoAttr K t.A_Part "kept")/\NoAttr K t.A_Part "shut")/\((NoAttr K t.A_Part "lead"/\NoAttr K t.A_Part "least")/\NoAttr K t.A_Part "incoming"))/\(((NoAttr K t.A_Part "further"/\(∃tk,mg "MOST_PLACES"=some (.int 14 tk)))/\(∃tk,mg "MOST_TIES"=some (.int 30 tk)))/\((mg "bool"=none/\mg "enumerate"=none)/\mg "int"=none)))/\((((mg "isinstance"=none/\mg "len"=none)/\mg "list"=none)/\((mg "max"=none/\mg "min"=none)/\mg "range"=none))/\(((mg "reversed"=none/\mg "set"=none)/\mg "sorted"=none)/\(mg "tuple"=none/\mg "zip"=none))))))
section
variable(T:Txt K mg t)
def Txt.qZ0:=T.1.1.1.1.1.1.1
def Txt.qZ1:=T.1.1.1.1.1.1.2
def Txt.qZ2:=T.1.1.1.1.1.2
def Txt.qZ3:=T.1.1.1.1.2.1.1
def Txt.qZ4:=T.1.1.1.1.2.1.2
def Txt.qZ5:=T.1.1.1.1.2.2
def Txt.qZ6:=T.1.1.1.2.1.1.1
def Txt.qZ7:=T.1.1.1.2.1.1.2
def Txt.fZ8:=T.1.1.1.2.1.2
def Txt.bZ8:=T.1.1.1.2.2.1.1
def Txt.qZ9:=T.1.1.1.2.2.1.2
def Txt.qZa:=T.1.1.1.2.2.2
def Txt.qZb:=T.1.1.2.1.1.1.1
def Txt.qZc:=T.1.1.2.1.1.1.2
def Txt.qZd:=T.1.1.2.1.1.2
def Txt.qZe:=T.1.1.2.1.2.1.1
def Txt.qZf:=T.1.1.2.1.2.1.2
def Txt.qZg:=T.1.1.2.1.2.2
def Txt.qZh:=T.1.1.2.2.1.1.1
def Txt.qZi:=T.1.1.2.2.1.1.2
def Txt.qZj:=T.1.1.2.2.1.2
def Txt.qZk:=T.1.1.2.2.2.1
def Txt.qZl:=T.1.1.2.2.2.2
def Txt.qZm:=T.1.2.1.1.1.1.1
def Txt.qZn:=T.1.2.1.1.1.1.2
def Txt.qZo:=T.1.2.1.1.1.2
def Txt.qZp:=T.1.2.1.1.2.1.1
def Txt.qZq:=T.1.2.1.1.2.1.2
def Txt.qZr:=T.1.2.1.1.2.2
def Txt.qZs:=T.1.2.1.2.1.1.1
def Txt.fZt:=T.1.2.1.2.1.1.2
def Txt.bZt:=T.1.2.1.2.1.2
def Txt.qZu:=T.1.2.1.2.2.1.1
def Txt.qZv:=T.1.2.1.2.2.1.2
def Txt.qZw:=T.1.2.1.2.2.2
def Txt.qZx:=T.1.2.2.1.1.1.1
def Txt.qZy:=T.1.2.2.1.1.1.2
def Txt.qZz:=T.1.2.2.1.1.2
def Txt.qZA:=T.1.2.2.1.2.1.1
def Txt.qZB:=T.1.2.2.1.2.1.2
def Txt.qZC:=T.1.2.2.1.2.2
def Txt.qZD:=T.1.2.2.2.1.1.1
def Txt.qZE:=T.1.2.2.2.1.1.2
def Txt.qZF:=T.1.2.2.2.1.2
def Txt.qZG:=T.1.2.2.2.2.1
def Txt.qZH:=T.1.2.2.2.2.2
def Txt.qZI:=T.2.1.1.1.1.1.1
def Txt.qZJ:=T.2.1.1.1.1.1.2
def Txt.qZK:=T.2.1.1.1.1.2
def Txt.qZL:=T.2.1.1.1.2.1.1
def Txt.qZM:=T.2.1.1.1.2.1.2
def Txt.qZN:=T.2.1.1.1.2.2
def Txt.qZO:=T.2.1.1.2.1.1.1
def Txt.qZP:=T.2.1.1.2.1.1.2
def Txt.qZQ:=T.2.1.1.2.1.2
def Txt.qZR:=T.2.1.1.2.2.1.1
def Txt.qZS:=T.2.1.1.2.2.1.2
def Txt.qZT:=T.2.1.1.2.2.2
def Txt.qZU:=T.2.1.2.1.1.1.1
def Txt.qZV:=T.2.1.2.1.1.1.2
def Txt.qZW:=T.2.1.2.1.1.2
def Txt.c_Web:=T.2.1.2.1.2.1.1
def Txt.cl_Web:=T.2.1.2.1.2.1.2
def Txt.k_Web:=T.2.1.2.1.2.2
def Txt.n_Web_places:=T.2.1.2.2.1.1.1
def Txt.n_Web_ties:=T.2.1.2.2.1.1.2
def Txt.c_Part:=T.2.1.2.2.1.2
def Txt.cl_Part:=T.2.1.2.2.2.1
def Txt.k_Part:=T.2.1.2.2.2.2
def Txt.n_Part_web:=T.2.2.1.1.1.1.1
def Txt.n_Part_kept:=T.2.2.1.1.1.1.2
def Txt.n_Part_shut:=T.2.2.1.1.1.2
def Txt.n_Part_lead:=T.2.2.1.1.2.1.1
def Txt.n_Part_least:=T.2.2.1.1.2.1.2
def Txt.n_Part_incoming:=T.2.2.1.1.2.2
def Txt.n_Part_further:=T.2.2.1.2.1.1.1
def Txt.g_MOST_PLACES:=T.2.2.1.2.1.1.2
def Txt.g_MOST_TIES:=T.2.2.1.2.1.2
def Txt.n_bool:=T.2.2.1.2.2.1.1
def Txt.n_enumerate:=T.2.2.1.2.2.1.2
def Txt.n_int:=T.2.2.1.2.2.2
def Txt.n_isinstance:=T.2.2.2.1.1.1.1
def Txt.n_len:=T.2.2.2.1.1.1.2
def Txt.n_list:=T.2.2.2.1.1.2
def Txt.n_max:=T.2.2.2.1.2.1.1
def Txt.n_min:=T.2.2.2.1.2.1.2
def Txt.n_range:=T.2.2.2.1.2.2
def Txt.n_reversed:=T.2.2.2.2.1.1.1
def Txt.n_set:=T.2.2.2.2.1.1.2
def Txt.n_sorted:=T.2.2.2.2.1.2
def Txt.n_tuple:=T.2.2.2.2.2.1
def Txt.n_zip:=T.2.2.2.2.2.2
end
end My
namespace My
open PySem L2 PyProof.Rows
set_option maxHeartbeats 4000000
section
variable{P:Program}{w:World}{K:Ad}{mg:Af}{base:Heap}{t:Adr}
inductive spZ0(K:Ad)(vs:List V)(H:Hp)(Q:VK)(_:XK):Prop
 |mk (a kd xs L:_) (_:vs=[.ref a]) (_:SqK kd K H a xs) (_:Bears (y8 K H) xs L) (_:((∀l∈L,l.f=L.f)->Q .non H)) (_:(¬(∀l∈L,l.f=L.f)->False))
def eC(T:Txt K mg t):WZ P w base Xi T.qZ0 1 (spZ0 K):=by
 show T.qZ0.okI ["table","row"] D λXv A outer s H vs Q E hr h=>?_
 .let⟨a,kd,xs,L,rfl,hS,hB,q,qe⟩:=h;show⟨_,(XI (Tg Ws Z (Tb K<|pv 0) (Za 1)
   (XI (Wl (Zf Rw (Zi (Zn K) o3 T.n_len Boot.«len»<|XY (pv 1) XX) (Zi (Zn K) o3 T.n_len Boot.«len»<|XY (pv 0) XX)<|Zs _)
   (XI Lo)
   Zq)))),?_⟩
  let LX:=hB.1;exists _,Z,a,Z,tu (K:=K) (k:=kd) (a:=a) (xs:=xs) (λi σ H2=>∃v1,σ=[some ↑a,v1]/\H2=H/\∀l∈L.M i,l.f=L.f) {none,Z,Z,λl h=>(by cases h)} (λi σ H2 _ zz=>by let(_,_,e,_):=zz;show e▸hS) ?_ ?_
  .rintro i v σ H2 hi ⟨v1,rfl,rfl,UC⟩;let(l,hl,r,k,rfl,hr):=hB.at hi;show nm ?_;exists _,Z,r,_,Z,hr.or,_,Z,a,xs,Z,hS.or,Z,_,Z,?_;rw[XG,Zw];show WU (λe=>?_) (λe=>?_)
   .exists _,Z,Z,λm hm=>?_;rw[YY,hl]at hm;rcases Xz.L hm with h|h
    .show UC m h
    .let IZ:m=l:=by simpa using h
     rw[IZ];lia
   .show qe λh=>e (by rw[h l (Xm hl),LX])
  .rintro σ H2 ⟨v1,rfl,rfl,UC⟩;rw[LX,Yz]at UC;show q UC
inductive spZ1(K:Ad)(vs:List V)(H:Hp)(Q:VK)(_:XK):Prop
 |mk (r p x y last l q:_) (_:vs=[.ref r,.ref p,.int last]) (_:SqL K H r (IL<|x::l)) (_:SqL K H p (IL<|y::q)) (_:l.f=q.f) (_:l.f<=1000) (_:last≠0) (_:last.natAbs<2^9000) (_:(∀z∈x::l,z.natAbs<2^9000)) (_:(∀z∈y::q,z.natAbs<2^9000)) (_:∀c H',Same H H'->H c=none->H' c=some (.lst<|IL<|Ny y q last<|x::l)->Q ↑c H')
def eh(T:Txt K mg t):WZ P w base Xi T.qZ1 1 (spZ1 K):=by
 show T.qZ1.okI ["row","pivot","last"] D λXv A outer s H vs Q E hr h=>?_
 .let⟨r,p,x,y,last,l,q',rfl,hR,hP,hlq,hl,l0,l1,hx,hy,q⟩:=h;exists _,(XI<|Zj<|Tc Z (sc0:=Xd<|top 10) (N0:=["row","pivot","last"]) (N':=["own","other","pivot","row","last"]) (o:=2) (fr:=[1,0,2]) ⟨Z,D,D,D,Z,D⟩ (zv K Z T.n_zip<|XY (Lg (KQ K) (pv 0) (Mn Zc) Jl)<|XY (Lg (KQ K) (pv 1) (Mn Zc) Jl) XX) (Er<|Pf oY<|Pf oY Es) (λ_ _ _ _=>(QI (n:=2) K Z<|Zr (Za 0)<|Zr (Za 1) QM)) (λ_ _ _ _=>QL) λ_ _ _ _=>(Zy zg (Zy VC (Zy jc (ZE (Zd K) (pv 2) Zc λ_ _=>rfl)<|pv 0)<|Zy jc (ZE (Zd K) (pv 3) Zc λ_ _=>rfl)<|pv 1)<|pv 4)),?_;exists _,Z,_,Z,r,_,Z,hR,λp1 Um=>?_;rw[y7];let s1:=XZ (o:=.lst<|IL l) Um
  exists _,Z,_,Z,p,_,Z,s1.seq hP,λp2 VL=>?_;rw[y7];let s2:=XZ (o:=.lst<|IL q') VL
  let WB:=s1.m s2;let h1:=s2 _ _ (XT (H:=H) (a:=p1) (o:=.lst<|IL l))
  let h2:(upd (upd H p1<|.lst<|IL l) p2<|.lst<|IL q') p2=some (.lst<|IL q'):=XT;generalize upd (upd H p1<|.lst<|IL l) p2 (.lst<|IL q')=H2 at *;show⟨p1,p2,Z,{_,_,SqL.of h1,SqL.of h2},jt (K:=K) (a:=p1) (b:=p2) (xs:=IL l) (ys:=IL q') (λi zs H3=>Same H2 H3/\i<=l.f/\zs=IL ((Ny y q' last<|x::l).M i)) {Same.refl _,Yj _,Z} (by rwa[XG,XG]) (Zh<|by rw[XG];lia)
   (λi zs H3 hi zz=>by let(e,VH,ez):=zz;show{SqL.of<|e _ _ h1,SqL.of<|e _ _ h2,by rw[ez,XG,Yf];lia}) ?_ ?_⟩
  .rintro i u v zs H3 pt UL hu hv ⟨s3,Vp,rfl⟩ S Xx;let(own,rfl,ho):=ZT hu;let(GQ,rfl,ht):=ZT hv;let XC:=(XF.L ho).1
   let s4:=XZ (o:=.tup [.int own,.int GQ]) UL;exists pt,_,Z,SqT.of XT,Z,_,_,Z,_,_,Z,Z,?_;let Qm:=WB.m (s3.m s4)
   let a1:=hy y Yd;let a2:=hx own (Yh _<|Xm ho)
   let a3:=hx x Yd;let a4:=hy GQ (Yh _<|Xm ht)
   exists _,Z,p,_,0,.int y,Z,Z,Qm.seq hP,ZA (n:=0) Z Z,_,Z,_,_,Z,Z,⟨a1,a2⟩,_,Z,r,_,0,.int x,Z,Z,Qm.seq hR,ZA (n:=0) Z Z,_,Z,_,_,Z,Z,⟨a3,a4⟩,_,_,Z,Z,_,Z,_,_,Z,Z,⟨l0,l1⟩,?_;show Xx _ _ {s3.m s4,XC,?_};let e:(Ny y q' last<|x::l)[i]?=some ((y*own-x*GQ).fdiv last):=by change(List.zipWith _ l q')[i]?=_;rw[EN,ho,ht];rfl
   rw[YY,e];show(ZO _ _).symm
  .rintro zs H3 ⟨s3,_,rfl⟩ c hc;rw[XG,QP (by rw[ZB9 (by rw[YG,hlq])];lia)];show q c _ (WB.m<|s3.m<|XZ hc) ((WB.m s3).free hc) XT
inductive spZ2(K:Ad)(vs:List V)(H:Hp)(Q:VK)(_:XK):Prop
 |mk (a ys R:_) (_:vs=[.ref a]) (_:SqL K H a ys) (_:Bears (Me H) ys R) (_:(∀l∈R,0<l.f)) (_:(∀H':Hp,Same H H'->(∀i,i<R.f->fnL R i 0=0)->Q .non H')) (_:(∀t H',Same H H'->t<R.f->fnL R t 0≠0->Q (.int t) H'))
def d9(T:Txt K mg t):WZ P w base Xi T.qZ2 1 (spZ2 K):=by
 show T.qZ2.okI ["rows","at","row"] D λXv A outer s H vs Q E hr h=>?_
 .let⟨a,ys,R,rfl,hS,hB,hp,q0,q1⟩:=h;show⟨_,(XO (Tg Ws Z (Mg K Z T.n_enumerate<|XY (pv 0) XX) (QI (n:=2) K Z<|Zr (Za 1)<|Zr (Za 2) QM)
   (XI (Wl (Zf Rw (ZE (Zd K) (pv 2) Zc λ_ _=>rfl) Zc<|Zs _)
   (XI<|Zj<|pv 1)
   Zq)))
   (XI<|Zj Pj)),?_⟩
  let PU:=hB.1;exists _,Z,a,Z,{_,hS},Em (K:=K) (a:=a) (xs:=ys) (λi σ H2=>∃v1 v2,σ=[some ↑a,v1,v2]/\Same H H2/\∀j,j<i->fnL R j 0=0) {none,none,Z,Same.refl _,λj h=>absurd h<|Sy _} (λi σ H2 _ zz=>by let(_,_,_,e,_):=zz;show e.seq hS) ?_ ?_
  .rintro i v σ H2 pt UL hi ⟨v1,v2,rfl,s2,hz⟩;let(l,hl,r,rfl,hr):=hB.at hi;let PD:=hp l (Xm hl)
   obtain⟨x,l',rfl⟩:∃x l',l=x::l':=by
    cases l with
    |nil=>show absurd PD (Qi 0)
    |cons x l'=>exists x,l',Z
   let e0:fnL R i 0=x:=Ua hl rfl;let s3:=s2.m (XZ (o:=.tup [.int i,.ref r]) UL)
   exists pt,_,Z,SqT.of XT,Z,_,_,Z,_,_,Z,Z,?_;generalize upd H2 pt (.tup [.int i,.ref r])=H3 at *;exists _,Z,r,_,0,.int x,Z,Z,SqL.of<|s3 _ _ hr,ZA (n:=0) Z Z,Z,_,Z,?_;rw[Zw];show WU (λe=>?_) (λe=>?_)
   .exists _,_,Z,s3,λj hj=>?_;cases c:j=i
    .rw[c,e0,e]
    .show hz j J
   .exists _,Z,q1 i H3 s3 (by have:=(XF.L hl).1;show this)<|by rwa[e0]
  .rintro σ H2 ⟨v1,v2,rfl,s2,hz⟩;show q0 H2 s2 λi hi=>hz i J
inductive spZ3(K:Ad)(vs:List V)(H:Hp)(Q:VK)(_:XK):Prop
 |mk (a kd xs L:_) (_:vs=[.ref a]) (_:SqK kd K H a xs) (_:Bears (y8 K H) xs L) (_:L.f<=16) (_:(∀i j,i<L.f->j<L.f->(fnL L i j).natAbs<=2^400)) (_:((∀l∈L,l.f=L.f)->∀H':Hp,Same H H'->Q (.int<|det L.f<|fnL L) H')) (_:(¬(∀l∈L,l.f=L.f)->∀H':Hp,Same H H'->False))
def xG{s rest:TS}{CM:Ends}{σ:L2.St}{H:Hp}(P:L2.St->Hp->Prop)(h1:∀σ' H',P σ' H'->rest CM σ' H')(h2:∀K:L2.St->Hp->Prop,(∀σ' H',P σ' H'->K σ' H')->s {CM with nx:=K} σ H):Uh s rest CM σ H:=h2 _ h1
def Nf:FnScope ["table","rows","sign","last","at","pivot"] ["table"] (Xd (top 12)):=RH D
def d8(T:Txt K mg t):WZ P w base Xi T.qZ3 2 (spZ3 K):=by
 show T.qZ3.okI ["table","rows","sign","last","at","pivot"] D λXv A outer s H vs Q E hr h=>?_
 .let⟨a,kd,xs,L,rfl,hS,hB,xF,DJ,q,qe⟩:=h;show⟨_,(XO (QN<|Xp (eC T) hr T.qZ0 Zt<|XY (pv 0) XX)
   (XO (Sk (i:=1) Z Nf.nd Z Z (sc0:=Xd<|top 12) (N0:=["table","rows","sign","last","at","pivot"]) (N':=["row"]) (o:=1) (fr:=[]) ⟨Z,D,D,D,Z,D⟩ (Tb K<|pv 0) (Zp oY) (λ_ _ _ _=>(Za 0)) (λ_ _ _ _=>QL) λ_ _ _ _=>(Zk (Si K) o3 T.n_list Boot.«list»<|XY (pv 0) XX))
   (XO (Ze 2 Zc)
   (XO (Th (i:=3) Nf.nd Z (Or.inr Z) Zc)
   (XO (og Ws (Zf TH (Zi (Zn K) o3 T.n_len Boot.«len»<|XY (pv 1) XX) Zc<|Zs _)
   (XO (Ze 4<|Xp (d9 T) hr T.qZ2 Zt<|XY (pv 1) XX)
   (XO (Wl (Zf tS (pv 4) Pj<|Zs _)
   (XI<|Zj Zc)
   Zq)
   (XO (Wl (Zf RV (Zy TJ (pv 4) Zc) Zc<|Zs _)
   (XI<|Ze 2<|Cv Ct<|pv 2)
   Zq)
   (XO (Th (i:=5) Nf.nd Z (Or.inr Z)<|Pc K US PySem.F.slot_list_pop PySem.F.type_list_pop mY (pv 1)<|XY (pv 4) XX)
   (XO (Sk (i:=1) Z Nf.nd Z Z (sc0:=Xd<|top 12) (N0:=["table","rows","sign","last","at","pivot"]) (N':=["row","pivot","last"]) (o:=1) (fr:=[5,3]) ⟨Z,D,D,D,Z,D⟩ (ZD K<|pv 1) (Zp oY) (λ_ _ _ _=>(Za 0)) (λ_ _ _ _=>QL) λ_ _ _ _=>(Xp (eh T) hr T.qZ1 Zt<|XY (pv 0)<|XY (pv 1)<|XY (pv 2) XX))
   (XI<|Th (i:=3) Nf.nd Z (Or.inr Z)<|ZE (Zd K) (pv 5) Zc λ_ _=>rfl)))))))
   (XI<|Zj<|Zy jc (pv 2)<|pv 3)))))),?_⟩
  let LX:=hB.1;exists _,Z,a,kd,xs,L,Z,hS,hB,λNK=>?_,λh=>qe h H<|Same.refl H;let q:=q NK
  obtain⟨n,hn⟩:∃n,n=L.f:={_,Z};rw[<-hn]at q NK DJ xF;exists _,Z,a,Z,Bu (K:=K) (k:=kd) (a:=a) (xs:=xs) (λi zs H2=>Same H H2/\i<=xs.f/\Bears (Me H2) zs (L.M i)) {Same.refl _,Yj _,{Z,λi l e=>by simp at e}} (Zh J) (λi zs H2 hi zz=>by let(e,VH,ez):=zz;show{hS.same e,by rw[ez.1,Yf];lia}) ?_ ?_
  .rintro i v zs H2 hi ⟨s2,Vp,hZ⟩ S Xx;let(l,hl,r,k,rfl,hr):=hB.at hi;let XC:=(XF.L hi).1
   show nm ?_;exists _,Z,r,_,Z,(hr.same s2).or,λc hc=>Xx _ _ {s2.m<|XZ hc,XC,?_};rw[YY,hl];show(hZ.imp λ_ _ zz=>by let(r',e,h):=zz;exists r',e,XZ hc _ _ h).snoc ⟨c,Z,XT⟩
  rintro zs H2 ⟨s2,_,hZ⟩ rA OV;rw[LX,Yz]at hZ;let s3:=s2.m (XZ (o:=.lst zs) OV)
  exists λm σ H4=>∃A k rA ys R sgn last v4 v5,σ=[some ↑a,some<|.ref rA,some<|.int sgn,some<|.int last,v4,v5]/\Same H H4/\H rA=none/\H4 rA=some (.lst ys)/\Bears (LiV rA H4) ys R/\R.f=m/\(∀l∈R,l.f=m)/\k+m=n/\Qs A k m (fnL R) last/\det n (fnL L)=sgn*det n A/\(∀i j,i<n->j<n->(A i j).natAbs<=2^400)/\(m=0->last=det n A)/\(sgn=1\/sgn=-1)/\last.natAbs<2^9000,{n,fnL L,0,rA,zs,L,1,1,none,none,Z,s3,s2.free OV,XT,?_,hn.symm,NK,J,Zu9 _ _,oZ,DJ,λe=>by rw[e];rfl,.inl Z,Nat.one_lt_two_pow oY},?_
  .show hZ.imp λv l zz=>by let(r,e,h):=zz;exists r,e,XZ OV _ _ h,WC h OV
  rintro m σ H4 ⟨A,k,rA,ys,R,sgn,last,v4,v5,rfl,s4,UK,Im,hR,d7,RG,qU,JY,FT,hAb,dZ,hsg,hlb⟩;let PU:=hR.1
  exists _,Z,rA,ys,Z,.inl<|SqL.of Im,_,_,Z,Z,_,Z,?_;show Xc (λdY=>?_) (λdY=>?_)
  .obtain⟨M,rfl⟩:∃M,m=M+1:={m-1,J};exists _,λσ' H' h=>{M,Mu M,h},?_;let dX:∀l∈R,∀z∈l,z.natAbs<2^9000:=λl hl z hz=>by
    let(i,hi):=YE hl;let(j,hj):=YE hz;let h1:=(XF.L hi).1
    let h2:=(XF.L hj).1;let h3:=RG l hl
    have:=Zv9 JY qU xF hAb (i:=i) (j:=j) J J
    rwa[Ua hi hj]at this
   exists _,Z,rA,ys,R,Z,SqL.of Im,hR.imp λ_ _ h=>h.list,λl hl=>by rw[RG l hl];lia,λH5 s5 h0=>?_,λt H5 s5 ht XM=>?_
   .exists _,Z,Z,_,Z,?_;show tD (c:=V.non=V.non) Z ?_;let z:det n A=0:=by
     have:=zk JY λi hi=>h0 i J
     rwa[show k+M+1=n by lia]at this
    rw[FT,z,QQ]at q;show q H5 (s4.m s5)
   exists _,Z,Z,_,Z,?_;show GX (c:=V.int (t:Int)=V.non) (λz=>nomatch z) ?_;show nm ?_;dsimp only;show xG (λσ H6=>∃JX:Int,H6=H5/\σ=[some ↑a,some<|.ref rA,some<|.int JX,some<|.int last,some<|.int t,v5]/\JX=sgn*sg t) ?_ ?_
   .rintro σ H6 ⟨JX,rfl,rfl,xE⟩;let LQ:=s5 _ _ Im
    let hR6:=hR.imp λ_ _ h=>h.same s5;obtain⟨l,hl⟩:∃l,R[t]?=some l:={_,Xr ht};let Ks:=RG l (Xm hl)
    obtain⟨y,p',rfl⟩:∃y p',l=y::p':=by
     cases l with
     |nil=>cases Ks
     |cons y p'=>exists y,p',Z
    let UG:p'.f=M:=by rw[YG]at Ks;lia
    let(v,hv,pA,rfl,Il,hpn):=hR6.2 t _ hl;let hy0:y≠0:=by rwa[Ua hl Z]at XM
    show{_,Z,.inl {Z,_,SqL.of LQ},_,Z,rA,ys,(t:Int),t,.ref pA,Z,Z,LQ,J,J,by rw[kT J J,YO],hv,?_};let xD:(upd H6 rA<|.lst<|ys.eraseIdx t) pA=some (.lst<|IL<|y::p'):=by rwa[Zb hpn]
    let s7:Same H (upd H6 rA<|.lst<|ys.eraseIdx t):=ZL UK (s4.m s5);let hR7:Bears (LiV rA<|upd H6 rA<|.lst<|ys.eraseIdx t) (ys.eraseIdx t) (R.eraseIdx t):=(hR6.erase t).imp λ_ _ h=>h.mut
    let xC:(upd H6 rA<|.lst<|ys.eraseIdx t) rA=some (.lst<|ys.eraseIdx t):=XT;generalize upd H6 rA (.lst<|ys.eraseIdx t)=H7 at *;let eRl:(R.eraseIdx t).f=M:=by rw[HG,if_pos ht];lia
    let FR:∀l∈R.eraseIdx t,l.f=M+1:=λl h=>RG l (CU h);let hy7:=hR7.1
    exists _,Z,rA,Z,{_,SqL.of xC},VY (K:=K) (a:=rA) (xs:=ys.eraseIdx t) (λi zs H8=>Same H7 H8/\i<=(ys.eraseIdx t).f/\Bears (Me H8) zs (((R.eraseIdx t).M i).R (Ny y p' last))) {Same.refl _,Yj _,{Z,λi l e=>by simp at e}} (Zh J) (λi zs H8 hi zz=>by let(e,VH,ez):=zz;show{SqL.of<|e _ _ xC,by rw[ez.1,Yc,Yf];lia}) ?_ ?_
    .rintro i v zs H8 hi ⟨s8,Vp,qT⟩ S Xx;let(l,IC,r,rfl,hr,_):=hR7.at hi;let XC:=(XF.L hi).1
     let Vj:=FR l (Xm IC);obtain⟨x,l',rfl⟩:∃x l',l=x::l':=by
      cases l with
      |nil=>cases Vj
      |cons x l'=>exists x,l',Z
     let Ox:l'.f=M:=by rw[YG]at Vj;lia
     show nm ?_;exists _,Z,_,Z,_,Z,r,pA,x,y,last,l',p',Z,SqL.of<|s8 _ _ hr,SqL.of<|s8 _ _ xD,J,J,JY.1,hlb,dX _<|CU<|Xm IC,dX _<|Xm hl,λc H9 s9 xB hc=>Xx _ _ {s8.m s9,XC,?_};rw[YY,IC,YN];show(qT.imp λ_ _ zz=>by let(r',e,h):=zz;exists r',e,s9 _ _ h).snoc ⟨c,Z,hc⟩
    rintro zs H8 ⟨s8,_,qT⟩ cA dW;rw[hy7,Yz]at qT;let s9:=XZ (o:=.lst zs) dW
    exists _,Z,pA,_,0,.int y,Z,Z,SqL.of<|s9 _ _<|s8 _ _ xD,ZA (n:=0) Z Z,?_;let rO:Qs (λi=>A<|rotN k t i) k (M+1) (fnL<|(y::p')::R.eraseIdx t) last:=by rw[i8 hl];show je JY J
    let FZ:Qs (λi=>A<|rotN k t i) (k+1) M (fnL<|(R.eraseIdx t).R (Ny y p' last)) y:=zm rO hy0 λi j hi hj=>i7 UG eRl FR hi hj;let hdr:=jj (n:=n) (k:=k) (t:=t) (A:=A) J
    exists λi=>A<|rotN k t i,k+1,cA,zs,(R.eraseIdx t).R (Ny y p' last),JX,y,_,_,Z,s7.m<|s8.m s9,(s7.m s8).free dW,XT,?_,by rw[Yc];show eRl,λl h=>?_,J,FZ,?_,λi j hi hj=>hAb _ _ ?_ hj,λe0=>?_,?_,dX _ (Xm hl) y Yd
    .show qT.imp λv l zz=>by let(r,e,h):=zz;exists r,e,s9 _ _ h,WC h dW
    .let⟨l0,h0,rfl⟩:=YT.L h;rw[ZB9 (by rw[FR l0 h0,UG]),UG]
    .rw[hdr,FT,xE,QR,<-QR (sg t),i6,VD]
    .unfold rotN;split
     .grind
     .split
      .lia
      .split<;>lia
    .subst e0
     have:=zj rO
     rwa[show k+1=n by lia]at this
    .rw[xE];let Wk:sg t=1\/sg t=-1:=by
      unfold sg;split
      .show .inl rfl
      .show .inr rfl
     rcases hsg with e|e<;>rcases Wk with f|f<;>rw[e,f]
     .show .inl rfl
     .show .inr rfl
     .show .inr rfl
     .show .inl rfl
   .intro Kn hK;exists _,Z,_,_,Z,Z,(by change(0:Int)<2;decide),Z,_,Z,?_;rw[Zw];show Xc (λh1=>?_) (λh1=>?_)
    .exists _,Z,_,Z,hK _ _ {-sgn,Z,Z,?_};let e:sg t=-1:=by unfold sg;rw[if_neg J]
     rw[e];lia
    .show hK _ _ {sgn,Z,Z,?_};let e:sg t=1:=by unfold sg;rw[if_pos J]
     rw[e];grind
  .let OU:m=0:=J;exists _,Z,_,Z,_,_,Z,Z,{?_,hlb},?_
   .rcases hsg with e|e<;>rw[e]<;>show Nat.one_lt_two_pow oY
   .rw[dZ OU]at *;rw[FT]at q;show q H4 s4
inductive spZ4(K:Ad)(vs:List V)(H:Hp)(Q:VK)(_:XK):Prop
 |mk (a:Addr) (l:Ac) (i:Nat) (_:vs=[.ref a,.int i]) (_:SqL K H a (IL l)) (_:l.f<=1000) (_:∀r H',Same H H'->H r=none->H' r=some (.lst<|IL<|cutz l i)->Q ↑r H')
def dU(l:Ac)(z:Int):cutz (IL l) z=IL (cutz l z):=by
 unfold cutz;change(l.R V.int).M _++(l.R V.int).drop _=(l.M _++l.drop _).R V.int
 rw[YN,List.map_take,List.map_drop]
def dS(T:Txt K mg t):WZ P w base Xi T.qZ4 1 (spZ4 K):=by
 show T.qZ4.okI ["row","number"] D λXv A outer s H vs Q E hr h=>?_
 .let⟨a,l,i,rfl,hA,hl,q⟩:=h;exists _,(XI<|Zj<|Zy Lb (Zk (Si K) o3 T.n_list Boot.«list»<|XY (Lg (KQ K) (pv 0) Jl<|Mn<|pv 1) XX)<|Zk (Si K) o3 T.n_list Boot.«list»<|XY (Lg (KQ K) (pv 0) (Mn<|Zy Tf (pv 1) Zc) Jl) XX),?_;exists _,Z,_,Z,(i:Int),Z,a,_,Z,hA,λp1 Um=>?_;let u1:=XZ (o:=.lst<|WH (IL l) none<|some (i:Int)) Um
  exists p1,_,Z,.inl<|SqL.of XT,λp2 VL=>?_;let u2:=XZ (o:=.lst<|WH (IL l) none<|some (i:Int)) VL
  exists _,Z,_,Z,_,_,Z,Z,_,Z,a,_,Z,(u1.m u2).seq hA,λp3 LU=>?_;let u3:=XZ (o:=.lst<|WH (IL l) (some<|(i:Int)+1) none) LU
  exists p3,_,Z,.inl<|SqL.of XT,λp4 Nd=>?_;let u4:=XZ (o:=.lst<|WH (IL l) (some<|(i:Int)+1) none) Nd
  let c1:=BW (IL l) none (some (i:Int));let c2:=BW (IL l) (some<|(i:Int)+1) none
  rw[XG]at c1 c2;exists p2,p4,_,_,Z,Z,(u3.m u4) _ _ XT,XT,Pd J,λp5 FP=>?_;let u14:=u1.m (u2.m<|u3.m u4)
  show q p5 _ (u14.m<|XZ FP) (u14.free FP) ?_;rw[XT,jO J,dU]
inductive spZ5(K:Ad)(vs:List V)(H:Hp)(Q:VK)(_:XK):Prop
 |mk (a:Addr) (ys:List V) (L:Ab) (i:Nat) (_:vs=[.ref a,.int i]) (_:SqL K H a ys) (_:Bears (Me H) ys L) (_:L.f<=1000) (_:(∀l∈L,l.f<=1000)) (_:i<L.f) (_:∀r zs H',Same H H'->H' r=some (.lst zs)->Bears (Me H') zs ((cutz L i).R λl=>cutz l (i:Int))->Q ↑r H')
def ZN5{α:Type}{l:List α}{i j:Nat}{x:α}(hx:l[j]?=some x):cutz (l.M (j+1)) (i:Int)=cutz (l.M j) (i:Int)++(if j=i then [] else [x]):=by
 let hj:=(XF.L hx).1;let e:l.M (j+1)=l.M j++[x]:=by rw[YY,hx];rfl
 let hl:(l.M j).f=j:=by rw[Yf];lia
 let short:∀m:List α,m.f<=i->cutz m (i:Int)=m:=λm hm=>by unfold cutz;rw[YO,QP hm,YQ J,Ys]
 rw[e];cases c:j=i
 .subst c;rw[if_pos Z,Ys,short (l.M j) J];unfold cutz;rw[YO,ES J,YQ (by rw[Xt,hl];show XJ _),Ys,QP J]
 .rw[if_neg c];cases d:j<i
  .rw[short (l.M j++[x]) (by rwa[Xt,hl]),short (l.M j) J]
  .unfold cutz;rw[YO,ES J,OL J,YA]
def dR(T:Txt K mg t):WZ P w base Xi T.qZ5 2 (spZ5 K):=by
 show T.qZ5.okI ["table","number"] D λXv A outer s H vs Q E hr h=>?_
 .let⟨a,ys,L,i,rfl,hA,hB,hL,FO,hi,q⟩:=h;exists _,(XI<|Zj<|Tc Z (sc0:=Xd<|top 14) (N0:=["table","number"]) (N':=["at","row","number"]) (o:=2) (fr:=[1]) ⟨Z,D,D,D,Z,D⟩ (Mg K Z T.n_enumerate<|XY (pv 0) XX) (Er<|Pf oY<|Pf oY Es) (λ_ _ _ _=>(QI (n:=2) K Z<|Zr (Za 0)<|Zr (Za 1) QM)) (λ_ _ _ _=>(ZR<|Zf Rw (pv 0) (pv 2)<|Zs _)) λ_ _ _ _=>(Xp (dS T) hr T.qZ4 Zt<|XY (pv 1)<|XY (pv 2) XX)),?_;let PU:=hB.1
  show⟨_,Z,a,Z,{_,hA},sL (K:=K) (a:=a) (xs:=ys) (λj zs H2=>Same H H2/\j<=ys.f/\Bears (Me H2) zs ((cutz (L.M j) (i:Int)).R λl=>cutz l (i:Int))) {Same.refl _,Yj _,by rw[show(cutz (L.M 0) (i:Int)).R (λl=>cutz l (i:Int))=[] by unfold cutz;simp];show{Z,λi l e=>by simp at e}} (Zh J) (λj zs H2 hj ⟨e,RJ,ez⟩=>⟨e.seq hA,by
   rw[ez.1,Yc];show Yl (jN _ _) ?_;rw[Yf]
   lia⟩) ?_ ?_⟩
  .rintro j v zs H2 pt UL hj ⟨s2,Vf,hZ⟩ S Xx;let(l,hl,r,rfl,hr):=hB.at hj;let VT:=(XF.L hj).1
   let s3:=XZ (o:=.tup [.int j,.ref r]) UL;exists pt,_,Z,SqT.of XT,Z,_,_,Z,_,_,Z,Z,?_;let hZ3:Bears (Me<|upd H2 pt<|.tup [.int j,.ref r]) zs ((cutz (L.M j) (i:Int)).R λl=>cutz l (i:Int)):=hZ.imp λ_ _ zz=>by let(r',e,h):=zz;exists r',e,s3 _ _ h
   let dQ:=s2.m s3;generalize upd H2 pt (.tup [.int j,.ref r])=H3 at *;exists _,Z,_,Z,Z,_,Z,?_;rw[Zw];show WU (λe=>?_) (λe=>?_)
   .show Xx _ _ {dQ,VT,?_};rwa[ZN5 hl,if_pos J,Ys]
   .exists _,Z,_,Z,r,l,i,Z,SqL.of<|dQ _ _ hr,FO l<|Xm hl,λc H4 s4 _ hc=>Xx _ _ {dQ.m s4,VT,?_};rw[ZN5 hl,if_neg J,YN];show(hZ3.imp λ_ _ zz=>by let(r',e,h):=zz;exists r',e,s4 _ _ h).snoc ⟨c,Z,hc⟩
  .rintro zs H2 ⟨s2,_,hZ⟩ p hp;rw[PU,Yz]at hZ;show q p zs _ (s2.m<|XZ hp) XT (hZ.imp λ_ _ zz=>by let(r',e,h):=zz;exists r',e,XZ hp _ _ h)
inductive spZ6(C:Addr)(vs:List V)(H:Hp)(Q:VK)(_:XK):Prop
 |mk (w n ps k:_) (_:vs=[.ref w,.int k]) (_:WebAt C H w n ps) (_:Q (.bl<|decide<|0<=k/\k<ps⁻¹) H)
def xA(T:Txt K mg t):WZ P w base Xi T.qZ6 1 (spZ6 t.A_Web):=by
 show T.qZ6.okI ["web","number"] D λXv A outer s H vs Q E hr h=>?_
 .let⟨w,n,ps,k,rfl,⟨dx,tl,xs,h1,h2,h3⟩,q⟩:=h;exists _,(XI<|Zj<|Cm So Lj Zc (pv 1)<|Zi (Zn K) o3 T.n_len Boot.«len»<|XY (Zo K (pv 0) Z) XX),?_;exists _,Z,_,_,Z,Z,_,Z,?_;show BF (λhc=>?_) (λhc=>?_)
  .exists _,Z,w,_,dx,_,_,Z,h1,T.cl_Web,T.n_Web_ties,Mh _ _,tl,xs,Z,.inl<|SqL.of h2,_,_,Z,Z,?_;let hc:=Yu hc
   change Q (.bl<|decide<|k<xs⁻¹) H;rwa[h3.1,show decide (k<ps⁻¹)=decide (0<=k/\k<ps⁻¹) from by simp[hc]]
  .let hc:¬(0<=k):=λz=>hc (Yq z);change Q (.bl false) H
   rwa[show(false:Bool)=decide (0<=k/\k<ps⁻¹) from by simp;lia]
inductive spZ7(K:Ad)(vs:List V)(H:Hp)(Q:VK)(_:XK):Prop
 |mk (n a kd xs ps:_) (_:vs=[.int n,.ref a]) (_:SqK kd K H a xs) (_:PairsV H xs ps) (_:Zz n ps) (_:Q .non H)
def dP(T:Txt K mg t):WZ P w base Xi T.qZ7 1 (spZ7 K):=by
 show T.qZ7.okI ["places","ties","ends","end"] D λXv A outer s H vs Q E hr h=>?_
 .let⟨n,a,kd,xs,ps,rfl,hS,hp,⟨g1,g2,g3,g4⟩,q⟩:=h;show⟨_,(XO (Wl (Lq<|Ck So So Zc (pv 0)<|ZM9 (v:=V.int 14) Z T.g_MOST_PLACES.choose_spec {_,Z})
   (XI Lo)
   Zq)
   (XO (Wl (Zf TH (Zi (Zn K) o3 T.n_len Boot.«len»<|XY (pv 1) XX) (ZM9 (v:=V.int 30) Z T.g_MOST_TIES.choose_spec {_,Z})<|Zs _)
   (XI Lo)
   Zq)
   (XI (Tg Ws Z (Tb K<|pv 1) (Za 2)
   (XI (Tg Ws Z (Ue K<|pv 2) (Za 3)
   (XI (Wl (Lq<|Ck So Lj Zc (pv 3)<|pv 0)
   (XI Lo)
   Zq)))))))),?_⟩
  exists _,Z,_,_,Z,Z,_,Z,?_;show tD g1 ?_;exists _,_,Z,Z,_,Z,?_;show By g2 ?_;exists _,Z,a,xs,Z,hS.or,_,_,Z,Z,_,Z,?_;show GX (by rw[hp.1];lia) ?_;exists _,Z,a,Z,tu (k:=kd) (K:=K) (xs:=xs) (λi σ H2=>∃v v2,σ=[some (.int n),some<|.ref a,v,v2]/\H2=H) ⟨none,none,Z,Z⟩ (λi σ H2 _ zz=>by let(_,_,_,e):=zz;show e▸hS) ?_ ?_
  .rintro i x σ H2 hi ⟨v,v2,rfl,rfl⟩;let(p,NY,tt,rfl,ht):=hp.at hi;let(e1,e2,e3,e4):=g4 p (Xm NY);exists _,Z,tt,Z,{_,SqT.of ht},nW (K:=K) (a:=tt) (xs:=[.int p.1,.int p.2]) (λj σ H3=>∃v v2,σ=[some (.int n),some<|.ref a,v,v2]/\H3=H2) {_,_,Z,Z} (λj σ H3 _ zz=>by let(_,_,_,e):=zz;show e▸SqT.of ht) ?_ ?_
   .rintro j y σ H3 hj ⟨v,v2,rfl,rfl⟩;let hy:∃z:Int,y=.int z/\0<=z/\z<n:=by
     match j,hj with
     |0,hj=>exists p.1,(Ye hj).symm,e1,e2
     |1,hj=>exists p.2,(Ye hj).symm,e3,e4
    let(z,rfl,z1,z2):=hy;exists _,Z,_,_,Z,Z,_,Z,?_;show tD z1 ?_;exists _,Z,_,_,Z,Z,_,Z,?_;show By z2 ?_;exists _,_,Z,Z
   .rintro σ H3 ⟨v,v2,rfl,rfl⟩;exists _,_,Z,Z
  .rintro σ H2 ⟨v,v2,rfl,rfl⟩;show q
inductive sp_Web_init(K:Ad)(C:Addr)(vs:List V)(H:Hp)(Q:VK)(_:XK):Prop
 |mk (w dx n a kd xs ps:_) (_:vs=[.ref w,.int n,.ref a]) (_:H w=some (.ins C dx [])) (_:(∀o,SqK kd K (upd H w o) a xs)) (_:PairsV H xs ps) (_:Zz n ps) (_:∀H':Hp,WebAt C H' w n ps->(∀b o,H b=some o->b≠w->H' b=some o)->Q .non H')
def dO:FnScope ["self","places","ties"] ["self","places","ties"] (Xd sZ8):=RH D
def xw(T:Txt K mg t):FnOk P w K mg base Xi 2 t.aZ8 t.dZ8 ["self","places","ties"] (sp_Web_init K t.A_Web):=by
 show T.fZ8.ok dO (λvs H Q E h=>?_) (λXv A outer s H vs Q E hr h=>?_)
 .let⟨w,dx,n,a,kd,xs,ps,rfl,_⟩:=h;rfl
 .let⟨w,dx,n,a,kd,xs,ps,rfl,hw,hS,hp,g,q⟩:=h;let eH:upd H w (.ins t.A_Web dx [])=H:=by
   funext b
   cases hb:b=w
   .subst hb;rw[XT,hw]
   .rw[Zb hb]
  let Ej:SqK kd K H a xs:=by let z:=hS (.ins t.A_Web dx []);rwa[eH]at z
  show⟨_,(XO (QN<|Xp (dP T) hr T.qZ7 Zt<|XY (pv 1)<|XY (pv 2) XX)
   (XO (Li (pv 0) (pv 1) Z)
   (XI<|Li (pv 0) (Tc Z (sc0:=Xd sZ8) (N0:=["self","places","ties"]) (N':=["ends"]) (o:=1) (fr:=[]) ⟨Z,D,D,D,Z,D⟩ (Tb K<|pv 2) (Zp oY) (λ_ _ _ _=>(Za 0)) (λ_ _ _ _=>QL) λ_ _ _ _=>(Ug<|XY (ZE (ZM K) (pv 0) Zc λ_ _=>rfl)<|XY (ZE (ZM K) (pv 0) Zc λ_ _=>rfl) XX)) Z))),?_⟩
  exists _,Z,_,Z,n,a,kd,xs,ps,Z,Ej,hp,g,?_;exists _,Z,_,Z,w,_,dx,[],Z,hw,T.cl_Web,T.n_Web_places,(by change 0<1000;decide),?_;let Um:PairsV (upd H w<|.ins t.A_Web dx<|XN "places" (.int n) []) xs ps:={hp.1,λi p e=>by let(v,e1,tt,e2,e3):=hp.2 i p e;show{v,e1,tt,e2,by rwa[Zb (Ry e3 hw (λz=>nomatch z))]}}
  let sx:xs.f<sizeLine:=Zh (by rw[hp.1];have:=g.2.2.1;lia);show⟨_,Z,a,Z,Bu (k:=kd) (K:=K) (xs:=xs) (λi ys H2=>i<=xs.f/\ys.f=i/\Same (upd H w<|.ins t.A_Web dx<|XN "places" (.int n) []) H2/\PairsV H2 ys (ps.M i)) {Yj _,Z,Same.refl _,PairsV.nil} sx
   (λi ys H2 _ zz=>by let(_,hl,s2,_):=zz;exists (hS _).same s2,um hl) ?_ ?_⟩
  .rintro i x ys H2 hi ⟨h1,hl,s2,hy⟩ S Xx;let(p,NY,tt,rfl,ht):=Um.at hi;let FN:=s2 _ _ ht
   show nmY ?_;exists _,Z,tt,_,0,.int p.1,Z,Z,SqT.of FN,Z,_,Z,tt,_,1,.int p.2,Z,Z,SqT.of FN,Z,(by change 2<=sizeLine;decide),λq hq=>?_;let Vp:i<xs.f:=(XF.L hi).1
   show Xx _ _ {Vp,by rw[Xt,hl];rfl,Zv s2 hq,?_};rw[YY,NY];show(hy.same<|XZ hq).snoc ⟨q,Z,XT⟩
  .rintro ys H2 ⟨_,hl,s2,hy⟩ tl dN;let xu:=s2 w _ XT
   let nwt:w≠tl:=WC xu dN;exists _,Z,w,_,dx,_,Z,(by rwa[Zb nwt]),T.cl_Web,T.n_Web_ties,(by change 1<1000;decide),?_;show q _ {dx,tl,ys,XT,by rw[Zb (WX nwt),XT],?_} λb ob e hb=>?_
   .let e1:ps.M xs.f=ps:=QP (by rw[hp.1];show XJ _);rw[e1]at hy;exists hy.1,λi p e=>?_;let(v,e2,tt,e3,e4):=hy.2 i p e;exists v,e2,tt,e3,by rwa[Zb (Ry e4 xu (λz=>nomatch z)),Zb (WC e4 dN)]
   .let e2:=s2 b ob (by rwa[Zb hb]);rwa[Zb hb,Zb (WC e2 dN)]
inductive spZ9(K:Ad)(C:Addr)(vs:List V)(H:Hp)(Q:VK)(_:XK):Prop
 |mk (w a n ps kd T:_) (_:vs=[.ref w,.ref a]) (_:WebAt C H w n ps) (_:ps.f<=1000) (_:SqK kd K H a (IL T)) (_:∀CM,CM.E (·<·)->(∀z,z∈CM↔(0<=z/\z<ps⁻¹)/\z∉T)->∀r H',Same H H'->H' r=some (.tup<|IL CM)->Q ↑r H')
def dM(T:Txt K mg t):WZ P w base Xi T.qZ9 1 (spZ9 K t.A_Web):=by
 show T.qZ9.okI ["web","ties"] D λXv A outer s H vs Q E hr h=>?_
 .let⟨w,a,n,ps,kd,T',rfl,hW,hl,hA,q⟩:=h;exists _,(XI<|Zj<|Zk (ZQ K) o3 T.n_tuple Boot.«tuple»<|XY (Tc Z (sc0:=Xd<|top 21) (N0:=["web","ties"]) (N':=["tie","ties"]) (o:=1) (fr:=[1]) ⟨Z,D,D,D,Z,D⟩ (n4 Z T.n_range<|XY (Zi (Zn K) o3 T.n_len Boot.«len»<|XY (Zo K (pv 0) Z) XX) XX) (Zp oY) (λ_ _ _ _=>(Za 0)) (λ_ _ _ _=>(ZR<|Zf (ZP K) (pv 0) (pv 1) Z)) λ_ _ _ _=>(pv 0)) XX),?_;let(dx,tl,xs,h1,h2,h3):=hW;let OX:=h3.1
  exists _,Z,w,_,dx,_,_,Z,h1,T.cl_Web,T.n_Web_ties,Mh _ _,tl,xs,Z,.inl<|SqL.of h2,_,Z,J,J,Zy7 (lo:=0) (n:=(xs.f:Int).j) (λj ys H3=>H3=H/\∃CM:Ac,ys=IL CM/\CM.f<=j/\CM.E (·<·)/\∀z,z∈CM↔(0<=z/\z<(j:Int))/\z∉T') {Z,[],Z,XJ _,.nil,λz=>{λh=>(by cases h),λh=>(by lia)}} (Zh J) (λj ys H3 _ zz=>by let(_,CM,e,hl,_):=zz;rwa[e,XG]) ?_ ?_
  .rintro j ys H3 hj ⟨rfl,CM,rfl,hDl,hp,hm⟩ S Xx;let lt:∀z∈CM,z<(j:Int):=λz hz=>((hm z).L hz).1.2
   show nm ?_;exists _,Z,_,Z,a,_,Z,hA.or,Z,ZC _,_,Z,?_;rw[ZN,EF];show WU (λWq=>?_) (λWq=>?_)
   .show Xx _ _ {Z,CM,Z,J,hp,λz=>?_};rw[hm z];exists λh=>⟨J,h.2⟩,λh=>{{h.1.1,?_},h.2};cases e:z=(j:Int)
    .show absurd (e▸Wq) h.2
    .lia
   .exists _,Z,Xx _ _ {Z,CM++[(j:Int)],?_,by rw[Xt];show Nat.succ_le_succ hDl,?_,λz=>?_}
    .rw[ZO]
    .show YJ.U {hp,JE _ _,λa ha b hb=>by rw[XB.L hb];show lt a ha}
    .rw[Xz,XB,hm z];constructor
     .rintro(⟨f1,f2⟩|h)
      .exists J,f2
      .rw[h];exists J,Wq
     .rintro⟨f1,f2⟩;cases e:z=(j:Int)
      .show .inr e
      .show .inl ⟨J,f2⟩
  rintro ys H3 ⟨rfl,CM,rfl,hDl,hp,hm⟩ la Nc;rw[show(((xs.f:Int).j:Nat):Int)=ps⁻¹ by lia]at hm;exists la,_,Z,.inl {SqL.of XT,λtp OT=>?_};show q CM hp hm tp _ ((XZ Nc).m (XZ OT)) XT
inductive spZa(K:Ad)(vs:List V)(H:Hp)(Q:VK)(_:XK):Prop
 |mk (a kd ns z:_) (_:vs=[.ref a,.int z]) (_:SqK kd K H a (IL ns)) (_:ns.f<=1000) (_:∀r H',Same H H'->H r=none->H' r=some (.tup<|IL<|wo ns z)->Q ↑r H')
def xt(T:Txt K mg t):WZ P w base Xi T.qZa 1 (spZa K):=by
 show T.qZa.okI ["ties","left_out"] D λXv A outer s H vs Q E hr h=>?_
 .let⟨a,kd,ns,z,rfl,hS,hn,q⟩:=h;exists _,(XI<|Zj<|Zk (ZQ K) o3 T.n_tuple Boot.«tuple»<|XY (Tc Z (sc0:=Xd<|top 22) (N0:=["ties","left_out"]) (N':=["tie","left_out"]) (o:=1) (fr:=[1]) ⟨Z,D,D,D,Z,D⟩ (Tb K<|pv 0) (Zp oY) (λ_ _ _ _=>(Za 0)) (λ_ _ _ _=>(ZR<|Zf Rw (pv 0) (pv 1)<|Zs _)) λ_ _ _ _=>(pv 0)) XX),?_;show⟨_,Z,a,Z,Bu (k:=kd) (K:=K) (xs:=IL ns) (λi ys H2=>H2=H/\i<=ns.f/\ys=IL (wo (ns.M i) z)) {Z,Yj _,Z} (Zh<|by rw[XG];lia)
   (λi ys H2 hi zz=>by let(e,VH,ey):=zz;show{e▸hS,by rw[ey,XG];show Yl (sJ _ _)<|by rw[Yf];lia}) ?_ ?_⟩
  .rintro i x ys H2 hi ⟨rfl,Vp,rfl⟩ S Xx;let(y,rfl,hy):=ZT hi;let XC:i<ns.f:=(XF.L hy).1
   show nm ?_;exists _,Z,_,Z,Z,_,Z,?_;rw[Zw];show WU (λhe=>?_) (λhe=>?_)
   .show Xx _ _ {Z,XC,?_};rw[sI hy,if_neg (by simpa using he),Ys]
   .exists _,Z,Xx _ _ {Z,XC,?_};rw[sI hy,if_pos he,ZO]
  .rintro ys H2 ⟨rfl,_,rfl⟩ p hp;rw[XG,Yz];exists p,_,Z,.inl {SqL.of XT,λr hr=>?_};show q r _ (Zv (XZ hp) hr) ((XZ hp).free hr) XT
inductive spZb(K:Ad)(C:Addr)(vs:List V)(H:Hp)(Q:VK)(_:XK):Prop
 |mk (w a n ps kd ns:_) (_:vs=[.ref w,.ref a]) (_:WebAt C H w n ps) (_:SqK kd K H a (IL ns)) (_:∀b:Bool,(b=true↔IsSet ps.f ns)->Q (.bl b) H)
def xr(T:Txt K mg t):WZ P w base Xi T.qZb 2 (spZb K t.A_Web):=by
 show T.qZb.okI ["web","ties","last","tie"] D λXv A outer s H vs Q E hr h=>?_
 .let⟨w,a,n,ps,kd,ns,rfl,hW,hS,q⟩:=h;show⟨_,(XO (Ze 2<|Cv Ct Zc)
   (XO (Tg Ws Z (Tb K<|pv 1) (Za 3)
   (XO (Wl (PW.pt<|TL (Zf So (pv 3) (pv 2)<|Zs _)<|Ex<|Lq<|Jr<|Xp (xA T) hr T.qZ6 Zt<|XY (pv 0)<|XY (pv 3) XX)
   (XI<|Zj Lr)
   Zq)
   (XI<|Ze 2<|pv 3)))
   (XI<|Zj Lr))),?_⟩
  exists _,Z,?_;show⟨_,Z,a,Z,tu (k:=kd) (K:=K) (xs:=IL ns) (λi σ H2=>∃l v,σ=[some ↑w,some<|.ref a,some<|.int l,v]/\H2=H/\(i=0->l=-1)/\(i≠0->ns[i-1]?=some l)/\∀j z,j<i->ns[j]?=some z->0<=z/\z<ps⁻¹/\∀y,j≠0->ns[j-1]?=some y->y<z)
   {-1,none,Z,Z,λ_=>rfl,λz=>absurd Z z,λj z hj=>absurd hj<|Sy j} (λi σ H2 _ zz=>by let(_,_,_,e,_):=zz;show e▸hS) ?_ ?_⟩
  .rintro i x σ H2 hi ⟨l,v,rfl,rfl,Nw,SF,hp⟩;let(z,rfl,hz):=ZT hi;exists _,Z,_,Z,_,_,Z,Z,_,Z,?_;show Xc (λhc=>?_) (λhc=>?_)
   .-- tie<=last
    show UA ?_;show q false {λz=>(nomatch z),λhs=>?_};let(b1,b2,b3):=hs i z hz;cases h0:i=0
    .have:=Nw h0;lia
    .have:=b3 l h0 (SF h0);lia
   .exists _,Z,_,Z,w,n,ps,z,Z,hW,_,Z,?_;show WU (λUQ=>?_) (λUQ=>?_)
    .exists _,Z,?_;show{z,_,Z,Z,λe=>(nomatch e),λ_=>by simpa using hz,λj y hj ey=>?_};cases hji:j<i
     .show hp j y hji ey
     .let e:j=i:=J;subst e;rw[hz]at ey;cases ey;exists UQ.1,UQ.2,λy h0 ey=>?_;rw[SF h0]at ey;cases ey;lia
    .show q false {λz=>(nomatch z),λhs=>?_};let(b1,b2,b3):=hs i z hz;show absurd ⟨b1,b2⟩ UQ
  .rintro σ H2 ⟨l,v,rfl,rfl,Nw,SF,hp⟩;show q true {λ_ i z hz=>?_,λ_=>rfl};let hi:i<(IL ns).f:=by rw[XG];show(XF.L hz).1
   show hp i z hi hz
inductive spZc(K:Ad)(C:Addr)(vs:List V)(H:Hp)(Q:VK)(_:XK):Prop
 |mk (w a n ps kd ns:_) (_:vs=[.ref w,.ref a]) (_:WebAt C H w n ps) (_:SqK kd K H a (IL ns)) (_:IsSet ps.f ns) (_:∀r H',Same H H'->SqT K H' r (IL ns)->Q ↑r H')
def dJ(T:Txt K mg t):WZ P w base Xi T.qZc 3 (spZc K t.A_Web):=by
 show T.qZc.okI ["web","ties"] D λXv A outer s H vs Q E hr h=>?_
 .let⟨w,a,n,ps,kd,ns,rfl,hW,hS,hI,q⟩:=h;show⟨_,(XO (Wl (Lq<|Jr<|Xp (xr T) hr T.qZb Zt<|XY (pv 0)<|XY (pv 1) XX)
   (XI Lo)
   Zq)
   (XI<|Zj<|Zk (ZQ K) o3 T.n_tuple Boot.«tuple»<|XY (pv 1) XX)),?_⟩
  exists _,Z,_,Z,w,a,n,ps,kd,ns,Z,hW,hS,λb hb=>{_,Z,?_};show Bx (λ_=>?_) (λz=>?_)
  .exists _,Z,a,IL ns,Z,?_;cases kd with
   |false=>show .inl {hS,λl hl=>q l _ (XZ hl)<|SqT.of XT}
   |true=>show .inr {hS,q a H (Same.refl H) hS}
  .rw[hb.U hI]at z;cases z
inductive spZd(K:Ad)(C:Addr)(vs:List V)(H:Hp)(Q:VK)(_:XK):Prop
 |mk (w m a n ps M kd ns:_) (_:vs=[.ref w,.ref m,.ref a]) (_:WebAt C H w n ps) (_:Zz n ps) (_:H m=some (.lst<|IL M)) (_:M.f=n.j) (_:SqK kd K H a (IL ns)) (_:(∀z∈ns,0<=z/\z<ps⁻¹)) (_:∀m' H',Same H H'->(m'=m\/H m'=none)->H' m'=some (.lst<|IL<|Mb M<|XS ps ns)->Q ↑m' H')
def FL:FnScope ["web","marks","ties","tie","ends","low","high"] ["web","marks","ties"] (Xd (top 25)):=RH D
def xq(T:Txt K mg t):WZ P w base Xi T.qZd 1 (spZd K t.A_Web):=by
 show T.qZd.okI ["web","marks","ties","tie","ends","low","high"] D λXv A outer s H vs Q E hr h=>?_
 .let⟨w,m0,a,n,ps,M0,kd,ns,rfl,⟨dx,tl,xs,h1,h2,h3⟩,⟨g1,g2,g3,g4⟩,hm,hlM,hS,hI,q⟩:=h;show⟨_,(XO (Tg Ws Z (Tb K<|pv 2) (Za 3)
   (XO (Ze 4<|ZE (Zd K) (Zo K (pv 0) Z) (pv 3) λ_ _=>rfl)
   (XO (Th (i:=5) FL.nd Z (Or.inr Z)<|Zi (nS Z) o3 T.n_min Boot.«min»<|XY (ZE (Zd K) (pv 1) (ZE (ZM K) (pv 4) Zc λ_ _=>rfl) λ_ _=>rfl)<|XY (ZE (Zd K) (pv 1) (ZE (ZM K) (pv 4) Zc λ_ _=>rfl) λ_ _=>rfl) XX)
   (XO (Th (i:=6) FL.nd Z (Or.inr Z)<|Zi (ZW5 Z) o3 T.n_max Boot.«max»<|XY (ZE (Zd K) (pv 1) (ZE (ZM K) (pv 4) Zc λ_ _=>rfl) λ_ _=>rfl)<|XY (ZE (Zd K) (pv 1) (ZE (ZM K) (pv 4) Zc λ_ _=>rfl) λ_ _=>rfl) XX)
   (XI (Wl (Zf Lj (pv 5) (pv 6)<|Zs _)
   (XI<|Sk (i:=1) Z FL.nd Z Z (sc0:=Xd<|top 25) (N0:=["web","marks","ties","tie","ends","low","high"]) (N':=["mark","high","low"]) (o:=1) (fr:=[6,5]) ⟨Z,D,D,D,Z,D⟩ (ZD K<|pv 1) (Zp oY) (λ_ _ _ _=>(Za 0)) (λ_ _ _ _=>QL) λ_ _ _ _=>(t6 (Zf RV (pv 0) (pv 1)<|Zs _) (pv 2)<|pv 0))
   Zq))))))
   (XI<|Zj<|pv 1)),?_⟩
  show⟨_,Z,a,Z,tu (k:=kd) (K:=K) (a:=a) (xs:=IL ns) (λi σ H2=>∃m v3 v4 v5 v6,σ=[some ↑w,some<|.ref m,some<|.ref a,v3,v4,v5,v6]/\Same H H2/\(m=m0\/H m=none)/\H2 m=some (.lst<|IL<|Mb M0<|XS ps<|ns.M i))
   {m0,none,none,none,none,Z,Same.refl _,.inl Z,hm} (λi σ H2 _ zz=>by let(_,_,_,_,_,_,s2,_):=zz;show hS.same s2) ?_ ?_⟩
  .rintro i x σ H2 hi ⟨m,v3,v4,v5,v6,rfl,s2,OU,WG⟩;let(z,rfl,hz):=ZT hi;let(z0,z1):=hI z (Xm hz);obtain⟨p,hp⟩:∃p,ps[z.j]?=some p:={_,Xr J};let(v,hv,tt,rfl,VS):=h3.2 z.j p hp;let(e1,e2,e3,e4):=g4 p (Xm hp);let ed:ps.S z.j (0,0)=p:=Wa hp
   exists _,Z,w,_,dx,_,_,Z,s2 _ _ h1,T.cl_Web,T.n_Web_ties,Mh _ _,_,Z,tl,xs,z,.ref tt,Z,Z,SqL.of<|s2 _ _ h2,ZA (n:=z.j) J hv,?_;let FN:=s2 _ _ VS
   let hl:(Mb M0<|XS ps<|ns.M i).f=n.j:=(kJ _ _).m hlM;generalize hM:Mb M0 (XS ps<|ns.M i)=M at *;let ha:M[p.1.j]?=some (mk M p.1.j):=RP J
   let hb:M[p.2.j]?=some (mk M p.2.j):=RP J;let iA:Wi (IL M) p.1=some (.int<|mk M p.1.j):=ZA (n:=p.1.j) J (by rw[Yv,ha];rfl)
   let iB:Wi (IL M) p.2=some (.int<|mk M p.2.j):=ZA (n:=p.2.j) J (by rw[Yv,hb];rfl);let t0:Wi ([.int p.1,.int p.2]:List V) 0=some (.int p.1):=rfl
   let t1:Wi ([.int p.1,.int p.2]:List V) 1=some (.int p.2):=rfl;exists _,rfl,_,rfl,tt,_,0,_,rfl,rfl,SqT.of FN,t0,m,_,p.1,_,rfl,rfl,SqL.of WG,iA,_,rfl,_,rfl,tt,_,1,_,rfl,rfl,SqT.of FN,t1,m,_,p.2,_,rfl,rfl,SqL.of WG,iB,_,_,rfl,?_;exists _,rfl,_,rfl,tt,_,0,_,rfl,rfl,SqT.of FN,t0,m,_,p.1,_,rfl,rfl,SqL.of WG,iA,_,rfl,_,rfl,tt,_,1,_,rfl,rfl,SqT.of FN,t1,m,_,p.2,_,rfl,rfl,SqL.of WG,iB,_,_,rfl,?_;let eL:(if mk M p.2.j<mk M p.1.j then mk M p.2.j else mk M p.1.j)=min (mk M p.1.j) (mk M p.2.j):=by rw[Int.min_def];split<;>split<;>lia
   let eH:(if mk M p.2.j>mk M p.1.j then mk M p.2.j else mk M p.1.j)=max (mk M p.1.j) (mk M p.2.j):=by rw[Int.max_def];split<;>split<;>lia
   exists _,Z,_,Z,_,_,Z,Z,_,Z,?_;rw[eL,eH];let step:Mb M0 (XS ps<|ns.M<|i+1)=pm M p.1.j p.2.j:=by rw[Zr6 hz,Be,hM,ed]
   show Xc (λhc=>?_) (λhc=>?_)
   .show⟨_,Z,m,Z,{_,SqL.of WG},VY (K:=K) (a:=m) (xs:=IL M) (λj ys H3=>H3=H2/\j<=M.f/\ys=IL ((M.M j).R λk=>if k=max (mk M p.1.j) (mk M p.2.j) then min (mk M p.1.j) (mk M p.2.j) else k)) {Z,Yj _,Z} (Zh<|by rw[XG];lia)
     (λj ys H3 hj zz=>by let(e,Vf,ey):=zz;show{e▸SqL.of WG,by rw[ey,XG,Yc,Yf];lia}) ?_ ?_⟩
    .rintro j y ys H3 hj ⟨rfl,Vf,rfl⟩ S Xx;let(k,rfl,hk):=ZT hj;show nmY ?_;exists _,Z,_,Z,Z,_,Z,?_;let VT:j<M.f:=(XF.L hk).1
     let app:∀r:Int,r=(if k=max (mk M p.1.j) (mk M p.2.j) then min (mk M p.1.j) (mk M p.2.j) else k)->
       IL ((M.M j).R λk=>if k=max (mk M p.1.j) (mk M p.2.j) then min (mk M p.1.j) (mk M p.2.j) else k)++[.int r]=IL ((M.M<|j+1).R λk=>if k=max (mk M p.1.j) (mk M p.2.j) then min (mk M p.1.j) (mk M p.2.j) else k):=by intro r er;rw[YY,hk,er];simp
     show Xc (λhe=>?_) (λhe=>?_)
     .exists _,Z,Xx _ _ {Z,VT,app _ ?_};rw[if_pos (V.int.inj he)]
     .exists _,Z,Xx _ _ {Z,VT,app _ ?_};rw[if_neg λz=>he (YS V.int z)]
    .rintro ys H3 ⟨rfl,_,rfl⟩ p' FK;exists p',_,_,_,_,Z,Zv s2 FK,.inr<|s2.free FK,?_;rw[XT,step,XG,Yz];unfold pm;rw[if_pos hc]
   .exists m,_,_,_,_,Z,s2,OU,?_;rw[WG,step];unfold pm;rw[if_neg hc]
  .rintro σ H2 ⟨m,v3,v4,v5,v6,rfl,s2,OU,WG⟩;rw[XG,Yz]at WG;exists _,Z,q m H2 s2 OU WG
inductive spZe(K:Ad)(C:Addr)(vs:List V)(H:Hp)(Q:VK)(_:XK):Prop
 |mk (w a n ps ns:_) (_:vs=[.ref w,.ref a]) (_:WebAt C H w n ps) (_:Zz n ps) (_:SqT K H a (IL ns)) (_:(∀z∈ns,0<=z/\z<ps⁻¹)) (_:∀m H',Same H H'->H m=none->H' m=some (.lst<|IL<|Xy n.j<|XS ps ns)->Q ↑m H')
def Pz(T:Txt K mg t):WZ P w base Xi T.qZe 2 (spZe K t.A_Web):=by
 show T.qZe.okI ["web","ties"] D λXv A outer s H vs Q E hr h=>?_
 .let⟨w,a,n,ps,ns,rfl,hW,hG,hS,hI,q⟩:=h;exists _,(XI<|Zj<|Xp (xq T) hr T.qZd Zt<|XY (pv 0)<|XY (Zk (l9 Z) o3 T.n_list Boot.«list»<|XY (Zk me o3 T.n_range Boot.«range»<|XY (Zo K (pv 0) Z) XX) XX)<|XY (pv 1) XX),?_;let(dx,tl,xs,h1,h2,h3):=id hW;let(g1,g2,g3,g4):=id hG;exists _,Z,_,Z,w,_,dx,_,_,Z,h1,T.cl_Web,T.n_Web_places,GV _ _,n,Z,λr UK=>{r,0,n,Z,XT,⟨oY,oY,J,oW⟩,J,λm hm=>?_};let sm:Same H (upd (upd H r<|.rng 0 n) m<|.lst<|(Vg 0 n).R V.int):=Zv (XZ UK) hm
  exists _,Z,w,m,a,n,ps,(List.range n.j).R λ(i:Nat)=>(i:Int),true,ns,Z,hW.same sm,hG,?_,B,Jc sm hS,hI,λm' H' s' hf IZ=>?_
  .rw[XT,lG]
  .show q m' H' (sm.m s') ?_ IZ;rcases hf with rfl|hf
   .show(XZ UK).free hm
   .show sm.free hf
inductive spZf(K:Ad)(C:Addr)(vs:List V)(H:Hp)(Q:VK)(_:XK):Prop
 |mk (w a n ps kd ns:_) (_:vs=[.ref w,.ref a]) (_:WebAt C H w n ps) (_:Zz n ps) (_:SqK kd K H a (IL ns)) (_:IsSet ps.f ns) (_:∀r as H',Same H H'->H r=none->H' r=some (.lst<|as.R V.ref)->r∉as->GrpAt H H' (GU<|Xy n.j<|XS ps ns) as->Q ↑r H')
def dI(T:Txt K mg t):WZ P w base Xi T.qZf 4 (spZf K t.A_Web):=by
 show T.qZf.okI ["web","ties","pieces","place","mark"] D λXv A outer s H vs Q E hr h=>?_
 .let⟨w,a,n,ps,kd,ns,rfl,hW,hG,hS,hI,q⟩:=h;show⟨_,(XO (Ze 2 Za7)
   (XO (Tg Ws Z (Mg K Z T.n_enumerate<|XY (Xp (Pz T) hr T.qZe Zt<|XY (pv 0)<|XY (Xp (dJ T) hr T.qZc Zt<|XY (pv 0)<|XY (pv 1) XX) XX) XX) (QI (n:=2) K Z<|Zr (Za 3)<|Zr (Za 4) QM)
   (XI<|QN<|Pc K US Dt Du BJ (Pc K qg aN PySem.F.type_dict_setdefault Ze4 (pv 2)<|XY (pv 4)<|XY (UR XX) XX)<|XY (pv 3) XX))
   (XI<|Zj<|Zk (ZV3 Z) o3 T.n_list Boot.«list»<|XY (lK K qg aw PySem.F.type_dict_values ZQ8<|pv 2) XX))),?_⟩
  intro d hd;let s0:Same H (upd H d<|.dK []):=XZ hd
  exists _,Z,_,Z,_,Z,w,a,n,ps,kd,ns,Z,hW.same s0,hS.same s0,hI,λr H1 s1 UJ=>?_;exists w,r,n,ps,ns,Z,(hW.same s0).same s1,hG,UJ,hI.all,λm H2 s2 Tv WG=>?_;let Py:Same H H2:=(s0.m s1).m s2
  let hd2:H2 d=some (.dK []):=s2 _ _ (s1 _ _ XT);let hl:(Xy n.j<|XS ps ns).f=n.j:=ZH _ _
  generalize hM:Xy n.j (XS ps ns)=M at *;let OU:H m=none:=(s0.m s1).free Tv
  let n14:M.f<=14:=by have:=hG.2.1;lia
  exists m,Z,{_,SqL.of WG},?_;show Em (K:=K) (a:=m) (xs:=IL M) (λi σ H3=>∃as v3 v4,σ=[some ↑w,some<|.ref a,some<|.ref d,v3,v4]/\i<=M.f/\Same H H3/\H3 m=some (.lst<|IL M)/\H3 d=some (.dK<|Ud (Xj M i) as)/\d∉as/\m∉as/\GrpAt H H3 (Xj M i) as/\as.f<=i)
   {[],none,none,Z,Yj _,Py,WG,hd2,B,B,{Z,List.nodup_nil,λi kv a e=>by simp[Xj]at e,λa ha=>by simp at ha},XJ _} (λi σ H3 _ zz=>by let(_,_,_,_,_,_,h,_):=zz;show SqL.of h) ?_ ?_
  .rintro i x σ H3 pt UL hi ⟨as,v3,v4,rfl,Vp,s3,xp,SE,qS,qR,gA,hal⟩;let(k,rfl,hk):=ZT hi;let Up:mk M i=k:=Wa hk
   let XC:i<M.f:=(XF.L hk).1;let s4:Same H3 (upd H3 pt<|.tup [.int i,.int k]):=XZ UL
   exists pt,_,Z,SqT.of XT,Z,_,_,Z,_,_,Z,Z,?_;exists _,Z,.inr<|.inr<|.inl {Z,.inl {_,s4 _ _ SE}},_,Z,(by change 0<=sizeLine;show Yj _),λl Nw=>?_;let s5:Same H3 (upd (upd H3 pt<|.tup [.int i,.int k]) l<|.lst []):=Zv s4 Nw
   let hd5:=s5 _ _ SE;let Ik:H3 l=none:=s4.free Nw
   let dH:d≠l:=WC SE Ik;let gl:=gA.len
   exists d,Ud (Xj M i) as,Sum.inl k,.ref l,Z,Z,hd5,?_,λv hv=>?_,λhv=>?_
   .rw[ZI7 gl];show Zh J
   .-- the mark has XW list
    rcases lE (g:=Xj M i) (as:=as) (k:=k) gl with ⟨h1,_⟩|⟨j,kv,b,e1,e2,e3,e4⟩
    .rw[h1]at hv;cases hv
    .rw[e4]at hv;cases hv;let xo:=s5 _ _ (gA.at_ j kv b e1 e2)
     let qU:k∈(Xj M i).R (·.1):=YT.U {kv,Xm e1,e3};let hlen:kv.2.f<=i:=lI (Xm e1)
     exists .inl {Z,_,SqL.of xo},_,Z,b,_,.int i,Z,Z,xo,?_,?_
     .rw[XG];show Zh J
     .let FJ:b∈as:=Xm e2;let Ru:d≠b:=λz=>qS (z▸FJ)
      let hmb:m≠b:=λz=>qR (z▸FJ);let Km:=gA.new b FJ
      let Ij:(Xj M<|i+1).R (·.1)=(Xj M i).R (·.1):=by change(QH (Xj M i) (i:Int)<|mk M i).R (·.1)=_;rw[sV,Up,if_pos qU]
      exists as,_,_,Z,XC,ZL Km<|s3.m s5,by rw[Zb hmb];show s5 _ _ xp,by rw[Zb Ru,hd5,ZJ7 Ij],qS,qR,{?_,gA.nd,?_,gA.new},J
      .have:=YS List.f Ij
       rw[Yc,Yc]at this;lia
      .intro i2 qQ a2 f1 f2;let f1:(QH (Xj M i) (i:Int)<|mk M i)[i2]?=some qQ:=f1
       unfold QH at f1;rw[Up,if_pos qU,Yv]at f1;cases f3:(Xj M i)[i2]? with
       |none=>rw[f3]at f1;cases f1
       |some DI=>
        rw[f3]at f1;let f1:(if DI.1=k then (DI.1,DI.2++[(i:Int)]) else DI)=qQ:=Ye f1
        cases hj:i2=j
        .subst hj;rw[e1]at f3;cases f3;rw[e2]at f2;cases f2;rw[if_pos e3]at f1;subst f1;rw[XT];simp
        .let UU:a2≠b:=λz=>by subst z;show hj (En gA.nd f2 e2)
         let IP:¬DI.1=k:=λz=>hj (En (GS M i) (by rw[Yv,f3];show YS some z)<|by rw[Yv,e1];show YS some e3);rw[if_neg IP]at f1;subst f1;rw[Zb UU];show s5 _ _ (gA.at_ i2 DI a2 f3 f2)
   .-- a new list
    rcases lE (g:=Xj M i) (as:=as) (k:=k) gl with ⟨h1,Eb⟩|⟨j,kv,b,e1,e2,e3,e4⟩
    .let xn:(upd (upd (upd H3 pt<|.tup [.int i,.int k]) l<|.lst []) d<|.dK<|Ud (Xj M i) as++[(Sum.inl k,.ref l)]) l=some (.lst []):=by rw[Zb (WX dH),XT]
     exists .inl {Z,_,SqL.of xn},_,Z,l,[],.int i,Z,Z,xn,(by change 0<sizeLine;decide),?_;let xm:H l=none:=s3.free Ik
     let dG:l∉as:=λz=>by let(_,e):=gA.mem z;rw[Ik]at e;cases e
     let Md:m≠l:=WC xp Ik;let hmd:m≠d:=Ry xp SE (λz=>nomatch z)
     let dF:Xj M (i+1)=Xj M i++[(k,[(i:Int)])]:=by change QH (Xj M i) (i:Int) (mk M i)=_;unfold QH;rw[Up,if_neg Eb]
     let hdH:H d=none:=hd;exists as++[l],_,_,Z,XC,ZL xm<|ZL hdH<|s3.m s5,by rw[Zb Md,Zb hmd];show s5 _ _ xp,?_,?_,?_,{?_,?_,?_,?_},?_
     .rw[Zb dH,XT,dF,ZH7 gl]
     .rw[Xz,XB];rintro(z|z)
      .show qS z
      .show dH z
     .rw[Xz,XB];rintro(z|z)
      .show qR z
      .show Md z
     .rw[dF,Xt,Xt,gl];rfl
     .show ZQ9 gA.nd dG
     .intro i2 qQ a2 f1 f2;rw[dF]at f1;cases VH:i2<(Xj M i).f
      .rw[Yp VH]at f1;rw[Yp J]at f2;let e:=gA.at_ i2 qQ a2 f1 f2
       let n1:a2≠l:=WC e Ik;let n2:a2≠d:=Ry e SE (λz=>nomatch z)
       rw[Zb n1,Zb n2];show s5 _ _ e
      .let h2:i2=(Xj M i).f:=by
        have:=(XF.L f1).1
        rw[Xt,Yw]at this;lia
       subst h2;rw[Ym (XJ _),Ms]at f1;rw[Ym J,gl,Ms]at f2;cases f1;cases f2;rw[XT];rfl
     .intro a2 ha2;rcases Xz.L ha2 with z|z
      .show gA.new a2 z
      .rw[XB.L z];show xm
     .rw[Xt,Yw];lia
    .rw[e4]at hv;cases hv
  .rintro σ H3 ⟨as,v3,v4,rfl,Vp,s3,xp,SE,qS,qR,gA,hal⟩;rw[XG]at SE gA;exists _,Z,.inr<|.inr<|.inl {Z,.inl {_,SE}},d,_,Z,Z,SE,λp hp=>?_;let s6:Same H3 (upd H3 p<|Tx p d):=XZ hp
   exists p,d,_,Z,XT,s6 _ _ SE,λr UK=>?_;let s7:Same H3 (upd (upd H3 p<|Tx p d) r (.lst ((Ud (Xj M M.f) as).R (·.2)))):=Zv s6 UK
   show q r as _ (s3.m s7) ((s3.m s6).free UK) (by rw[XT,Ja gA.len]) (λz=>?_) (gA.same s7);let(_,e):=gA.mem z;rw[s6.free UK]at e;cases e
inductive spZg(K:Ad)(C:Addr)(vs:List V)(H:Hp)(Q:VK)(_:XK):Prop
 |mk (w a n ps kd ns:_) (_:vs=[.ref w,.ref a]) (_:WebAt C H w n ps) (_:Zz n ps) (_:SqK kd K H a (IL ns)) (_:IsSet ps.f ns) (_:∀b H',Same H H'->(b=true↔(GU<|Xy n.j<|XS ps ns).f=1)->Q (.bl b) H')
def dE(T:Txt K mg t):WZ P w base Xi T.qZg 5 (spZg K t.A_Web):=by
 show T.qZg.okI ["web","ties"] D λXv A outer s H vs Q E hr h=>?_
 .let⟨w,a,n,ps,kd,ns,rfl,hW,hG,hS,hI,q⟩:=h;exists _,(XI<|Zj<|Jp RV (Zi (Zn K) o3 T.n_len Boot.«len»<|XY (Xp (dI T) hr T.qZf Zt<|XY (pv 0)<|XY (pv 1) XX) XX) Zc<|Zs _),?_;exists _,Z,_,Z,w,a,n,ps,kd,ns,Z,hW,hG,hS,hI,λr as H' s1 UK UJ hnr gA=>?_;exists r,_,Z,.inl<|SqL.of UJ,Z,?_;rw[Yc,gA.len,Zw];show q _ H' s1 ?_;rw[YL];lia
inductive spZh(K:Ad)(C:Addr)(vs:List V)(H:Hp)(Q:VK)(_:XK):Prop
 |mk (w b n ps ws:_) (_:vs=[.ref w,.ref b]) (_:WebAt C H w n ps) (_:Zz n ps) (_:SqL K H b (IL ws)) (_:ws.f=ps.f) (_:∀r ys L H',Same H H'->H r=none->TabAt H r n.j H' ys L->(∀i j,i<n.j->j<n.j->fnL L i j=lapE (UT ps ws) i j)->Q ↑r H')
def xk(x:V)(k:Nat):(List.replicate k [x]).flatten=List.replicate k x:=by
 induction k with
 |zero=>rfl
 |succ k ih=>rw[HV,LH,ih,HV];rfl
def dD(n i j:Nat):fnL (List.replicate n (List.replicate n 0)) i j=0:=by
 unfold fnL;cases h:(List.replicate n<|List.replicate n (0:Int))[i]? with
 |none=>
  let e:(List.replicate n<|List.replicate n (0:Int)).S i []=[]:=by rw[Wv,h];rfl
  rw[e];rfl
 |some l=>
  let e:(List.replicate n<|List.replicate n (0:Int)).S i []=l:=by rw[Wv,h];rfl
  rw[e,vc<|Xm h,Wv,va];split<;>rfl
def TabAt.get{H0 H:Hp}{r:Addr}{n:Nat}{ys:List V}{L:Ab}(h:TabAt H0 r n H ys L){i j:Nat}(hi:i<n)(hj:j<n):∃A l x,ys[i]?=some ↑A/\H A=some (.lst (IL l))/\l[j]?=some x/\l.f=n/\x=fnL L i j/\H0 A=none/\∀y:Int,∃L':Ab,TabAt H0 r n (upd H A (.lst ((IL l).set j (.int y)))) ys L'/\∀a b,fnL L' a b=if a=i/\b=j then y else fnL L a b:=by
 let(A,l,y1,z1,hA,hl,hn,hr):=h.at hi;obtain⟨x,hx⟩:∃x,l[j]?=some x:={_,Xr J};exists A,l,x,y1,hA,hx,hl,(Ua z1 hx).symm,hn,λy=>{L.set i<|l.set j y,?_,iH z1 J};let e:(IL l).set j (.int y)=IL (l.set j y):=(List.map_set ..).symm
 rw[e];show h.put y1 z1 hr (by rwa[LF])
def JW{xs:List V}{i:Int}(h0:0<=i)(h1:i<xs⁻¹):Lf xs.f i=some i.j:=by unfold Lf;rw[if_pos h0,if_pos oW]
def dC:FnScope ["web","weights","table","ends","weight","one","other"] ["web","weights"] (Xd (top 30)):=RH D
def dB(T:Txt K mg t):WZ P w base Xi T.qZh 1 (spZh K t.A_Web):=by
 show T.qZh.okI ["web","weights","table","ends","weight","one","other"] D λXv A outer s H vs Q E hr h=>?_
 .let⟨w,b,n,ps,ws,rfl,hW,hG,hS,KZ,q⟩:=h;show⟨_,(XO (Sk (i:=2) Z dC.nd Z Z (sc0:=Xd<|top 30) (N0:=["web","weights","table","ends","weight","one","other"]) (N':=["place","web"]) (o:=1) (fr:=[0]) ⟨Z,D,D,D,Z,D⟩ (n4 Z T.n_range<|XY (Zo K (pv 0) Z) XX) (Zp oY) (λ_ _ _ _=>(Za 0)) (λ_ _ _ _=>QL) λ_ _ _ _=>(Zy Jj (UR<|XY Zc XX)<|Zo K (pv 1) Z))
   (XO (Tg Ws Z (zv K Z T.n_zip<|XY (Zo K (pv 0) Z)<|XY (pv 1) XX) (QI (n:=2) K Z<|Zr (Za 3)<|Zr (Za 4) QM)
   (XO (Ze 5<|ZE (ZM K) (pv 3) Zc λ_ _=>rfl)
   (XO (Ze 6<|ZE (ZM K) (pv 3) Zc λ_ _=>rfl)
   (XI (Wl (Zf Rw (pv 5) (pv 6)<|Zs _)
   (XO (tW (ZE (Zd K) (pv 2) (pv 5) λ_ _=>rfl) (pv 5) (rR K) (pv 4) CD Jk)
   (XO (tW (ZE (Zd K) (pv 2) (pv 6) λ_ _=>rfl) (pv 6) (rR K) (pv 4) CD Jk)
   (XO (tW (ZE (Zd K) (pv 2) (pv 5) λ_ _=>rfl) (pv 6) (rR K) (pv 4) CC Jk)
   (XI<|tW (ZE (Zd K) (pv 2) (pv 6) λ_ _=>rfl) (pv 5) (rR K) (pv 4) CC Jk))))
   Zq)))))
   (XI<|Zj<|pv 2))),?_⟩
  let(dx,tl,xs,h1,h2,h3):=id hW;let hl:=h3.1
  let(g1,g2,g3,g4):=id hG;let one:1<=sizeLine:=oY
  exists _,Z,w,_,dx,_,_,Z,h1,T.cl_Web,T.n_Web_places,GV _ _,n,Z,J,J,Zy7 (lo:=0) (n:=n.j) (λi zs H2=>Same H H2/\Bears (Me H2) zs (List.replicate i<|List.replicate n.j 0)/\zs.Nodup/\∀A,V.ref A∈zs->H A=none/\∃o,H2 A=some o) {Same.refl _,{Z,λi l e=>by simp at e},.nil,λA h=>(by cases h)} (Zh J) (λi zs H2 _ zz=>by let(_,e,_):=zz;rw[e.1,YX];show XJ _) ?_ ?_
  .rintro i zs H2 hi ⟨s2,hZ,Uo,Qc⟩ S Xx;show nm ?_;exists one,λp1 Um=>?_;let u1:=XZ (o:=.lst [.int 0]) Um
   exists _,Z,w,_,dx,_,_,Z,u1 _ _<|s2 _ _ h1,T.cl_Web,T.n_Web_places,GV _ _,p1,n,_,Z,Z,XT,J,J,Pd (by change 1*n.j<=_;lia),λp2 VL=>?_;let e0:(List.replicate n.j [V.int 0]).flatten=IL (List.replicate n.j 0):=by rw[xk];change _=(List.replicate n.j 0).R V.int;rw[List.map_replicate]
   rw[e0];let u2:=u1.m (XZ (o:=.lst<|IL<|List.replicate n.j 0) VL)
   let xj:H2 p2=none:=(XZ Um).free VL;show Xx _ _ {s2.m u2,?_,?_,λA hA=>?_}
   .rw[List.replicate_succ'];show(hZ.imp λ_ _ zz=>by let(r',e,h):=zz;exists r',e,u2 _ _ h).snoc ⟨p2,Z,XT⟩
   .show Wt.U {Uo,B,λx hx y hy e=>?_};rw[XB.L hy]at e;let(_,o,ho):=Qc p2 (e▸hx);rw[xj]at ho;cases ho
   .rcases Xz.L hA with e|e
    .let⟨a1,o,a2⟩:=Qc A e;exists a1,o,u2 _ _ a2
    .let e':A=p2:=by simpa using e
     rw[e'];exists s2.free xj,_,XT
  rintro zs H2 ⟨s2,hZ,Uo,Qc⟩ tA Px;let s3:=s2.m (XZ (o:=.lst zs) Px)
  let FI:H tA=none:=s2.free Px;let hT:TabAt H tA n.j (upd H2 tA<|.lst zs) zs (List.replicate n.j<|List.replicate n.j 0):={XT,hZ.imp λ_ _ zz=>by let(r',e,h):=zz;show{r',e,XZ Px _ _ h,WC h Px},YX,λl h=>by rw[vc h];show YX,Uo,λA h=>(Qc A h).1}
  let hzero:∀i j,fnL (List.replicate n.j<|List.replicate n.j 0) i j=0:=λi j=>by
   have:=dD n.j i j
   show this
  generalize upd H2 tA (.lst zs)=H3 at *;generalize List.replicate n.j (List.replicate n.j (0:Int))=L0 at *;exists _,Z,w,_,dx,_,_,Z,s3 _ _ h1,T.cl_Web,T.n_Web_ties,Mh _ _,_,Z,tl,b,Z,{_,_,SqL.of<|s3 _ _ h2,s3.seq hS},iI (K:=K) (a:=tl) (b:=b) (xs:=xs) (ys:=IL ws) (by rw[XG];lia) (λi σ H4=>∃L v3 v4 v5 v6,σ=[some ↑w,some<|.ref b,some<|.ref tA,v3,v4,v5,v6]/\Same H H4/\TabAt H tA n.j H4 zs L/\∀x y,x<n.j->y<n.j->fnL L x y=lapE (UT (ps.M i)<|ws.M i) x y) {L0,none,none,none,none,Z,s3,hT,λx y _ _=>hzero x y} (λi σ H4 _ zz=>by let(_,_,_,_,_,_,e,_):=zz;exists SqL.of<|e _ _ h2,e.seq hS) ?_ ?_
  .rintro i v v' σ H4 pt UL hi Ta ⟨L,v3,v4,v5,v6,rfl,s4,dz,Nb⟩;let(p,hp,tt,rfl,VS):=h3.at hi;let(wt,rfl,hwt):=ZT Ta;let(e1,e2,e3,e4):=g4 p (Xm hp);let u1:=XZ (o:=.tup [.ref tt,.int wt]) UL
   exists pt,_,Z,SqT.of XT,Z,_,_,Z,_,_,Z,Z,?_;let dy:=dz.same u1
   let s5:=s4.m u1;generalize upd H4 pt (.tup [.ref tt,.int wt])=H5 at *;exists _,Z,tt,_,0,.int p.1,Z,Z,SqT.of<|s5 _ _ VS,Z,?_;exists _,Z,tt,_,1,.int p.2,Z,Z,SqT.of<|s5 _ _ VS,Z,?_;exists _,Z,_,Z,Z,_,Z,?_;rw[Zw];let esn:=iG hp hwt
   show WU (λheq=>?_) (λXM=>?_)
   .exists L,_,_,_,_,Z,s5,dy,λx y hx hy=>?_;rw[esn,Zp5 (by change p.1.j=p.2.j;rw[heq])];show Nb x y hx hy
   let NZ:p.1.j≠p.2.j:=λe=>XM J;let(A1,l1,x1,y1,QD,hx1,SF,jf,DZ,dw):=dy.get (i:=p.1.j) (j:=p.1.j) J J;exists _,Z,_,Z,tA,zs,p.1,.ref A1,Z,Z,SqL.of dy.tab,ZA (n:=p.1.j) J y1,_,Z,A1,_,p.1,.int x1,Z,Z,SqL.of QD,J,WE hx1,_,Z,_,_,Z,Z,A1,_,p.1,p.1.j,Z,Z,QD,JW J (by rw[XG];lia),?_;let(L1,hT6,Na):=dw (x1+wt);let s6:Same H (upd H5 A1<|.lst<|(IL l1).set p.1.j (.int<|x1+wt)):=ZL DZ s5
   generalize upd H5 A1 (.lst<|(IL l1).set p.1.j (.int<|x1+wt))=H6 at *;rw[jf]at Na;let(A2,l2,x2,y2,SJ,dv,Vj,ex2,Om,put2):=hT6.get (i:=p.2.j) (j:=p.2.j) J J;exists _,Z,_,Z,tA,zs,p.2,.ref A2,Z,Z,SqL.of hT6.tab,ZA (n:=p.2.j) J y2,_,Z,A2,_,p.2,.int x2,Z,Z,SqL.of SJ,J,WE dv,_,Z,_,_,Z,Z,A2,_,p.2,p.2.j,Z,Z,SJ,JW J (by rw[XG];lia),?_;let(L2,hT7,JV):=put2 (x2+wt);let s7:Same H (upd H6 A2<|.lst<|(IL l2).set p.2.j (.int<|x2+wt)):=ZL Om s6
   generalize upd H6 A2 (.lst<|(IL l2).set p.2.j (.int<|x2+wt))=H7 at *;rw[ex2]at JV;let(A3,l3,x3,y3,Mc,hx3,Ik,ex3,hn3,put3):=hT7.get (i:=p.1.j) (j:=p.2.j) J J;exists _,Z,_,Z,tA,zs,p.1,.ref A3,Z,Z,SqL.of hT7.tab,ZA (n:=p.1.j) J y3,_,Z,A3,_,p.2,.int x3,Z,Z,SqL.of Mc,J,WE hx3,_,Z,_,_,Z,Z,A3,_,p.2,p.2.j,Z,Z,Mc,JW J (by rw[XG];lia),?_;let(L3,hT8,qP):=put3 (x3-wt);let s8:Same H (upd H7 A3<|.lst<|(IL l3).set p.2.j (.int<|x3-wt)):=ZL hn3 s7
   generalize upd H7 A3 (.lst<|(IL l3).set p.2.j (.int<|x3-wt))=H8 at *;rw[ex3]at qP;let(A4,l4,x4,y4,LP,qO,hl4,ex4,du,dt):=hT8.get (i:=p.2.j) (j:=p.1.j) J J;exists _,Z,_,Z,tA,zs,p.2,.ref A4,Z,Z,SqL.of hT8.tab,ZA (n:=p.2.j) J y4,_,Z,A4,_,p.1,.int x4,Z,Z,SqL.of LP,J,WE qO,_,Z,_,_,Z,Z,A4,_,p.1,p.1.j,Z,Z,LP,JW J (by rw[XG];lia),?_;let(L4,hT9,qN):=dt (x4-wt);let s9:Same H (upd H8 A4<|.lst<|(IL l4).set p.1.j (.int<|x4-wt)):=ZL du s8
   generalize upd H8 A4 (.lst<|(IL l4).set p.1.j (.int<|x4-wt))=H9 at *;rw[ex4]at qN;exists L4,_,_,_,_,Z,s9,hT9,λx y hx hy=>?_;rw[esn,iX,<-Nb x y hx hy];show four NZ x y Na JV qP qN
  .rintro σ H4 ⟨L,v3,v4,v5,v6,rfl,s4,dz,Nb⟩;rw[hl,Yz,<-KZ,Yz]at Nb;exists _,Z,q tA zs L H4 s4 FI dz Nb
inductive spZi(K:Ad)(C:Addr)(vs:List V)(H:Hp)(Q:VK)(_:XK):Prop
 |mk (w n ps:_) (_:vs=[.ref w]) (_:WebAt C H w n ps) (_:Zz n ps) (_:∀r ys L H',Same H H'->H r=none->TabAt H r n.j H' ys L->(∀i j,i<n.j->j<n.j->fnL L i j=lapE (UT ps<|List.replicate ps.f 1) i j)->Q ↑r H')
def dq(T:Txt K mg t):WZ P w base Xi T.qZi 2 (spZi K t.A_Web):=by
 show T.qZi.okI ["web"] D λXv A outer s H vs Q E hr h=>?_
 .let⟨w,n,ps,rfl,hW,hG,q⟩:=h;exists _,(XI<|Zj<|Xp (dB T) hr T.qZh Zt<|XY (pv 0)<|XY (Zy Jj (UR<|XY Zc XX)<|Zi (Zn K) o3 T.n_len Boot.«len»<|XY (Zo K (pv 0) Z) XX) XX),?_;let(dx,tl,xs,h1,h2,h3):=id hW;let hl:=h3.1
  let g3:=hG.2.2.1;exists _,Z,(by change 1<=sizeLine;decide),λp1 Um=>?_;let u1:=XZ (o:=.lst [.int 1]) Um
  exists _,Z,w,_,dx,_,_,Z,u1 _ _ h1,T.cl_Web,T.n_Web_ties,Mh _ _,tl,xs,Z,.inl<|SqL.of<|u1 _ _ h2,p1,xs⁻¹,_,Z,Z,XT,J,J,Pd (by change 1*_<=_;lia),λp2 VL=>?_;let e0:(List.replicate (xs.f:Int).j [V.int 1]).flatten=IL (List.replicate ps.f 1):=by
   rw[YO,hl,xk];change _=(List.replicate ps.f 1).R V.int
   rw[List.map_replicate]
  rw[e0];let u2:=u1.m (XZ (o:=.lst<|IL<|List.replicate ps.f 1) VL)
  exists w,p2,n,ps,List.replicate ps.f 1,Z,hW.same u2,hG,SqL.of XT,YX,λr ys L H' s hr hT hf=>?_;show q r ys L H' (u2.m s) (u2.free hr) {hT.tab,hT.rows,hT.len,hT.all,hT.nd,λA h=>u2.free<|hT.new A h} hf
inductive spZj(K:Ad)(C:Addr)(vs:List V)(H:Hp)(Q:VK)(_:XK):Prop
 |mk (w n ps:_) (_:vs=[.ref w]) (_:WebAt C H w n ps) (_:Zz n ps) (_:∀c H',TC n ps c->Same H H'->Q (.int c) H')
def ZZ9(u v i:Nat):(ind u v i).natAbs<=1:=by unfold ind;split<;>split<;>decide
def ZU9:∀{E:List Ed},(∀e∈E,e.2.2=1)->∀i j,(lapE E i j).natAbs<=E.f
 |[],_,i,j=>XJ 0
 |e::E,h,i,j=>by
  let ih:=ZU9 (λf hf=>h f<|Yh _ hf) i j;let h1:=ZZ9 e.1 e.2.1 i
  let h2:=ZZ9 e.1 e.2.1 j;let h3:(ind e.1 e.2.1 i*ind e.1 e.2.1 j).natAbs<=1:=by rw[Hw];show HM h1 h2
  change(e.2.2*(ind e.1 e.2.1 i*ind e.1 e.2.1 j)+lapE E i j).natAbs<=(e::E).f;rw[h e Yd,VD,YG]
  have:=Int.natAbs_add_le (ind e.1 e.2.1 i*ind e.1 e.2.1 j) (lapE E i j)
  lia
def xi{α:Type}{l:List α}{i:Nat}(hi:l.f=i+1):cutz l (i:Int)=l.M i:=by unfold cutz;rw[YO,YQ J,Ys]
def FH(T:Txt K mg t):WZ P w base Xi T.qZj 3 (spZj K t.A_Web):=by
 show T.qZj.okI ["web"] D λXv A outer s H vs Q E hr h=>?_
 .let⟨w,n,ps,rfl,hW,hG,q⟩:=h;exists _,(XI<|Zj<|Xp (d8 T) hr T.qZ3 Zt<|XY (Xp (dR T) hr T.qZ5 Zt<|XY (Xp (dq T) hr T.qZi Zt<|XY (pv 0) XX)<|XY (Zy VC (Zo K (pv 0) Z) Zc) XX) XX),?_;let(g1,g2,g3,g4):=id hG;exists _,Z,w,n,ps,Z,hW,hG,λr ys L H1 s1 hr hT hf=>?_;let(dx,tl,xs,h1,h2,h3):=id hW;exists _,Z,w,_,dx,_,_,Z,s1 _ _ h1,T.cl_Web,T.n_Web_places,GV _ _,_,_,Z,Z,?_;obtain⟨k,hk⟩:∃k:Nat,n-1=(k:Int):={(n-1).j,J};let hnk:n.j=k+1:=oZ
  let FO:=hT.len;let hTB:Bears (Me H1) ys L:=hT.rows.imp λ_ _ h=>h.list
  exists r,ys,L,k,?_,SqL.of hT.tab,hTB,oZ,λl h=>by rw[hT.all l h];lia,J,λr2 zs H2 s2 Vs hZ=>?_
  .change [V.ref r,V.int (n-1)]=_;rw[hk]
  let w1:∀e∈UT ps (List.replicate ps.f (1:Int)),e.2.2=1:=λe he=>by
   unfold UT at he;let(i,hi):=YE he;rw[EN]at hi;cases h1:ps[i]? with
   |none=>rw[h1]at hi;cases hi
   |some p=>
    cases h2:(List.replicate ps.f (1:Int))[i]? with
    |none=>rw[h1,h2]at hi;cases hi
    |some w=>
     rw[h1,h2]at hi;let rfl:=Ye hi;show vc (Xm h2)
  let el:(UT ps<|List.replicate ps.f (1:Int)).f<=30:=by unfold UT;rw[Dl,YX];lia
  let hM:(cutz L (k:Int)).R (λl=>cutz l (k:Int))=(L.M k).R λl=>l.M k:=by rw[xi J];show VE λl hl=>xi (by rw[hT.all l (VF hl)];omega)
  rw[hM]at hZ;let OS:((L.M k).R λl=>l.M k).f=k:=by rw[Yc,Yf];grind
  let Ey:∀i j,i<k->j<k->fnL ((L.M k).R λl=>l.M k) i j=lapE (UT ps<|List.replicate ps.f 1) i j:=λi j hi hj=>by
   rw[<-hf i j oZ oZ];obtain⟨l,hl⟩:∃l,L[i]?=some l:={_,Xr oZ};let Ks:=hT.all l (Xm hl)
   obtain⟨x,hx⟩:∃x,l[j]?=some x:={_,Xr oZ};rw[Ua hl hx];show Ua (l:=l.M k) (by rw[Yv,OQ,if_pos hi,hl];rfl) (by rwa[OQ,if_pos hj])
  exists r2,false,zs,(L.M k).R λl=>l.M k,Z,SqL.of Vs,hZ.imp (λ_ _ zz=>by let(r',e,h):=zz;exists r',false,e,SqL.of h),by rw[OS];lia,λi j hi hj=>?_,λ_ H3 s3=>?_,λh=>absurd (λl hl=>?_) h
  .rw[OS]at hi hj;rw[Ey i j hi hj];show Yl (ZU9 w1 i j) (Yl el<|Yl (by decide:30<=2^5)<|uY oY oY)
  .let hd:det ((L.M k).R λl=>l.M k).f (fnL<|(L.M k).R λl=>l.M k)=det (n-1).j (lapE<|UT ps<|List.replicate ps.f 1):=by rw[OS,show(n-1).j=k by lia];show Zl λi j hi hj=>Ey i j hi hj
   obtain⟨c,M,a1,a2,a3⟩:∃c,TC n ps c:=by let(M,a1,a2,_):=rS _ (n-1).j (UT ps<|List.replicate ps.f 1) Z (yP hG _);exists M.f,M,a1,λl=>by rw[a2,ZX9 g1 YX],Z
   rw[hd,iK hG a1 a2,a3];show q c H3 ⟨M,a1,a2,a3⟩ (s1.m<|s2.m s3)
  .let⟨l0,h0,rfl⟩:=YT.L hl;rw[OS,Yf,hT.all l0 (VF h0)];grind
inductive spZk(K:Ad)(C:Addr)(vs:List V)(H:Hp)(Q:VK)(_:XK):Prop
 |mk (w a b n ps Is Os:_) (_:vs=[.ref w,.ref a,.ref b]) (_:WebAt C H w n ps) (_:Zz n ps) (_:SqT K H a (IL Is)) (_:SqT K H b (IL Os)) (_:Is.Nodup) (_:(∀z∈Is,0<=z/\z<ps⁻¹)) (_:Os.f<=30) (_:(∀z∈Is,z∉Os)) (_:∀c H',PC n ps Is Os c->Same H H'->Q (.int c) H')
def dk{K:Ad}{H:Hp}{a b:Addr}{l m:Ac}{Q:VK}(ha:SqT K H a (IL l))(hb:SqT K H b (IL m))(hl:l.f+m.f<=1000)(k:∀r H',Same H H'->SqT K H' r (IL (l++m))->Q ↑r H'):GN K ↑a ↑b H Q:=by
 exists a,b,_,_,Z,Z,ha,hb,by rw[XG,XG];show Yl hl oY,λe=>?_,λ_ e=>?_,λ_ _ p hp=>?_
 .let el:l=[]:=Dm.L e;rw[el,ON]at k;show k b H (Same.refl _) hb
 .let em:m=[]:=Dm.L e;rw[em,Ys]at k;show k a H (Same.refl _) ha
 .show k p _ (XZ hp) (SqT.of ?_);rw[XT,tE]
def ZM7{gone:Ac}(j:Nat):XA (j+1) gone=XA j gone++(if ((j:Int)∈gone) then [] else [(j:Int)]):=by
 unfold XA;rw[Ah,QU];congr 1;cases c:(j:Int)∈gone
 .rw[if_pos c,YU,if_neg (by simp[c])];rfl
 .rw[if_neg c,YU,if_pos (by simp[c])];rfl
def JU:FnScope ["web","inside","outside","marks","firsts","numbers","gone","free"] ["web","inside","outside"] (Xd (top 33)):=RH D
def dj(T:Txt K mg t):WZ P w base Xi T.qZk 4 (spZk K t.A_Web):=by
 show T.qZk.okI ["web","inside","outside","marks","firsts","numbers","gone","free"] D λXv A outer s H vs Q E hr h=>?_
 .let⟨w,a,b,n,ps,Is,Os,rfl,hW,hG,hA,hB,hIn,XD,hO,UH,q⟩:=h;show⟨_,(XO (Ze 3<|Xp (Pz T) hr T.qZe Zt<|XY (pv 0)<|XY (pv 1) XX)
   (XO (Th (i:=4) JU.nd Z (Or.inr Z)<|ZA4 K Z Z T.n_sorted Z T.n_set<|XY (pv 3) XX)
   (XO (Wl (Zf TH (Zy Tf (Zi (Zn K) o3 T.n_len Boot.«len»<|XY (pv 4) XX)<|Zi (Zn K) o3 T.n_len Boot.«len»<|XY (pv 1) XX) (Zo K (pv 0) Z)<|Zs _)
   (XI<|Zj Zc)
   Zq)
   (XO (Th (i:=5) JU.nd Z (Or.inr Z)<|Tc Z (sc0:=Xd<|top 33) (N0:=["web","inside","outside","marks","firsts","numbers","gone","free"]) (N':=["mark","firsts"]) (o:=1) (fr:=[4]) ⟨Z,D,D,D,Z,D⟩ (ZD K<|pv 3) (Zp oY) (λ_ _ _ _=>(Za 0)) (λ_ _ _ _=>QL) λ_ _ _ _=>(Pc K US au av (ZS8 K) (pv 1)<|XY (pv 0) XX))
   (XO (Th (i:=6) JU.nd Z (Or.inr Z)<|Zy (GL K) (pv 1)<|pv 2)
   (XO (Sk (i:=7) Z JU.nd Z Z (sc0:=Xd<|top 33) (N0:=["web","inside","outside","marks","firsts","numbers","gone","free"]) (N':=["tie","ends","gone"]) (o:=2) (fr:=[6]) ⟨Z,D,D,D,Z,D⟩ (Mg K Z T.n_enumerate<|XY (Zo K (pv 0) Z) XX) (Er<|Pf oY<|Pf oY Es) (λ_ _ _ _=>(QI (n:=2) K Z<|Zr (Za 0)<|Zr (Za 1) QM)) (λ_ _ _ _=>(ZR<|Zf (ZP K) (pv 0) (pv 2) Z)) λ_ _ _ _=>(pv 1))
   (XI<|Zj<|Xp (FH T) hr T.qZj Zt<|XY (Cd T.k_Web (xw T) (hr.mono oY) Z T.c_Web T.bZ8 .nil Zt<|XY (Zi (Zn K) o3 T.n_len Boot.«len»<|XY (pv 4) XX)<|XY (Tc Z (sc0:=Xd<|top 33) (N0:=["web","inside","outside","marks","firsts","numbers","gone","free"]) (N':=["ends","numbers"]) (o:=1) (fr:=[5]) ⟨Z,D,D,D,Z,D⟩ (ZD K<|pv 7) (Zp oY) (λ_ _ _ _=>(Za 0)) (λ_ _ _ _=>QL) λ_ _ _ _=>(Ug<|XY (ZE (Zd K) (pv 1) (ZE (ZM K) (pv 0) Zc λ_ _=>rfl) λ_ _=>rfl)<|XY (ZE (Zd K) (pv 1) (ZE (ZM K) (pv 0) Zc λ_ _=>rfl) λ_ _=>rfl) XX)) XX) XX))))))),?_⟩
  let(g1,g2,g3,g4):=id hG;let(Js,LO,hJ2):=jJ Is;let hJ:IsSet ps.f Js:=XR.U {λz hz=>XD z<|LO.mem_iff.L hz,(hJ2.and<|LO.nodup_iff.U hIn).imp λh=>by have:=h.1;have:=h.2;lia}
  let hIl:Is.f<=ps.f:=by rw[<-LO.length_eq];show hJ.len
  let rC:∀i j,Conn (XS ps Js) i j↔Conn (XS ps Is) i j:=λi j=>KL λy=>LO.mem_iff;let hfr:XA ps.f (Js++Os)=XA ps.f (Is++Os):=Mw λz _=>by simp only[Xz,LO.mem_iff]
  let back:∀c,PC n ps Js Os c->PC n ps Is Os c:=λc zz=>by let(L,l1,l2,l3):=zz;exists L,l1,λl=>(l2 l).m {λh=>{h.1,λz hz=>h.2.1 z<|LO.mem_iff.U hz,h.2.2},λh=>{h.1,λz hz=>h.2.1 z<|LO.mem_iff.L hz,h.2.2}},l3
  exists _,Z,_,Z,w,a,n,ps,Is,Z,hW,hG,hA,XD,λmA H1 s1 OU Tv=>?_;let UG:=ZH n.j (XS ps Is)
  let Wq:=ZY (ns:=Is) hG XD;let hel:(XS ps Is).f=Is.f:=Yc ..
  show nm ?_;exists _,Z,mA,_,Z,SqL.of Tv,J,λF hF VU fA hfA=>?_;let s2:=XZ (o:=.lst<|IL F) hfA
  let JV:(upd H1 fA<|.lst<|IL F) fA=some (.lst<|IL F):=XT;let WG:=s2 _ _ Tv
  let Py:=s1.m s2;show nm ?_;dsimp only;generalize upd H1 fA (.lst<|IL F)=H2 at *;let(g,hfg,di,hgg):=gG Wq hF VU;let(k1,kn,nk):=ZI4 Wq J hF VU;let SJ:=Jc Py hA
  let KN:=Jc Py hB;let(dx,tl,xs,h1,h2,h3):=hW.same Py;let OX:=h3.1
  exists _,Z,fA,_,Z,.inl<|SqL.of JV,_,Z,a,_,Z,.inr SJ,_,_,Z,Z,_,Z,w,_,dx,_,_,Z,h1,T.cl_Web,T.n_Web_places,GV _ _,_,_,Z,Z,_,Z,?_;rw[XG,XG];show Xc (λhc=>?_) (λhc=>?_)
  .show q 0 H2 (back 0<|yC hG hJ (λi j hi hj=>(hfg i j hi hj).m (rC i j).symm) di hgg k1 kn<|by rw[LO.length_eq];omega) Py
  exists _,Z,mA,Z,{_,SqL.of WG},VY (K:=K) (a:=mA) (xs:=IL<|Xy n.j<|XS ps Is) (λi zs H3=>H3=H2/\i<=n.j/\zs=IL (((Xy n.j<|XS ps Is).M i).R λz=>(Us F z:Int))) {Z,Yj _,Z} (Zh<|by rw[XG,UG];lia) (λi zs H3 _ zz=>by let(e,hi,ez):=zz;show{e▸SqL.of WG,by rw[ez,XG,Yc,Yf];lia}) ?_ ?_
  .rintro i v zs H3 hi ⟨rfl,hin3,rfl⟩ S Xx;let(z,rfl,hz):=ZT hi;let DV:z∈F:=(VU z).U (Xm hz)
   let Xh:=(XF.L hz).1;show nm ?_;show{_,Z,.inl {Z,_,SqL.of JV},_,Z,fA,F,z,Us F z,Z,Z,SqL.of JV,Gg DV,λi hi e=>by have:=En (NX hF) e (Gg DV);lia,Xx _ _ {Z,J,?_}};rw[YY,hz,YN];show(ZO _ _).symm
  rintro zs H3 ⟨rfl,_,rfl⟩ nA hnA;rw[XG,Yz];let s3:=XZ (o:=.lst<|IL<|(Xy n.j<|XS ps Is).R λz=>(Us F z:Int)) hnA
  let du:(upd H3 nA<|.lst<|IL<|(Xy n.j<|XS ps Is).R λz=>(Us F z:Int)) nA=some (.lst<|IL<|(Xy n.j<|XS ps Is).R λz=>(Us F z:Int)):=XT;let qN:=s3 _ _ JV
  let LP:=Jc s3 SJ;let dh:=Jc s3 KN
  let FG:=Py.m s3;generalize upd H3 nA (.lst<|IL<|(Xy n.j<|XS ps Is).R λz=>(Us F z:Int))=H4 at *;let nAt:∀x:Int,0<=x->x<n->((Xy n.j<|XS ps Is).R λz=>(Us F z:Int))[x.j]?=some (Us F (mk (Xy n.j<|XS ps Is) x.j):Int):=λx x0 x1=>by rw[Yv,Xr J];unfold mk;rw[Wv,Xr J];rfl
  show nm ?_;exists _,Z,_,Z,dk LP dh J λgA H5 s5 hg5=>?_;let FF:=FG.m s5
  let(dx,tl,xs,h1,h2,h3):=hW.same FF;let OX:=h3.1
  show nm ?_;exists _,Z,w,_,dx,_,_,Z,h1,T.cl_Web,T.n_Web_ties,Mh _ _,tl,Z,{_,SqL.of h2},sL (K:=K) (a:=tl) (xs:=xs) (λj zs H6=>Same H5 H6/\j<=ps.f/\PairsV H6 zs ((XA j<|Is++Os).R λz=>ps.S z.j (0,0))) {Same.refl _,Yj _,PairsV.nil} (Zh J) (λj zs H6 hj ⟨e,RJ,ez⟩=>{e.seq<|SqL.of h2,by rw[ez.1,Yc];show Yl (Yo ..) ?_;rw[ZU];show XJ _}) ?_ ?_
  .rintro j v zs H6 pt UL hj ⟨s6,Vf,hZ⟩ S Xx;let(p,hp,tt,rfl,ht):=h3.at hj;let VT:=(XF.L hp).1
   let s7:=XZ (o:=.tup [.int j,.ref tt]) UL;exists pt,_,Z,SqT.of XT,Z,_,_,Z,_,_,Z,Z,?_;let xh:=hZ.same s7
   let Ii:=s6.m s7;generalize upd H6 pt (.tup [.int j,.ref tt])=H7 at *;exists _,Z,_,Z,gA,_,Z,.inr<|Jc Ii hg5,Z,ZC _,_,Z,?_;rw[ZN];show WU (λFE=>?_) (λFE=>?_)
   .show Xx _ _ {Ii,VT,?_};rwa[ZM7,if_pos FE,Ys]
   .exists _,Z,Xx _ _ {Ii,VT,?_};rw[ZM7,if_neg FE,YN];show xh.app ?_;change PairsV H7 [V.ref tt] [ps.S ((j:Nat):Int).j (0,0)]
    rw[YO,Wa hp];show PairsV.nil.snoc {tt,Z,Ii _ _ ht}
  rintro zs H6 ⟨s6,_,hZ⟩ rA OV;rw[OX]at hZ;let s7:=XZ (o:=.lst zs) OV
  let xC:(upd H6 rA<|.lst zs) rA=some (.lst zs):=XT;let xh:=hZ.same s7
  let Ii:=s6.m s7;generalize upd H6 rA (.lst zs)=H7 at *;let hf7:=Ii _ _ (s5 _ _ qN)
  let hn7:=Ii _ _ (s5 _ _ du);let Al:=xh.1
  let KW:(XA ps.f<|Is++Os).f<=30:=by show Yl (Yo ..) ?_;rw[ZU];omega
  rw[Yc]at Al;show nm ?_;show⟨_,Z,fA,_,Z,.inl<|SqL.of hf7,_,Z,rA,Z,{_,SqL.of xC},VY (K:=K) (a:=rA) (xs:=zs) (λi ws H8=>Same H7 H8/\i<=(XA ps.f<|Is++Os).f/\PairsV H8 ws (((XA ps.f<|Is++Os).M i).R λz=>((Us F (mk (Xy n.j<|XS ps Is) (Zu ps z).1):Int),(Us F (mk (Xy n.j<|XS ps Is) (Zu ps z).2):Int)))) {Same.refl _,Yj _,PairsV.nil} (Zh J)
   (λi ws H8 hi zz=>by let(e,VH,ew):=zz;show{e.seq<|SqL.of xC,by rw[ew.1,Yc,Yf];lia}) ?_ ?_⟩
  .rintro i v ws H8 hi ⟨s8,Vp,qM⟩ S Xx;let(p,hp,tt,rfl,ht):=xh.at hi;rw[Yv]at hp;obtain⟨z,hz,ez⟩:∃z,(XA ps.f<|Is++Os)[i]?=some z/\ps.S z.j (0,0)=p:=by
    cases hq:(XA ps.f<|Is++Os)[i]? with
    |none=>rw[hq]at hp;cases hp
    |some z=>rw[hq]at hp;exists z,Z,Ye hp
   let hz1:=(WK.L<|Xm hz).1;obtain⟨p',FK⟩:∃p,ps[z.j]?=some p:={_,Xr J};let epp:p'=p:=by rw[<-ez,Wa FK]
   rw[epp]at FK;let(e1,e2,e3,e4):=g4 p (Xm FK);let ee:Zu ps z=(p.1.j,p.2.j):=by unfold Zu;rw[Wa FK]
   let ht8:=s8 _ _ ht;let hn8:=s8 _ _ hn7
   show nm ?_;exists _,Z,_,Z,tt,_,0,.int p.1,Z,Z,SqT.of ht8,Z,nA,_,_,_,Z,Z,SqL.of hn8,ZA (n:=p.1.j) J<|WE<|nAt p.1 e1 e2,?_;exists _,Z,_,Z,tt,_,1,.int p.2,Z,Z,SqT.of ht8,Z,nA,_,_,_,Z,Z,SqL.of hn8,ZA (n:=p.2.j) J<|WE<|nAt p.2 e3 e4,(by change 2<=sizeLine;decide),λpp hpp=>?_;show Xx _ _ {s8.m<|XZ hpp,by have:=(XF.L hz).1;lia,?_};rw[YY,hz,YN];show(qM.same<|XZ hpp).snoc {pp,Z,?_};dsimp only;rw[ee];show XT
  rintro ws H8 ⟨s8,_,qM⟩ la Nc;rw[Al,Yz]at qM;let s9:=XZ (o:=.lst ws) Nc
  let JT:(upd H8 la<|.lst ws) la=some (.lst ws):=XT;let hP9:=qM.same s9
  let qL:=s8.m s9;generalize upd H8 la (.lst ws)=H9 at *;let hGc:=Zd8 (f:=λi=>Us F<|mk (Xy n.j<|XS ps Is) i) hG (Is++Os) di k1 kn
  intro x dg nx MZ JS;let t1:Same H9 (upd (upd H9 dg<|.own x) x<|.ins t.A_Web dg []):=Zv (XZ MZ) (by rwa[Zb (WX JS)])
  exists x,dg,F⁻¹,la,false,ws,_,by rw[XG];rfl,XT,λo=>?_,hP9.same t1,hGc,λSD hV df=>{Z,?_}
  .show SqL.of (by rwa[Zb (WC JT nx),Zb<|WC JT nx,Zb (WC JT MZ)])
  let Pw:Same H9 SD:=λb o e=>df b o (t1 b o e) (WC e nx);exists x,_,_,Z,hV,hGc,λc Tq hc Ql=>q c Tq (back c<|gJ hG hJ (λz hz=>UH z<|LO.mem_iff.L hz) (λi j hi hj=>(hfg i j hi hj).m (rC i j).symm) di hgg (by rw[LO.length_eq];lia)<|by rwa[hfr])<|FF.m<|Ii.m<|qL.m<|Pw.m Ql
inductive spZl(K:Ad)(C:Addr)(vs:List V)(H:Hp)(Q:VK)(_:XK):Prop
 |mk (w a n ps kd ns:_) (_:vs=[.ref w,.ref a]) (_:WebAt C H w n ps) (_:Zz n ps) (_:SqK kd K H a (IL ns)) (_:∀b H',Same H H'->(b=true↔Zg n ps ns)->Q (.bl b) H')
def de(T:Txt K mg t):WZ P w base Xi T.qZl 6 (spZl K t.A_Web):=by
 show T.qZl.okI ["web","ties"] D λXv A outer s H vs Q E hr h=>?_
 .let⟨w,a,n,ps,kd,ns,rfl,hW,hG,hS,q⟩:=h;exists _,(XI<|Zj<|Ow (Xp (xr T) hr T.qZb Zt<|XY (pv 0)<|XY (pv 1) XX)<|Ow (Jp RV (Zi (Zn K) o3 T.n_len Boot.«len»<|XY (pv 1) XX) (Zy VC (Zo K (pv 0) Z) Zc)<|Zs _)<|CI<|Xp (dE T) hr T.qZg Zt<|XY (pv 0)<|XY (pv 1) XX),?_;exists _,Z,_,Z,w,a,n,ps,kd,ns,Z,hW,hS,λb hb=>{b,Z,?_};show itb (λe=>?_) (λe=>?_)
  .let hI:=hb.L e;let(dx,tl,xs,h1,h2,h3):=id hW;exists _,Z,a,_,Z,hS.or,_,Z,w,_,dx,_,_,Z,h1,T.cl_Web,T.n_Web_places,GV _ _,_,_,Z,Z,Z,_,Z,?_;rw[XG,Zw];show Xc (λhl=>?_) (λhl=>?_)
   .exists _,Z,_,Z,w,a,n,ps,kd,ns,Z,hW,hG,hS,hI,λb2 H' s FZ=>q b2 H' s ?_;rw[FZ,kR (by have:=hG.1;lia) (ZY hG hI.all)];exists λz=>⟨hI,hl,z⟩,λz=>z.2.2
   .show q false H (Same.refl H) {λz=>(nomatch z),λz=>absurd z.2.1 hl}
  .show q false H (Same.refl H) {λz=>(nomatch z),λz=>by rw[hb.U z.1]at e;cases e}
inductive spZm(K:Ad)(C:Addr)(vs:List V)(H:Hp)(Q:VK)(_:XK):Prop
 |mk (w a n ps kd ns:_) (_:vs=[.ref w,.ref a]) (_:WebAt C H w n ps) (_:Zz n ps) (_:SqK kd K H a (IL ns)) (_:(Zg n ps ns->∀H':Hp,Same H H'->Q .non H')) (_:(¬Zg n ps ns->∀H':Hp,Same H H'->False))
def xg(T:Txt K mg t):WZ P w base Xi T.qZm 7 (spZm K t.A_Web):=by
 show T.qZm.okI ["web","tree"] D λXv A outer s H vs Q E hr h=>?_
 .let⟨w,a,n,ps,kd,ns,rfl,hW,hG,hS,q,qe⟩:=h;show⟨_,(XI (Wl (Lq<|Jr<|Xp (de T) hr T.qZl Zt<|XY (pv 0)<|XY (pv 1) XX)
   (XI Lo)
   Zq)),?_⟩
  exists _,Z,_,Z,w,a,n,ps,kd,ns,Z,hW,hG,hS,λb H' s hb=>{_,Z,?_};show Bx (λz=>?_) (λz=>?_)
  .show q (hb.L z) H' s
  .show qe (λg=>by rw[hb.U g]at z;cases z) H' s
inductive spZn(K:Ad)(C:Addr)(vs:List V)(H:Hp)(Q:VK)(_:XK):Prop
 |mk (w a b n ps ka kb ns os:_) (_:vs=[.ref w,.ref a,.ref b]) (_:WebAt C H w n ps) (_:Zz n ps) (_:SqK ka K H a (IL ns)) (_:SqK kb K H b (IL os)) (_:ns.f<=1000) (_:os.f<=1000) (_:(∀z∈ns++os,0<=z/\z<ps⁻¹)) (_:(((WD n.j ps<|ns++os).M ns.f≠ns\/((WD n.j ps<|ns++os).f:Int)<n-1)->∀H':Hp,Same H H'->Q .non H')) (_:((WD n.j ps<|ns++os).M ns.f=ns->¬((WD n.j ps<|ns++os).f:Int)<n-1->∀r ms H',ms.Perm (WD n.j ps<|ns++os)->ms.E (·<=·)->Same H H'->H r=none->H' r=some (.tup<|IL ms)->Q ↑r H'))
def dc(T:Txt K mg t):WZ P w base Xi T.qZn 3 (spZn K t.A_Web):=by
 show T.qZn.okI ["web","inside","order","marks","grown","tie","ends"] D λXv A outer s H vs Q E hr h=>?_
 .let⟨w,a,b,n,ps,ka,kb,ns,os,rfl,hW,hG,hS,Bm,hnl,QJ,hI,q0,q1⟩:=h;show⟨_,(XO (Ze 3<|Xp (Pz T) hr T.qZe Zt<|XY (pv 0)<|XY (Ug XX) XX)
   (XO (Ze 4<|UR XX)
   (XO (Tg Ws Z (ZD K<|Zy Lb (Zk (Si K) o3 T.n_list Boot.«list»<|XY (pv 1) XX)<|Zk (Si K) o3 T.n_list Boot.«list»<|XY (pv 2) XX) (Za 5)
   (XO (Ze 6<|ZE (Zd K) (Zo K (pv 0) Z) (pv 5) λ_ _=>rfl)
   (XI (Wl (Zf Rw (ZE (Zd K) (pv 3) (ZE (ZM K) (pv 6) Zc λ_ _=>rfl) λ_ _=>rfl) (ZE (Zd K) (pv 3) (ZE (ZM K) (pv 6) Zc λ_ _=>rfl) λ_ _=>rfl)<|Zs _)
   (XO (Ze 3<|Xp (xq T) hr T.qZd Zt<|XY (pv 0)<|XY (pv 3)<|XY (Ug<|XY (pv 5) XX) XX)
   (XI<|QN<|Pc K US Dt Du BJ (pv 4)<|XY (pv 5) XX))
   Zq))))
   (XO (Wl (PW.pt<|TL (Zf (tm K<|KS hr) (Lg (KQ K) (pv 4) Jl<|Mn<|Zi (Zn K) o3 T.n_len Boot.«len»<|XY (pv 1) XX) (Zk (Si K) o3 T.n_list Boot.«list»<|XY (pv 1) XX)<|Zs _)<|Ex<|Zf Lj (Zi (Zn K) o3 T.n_len Boot.«len»<|XY (pv 4) XX) (Zy VC (Zo K (pv 0) Z) Zc)<|Zs _)
   (XI<|Zj Pj)
   Zq)
   (XI<|Zj<|Zk (ZQ K) o3 T.n_tuple Boot.«tuple»<|XY (Zi (PY K) o3 T.n_sorted Boot.«sorted»<|XY (pv 4) XX) XX))))),?_⟩
  let(g1,g2,g3,g4):=id hG;let one:1<=sizeLine:=oY
  exists _,Z,Yj _,λr0 UK=>?_;let s0:=XZ (o:=.tup []) UK
  exists w,r0,n,ps,[],Z,hW.same s0,hG,SqT.of XT,λ_ e=>(nomatch e),λm H1 s1 OU Tv=>?_;let s01:=s0.m s1
  let hmf:=s0.free OU;exists Yj _,λgl c9=>?_;let s2:=XZ (o:=.lst []) c9
  let Py:=s01.m s2;let hgf:=s01.free c9
  exists _,Z,a,_,Z,(hS.same Py).or,λl1 SF=>?_;let s3:=XZ (o:=.lst<|IL ns) SF
  let LN:=Py.m s3;exists _,Z,b,_,Z,(Bm.same LN).or,λl2 Vj=>?_;let s4:=XZ (o:=.lst<|IL os) Vj
  let FG:=LN.m s4;exists l1,l2,_,_,Z,Z,s4 _ _ XT,XT,Pd (by rw[XG,XG];lia),λcl Nv=>?_;let s5:=XZ (o:=.lst<|IL ns++IL os) Nv
  let FF:=FG.m s5;let eI:IL ns++IL os=IL (ns++os):=(tE _ _).symm
  let xf:=s5 _ _ (s4 _ _<|s3 _ _<|XT (H:=H1) (a:=gl) (o:=.lst []));let qK:=s5 _ _ (s4 _ _<|s3 _ _<|s2 _ _ Tv)
  let FC:=XT (H:=upd (upd (upd H1 gl<|.lst []) l1<|.lst<|IL ns) l2<|.lst<|IL os) (a:=cl) (o:=.lst<|IL ns++IL os);let ncg:cl≠gl:=λe=>by rw[e]at Nv;show absurd ((s4 _ _<|s3 _ _<|XT (H:=H1) (a:=gl) (o:=.lst [])).symm.m Nv) B
  let nmg:m≠gl:=λe=>by rw[e]at Tv;show absurd (Tv.symm.m c9) B
  rw[eI]at s5 FF xf qK FC ⊢;generalize upd (upd (upd (upd H1 gl<|.lst []) l1<|.lst<|IL ns) l2<|.lst<|IL os) cl (.lst<|IL<|ns++os)=H5 at *;show⟨cl,Z,{_,SqL.of FC},Ew (K:=K) (a:=cl) (xs:=IL<|ns++os) (λi σ H2=>∃mc v5 v6,σ=[some ↑w,some<|.ref a,some<|.ref b,some<|.ref mc,some<|.ref gl,v5,v6]/\Same H H2/\mc≠gl/\
    H2 cl=some (.lst<|IL<|ns++os)/\H2 mc=some (.lst<|IL<|Xy n.j<|XS ps<|WD n.j ps<|(ns++os).M i)/\H2 gl=some (.lst<|IL<|WD n.j ps<|(ns++os).M i))
   ⟨m,none,none,Z,FF,nmg,FC,qK,xf⟩ (λi σ H2 _ zz=>by let(_,_,_,_,_,_,e,_):=zz;show SqL.of e) ?_ ?_⟩
  .rintro i x σ H2 hi ⟨mc,v5,v6,rfl,s2,XM,UQ,WG,Ke⟩;let(z,rfl,hz):=ZT hi;let(z0,z1):=hI z (Xm hz);let hIt:∀y∈(ns++os).M i,0<=y/\y<ps⁻¹:=λy hy=>hI y (VF hy)
   let est:(ns++os).M (i+1)=(ns++os).M i++[z]:=by rw[YY,hz];rfl
   let eG:WD n.j ps ((ns++os).M (i+1))=Rp n.j ps (WD n.j ps<|(ns++os).M i) z:=by rw[est,KI]
   let Wq:=Ef hG hIt;let xc:=IT hG hIt
   generalize WD n.j ps ((ns++os).M i)=G at *;let(dx,tl,xs,h1,h2,h3):=hW.same s2;obtain⟨p,hp⟩:∃p,ps[z.j]?=some p:={_,Xr J};let(v,hv,tt,rfl,VS):=h3.2 z.j p hp;let(e1,e2,e3,e4):=g4 p (Xm hp);let ed:Zu ps z=(p.1.j,p.2.j):=by unfold Zu;rw[Wa hp]
   let hl:(Xy n.j<|XS ps G).f=n.j:=ZH _ _;let iA:Wi (IL<|Xy n.j<|XS ps G) p.1=some (.int<|mk (Xy n.j<|XS ps G) p.1.j):=ZA (n:=p.1.j) J (WE<|RP J)
   let iB:Wi (IL<|Xy n.j<|XS ps G) p.2=some (.int<|mk (Xy n.j<|XS ps G) p.2.j):=ZA (n:=p.2.j) J (WE<|RP J);let t0:Wi ([.int p.1,.int p.2]:List V) 0=some (.int p.1):=rfl
   let t1:Wi ([.int p.1,.int p.2]:List V) 1=some (.int p.2):=rfl;let key:mk (Xy n.j<|XS ps G) p.1.j=mk (Xy n.j<|XS ps G) p.2.j↔mk (WW n.j<|XS ps G) (Zu ps z).1=mk (WW n.j<|XS ps G) (Zu ps z).2:=by rw[ed,QE Wq J J,VW Wq J J]
   exists _,Z,w,_,dx,_,_,Z,h1,T.cl_Web,T.n_Web_ties,Mh _ _,_,Z,tl,xs,z,.ref tt,Z,Z,SqL.of h2,ZA (n:=z.j) J hv,?_;exists _,Z,_,Z,tt,_,0,_,Z,Z,SqT.of VS,t0,mc,_,p.1,_,Z,Z,SqL.of WG,iA,_,Z,_,Z,tt,_,1,_,Z,Z,SqT.of VS,t1,mc,_,p.2,_,Z,Z,SqL.of WG,iB,Z,_,Z,?_;rw[Zw];show WU (λhe=>?_) (λhe=>?_)
   .exists mc,_,_,Z,s2,XM,UQ,?_,?_
    .rw[eG];unfold Rp;rwa[if_pos (key.L he)]
    .rw[eG];unfold Rp;rwa[if_pos (key.L he)]
   .let eG2:WD n.j ps ((ns++os).M (i+1))=G++[z]:=by rw[eG];unfold Rp;rw[if_neg λe=>he (key.U e)]
    exists _,Z,_,Z,_,Z,one,λp2 VL=>?_;let s6:=XZ (o:=.tup [.int z]) VL
    show{w,mc,p2,n,ps,_,true,[z],Z,(hW.same s2).same s6,hG,s6 _ _ WG,hl,SqT.of XT,λy hy=>by rw[XB.L hy];show⟨z0,z1⟩,λm' H7 s7 hf qJ=>?_};let c8:=s6.m s7
    let hg7:=c8 _ _ Ke;let hc7:=c8 _ _ UQ
    let nm':m'≠gl:=by
     rcases hf with rfl|hf
     .show XM
     .show λe=>absurd ((s6 _ _ Ke).symm.m (e▸hf)) B
    exists _,Z,.inl {Z,_,SqL.of hg7},_,Z,gl,_,_,Z,Z,hg7,Zh (by rw[XG];lia),?_;exists m',_,_,Z,ZL hgf<|s2.m c8,nm',?_,?_,?_
    .rw[Zb ncg];show hc7
    .rw[Zb nm',qJ,eG2,IV,Br];rfl
    .rw[XT,eG2,ZO]
  .rintro σ H2 ⟨mc,v5,v6,rfl,s2,XM,UQ,WG,Ke⟩;rw[XG,Yz]at Ke;let xc:=IT hG hI
   generalize WD n.j ps (ns++os)=G at *;exists _,Z,_,Z,a,_,Z,(hS.same s2).or,_,Z,gl,_,Z,SqL.of Ke,λr1 UJ=>?_;let ec:WH (IL G) none (some ((IL ns).f:Int))=IL (G.M ns.f):=by rw[sv J,YO,XG,Jd]
   rw[ec];let s3:=XZ (o:=.lst<|IL<|G.M ns.f) UJ
   exists _,Z,a,_,Z,(hS.same<|s2.m s3).or,λr2 Vs=>?_;let s4:=XZ (o:=.lst<|IL ns) Vs
   exists 1,_,r1,r2,Z,Z,oY,sQ (SqL.of<|s4 _ _ XT)<|SqL.of XT,_,Z,?_;let Ih:=s2.m (s3.m s4)
   show WU (λhe=>?_) (λhe=>?_)
   .let⟨dx,tl,xs,h1,h2,h3⟩:=hW.same Ih;let hg4:=s4 _ _ (s3 _ _ Ke)
    exists _,Z,gl,_,Z,.inl<|SqL.of hg4,_,Z,w,_,dx,_,_,Z,h1,T.cl_Web,T.n_Web_places,GV _ _,_,_,Z,Z,_,_,Z,Z,_,Z,?_;rw[XG];show Xc (λhc=>?_) (λhc=>?_)
    .show q0 (.inr hc) _ Ih
    .exists _,Z,gl,G,Z,SqL.of hg4,J,λms Um VL l hl=>?_;let s5:=XZ (o:=.lst<|IL ms) hl
     exists l,_,Z,.inl {SqL.of XT,λr hr=>?_};show q1 he hc r ms _ Um VL ((Ih.m s5).m (XZ hr)) ((Ih.m s5).free hr) XT
   .show UA ?_;show q0 (.inl he) _ Ih
inductive spZo(K:Ad)(C:Addr)(vs:List V)(H:Hp)(Q:VK)(_:XK):Prop
 |mk (w a n ps kd ns z:_) (_:vs=[.ref w,.ref a,.int z]) (_:WebAt C H w n ps) (_:Zz n ps) (_:SqK kd K H a (IL ns)) (_:IsSet ps.f ns) (_:∀r H',Same H H'->H r=none->H' r=some (.tup<|IL<|unlike (WW n.j<|XS ps<|wo ns z) ps ps.f)->Q ↑r H')
def c7:FnScope ["web","tree","tie","marks"] ["web","tree","tie"] (Xd (top 38)):=RH D
def c6(T:Txt K mg t):WZ P w base Xi T.qZo 3 (spZo K t.A_Web):=by
 show T.qZo.okI ["web","tree","tie","marks"] D λXv A outer s H vs Q E hr h=>?_
 .let⟨w,a,n,ps,kd,ns,z,rfl,hW,hG,hS,hI,q⟩:=h;show⟨_,(XO (Th (i:=3) c7.nd Z (Or.inr Z)<|Xp (Pz T) hr T.qZe Zt<|XY (pv 0)<|XY (Xp (xt T) hr T.qZa Zt<|XY (pv 1)<|XY (pv 2) XX) XX)
   (XI<|Zj<|Zk (ZQ K) o3 T.n_tuple Boot.«tuple»<|XY (Tc Z (sc0:=Xd<|top 38) (N0:=["web","tree","tie","marks"]) (N':=["number","ends","marks"]) (o:=2) (fr:=[3]) ⟨Z,D,D,D,Z,D⟩ (Mg K Z T.n_enumerate<|XY (Zo K (pv 0) Z) XX) (Er<|Pf oY<|Pf oY Es) (λ_ _ _ _=>(QI (n:=2) K Z<|Zr (Za 0)<|Zr (Za 1) QM)) (λ_ _ _ _=>(ZR<|Zf Rw (ZE (Zd K) (pv 2) (ZE (ZM K) (pv 1) Zc λ_ _=>rfl) λ_ _=>rfl) (ZE (Zd K) (pv 2) (ZE (ZM K) (pv 1) Zc λ_ _=>rfl) λ_ _=>rfl)<|Zs _)) λ_ _ _ _=>(pv 0)) XX)),?_⟩
  let(g1,g2,g3,g4):=id hG;let hln:=hI.len
  let hb:∀y∈wo ns z,0<=y/\y<ps⁻¹:=λy hy=>hI.all y (Xg.L hy).1;exists _,Z,_,Z,_,Z,a,kd,ns,z,Z,hS,J,λr1 H1 s1 UK UJ=>?_;exists w,r1,n,ps,wo ns z,Z,hW.same s1,hG,SqT.of UJ,hb,λm H2 s2 OU WG=>?_;let Wq:=ZY hG hb
  let e0:=Ze6 (M:=Xy n.j<|XS ps<|wo ns z) hG (ZH _ _) (sW Wq);let hl:(Xy n.j<|XS ps<|wo ns z).f=n.j:=ZH _ _
  rw[<-e0]at q;generalize Xy n.j (XS ps<|wo ns z)=M at *;let WB:=s1.m s2
  let(dx,tl,xs,h1,h2,h3):=hW.same WB;let OX:=h3.1
  show⟨_,Z,w,_,dx,_,_,Z,h1,T.cl_Web,T.n_Web_ties,Mh _ _,tl,Z,{_,SqL.of h2},sL (K:=K) (a:=tl) (xs:=xs) (λi ys H3=>Same H2 H3/\i<=xs.f/\ys=IL (unlike M ps i)) {Same.refl _,Yj _,Z} (Zh J)
   (λi ys H3 _ zz=>by let(e,_,ey):=zz;show{SqL.of<|e _ _ h2,by rw[ey,XG];show ZF6 _ _ _}) ?_ ?_⟩
  .rintro i x ys H3 pt UL hi ⟨s3,Vp,rfl⟩ S Xx;let(p,NY,tt,rfl,VS):=h3.at hi;let(e1,e2,e3,e4):=g4 p (Xm NY);let XC:i<xs.f:=(XF.L hi).1
   let s4:Same H3 (upd H3 pt<|.tup [.int i,.ref tt]):=XZ UL;let Qm:=s3.m s4
   let MY:=Qm _ _ VS;let xb:=Qm _ _ WG
   let ed:ps.S i (0,0)=p:=Wa NY;let t0:Wi ([.int p.1,.int p.2]:List V) 0=some (.int p.1):=rfl
   let t1:Wi ([.int p.1,.int p.2]:List V) 1=some (.int p.2):=rfl;let iA:Wi (IL M) p.1=some (.int<|mk M p.1.j):=ZA (n:=p.1.j) J (WE<|RP J)
   let iB:Wi (IL M) p.2=some (.int<|mk M p.2.j):=ZA (n:=p.2.j) J (WE<|RP J);exists pt,_,Z,SqT.of XT,Z,_,_,Z,_,_,Z,Z,?_;exists _,Z,_,Z,tt,_,0,_,Z,Z,SqT.of MY,t0,m,_,p.1,_,Z,Z,SqL.of xb,iA,_,Z,_,Z,tt,_,1,_,Z,Z,SqT.of MY,t1,m,_,p.2,_,Z,Z,SqL.of xb,iB,Z,_,Z,?_;rw[Zw];show WU (λhe=>?_) (λhe=>?_)
   .show Xx _ _ {Qm,XC,?_};rw[Zb3,ed,if_neg (by simpa using he),Ys]
   .exists _,Z,Xx _ _ {Qm,XC,?_};rw[Zb3,ed,if_pos he,ZO]
  .rintro ys H3 ⟨s3,_,rfl⟩ p hp;rw[OX];exists p,_,Z,.inl {SqL.of XT,λr hr=>?_};show q r _ (WB.m<|s3.m<|Zv (XZ hp) hr) ((WB.m<|s3.m<|XZ hp).free hr) XT
inductive spZp(K:Ad)(C:Addr)(vs:List V)(H:Hp)(Q:VK)(_:XK):Prop
 |mk (w a n ps kd ns z:_) (_:vs=[.ref w,.ref a,.int z]) (_:WebAt C H w n ps) (_:Zz n ps) (_:SqK kd K H a (IL ns)) (_:-(10^70)<z) (_:z<10^70) (_:(Zg n ps ns->z∉ns->0<=z->z<ps⁻¹->∀ms,ms.Perm (SI n ps ns z ns++[z])->ms.E (·<=·)->∀r H',Same H H'->H r=none->H' r=some (.tup<|IL ms)->Q ↑r H')) (_:(Zg n ps ns->(z∈ns\/¬(0<=z/\z<ps⁻¹))->∀H':Hp,Same H H'->False)) (_:(¬Zg n ps ns->∀H':Hp,Same H H'->False))
def cZ(T:Txt K mg t):WZ P w base Xi T.qZp 8 (spZp K t.A_Web):=by
 show T.qZp.okI ["web","tree","tie"] D λXv A outer s H vs Q E hr h=>?_
 .let⟨w,a,n,ps,kd,ns,z,rfl,hW,hG,hS,z0,z1,q,q1,q2⟩:=h;show⟨_,(XO (QN<|Xp (xg T) hr T.qZm Zt<|XY (pv 0)<|XY (pv 1) XX)
   (XO (Wl (PW.pt<|TL (Zf (tq K) (pv 2) (pv 1) Z)<|Ex<|Lq<|Jr<|Xp (xA T) hr T.qZ6 Zt<|XY (pv 0)<|XY (pv 2) XX)
   (XI Lo)
   Zq)
   (XI<|Zj<|Zk (ZQ K) o3 T.n_tuple Boot.«tuple»<|XY (Zi (PY K) o3 T.n_sorted Boot.«sorted»<|XY (Zy Lb (Tc Z (sc0:=Xd<|top 39) (N0:=["web","tree","tie"]) (N':=["out","tie","web","tree"]) (o:=1) (fr:=[2,0,1]) ⟨Z,D,D,D,Z,D⟩ (Tb K<|pv 1) (Zp oY) (λ_ _ _ _=>(Za 0)) (λ_ _ _ _=>(ZR<|Zf (tq K) (pv 1) (Xp (c6 T) hr T.qZo Zt<|XY (pv 2)<|XY (pv 3)<|XY (pv 0) XX) Z)) λ_ _ _ _=>(pv 0))<|UR<|XY (pv 2) XX) XX) XX))),?_⟩
  exists _,Z,_,Z,w,a,n,ps,kd,ns,Z,hW,hG,hS,λhT H1 s1=>?_,q2;let one:1<=sizeLine:=oY
  let tl:ns.f<=20:=by have:=hT.2.1;have:=hG.2.1;lia
  exists _,Z,_,Z,a,_,Z,(hS.same s1).or,Z,ZC _,_,Z,?_;rw[ZN];show Xc (λhc=>?_) (λhc=>?_)
  .show UA (q1 hT (.inl hc) H1 s1)
  .exists _,Z,_,Z,w,n,ps,z,Z,hW.same s1,_,Z,?_;show WU (λht=>?_) (λht=>?_)
   .show⟨_,Z,a,Z,Bu (k:=kd) (K:=K) (xs:=IL ns) (λi ys H2=>Same H1 H2/\i<=ns.f/\ys=IL (SI n ps ns z<|ns.M i)) {Same.refl _,Yj _,Z} (Zh<|by rw[XG];lia)
     (λi ys H2 hi zz=>by let(e,VH,ey):=zz;show{(hS.same s1).same e,by rw[ey,XG];show Yl (GP ..)<|by rw[Yf];lia}) ?_ ?_⟩
    .rintro i x ys H2 hi ⟨s2,Vp,rfl⟩ S Xx;let(y,rfl,hy):=ZT hi;let XC:i<ns.f:=(XF.L hy).1
     let WB:=s1.m s2;show nm ?_;exists _,Z,_,Z,_,Z,_,Z,w,a,n,ps,kd,ns,y,Z,hW.same WB,hG,hS.same WB,hT.1,λr H3 s3 UK Uq=>?_;exists r,_,Z,.inr<|SqT.of Uq,Z,ZC _,_,Z,?_;rw[ZN];show Xc (λhe=>?_) (λhe=>?_)
     .exists _,Z,Xx _ _ {s2.m s3,XC,?_};rw[Bl hy,if_pos he,ZO]
     .show Xx _ _ {s2.m s3,XC,?_};rw[Bl hy,if_neg he,Ys]
    .rintro ys H2 ⟨s2,_,rfl⟩ p hp;rw[XG,Yz];let rl:=GP n ps ns z ns
     exists _,Z,one,λp2 VL=>?_;show sP (l2:=[z]) (by rw[Zb (WC XT VL)];show XT) XT (by simp only[YG,Jz];lia) λp3 LU=>?_;show{p3,_,Z,SqL.of XT,by simp only[Xt,YG,Jz];lia,λms UO PX p4 Nd=>?_};exists p4,IL ms,Z,.inl {SqL.of XT,λr hr=>?_};let s6:=(s1.m s2).m (Zv (Zv (XZ (o:=.lst<|IL<|SI n ps ns z ns) hp) (o:=.lst<|IL [z]) VL) (o:=.lst<|IL<|SI n ps ns z ns++[z]) LU)
     show q hT hc ht.1 ht.2 ms UO PX r _ (s6.m<|Zv (XZ Nd) hr) ((s6.m<|XZ Nd).free hr) XT
   .show q1 hT (.inr ht) H1 s1
inductive spZq(K:Ad)(C:Addr)(vs:List V)(H:Hp)(Q:VK)(_:XK):Prop
 |mk (w a b n ps I O:_) (_:vs=[.ref w,.ref a,.ref b]) (_:WebAt C H w n ps) (_:Zz n ps) (_:SqT K H a (IL I)) (_:SqT K H b (IL O)) (_:I.Nodup) (_:(∀z∈I,0<=z/\z<ps⁻¹)) (_:(∀z∈I,z∉O)) (_:(∀H':Hp,Same H H'->(∀U,¬With n ps I O U)->Q .non H')) (_:(∀r F H',Same H H'->H' r=some (.tup<|IL F)->With n ps I O F->(∀U,With n ps I O U->HT.lexLt U F=false)->Q ↑r H'))
def xa(T:Txt K mg t):WZ P w base Xi T.qZq 4 (spZq K t.A_Web):=by
 show T.qZq.okI ["web","inside","outside"] D λXv A outer s H vs Q E hr h=>?_
 .let⟨w,a,b,n,ps,I,O,rfl,hW,hG,hA,hB,hIn,XD,hd,q0,q1⟩:=h;exists _,(XI<|Zj<|Xp (dc T) hr T.qZn Zt<|XY (pv 0)<|XY (pv 1)<|XY (Xp (dM T) hr T.qZ9 Zt<|XY (pv 0)<|XY (pv 2) XX) XX),?_;let g3:=hG.2.2.1
  exists _,Z,_,Z,_,Z,_,Z,w,b,n,ps,true,O,Z,hW,J,hB,λCM hDa hD dA H1 s1 MX=>?_;let hDs:IsSet ps.f CM:=XR.U {λz hz=>((hD z).L hz).1,hDa}
  let hb:∀z∈I++CM,0<=z/\z<ps⁻¹:=λz hz=>(Xz.L hz).elim (XD z) λh=>((hD z).L h).1;let il:I.f<=ps.f:=by
   have:=Gw (m:=VB ps.f) hIn λz hz=>Xq.U (XD z hz)
   rwa[ZU]at this
  let dl:=hDs.len;exists w,a,dA,n,ps,true,true,I,CM,Z,hW.same s1,hG,Jc s1 hA,SqT.of MX,J,J,hb,λh H2 s2=>q0 H2 (s1.m s2) λU hU=>?_,λht hl r ms H2 UO PX s2 UK hr=>?_
  .have:=jE hG hU.1 hIn hU.2.1 (hU.sub hD) hb
   rcases h with h|h
   .show h this.1
   .show this.2 h
  .let hF:With n ps I O ms:={Zo6 hG hb hl UO PX,λz hz=>UO.mem_iff.U<|VF<|ht▸hz,λz hz h=>(Xz.L<|(Bc _ _ _).subset (UO.mem_iff.L h)).elim (λh=>hd z h hz) λh=>((hD z).L h).2 hz};show q1 r ms H2 (s1.m s2) hr hF λU hU=>ZF7 hG hU.1 hU.2.1 (hU.sub hD) hb hDa hF.1 UO hF.2.1
inductive spZr(K:Ad)(C:Addr)(vs:List V)(H:Hp)(Q:VK)(_:XK):Prop
 |mk (w m n ps M z:_) (_:vs=[.ref w,.ref m,.int z]) (_:WebAt C H w n ps) (_:Zz n ps) (_:H m=some (.lst<|IL M)) (_:M.f=n.j) (_:0<=z) (_:z<ps⁻¹) (_:∀r l H',l.Perm [mk M (ps.S z.j (0,0)).1.j,mk M (ps.S z.j (0,0)).2.j]->l.E (·<=·)->Same H H'->H' r=some (.lst<|IL l)->Q ↑r H')
def w9(T:Txt K mg t):WZ P w base Xi T.qZr 1 (spZr K t.A_Web):=by
 show T.qZr.okI ["web","marks","tie","ends"] D λXv A outer s H vs Q E hr h=>?_
 .let⟨w,m,n,ps,M,z,rfl,hW,hG,hM,OS,z0,z1,q⟩:=h;show⟨_,(XO (Ze 3<|ZE (Zd K) (Zo K (pv 0) Z) (pv 2) λ_ _=>rfl)
   (XI<|Zj<|Zi (PY K) o3 T.n_sorted Boot.«sorted»<|XY (UR<|XY (ZE (Zd K) (pv 1) (ZE (ZM K) (pv 3) Zc λ_ _=>rfl) λ_ _=>rfl)<|XY (ZE (Zd K) (pv 1) (ZE (ZM K) (pv 3) Zc λ_ _=>rfl) λ_ _=>rfl) XX) XX)),?_⟩
  let(g1,g2,g3,g4):=id hG;let(dx,tl,xs,h1,h2,h3):=id hW;obtain⟨p,hp⟩:∃p,ps[z.j]?=some p:={_,Xr J};let ep:ps.S z.j (0,0)=p:=Wa hp
  rw[ep]at q;let(v,hv,tt,rfl,VS):=h3.2 _ p hp;let(e1,e2,e3,e4):=g4 p (Xm hp);let t0:Wi ([.int p.1,.int p.2]:List V) 0=some (.int p.1):=rfl
  let t1:Wi ([.int p.1,.int p.2]:List V) 1=some (.int p.2):=rfl;let iA:Wi (IL M) p.1=some (.int<|mk M p.1.j):=ZA (n:=p.1.j) J (WE<|RP J)
  let iB:Wi (IL M) p.2=some (.int<|mk M p.2.j):=ZA (n:=p.2.j) J (WE<|RP J);exists _,Z,w,_,dx,_,_,Z,h1,T.cl_Web,T.n_Web_ties,Mh _ _,_,Z,tl,_,_,.ref tt,Z,Z,SqL.of h2,ZA (n:=z.j) J hv,?_;show nm ?_;exists _,Z,_,Z,tt,_,0,_,Z,Z,SqT.of VS,t0,m,_,p.1,_,Z,Z,SqL.of hM,iA,_,Z,_,Z,tt,_,1,_,Z,Z,SqT.of VS,t1,m,_,p.2,_,Z,Z,SqL.of hM,iB,(by change 2<=sizeLine;decide),λa ha=>?_;let s1:=XZ (o:=.lst<|IL [mk M p.1.j,mk M p.2.j]) ha
  exists a,[mk M p.1.j,mk M p.2.j],Z,SqL.of XT,(by change 2<64;decide),λl hl hs r hr=>?_;show q r l _ hl hs (s1.m<|XZ hr) XT
inductive spZs(K:Ad)(C:Addr)(vs:List V)(H:Hp)(Q:VK)(_:XK):Prop
 |mk (w m a n ps M g:_) (_:vs=[.ref w,.ref m,.ref a]) (_:WebAt C H w n ps) (_:Zz n ps) (_:H m=some (.lst<|IL M)) (_:M.f=n.j) (_:SqT K H a (IL g)) (_:∀r H',Same H H'->H r=none->H' r=some (.lst<|IL<|LS M ps g ps.f)->Q ↑r H')
def w6(T:Txt K mg t):WZ P w base Xi T.qZs 1 (spZs K t.A_Web):=by
 show T.qZs.okI ["web","marks","gone"] D λXv A outer s H vs Q E hr h=>?_
 .let⟨w,m,a,n,ps,M,g,rfl,hW,hG,hM,OS,hA,q⟩:=h;exists _,(XI<|Zj<|Tc Z (sc0:=Xd<|top 45) (N0:=["web","marks","gone"]) (N':=["tie","ends","gone","marks"]) (o:=2) (fr:=[2,1]) ⟨Z,D,D,D,Z,D⟩ (Mg K Z T.n_enumerate<|XY (Zo K (pv 0) Z) XX) (Er<|Pf oY<|Pf oY Es) (λ_ _ _ _=>(QI (n:=2) K Z<|Zr (Za 0)<|Zr (Za 1) QM)) (λ_ _ _ _=>(ZR<|PW.pt<|t7 (Zf (ZP K) (pv 0) (pv 2) Z)<|t8<|Zf Rw (ZE (Zd K) (pv 3) (ZE (ZM K) (pv 1) Zc λ_ _=>rfl) λ_ _=>rfl) (ZE (Zd K) (pv 3) (ZE (ZM K) (pv 1) Zc λ_ _=>rfl) λ_ _=>rfl)<|Zs _)) λ_ _ _ _=>(pv 0)),?_;let(g1,g2,g3,g4):=id hG;let(dx,tl,xs,h1,h2,h3):=id hW;let OX:=h3.1
  show⟨_,Z,w,_,dx,_,_,Z,h1,T.cl_Web,T.n_Web_ties,Mh _ _,tl,Z,{_,SqL.of h2},sL (K:=K) (a:=tl) (xs:=xs) (λi ys H3=>Same H H3/\i<=xs.f/\ys=IL (LS M ps g i)) {Same.refl _,Yj _,Z} (Zh J)
   (λi ys H3 _ h=>by let(e,_,ey):=h;show{SqL.of<|e _ _ h2,by rw[ey,XG];show rp _ _ _ _}) ?_ ?_⟩
  .rintro i x ys H3 pt UL hi ⟨s3,Vp,rfl⟩ S Xx;let(p,NY,tt,rfl,VS):=h3.at hi;let(e1,e2,e3,e4):=g4 p (Xm NY);let XC:i<xs.f:=(XF.L hi).1
   let s4:Same H3 (upd H3 pt<|.tup [.int i,.ref tt]):=XZ UL;let Qm:=s3.m s4
   let MY:=Qm _ _ VS;let xb:=Qm _ _ hM
   let LP:=SqK.same (k:=true) Qm hA;let ed:ps.S i (0,0)=p:=Wa NY
   let t0:Wi ([.int p.1,.int p.2]:List V) 0=some (.int p.1):=rfl;let t1:Wi ([.int p.1,.int p.2]:List V) 1=some (.int p.2):=rfl
   let iA:Wi (IL M) p.1=some (.int<|mk M p.1.j):=ZA (n:=p.1.j) J (WE<|RP J);let iB:Wi (IL M) p.2=some (.int<|mk M p.2.j):=ZA (n:=p.2.j) J (WE<|RP J)
   let hs:=ye M ps g i;rw[ed]at hs;exists pt,_,Z,SqT.of XT,Z,_,_,Z,_,_,Z,Z,?_;exists _,Z,_,Z,a,_,Z,.inr LP,Z,ZC _,_,Z,?_;rw[ZN];show WU (λhe=>?_) (λhe=>?_)
   .show Xx _ _ {Qm,XC,?_};rw[hs,if_neg λh=>h.1 he,Ys]
   exists _,Z,_,Z,tt,_,0,_,Z,Z,SqT.of MY,t0,m,_,p.1,_,Z,Z,SqL.of xb,iA,_,Z,_,Z,tt,_,1,_,Z,Z,SqT.of MY,t1,m,_,p.2,_,Z,Z,SqL.of xb,iB,Z,_,Z,?_;rw[Zw];show WU (λhx=>?_) (λhx=>?_)
   .show Xx _ _ {Qm,XC,?_};rw[hs,if_neg λh=>h.2 hx,Ys]
   .exists _,Z,Xx _ _ {Qm,XC,?_};rw[hs,if_pos ⟨he,hx⟩,ZO]
  .rintro ys H3 ⟨s3,_,rfl⟩ p hp;rw[OX];show q p _ (s3.m<|XZ hp) (s3.free hp) XT
def cW(st:Stmt):(Pos):=match (Qa st).S 9 (.Pass ⟨0,0,0,0⟩) with
 | .Assign _ (.Call _ _ [k] _) _=>(match k.value with
  | .Lambda _ _ _ p=>p
  |_=>⟨0,0,0,0⟩)
 |_=>⟨0,0,0,0⟩
def cV:(Str):=Str.ofString "Part.__init__"++Str.ofString ".<locals>."++Str.ofString "<lambda>"
abbrev Xf(H:Hp)(Pt:Addr):Prop:=TabH H Pt (cW sZt) cV
inductive sp_Part_init(K:Ad)(CP C Pt:Addr)(vs:List V)(H:Hp)(Q:VK)(_:XK):Prop
 |mk (x dx w a b n ps I O ld:_) (_:vs=[.ref x,.ref w,.ref a,.ref b,WV ld]) (_:H x=some (.ins CP dx [])) (_:WebAt C H w n ps) (_:Zz n ps) (_:Xf H Pt) (_:SqT K H a (IL I)) (_:SqT K H b (IL O)) (_:I.Nodup) (_:(∀z∈I,0<=z/\z<ps⁻¹)) (_:(∀z∈I,z∉O)) (_:O.f<=30) (_:(∃U,With n ps I O U)) (_:(∀y,ld=some y->0<=y/\y<ps⁻¹)) (_:(ld=none->∀F,With n ps I O F->(∀U,With n ps I O U->HT.lexLt U F=false)->Xk n ps I O F=[])) (_:∀F inc fu l i H',With n ps I O F->(∀U,With n ps I O U->HT.lexLt U F=false)->Rf (λz=>PyProof.Rows.b2i<|decide<|ld=some z) (TV n ps I O F ld) inc->(fu=none↔Wc n ps I O F ld=[])->(∀y,fu=some y->y∈Wc n ps I O F ld/\∀z∈Wc n ps I O F ld,y<=z)->H' x=some (.ins CP dx<|rn ↑w ↑a ↑b (WV ld) ↑l ↑i<|WV fu)->H' l=some (.tup<|IL F)->H' i=some (.lst<|IL inc)->(∀b o,b≠x->b≠Pt->H b=some o->H' b=some o)->Xf H' Pt->Q .non H')
def JR:FnScope ["self","web","kept","shut","lead","marks","opened","alike","unlike"] ["self","web","kept","shut","lead"] (Xd sZt):=RH D
def FA{Pt:Addr}(T:Txt K mg t)(hB:Vm K mg base t.dZt Pt):FnOk P w K mg base Xi 8 t.aZt t.dZt ["self","web","kept","shut","lead"] (sp_Part_init K t.A_Part t.A_Web Pt):=by
 let(cA,Ts,hC,hBa,yq):=hB;show T.fZt.okL Ts JR (λvs H Q E h=>?_) (λA outer s H vs Q E hr h=>?_)
 .let⟨x,dx,w,a,b,n,ps,I,O,ld,rfl,_⟩:=h;rfl
 .let⟨x,dx,w,a,b,n,ps,I,O,ld,rfl,hx,hW,hG,hT,hA,Qk,hIn,XD,UH,QX,⟨U0,DH⟩,xR,QG,q⟩:=h;show⟨_,(XO (Li (pv 0) (pv 1) Z)
   (XO (Li (pv 0) (pv 2) Z)
   (XO (Li (pv 0) (pv 3) Z)
   (XO (Li (pv 0) (pv 4) Z)
   (XO (Li (pv 0) (Xp (xa T) hr T.qZq Zt<|XY (pv 1)<|XY (pv 2)<|XY (pv 3) XX) Z)
   (XO (Th (i:=5) JR.nd Z (Or.inr Z)<|Xp (Pz T) hr T.qZe Zt<|XY (pv 1)<|XY (pv 2) XX)
   (XO (Ze 6<|Xp (w6 T) hr T.qZs Zt<|XY (pv 1)<|XY (pv 5)<|XY (Zy (GL K) (Zy (GL K) (pv 2)<|pv 3)<|Zo K (pv 0) Z) XX)
   (XO (Th (i:=7) JR.nd Z (Or.inr Z)<|Tc Z (sc0:=Xd sZt) (N0:=["self","web","kept","shut","lead","marks","opened","alike","unlike"]) (N':=["tie","web","marks","lead"]) (o:=1) (fr:=[1,5,4]) ⟨Z,D,D,D,Z,D⟩ (ZD K<|pv 6) (Zp oY) (λ_ _ _ _=>(Za 0)) (λ_ _ _ _=>(ZR<|Zf (lM K<|KS hr) (Xp (w9 T) hr T.qZr Zt<|XY (pv 1)<|XY (pv 2)<|XY (pv 0) XX) (Xp (w9 T) hr T.qZr Zt<|XY (pv 1)<|XY (pv 2)<|XY (pv 3) XX)<|Zs _)) λ_ _ _ _=>(pv 0))
   (XO (Sk (i:=8) Z JR.nd Z Z (sc0:=Xd sZt) (N0:=["self","web","kept","shut","lead","marks","opened","alike","unlike"]) (N':=["tie","alike"]) (o:=1) (fr:=[7]) ⟨Z,D,D,D,Z,D⟩ (ZD K<|pv 6) (Zp oY) (λ_ _ _ _=>(Za 0)) (λ_ _ _ _=>(ZR<|Zf (ZP K) (pv 0) (pv 1) Z)) λ_ _ _ _=>(pv 0))
   (XO (Li (pv 0) (Zk6 (k:=0) (i:=4) (v:="tie") (x:="lead") (pv 7) o3 T.n_sorted (hr.mono oY) rfl rfl hC hBa yq (LamScope.of rfl rfl rfl (by first|show .inl rfl|show .inr rfl) oY) rfl rfl (λ_ _ _ _=>rfl) rfl rfl rfl λ_ _ _ _ _ _ hr=>(Jp RV (pv 0) (pv 1)<|Zs _)) rfl)
   (XI<|Li (pv 0) (ZL9 Z o3 T.n_min<|pv 8) Z))))))))))),?_⟩
  let(g1,g2,g3,g4):=id hG;exists _,Z,_,Z,x,_,dx,[],Z,hx,T.cl_Part,T.n_Part_web,(by change 0<1000;decide),?_;exists _,Z,_,Z,x,_,dx,_,Z,XT,T.cl_Part,T.n_Part_kept,(by change 1<1000;decide),?_;exists _,Z,_,Z,x,_,dx,_,Z,XT,T.cl_Part,T.n_Part_shut,(by change 2<1000;decide),?_;exists _,Z,_,Z,x,_,dx,_,Z,XT,T.cl_Part,T.n_Part_lead,(by change 3<1000;decide),?_;change Uh _ _ _ [some ↑x,some<|.ref w,some<|.ref a,some<|.ref b,some<|WV ld,none,none,none,none] (upd (upd (upd (upd H x<|.ins t.A_Part dx<|XN "web" ↑w []) x<|.ins t.A_Part dx<|XN "kept" ↑a<|XN "web" ↑w []) x<|.ins t.A_Part dx<|XN "shut" ↑b<|XN "kept" ↑a<|XN "web" ↑w []) x<|.ins t.A_Part dx<|XN "lead" (WV ld)<|XN "shut" ↑b<|XN "kept" ↑a<|XN "web" ↑w []);let Tp:SameX x H (upd (upd (upd (upd H x<|.ins t.A_Part dx<|XN "web" ↑w []) x<|.ins t.A_Part dx<|XN "kept" ↑a<|XN "web" ↑w []) x<|.ins t.A_Part dx<|XN "shut" ↑b<|XN "kept" ↑a<|XN "web" ↑w []) x<|.ins t.A_Part dx<|XN "lead" (WV ld)<|XN "shut" ↑b<|XN "kept" ↑a<|XN "web" ↑w []):=((Wn.m Wn).m Wn).m Wn
  let qO:(upd (upd (upd (upd H x<|.ins t.A_Part dx<|XN "web" ↑w []) x<|.ins t.A_Part dx<|XN "kept" ↑a<|XN "web" ↑w []) x<|.ins t.A_Part dx<|XN "shut" ↑b<|XN "kept" ↑a<|XN "web" ↑w []) x<|.ins t.A_Part dx<|XN "lead" (WV ld)<|XN "shut" ↑b<|XN "kept" ↑a<|XN "web" ↑w []) x=some (.ins t.A_Part dx [("web",.ref w),("kept",.ref a),("shut",.ref b),("lead",WV ld)]):=XT;generalize upd (upd (upd (upd H x<|.ins t.A_Part dx<|XN "web" ↑w []) x<|.ins t.A_Part dx<|XN "kept" ↑a<|XN "web" ↑w []) x<|.ins t.A_Part dx<|XN "shut" ↑b<|XN "kept" ↑a<|XN "web" ↑w []) x (.ins t.A_Part dx<|XN "lead" (WV ld)<|XN "shut" ↑b<|XN "kept" ↑a<|XN "web" ↑w [])=H4 at *;let cU:=hW.but hx Tp
  let LP:=Nl hA hx Tp;let dh:=Nl Qk hx Tp
  let il:I.f<=ps.f:=by
   have:=Gw (m:=VB ps.f) hIn λz hz=>Xq.U (XD z hz)
   rwa[ZU]at this
  exists _,Z,_,Z,_,Z,w,a,b,n,ps,I,O,Z,cU,hG,LP,dh,hIn,XD,UH,λH5 s5 h=>absurd DH<|h U0,λl F H5 s5 hl hF VU=>?_;exists _,Z,x,_,dx,_,Z,s5 _ _ qO,T.cl_Part,T.n_Part_least,(by change 4<1000;decide),?_;let Fz:SameX x H H5:=Tp.m (SameX.same s5)
  let qI:SameX x H (upd H5 x<|.ins t.A_Part dx<|XN "least" ↑l [("web",.ref w),("kept",.ref a),("shut",.ref b),("lead",WV ld)]):=Fz.m Wn;let hx6:(upd H5 x<|.ins t.A_Part dx<|XN "least" ↑l [("web",.ref w),("kept",.ref a),("shut",.ref b),("lead",WV ld)]) x=some (.ins t.A_Part dx [("web",.ref w),("kept",.ref a),("shut",.ref b),("lead",WV ld),("least",.ref l)]):=XT
  let xn:(upd H5 x<|.ins t.A_Part dx<|XN "least" ↑l [("web",.ref w),("kept",.ref a),("shut",.ref b),("lead",WV ld)]) l=some (.tup<|IL F):=by rwa[Zb (λe=>by rw[e,s5 _ _ qO]at hl;cases hl)]
  change Uh _ _ _ [some ↑x,some<|.ref w,some<|.ref a,some<|.ref b,some<|WV ld,none,none,none,none] (upd H5 x<|.ins t.A_Part dx<|XN "least" ↑l [("web",.ref w),("kept",.ref a),("shut",.ref b),("lead",WV ld)]);generalize upd H5 x (.ins t.A_Part dx<|XN "least" ↑l [("web",.ref w),("kept",.ref a),("shut",.ref b),("lead",WV ld)])=H6 at *;exists _,Z,_,Z,w,a,n,ps,I,Z,hW.but hx qI,hG,Nl hA hx qI,XD,λm H7 s7 OU qJ=>?_;show nm ?_;dsimp only[List.set];let Fy:SameX x H H7:=qI.m (SameX.same s7)
  let hF1:F.f<=ps.f:=hF.1.1.len;let OS:(Xy n.j<|XS ps I).f=n.j:=ZH _ _
  exists _,Z,_,Z,_,Z,_,Z,?_;show yd (l:=I) (m:=O) (Nl hA hx Fy) (Nl Qk hx Fy) J λr1 H8 s8 UJ=>?_;let w5:SameX x H H8:=Fy.m (SameX.same s8)
  let cT:=s7.m s8;exists _,Z,x,_,dx,_,.ref l,Z,cT _ _ hx6,T.cl_Part,T.n_Part_least,Z,?_;show yd (l:=I++O) (m:=F) UJ (SqT.of<|cT _ _ xn) (by rw[Xt];lia) λr2 H9 s9 Vs=>?_;let s69:=cT.m s9
  let w4:SameX x H H9:=w5.m (SameX.same s9);let qL:=s8.m s9
  exists w,m,r2,n,ps,Xy n.j<|XS ps I,I++O++F,Z,hW.but hx w4,hG,qL _ _ qJ,OS,Vs,λpA SD Pw hp0 QW=>?_;let QW:SD pA=some (.lst<|IL<|Xk n ps I O F):=QW
  show nm ?_;let sxA:SameX x H SD:=w4.m (SameX.same Pw)
  let s6A:=s69.m Pw;let hmA:=(qL.m Pw) _ _ qJ
  let Og:∀z∈Xk n ps I O F,0<=z/\z<ps⁻¹:=λz hz=>ZP9 hz;let QJ:(Xk n ps I O F).f<=ps.f:=rp _ _ _ _
  show⟨_,Z,pA,Z,{_,SqL.of QW},VY (K:=K) (a:=pA) (xs:=IL<|Xk n ps I O F) (λi ws Tq=>Same SD Tq/\i<=(Xk n ps I O F).f/\ws=IL (((Xk n ps I O F).M i).Q λz=>decide<|∃y,ld=some y/\VQ (Xy n.j<|XS ps I) ps z=VQ (Xy n.j<|XS ps I) ps y)) ⟨Same.refl _,Yj _,Z⟩ (Zh<|by rw[XG];lia)
   (λi ws Tq hi h=>by let(e,VH,ew):=h;show{SqL.of<|e _ _ QW,by rw[ew,XG];show Yl (Yo ..)<|by rw[Yf];lia}) ?_ ?_⟩
  .rintro i v ws Tq hi ⟨Ql,Vp,rfl⟩ S Xx;let(z,rfl,hz):=ZT hi;let(z0,z1):=Og z (Xm hz);let XC:i<(Xk n ps I O F).f:=(XF.L hz).1
   obtain⟨y,rfl⟩:∃y,ld=some y:=by
    cases ld with
    |some y=>exists y,Z
    |none=>
     rw[QG Z F hF VU]at XC;show absurd XC (Sy _)
   let(y0,y1):=xR y rfl;show nm ?_;exists _,Z,_,Z,_,Z,w,m,n,ps,_,z,Z,hW.but hx<|sxA.m<|SameX.same Ql,hG,Ql _ _ hmA,OS,z0,z1,λe1 l1 Ig SF hs1 WB yH=>?_;let Fx:=Ql.m WB
   exists _,Z,_,Z,_,Z,w,m,n,ps,_,y,Z,hW.but hx<|sxA.m<|SameX.same Fx,hG,Fx _ _ hmA,OS,y0,y1,λe2 l2 H13 Vj Sn DG Oe=>?_;exists 1,_,e1,e2,Z,Z,oY,sQ (SqL.of<|DG _ _ yH)<|SqL.of Oe,_,Z,?_;let ed:decide (l1=l2)=decide (∃y_1,some y=some y_1/\VQ (Xy n.j<|XS ps I) ps z=VQ (Xy n.j<|XS ps I) ps y_1):=by
    rw[Kd SF hs1,Kd Vj Sn,HS];constructor
    .intro e;injection e with e1 e2
     injection e2 with e2 _;exists y,Z,Prod.ext e1 e2
    .rintro⟨y',e,e'⟩;cases e;let(e1,e2):=Prod.mk.inj e';rw[e1,e2]
   let wZ:=Fx.m DG;change(if decide (l1=l2)=true then _ else _)
   rw[ed];show Xc (λhc=>?_) (λhc=>?_)
   .exists _,Z,Xx _ _ {wZ,XC,?_};rw[Zm hz,if_pos<|Yq hc,ZO]
   .show Xx _ _ {wZ,XC,?_};rw[Zm hz,if_neg (by simpa using hc),Ys]
  rintro ws Tq ⟨Ql,_,rfl⟩ kA hkA;rw[XG,Yz];let ea:((Xk n ps I O F).Q λz=>decide<|∃y,ld=some y/\VQ (Xy n.j<|XS ps I) ps z=VQ (Xy n.j<|XS ps I) ps y)=TV n ps I O F ld:=rfl
  rw[ea];let hal:(TV n ps I O F ld).f<=ps.f:=Yl (Yo ..) QJ
  let v1:=XZ (o:=.lst<|IL<|TV n ps I O F ld) hkA;let kK:(upd Tq kA<|.lst<|IL<|TV n ps I O F ld) kA=some (.lst<|IL<|TV n ps I O F ld):=XT
  show nm ?_;dsimp only[List.set];let sAB:=Ql.m v1
  change Uh _ _ _ _ (upd Tq kA<|.lst<|IL<|TV n ps I O F ld);generalize upd Tq kA (.lst<|IL<|TV n ps I O F ld)=H14 at *;let hpB:=sAB _ _ QW
  show⟨_,Z,pA,Z,{_,SqL.of hpB},VY (K:=K) (a:=pA) (xs:=IL<|Xk n ps I O F) (λi ws Ie=>Ie=H14/\i<=(Xk n ps I O F).f/\ws=IL (((Xk n ps I O F).M i).Q λz=>decide<|z∉TV n ps I O F ld)) {Z,Yj _,Z} (Zh<|by rw[XG];lia)
   (λi ws Ie hi h=>by let(e,VH,ew):=h;show{e▸SqL.of hpB,by rw[ew,XG];show Yl (Yo ..)<|by rw[Yf];lia}) ?_ ?_⟩
  .rintro i v ws Ie hi ⟨rfl,Vp,rfl⟩ S Xx;let(z,rfl,hz):=ZT hi;let XC:i<(Xk n ps I O F).f:=(XF.L hz).1
   show nm ?_;exists _,Z,_,Z,kA,_,Z,.inl<|SqL.of kK,Z,ZC _,_,Z,?_;rw[ZN];show WU (λhe=>?_) (λhe=>?_)
   .show Xx _ _ {Z,XC,?_};rw[Zm hz,if_neg (by simpa using he),Ys]
   .exists _,Z,Xx _ _ {Z,XC,?_};rw[Zm hz,if_pos<|Yq he,ZO]
  rintro ws Ie ⟨rfl,_,rfl⟩ uA huA;rw[XG,Yz];let eu:((Xk n ps I O F).Q λz=>decide<|z∉TV n ps I O F ld)=Wc n ps I O F ld:=rfl
  rw[eu];let v2:=XZ (o:=.lst<|IL<|Wc n ps I O F ld) huA
  let kU:(upd Ie uA<|.lst<|IL<|Wc n ps I O F ld) uA=some (.lst<|IL<|Wc n ps I O F ld):=XT;show nm ?_;let cS:=(s6A.m sAB).m v2
  let kKU:=v2 _ _ kK;let sxU:SameX x H (upd Ie uA<|.lst<|IL<|Wc n ps I O F ld):=qI.m (SameX.same cS)
  let Gv:=cS _ _ hx6;let hlU:=cS _ _ xn
  change Uh _ _ _ _ (upd Ie uA<|.lst<|IL<|Wc n ps I O F ld);generalize upd Ie uA (.lst<|IL<|Wc n ps I O F ld)=H16 at *;let JQ:Xf H16 Pt:=fH hT hx sxU
  exists _,Z,kA,TV n ps I O F ld,WV ld,λz=>decide<|ld=some z,Z,SqL.of kKU,J,JQ,Z,λwY MW z hz=>?_,λinc iA wY Wk MW wX cR=>?_
  .exists _,rfl,_,rfl,(by cases ld<;>rfl),?_,rfl
   change V.bl (decide<|V.int z=WV ld)=V.bl (decide<|ld=some z);cases ld with
   |none=>rfl
   |some y=>
    change V.bl (decide<|V.int z=V.int y)=V.bl (decide<|some y=some z);rw[Zw];congr 1;rw[HS];exists λe=>by rw[e],λe=>(Ye e).symm
  let hxP:x≠Pt:=JQ.ne Gv B;let v3:=XZ (o:=.lst<|IL inc) cR
  let wW:=v3 _ _ (MW _ _ hxP Gv);let wV:=v3 _ _ (MW _ _ (JQ.ne hlU B) hlU)
  let wU:=v3 _ _ (MW _ _ (JQ.ne kU B) kU);let wR:(upd wY iA<|.lst<|IL inc) iA=some (.lst<|IL inc):=XT
  let wQ:Xf (upd wY iA<|.lst<|IL inc) Pt:=wX.same v3;let Fw:∀b o,b≠x->b≠Pt->H b=some o->(upd wY iA<|.lst<|IL inc) b=some o:=λb o h1 h2 e=>v3 _ _ (MW _ _ h2<|sxU _ _ h1 e)
  change tVar _ _ _ _;generalize upd wY iA (.lst<|IL inc)=wO at *;exists _,Z,x,_,dx,_,Z,wW,T.cl_Part,T.n_Part_incoming,(by change 5<1000;decide),?_;let MV:∀c o,wO c=some o->(∀a b fs,o≠.ins a b fs)->c≠x:=λc o h ho e=>by rw[e,wW]at h;show ho _ _ _ (Ye h).symm
  let cQ:(upd wO x<|.ins t.A_Part dx<|XN "incoming" ↑iA [("web",.ref w),("kept",.ref a),("shut",.ref b),("lead",WV ld),("least",.ref l)]) uA=some (.lst<|IL<|Wc n ps I O F ld):=by rw[Zb (MV _ _ wU B)];show wU
  let fin:∀fu:Option Int,(fu=none↔Wc n ps I O F ld=[])->(∀y,fu=some y->y∈Wc n ps I O F ld/\∀z∈Wc n ps I O F ld,y<=z)->Q .non (upd (upd wO x<|.ins t.A_Part dx<|XN "incoming" ↑iA [("web",.ref w),("kept",.ref a),("shut",.ref b),("lead",WV ld),("least",.ref l)]) x<|.ins t.A_Part dx<|rn ↑w ↑a ↑b (WV ld) ↑l ↑iA<|WV fu):=λfu h1 h2=>by
   let up:∀c o,c≠x->wO c=some o->(upd (upd wO x<|.ins t.A_Part dx<|XN "incoming" ↑iA [("web",.ref w),("kept",.ref a),("shut",.ref b),("lead",WV ld),("least",.ref l)]) x<|.ins t.A_Part dx<|rn ↑w ↑a ↑b (WV ld) ↑l ↑iA<|WV fu) c=some o:=λc o h e=>by rw[Zb h,Zb h];show e
   let(tp,t1,t2,t3):=id wQ;show q F inc fu l iA _ hF VU Wk h1 h2 XT (up _ _ (MV _ _ wV B) wV) (up _ _ (MV _ _ wR B) wR) (λb o b1 b2 e=>up _ _ b1<|Fw b o b1 b2 e) ⟨tp,up _ _ (MV _ _ t1 B) t1,t2,?_⟩;rcases t3 with h|⟨c,h,h'⟩
   .show .inl h
   .show .inr {c,h,up _ _ (MV _ _ h'<|by unfold DN;simp) h'}
  exists _,Z,uA,Wc n ps I O F ld,Z,SqL.of cQ,λe=>?_,λmn Tv WG=>?_
  .exists _,Z,x,_,dx,_,Z,XT,T.cl_Part,T.n_Part_further,(by change 6<1000;decide),?_;show fin none {λ_=>e,λ_=>rfl} λy h=>by cases h
  .exists _,Z,x,_,dx,_,Z,XT,T.cl_Part,T.n_Part_further,(by change 6<1000;decide),?_;show fin (some mn) {λh=>(by cases h),λh=>(by rw[h]at Tv;cases Tv)} λy h=>(by cases h;exists Tv,WG)
inductive spZu(K:Ad)(CP C Pt:Addr)(vs:List V)(H:Hp)(Q:VK)(_:XK):Prop
 |mk (w n ps:_) (_:vs=[.ref w]) (_:WebAt C H w n ps) (_:Zz n ps) (_:Xf H Pt) (_:(∃U,Zg n ps U)) (_:∀x F inc ld fu H',PartOk n ps [] [] ld F inc fu->(ld=none↔Xk n ps [] [] F=[])->(∀y,ld=some y->y∈Xk n ps [] [] F/\∀z∈Xk n ps [] [] F,y<=z)->PartAt K CP C H' x n ps [] [] F inc ld fu->SameX Pt H H'->Xf H' Pt->Q ↑x H')
def wN{Pt:Addr}(T:Txt K mg t)(hB:Vm K mg base t.dZt Pt):WZ P w base Xi T.qZu 10 (spZu K t.A_Part t.A_Web Pt):=by
 show T.qZu.okI ["web","opened"] D λXv A outer s H vs Q E hr h=>?_
 .let⟨w,n,ps,rfl,hW,hG,hT,⟨U0,DH⟩,q⟩:=h;show⟨_,(XO (Ze 1<|Xp (w6 T) hr T.qZs Zt<|XY (pv 0)<|XY (Xp (Pz T) hr T.qZe Zt<|XY (pv 0)<|XY (Ug XX) XX)<|XY (Xp (xa T) hr T.qZq Zt<|XY (pv 0)<|XY (Ug XX)<|XY (Ug XX) XX) XX)
   (XI<|Zj<|Cd T.k_Part (FA T hB) (hr.mono oY) Z T.c_Part T.bZt .nil Zt<|XY (pv 0)<|XY (Ug XX)<|XY (Ug XX)<|XY (ZL9 Z o3 T.n_min<|pv 1) XX)),?_⟩
  let hU1:With n ps [] [] U0:={DH,λz h=>(by cases h),λz h=>(by cases h)};exists _,Z,_,Z,Yj _,λe1 yH=>?_;let s1:=XZ (o:=.tup []) yH
  exists w,e1,n,ps,[],Z,hW.same s1,hG,SqT.of XT,λz h=>(by cases h),λm H2 s2 OU WG=>?_;let WB:=s1.m s2
  exists _,Z,Yj _,λe2 Oe=>{Yj _,λe3 he3=>?_};let s3:=XZ (o:=.tup []) Oe
  let s4:=XZ (o:=.tup []) he3;let DF:=WB.m (s3.m s4)
  exists w,e2,e3,n,ps,[],[],Z,hW.same DF,hG,SqT.of<|s4 _ _ XT,SqT.of XT,.nil,λz h=>(by cases h),λz h=>(by cases h),λH5 s5 h=>absurd hU1<|h U0,λl F H5 s5 hl hF VU=>?_;let s15:=DF.m s5
  let qK:=((s3.m s4).m s5) _ _ WG;let OS:(Xy n.j<|XS ps []).f=n.j:=ZH _ _
  exists w,m,l,n,ps,Xy n.j<|XS ps [],F,Z,hW.same s15,hG,qK,OS,SqT.of hl,λpA H6 s6 hp0 wM=>?_;let wM:H6 pA=some (.lst<|IL<|Xk n ps [] [] F):=wM
  show nm ?_;let s16:=s15.m s6
  let Og:∀z∈Xk n ps [] [] F,0<=z/\z<ps⁻¹:=λz hz=>ZP9 hz;exists _,Z,Yj _,λf1 Na=>{Yj _,λf2 JV=>?_};let s7:=XZ (o:=.tup []) Na
  let s8:=XZ (o:=.tup []) JV;let Fv:(upd (upd H6 f1<|.tup []) f2<|.tup []) f1=some (.tup []):=s8 _ _ XT
  let Fu:(upd (upd H6 f1<|.tup []) f2<|.tup []) f2=some (.tup []):=XT;let qH:=s16.m (s7.m s8)
  let qG:=(s7.m s8) _ _ wM;generalize upd (upd H6 f1<|.tup []) f2 (.tup [])=H8 at *;let main:∀ld:Option Int,(ld=none↔Xk n ps [] [] F=[])->(∀y,ld=some y->y∈Xk n ps [] [] F/\∀z∈Xk n ps [] [] F,y<=z)->∀x dx,H8 x=none->H8 dx=none->dx≠x->sp_Part_init K t.A_Part t.A_Web Pt [.ref x,.ref w,.ref f1,.ref f2,WV ld] (upd (upd H8 dx<|.own x) x<|.ins t.A_Part dx []) (λv H2=>v=.non/\Q ↑x H2) E0:=by
   intro ld hn hs x dx nx MZ JS;let s9:Same H8 (upd (upd H8 dx<|.own x) x<|.ins t.A_Part dx []):=Zv (XZ MZ) (by rwa[Zb (WX JS)])
   let s19:=qH.m s9;exists x,dx,w,f1,f2,n,ps,[],[],ld,Z,XT,hW.same s19,hG,hT.same s19,SqT.of<|s9 _ _ Fv,SqT.of<|s9 _ _ Fu,.nil,λz h=>(by cases h),λz h=>(by cases h),Yj _,⟨U0,hU1⟩,λy hy=>Og y (hs y hy).1,λe F' Ic Sb=>?_,λF' inc fu l' i' H' Ic Sb Wk h1 h2 Xl Ox Ta keep MU=>{Z,?_}
   .let eF:F'=F:=Xu (VU F' Ic) (Sb F hF);rw[eF];show hn.L e
   .let eF:F'=F:=Xu (VU F' Ic) (Sb F hF);subst eF;let sx:SameX Pt H8 H':=λb o hb e=>keep b o (WC e nx) hb (s9 _ _ e)
    let Sa:Xf H8 Pt:=hT.same qH;show q x F' inc ld fu H' ⟨Ic,Sb,Wk,h1,h2⟩ hn hs {dx,w,f1,f2,l',i',Xl,(hW.same qH).samex Sa sx,SqT.of<|sx _ _ (Sa.ne Fv B) Fv,SqT.of<|sx _ _ (Sa.ne Fu B) Fu,Ox,Ta} ((SameX.same qH).m sx) MU
  exists _,Z,pA,Xk n ps [] [] F,Z,SqL.of qG,λe=>?_,λmn h1 h2=>?_
  .show main none {λ_=>e,λ_=>rfl} λy h=>by cases h
  .show main (some mn) {λh=>(by cases h),λh=>(by rw[h]at h1;cases h1)} λy h=>(by cases h;exists h1,h2)
inductive spZv(K:Ad)(CP C Pt:Addr)(vs:List V)(H:Hp)(Q:VK)(_:XK):Prop
 |mk (x n ps I O F inc z y:_) (_:vs=[.ref x]) (_:PartAt K CP C H x n ps I O F inc (some z) (some y)) (_:Zz n ps) (_:Xf H Pt) (_:(I).Nodup) (_:(∀v∈I,0<=v/\v<ps⁻¹)) (_:(∀v∈I,v∉O++[z])) (_:(O++[z]).f<=30) (_:(∃U,With n ps (I) (O++[z]) U)) (_:0<=y) (_:y<ps⁻¹) (_:∀x' F' We fu H',PartOk n ps (I) (O++[z]) (some y) F' We fu->PartAt K CP C H' x' n ps (I) (O++[z]) F' We (some y) fu->SameX Pt H H'->Xf H' Pt->Q ↑x' H')
def wL{Pt:Addr}(T:Txt K mg t)(hB:Vm K mg base t.dZt Pt):WZ P w base Xi T.qZv 10 (spZv K t.A_Part t.A_Web Pt):=by
 show T.qZv.okI ["part"] D λXv A outer s H vs Q E hr h=>?_
 .let⟨x,n,ps,I,O,F,inc,z,y,rfl,⟨dx,w,a,b,l,i,hx,hW,hA,Qk,hl,hi⟩,hG,hT,hIn,XD,UH,QX,hex,y0,y1,q⟩:=h;exists _,(XI<|Zj<|Cd T.k_Part (FA T hB) (hr.mono oY) Z T.c_Part T.bZt .nil Zt<|XY (Zo K (pv 0) Z)<|XY (Zo K (pv 0) Z)<|XY (Zy (GL K) (Zo K (pv 0) Z)<|Ug<|XY (Zo K (pv 0) Z) XX)<|XY (Zo K (pv 0) Z) XX),?_;let cP:I.f<=30:=by
   have:=Gw (m:=VB ps.f) hIn λv hv=>Xq.U (XD v hv)
   let e:=hG.2.2.1;rw[ZU]at this
   try simp only[Xt,Yw]at this
   lia
  let Rc:O.f<=30:=by
   have:=QX
   try simp only[Xt,Yw]at this
   lia
  exists _,Z,x,_,dx,_,.ref w,Z,hx,T.cl_Part,T.n_Part_web,Z,_,Z,x,_,dx,_,.ref a,Z,hx,T.cl_Part,T.n_Part_kept,Z,_,Z,x,_,dx,_,.ref b,Z,hx,T.cl_Part,T.n_Part_shut,Z,_,Z,x,_,dx,_,.int z,Z,hx,T.cl_Part,T.n_Part_lead,Z,(by change 1<=sizeLine;decide),λp hp=>?_;let s1:=XZ (o:=.tup<|IL [z]) hp
  show yd (l:=O) (m:=[z]) (SqK.same (k:=true) s1 Qk) (SqT.of XT) (by rw[Yw];lia) λr1 H2 s2 UJ=>?_;let WB:=s1.m s2
  exists _,Z,x,_,dx,_,.int y,Z,WB _ _ hx,T.cl_Part,T.n_Part_further,Z,?_;intro x' JP nx MZ JS;let s9:Same H2 (upd (upd H2 JP<|.own x') x'<|.ins t.A_Part JP []):=Zv (XZ MZ) (by rwa[Zb (WX JS)])
  let Xe:Xf H2 Pt:=hT.same WB;exists x',JP,w,a,r1,n,ps,I,O++[z],some y,Z,XT,hW.same<|WB.m s9,hG,Xe.same s9,SqK.same (k:=true) (WB.m s9) hA,SqK.same (k:=true) s9 UJ,hIn,XD,UH,QX,hex,λv e=>(by cases e;exists y0,y1),λe=>(by cases e),λF' We fu l' i' H' Ic Sb Wk h1 h2 Xl Ox Ta keep MU=>{Z,?_};let sx:SameX Pt H2 H':=λb o hb e=>keep b o (WC e nx) hb (s9 _ _ e)
  show q x' F' We fu H' ⟨Ic,Sb,Wk,h1,h2⟩ {JP,w,a,r1,l',i',Xl,(hW.same WB).samex Xe sx,SqK.samex (kd:=true) (SqK.same (k:=true) WB hA) Xe sx,SqK.samex (kd:=true) (UJ) Xe sx,Ox,Ta} ((SameX.same WB).m sx) MU
inductive spZw(K:Ad)(CP C Pt:Addr)(vs:List V)(H:Hp)(Q:VK)(_:XK):Prop
 |mk (x n ps I O F inc z y:_) (_:vs=[.ref x]) (_:PartAt K CP C H x n ps I O F inc (some z) (some y)) (_:Zz n ps) (_:Xf H Pt) (_:(I++[z]).Nodup) (_:(∀v∈I++[z],0<=v/\v<ps⁻¹)) (_:(∀v∈I++[z],v∉O)) (_:(O).f<=30) (_:(∃U,With n ps (I++[z]) (O) U)) (_:0<=y) (_:y<ps⁻¹) (_:∀x' F' We fu H',PartOk n ps (I++[z]) (O) (some y) F' We fu->PartAt K CP C H' x' n ps (I++[z]) (O) F' We (some y) fu->SameX Pt H H'->Xf H' Pt->Q ↑x' H')
def wK{Pt:Addr}(T:Txt K mg t)(hB:Vm K mg base t.dZt Pt):WZ P w base Xi T.qZw 10 (spZw K t.A_Part t.A_Web Pt):=by
 show T.qZw.okI ["part"] D λXv A outer s H vs Q E hr h=>?_
 .let⟨x,n,ps,I,O,F,inc,z,y,rfl,⟨dx,w,a,b,l,i,hx,hW,hA,Qk,hl,hi⟩,hG,hT,hIn,XD,UH,QX,hex,y0,y1,q⟩:=h;exists _,(XI<|Zj<|Cd T.k_Part (FA T hB) (hr.mono oY) Z T.c_Part T.bZt .nil Zt<|XY (Zo K (pv 0) Z)<|XY (Zy (GL K) (Zo K (pv 0) Z)<|Ug<|XY (Zo K (pv 0) Z) XX)<|XY (Zo K (pv 0) Z)<|XY (Zo K (pv 0) Z) XX),?_;let cP:I.f<=30:=by
   have:=Gw (m:=VB ps.f) hIn λv hv=>Xq.U (XD v hv)
   let e:=hG.2.2.1;rw[ZU]at this
   try simp only[Xt,Yw]at this
   lia
  let Rc:O.f<=30:=by
   have:=QX
   try simp only[Xt,Yw]at this
   lia
  exists _,Z,x,_,dx,_,.ref w,Z,hx,T.cl_Part,T.n_Part_web,Z,_,Z,x,_,dx,_,.ref a,Z,hx,T.cl_Part,T.n_Part_kept,Z,_,Z,x,_,dx,_,.int z,Z,hx,T.cl_Part,T.n_Part_lead,Z,(by change 1<=sizeLine;decide),λp hp=>?_;let s1:=XZ (o:=.tup<|IL [z]) hp
  show yd (l:=I) (m:=[z]) (SqK.same (k:=true) s1 hA) (SqT.of XT) (by rw[Yw];lia) λr1 H2 s2 UJ=>?_;let WB:=s1.m s2
  exists _,Z,x,_,dx,_,.ref b,Z,WB _ _ hx,T.cl_Part,T.n_Part_shut,Z,_,Z,x,_,dx,_,.int y,Z,WB _ _ hx,T.cl_Part,T.n_Part_further,Z,?_;intro x' JP nx MZ JS;let s9:Same H2 (upd (upd H2 JP<|.own x') x'<|.ins t.A_Part JP []):=Zv (XZ MZ) (by rwa[Zb (WX JS)])
  let Xe:Xf H2 Pt:=hT.same WB;exists x',JP,w,r1,b,n,ps,I++[z],O,some y,Z,XT,hW.same<|WB.m s9,hG,Xe.same s9,SqK.same (k:=true) s9 UJ,SqK.same (k:=true) (WB.m s9) Qk,hIn,XD,UH,QX,hex,λv e=>(by cases e;exists y0,y1),λe=>(by cases e),λF' We fu l' i' H' Ic Sb Wk h1 h2 Xl Ox Ta keep MU=>{Z,?_};let sx:SameX Pt H2 H':=λb o hb e=>keep b o (WC e nx) hb (s9 _ _ e)
  show q x' F' We fu H' ⟨Ic,Sb,Wk,h1,h2⟩ {JP,w,r1,b,l',i',Xl,(hW.same WB).samex Xe sx,SqK.samex (kd:=true) (UJ) Xe sx,SqK.samex (kd:=true) (SqK.same (k:=true) WB Qk) Xe sx,Ox,Ta} ((SameX.same WB).m sx) MU
inductive spZx(K:Ad)(CP C:Addr)(vs:List V)(H:Hp)(Q:VK)(_:XK):Prop
 |mk (x n ps I O F inc ld fu:_) (_:vs=[.ref x]) (_:PartAt K CP C H x n ps I O F inc ld fu) (_:Zz n ps) (_:I.Nodup) (_:(∀z∈I,0<=z/\z<ps⁻¹)) (_:O.f<=30) (_:(∀z∈I,z∉O)) (_:∀c H',PC n ps I O c->Same H H'->Q (.int c) H')
def wJ(T:Txt K mg t):WZ P w base Xi T.qZx 8 (spZx K t.A_Part t.A_Web):=by
 show T.qZx.okI ["part"] D λXv A outer s H vs Q E hr h=>?_
 .let⟨x,n,ps,I,O,F,inc,ld,fu,rfl,⟨dx,w,a,b,l,i,hx,hW,hA,Qk,hl,hi⟩,hG,hI,XD,hO,UH,q⟩:=h;exists _,(XI<|Zj<|Xp (dj T) hr T.qZk Zt<|XY (Zo K (pv 0) Z)<|XY (Zo K (pv 0) Z)<|XY (Zo K (pv 0) Z) XX),?_;exists _,Z,x,_,dx,_,.ref w,Z,hx,T.cl_Part,T.n_Part_web,Z,_,Z,x,_,dx,_,.ref a,Z,hx,T.cl_Part,T.n_Part_kept,Z,_,Z,x,_,dx,_,.ref b,Z,hx,T.cl_Part,T.n_Part_shut,Z,?_;exists w,a,b,n,ps,I,O,Z,hW,hG,hA,Qk,hI,XD,hO,UH,q
def cO{n:Int}{ps:Aa}{I F ms:Ac}{z:Int}(hF:Zg n ps F)(hz:z∉F)(hp:ms.Perm (SI n ps F z F++[z]))(hs:ms.E (·<=·)):(ms.Q λt=>decide (t≠z/\t∉I))=WR n ps I F z:=by
 show Rq ((hp.Q _).m ?_) (hs.Q _) ?_
 .rw[QU,List.filter_cons_of_neg B,pH,Ys];show List.Perm.of_eq (Mw λt ht=>?_)
  have:t≠z:=λe=>hz (e▸(Ve.L ht).1)
  simp[this]
 .show((XR.L hF.1).2.Q _).Q _ |>.imp λh=>J
inductive spZy(K:Ad)(CP C:Addr)(vs:List V)(H:Hp)(Q:VK)(_:XK):Prop
 |mk (x n ps I O F inc ld fu z:_) (_:vs=[.ref x,.int z]) (_:PartAt K CP C H x n ps I O F inc ld fu) (_:Zz n ps) (_:Zg n ps F) (_:z∉F) (_:0<=z) (_:z<ps⁻¹) (_:∀r xs H',Same H H'->H r=none->H' r=some (.lst xs)->Bears (Xn H') xs ((WR n ps I F z).R λo=>xchT F o z)->Q ↑r H')
def cN:FnScope ["part","into","leaving"] ["part","into"] (Xd (top 51)):=RH D
def cM(T:Txt K mg t):WZ P w base Xi T.qZy 9 (spZy K t.A_Part t.A_Web):=by
 show T.qZy.okI ["part","into","leaving"] D λXv A outer s H vs Q E hr h=>?_
 .let⟨x,n,ps,I,O,F,inc,ld,fu,z,rfl,⟨dx,w,a,b,l,i,hx,hW,hA,Qk,hl,hi⟩,hG,hF,hz,z0,z1,q⟩:=h;show⟨_,(XO (Sk (i:=2) Z cN.nd Z Z (sc0:=Xd<|top 51) (N0:=["part","into","leaving"]) (N':=["tie","into","part"]) (o:=1) (fr:=[1,0]) ⟨Z,D,D,D,Z,D⟩ (Ue K<|Xp (cZ T) hr T.qZp Zt<|XY (Zo K (pv 0) Z)<|XY (Zo K (pv 0) Z)<|XY (pv 1) XX) (Zp oY) (λ_ _ _ _=>(Za 0)) (λ_ _ _ _=>(ZR<|PW.pt<|t7 (Zf Rw (pv 0) (pv 1)<|Zs _)<|t8<|Zf (ZP K) (pv 0) (Zo K (pv 2) Z) Z)) λ_ _ _ _=>(pv 0))
   (XI<|Zj<|Tc Z (sc0:=Xd<|top 51) (N0:=["part","into","leaving"]) (N':=["out","part","into"]) (o:=1) (fr:=[0,1]) ⟨Z,D,D,D,Z,D⟩ (ZD K<|pv 2) (Zp oY) (λ_ _ _ _=>(Za 0)) (λ_ _ _ _=>QL) λ_ _ _ _=>(Zk (ZQ K) o3 T.n_tuple Boot.«tuple»<|XY (Zi (ZQ4 K) o3 T.n_sorted Boot.«sorted»<|XY (Zy (GL K) (Xp (xt T) hr T.qZa Zt<|XY (Zo K (pv 1) Z)<|XY (pv 0) XX)<|Ug<|XY (pv 2) XX) XX) XX))),?_⟩
  let big:(30:Int)<10^70:=oY;let g3:=hG.2.2.1
  exists _,Z,x,_,dx,_,.ref w,Z,hx,T.cl_Part,T.n_Part_web,Z,_,Z,x,_,dx,_,.ref l,Z,hx,T.cl_Part,T.n_Part_least,Z,_,Z,?_;exists w,l,n,ps,true,F,z,Z,hW,hG,SqT.of hl,J,J,λ_ _ _ _ ms Tv WG rA H1 s1 UK OV=>?_,λ_ h=>absurd h λh=>h.elim hz λh=>h ⟨z0,z1⟩,λh=>absurd hF h;let hm30:ms.f<=40:=by
   rw[Tv.length_eq,Xt,Yw]
   have:=GP n ps F z F
   have:=hF.1.len
   lia
  show⟨rA,Z,{_,SqT.of OV},KR (K:=K) (a:=rA) (xs:=IL ms) (λj ws H2=>H2=H1/\j<=ms.f/\ws=IL ((ms.M j).Q λt=>decide<|t≠z/\t∉I)) {Z,Yj _,Z} (Zh<|by rw[XG];lia)
   (λj ws H2 hj h=>by let(e,RJ,ew):=h;show{e▸SqT.of OV,by rw[ew,XG];show Yl (Yo ..)<|by rw[Yf];lia}) ?_ ?_⟩
  .rintro j v ws H2 hj ⟨rfl,Vf,rfl⟩ S Xx;let(y,rfl,hy):=ZT hj;let VT:j<ms.f:=(XF.L hy).1
   show nm ?_;exists _,Z,_,Z,Z,_,Z,?_;rw[Zw];show WU (λhe=>?_) (λhe=>?_)
   .show Xx _ _ {Z,VT,?_};rw[Zm hy,if_neg (by simp[he]),Ys]
   exists _,Z,_,Z,x,_,dx,_,.ref a,Z,s1 _ _ hx,T.cl_Part,T.n_Part_kept,Z,a,_,Z,.inr<|SqK.same (k:=true) s1 hA,Z,ZC _,_,Z,?_;rw[ZN];show WU (λhc=>?_) (λhc=>?_)
   .show Xx _ _ {Z,VT,?_};rw[Zm hy,if_neg (by simp[hc]),Ys]
   .exists _,Z,Xx _ _ {Z,VT,?_};rw[Zm hy,if_pos<|Yq ⟨he,hc⟩,ZO]
  rintro ws H2 ⟨rfl,_,rfl⟩ lA cL;rw[XG,Yz,cO hF hz Tv WG];let u1:=XZ (o:=.lst<|IL<|WR n ps I F z) cL
  let kL:(upd H2 lA<|.lst<|IL<|WR n ps I F z) lA=some (.lst<|IL<|WR n ps I F z):=XT;show nm ?_;dsimp only[List.set];let s2:=s1.m u1
  change Lp _ _ _ (upd H2 lA<|.lst<|IL<|WR n ps I F z);generalize upd H2 lA (.lst<|IL<|WR n ps I F z)=H3 at *;let lvl:(WR n ps I F z).f<=30:=Yl (Yo ..) (by have:=GP n ps F z F;have:=hF.1.len;lia)
  let hFl:F.f<=30:=by have:=hF.1.len;lia
  show⟨_,Z,lA,Z,{_,SqL.of kL},VY (K:=K) (a:=lA) (xs:=IL<|WR n ps I F z) (λj ys H4=>Same H3 H4/\j<=(WR n ps I F z).f/\Bears (Xn H4) ys (((WR n ps I F z).M j).R λo=>xchT F o z)) {Same.refl _,Yj _,{Z,λi l e=>by simp at e}} (Zh<|by rw[XG];lia)
   (λj ys H4 hj h=>by let(e,RJ,ey):=h;show{SqL.of<|e _ _ kL,by rw[ey.1,Yc,Yf];lia}) ?_ ?_⟩
  .rintro j v ys H4 hj ⟨s4,Vf,hY⟩ S Xx;let(o,rfl,ho):=ZT hj;let VT:j<(WR n ps I F z).f:=(XF.L ho).1
   let Ih:=s2.m s4;show nm ?_;exists _,Z,x,_,dx,_,.ref l,Z,Ih _ _ hx,T.cl_Part,T.n_Part_least,Z,_,Z,l,true,F,o,Z,SqT.of<|Ih _ _ hl,J,λr1 H5 s5 hr10 UJ=>?_;let wl:=sJ F o
   exists _,Z,(by change 1<=sizeLine;decide),λp2 VL=>?_;let s6:=XZ (o:=.tup<|IL [z]) VL
   show yd (l:=wo F o) (m:=[z]) (SqT.of<|s6 _ _ UJ) (SqT.of XT) (by rw[Yw];lia) λr3 H7 s7 Uq=>?_;show{r3,wo F o++[z],Z,Uq,by rw[Xt,Yw];lia,λns DZ Om p4 Nd=>?_};let en:ns=xchT F o z:=Rq (DZ.m (UM F o z).symm) Om (LR F o z)
   subst en;let s8:=XZ (o:=.lst<|IL<|xchT F o z) Nd
   exists p4,_,Z,.inl {SqL.of XT,λp5 FP=>?_};let s9:=XZ (o:=.tup<|IL<|xchT F o z) FP
   let sA:=(s5.m s6).m (s7.m<|s8.m s9);show Xx _ _ {s4.m sA,VT,?_};rw[YY,ho,YN];show(hY.imp λ_ _ h=>by let(q,e,hq):=h;exists q,e,sA _ _ hq).snoc ⟨p5,Z,XT⟩
  .rintro ys H4 ⟨s4,_,hY⟩ d hd;rw[XG,Yz]at hY;let s5:=XZ (o:=.lst ys) hd
   show q d ys _ (s2.m<|s4.m s5) ((s2.m s4).free hd) XT (hY.imp λ_ _ h=>by let(q,e,hq):=h;exists q,e,s5 _ _ hq)
def wI{α:Type}{R:V->α->Prop}{xs ys:List V}{l m:List α}(h1:Bears R xs l)(h2:Bears R ys m):Bears R (xs++ys) (l++m):=by
 show{by rw[Xt,Xt,h1.1,h2.1],λi a e=>?_};cases c:i<l.f
 .rw[Yp c]at e;let(v,hv,r):=h1.2 i a e;exists v,by rw[Yp (by rwa[h1.1])];show hv,r
 .rw[Ym J]at e;let(v,hv,r):=h2.2 _ a e;exists v,by rw[Ym (by rw[h1.1];lia),h1.1];show hv,r
def wH{α:Type}{R:V->α->Prop}{xs:List V}{l:List α}(h:Bears R xs l):Bears R xs.reverse l.reverse:=by
 show{by rw[YK,YK,h.1],λi a e=>?_};let hi:i<l.f:=by have:=(XF.L e).1;rwa[YK]at this
 rw[LL hi]at e;let(v,hv,r):=h.2 _ a e;exists v,by rw[LL (by rwa[h.1]),h.1];show hv,r
inductive spZz(K:Ad)(CP C:Addr)(vs:List V)(H:Hp)(Q:VK)(_:XK):Prop
 |mk (x n ps I O F inc ld fu:_) (_:vs=[.ref x]) (_:PartAt K CP C H x n ps I O F inc ld fu) (_:Zz n ps) (_:Zg n ps F) (_:inc.f<=30) (_:(∀z∈inc,z∉F/\0<=z/\z<ps⁻¹)) (_:∀r xs H',Same H H'->H r=none->H' r=some (.lst xs)->Bears (Xn H') xs (x9 n ps I F inc)->Q ↑r H')
def wG(T:Txt K mg t):WZ P w base Xi T.qZz 10 (spZz K t.A_Part t.A_Web):=by
 show T.qZz.okI ["part","row","ascending","into","trees"] D λXv A outer s H vs Q E hr h=>?_
 .let⟨x,n,ps,I,O,F,inc,ld,fu,rfl,RF,hG,hF,Vp,Sd,q⟩:=h;show⟨_,(XO (Ze 1<|UR<|XY (Zo K (pv 0) Z) XX)
   (XO (Ze 2<|Jp RV (Zy TJ (Zi (Zn K) o3 T.n_len Boot.«len»<|XY (Zo K (pv 0) Z) XX) Zc) Zc<|Zs _)
   (XO (Tg Ws Z (ZD K<|Zo K (pv 0) Z) (Za 3)
   (XO (Ze 4<|Xp (cM T) hr T.qZy Zt<|XY (pv 0)<|XY (pv 3) XX)
   (XO (QN<|Pc K US qk ql m6 (pv 1)<|XY (t6 (Jr<|pv 2) (pv 4)<|lh K Z Z T.n_list Z T.n_reversed<|XY (pv 4) XX) XX)
   (XI<|Ze 2<|CH<|pv 2))))
   (XI<|Zj<|pv 1)))),?_⟩
  let(dx,w,a,b,l,i,hx,hW,hA,Qk,hl,hi):=id RF;exists _,Z,x,_,dx,_,.ref l,Z,hx,T.cl_Part,T.n_Part_least,Z,(by change 1<=sizeLine;decide),λr hr=>?_;let s1:=XZ (o:=.lst [.ref l]) hr
  show nm ?_;exists _,Z,x,_,dx,_,.ref i,Z,s1 _ _ hx,T.cl_Part,T.n_Part_incoming,Z,i,_,Z,.inl<|SqL.of<|s1 _ _ hi,_,_,Z,Z,(by change(0:Int)<2;decide),Z,?_;show nm ?_;let ea:decide (V.int ((IL inc).f%2:Int)=V.int 1)=(inc.f%2 == 1):=by rw[Zw,XG,OM,YL,Qh];lia
  change Uh _ _ _ [some ↑x,some<|.ref r,some<|.bl<|decide<|V.int ((IL inc).f%2:Int)=V.int 1,none,none] (upd H r<|.lst [.ref l]);rw[ea];generalize Vz:(inc.f%2 == 1)=asc at *;let kr:(upd H r<|.lst [.ref l]) r=some (.lst [.ref l]):=XT
  generalize upd H r (.lst [.ref l])=H1 at *;let zu:=s1 _ _ hi
  let fresh:∀b o,H b=some o->b≠r:=λb o e=>WC e hr;show⟨_,rfl,x,_,dx,_,.ref i,rfl,s1 _ _ hx,T.cl_Part,T.n_Part_incoming,rfl,i,rfl,{_,SqL.of zu},Ew (K:=K) (a:=i) (xs:=IL inc) (λj σ H2=>∃xs v3 v4,σ=[some ↑x,some<|.ref r,some<|.bl<|asc != (j%2 == 1),v3,v4]/\Same H H2/\H2 r=some (.lst xs)/\Bears (Xn H2) xs (F::UX n ps I F (inc.M j) asc)) ⟨[.ref l],none,none,by cases asc<;>rfl,s1,kr,⟨rfl,λj m e=>by
   match j,e with
   |0,e=>show{_,Z,l,Z,by rw[<-Ye e];show s1 _ _ hl}⟩⟩ (λj σ H2 _ h=>by let(_,_,_,_,e,_):=h;show SqL.of<|e _ _ hi) ?_ ?_⟩
  rotate_left
  .rintro σ H2 ⟨xs,v3,v4,rfl,s2,Vs,hX⟩;rw[XG,Yz]at hX;show Qu ?_;exists _,Z,?_;rw[<-Vz]at hX;show q r xs H2 s2 hr Vs hX
  rintro j v σ H2 hj ⟨xs,v3,v4,rfl,s2,Vs,hX⟩;let(z,rfl,hz):=ZT hj;let(zF,z0,z1):=Sd z (Xm hz);let QF:j<inc.f:=(XF.L hz).1
  show nm ?_;dsimp only[List.set];exists _,Z,_,Z,x,n,ps,I,O,F,inc,ld,fu,z,Z,{dx,w,a,b,l,i,s2 _ _ hx,hW.same s2,SqK.same (k:=true) s2 hA,SqK.same (k:=true) s2 Qk,s2 _ _ hl,s2 _ _ hi},hG,hF,zF,z0,z1,λtA ys H3 s3 ht0 Px hY=>?_;show nm ?_;dsimp only[List.set];let Uq:=s3 _ _ Vs
  let wF:F.f<=30:=by have:=hF.1.len;have:=hG.2.2.1;lia
  let xl:xs.f<=1000:=by
   rw[hX.1,YG];let h1:=Yz9 n ps I F (inc.M j) asc
   let h2:(inc.M j).f*F.f<=30*30:=HM (by rw[Yf];lia) wF;lia
  let yl:ys.f<=30:=by rw[hY.1,Yc];show Yl (Yo ..) (Yl (GP n ps F z F) wF)
  let cK:UX n ps I F (inc.M<|j+1) asc=UX n ps I F (inc.M j) asc++Vl n ps I F (asc != (j%2 == 1)) z:=by
   let e:inc.M (j+1)=inc.M j++[z]:=by rw[YY,hz];rfl
   let el:(inc.M j).f=j:=by rw[Yf];lia
   rw[e,rh,el]
  let flip:(!(asc != (j%2 == 1)))=(asc != ((j+1)%2 == 1)):=by rcases(by lia:j%2=0/\(j+1)%2=1\/j%2=1/\(j+1)%2=0) with ⟨a,b⟩|⟨a,b⟩<;>rw[a,b]<;>cases asc<;>rfl
  let fin:∀zs H4,Same H3 H4->zs.f=ys.f->Bears (Xn H4) zs (Vl n ps I F (asc != (j%2 == 1)) z)->Same H (upd H4 r<|.lst<|xs++zs)/\Bears (Xn<|upd H4 r<|.lst<|xs++zs) (xs++zs) (F::UX n ps I F (inc.M<|j+1) asc):=λzs H4 s4 Al hZ=>by
   let Im:=s4 _ _ Uq;exists ZL hr<|(s2.m s3).m s4,?_;rw[cK];let hX4:Bears (Xn H4) xs (F::UX n ps I F (inc.M j) asc):=hX.imp λ_ _ h=>by let(c,e,hc):=h;exists c,e,(s3.m s4) _ _ hc
   show(wI hX4 hZ).imp λ_ _ h=>by let(c,e,hc):=h;exists c,e,by rwa[Zb (Ry hc Im B)]
  exists _,Z,.inl {Z,_,SqL.of Uq},?_;cases hb:(asc != (j%2 == 1)) with
  |true=>
   rw[hb]at fin flip;exists _,Z,_,Z,?_;show UA ?_;exists _,Z,?_;let(f1,f2):=fin ys H3 (Same.refl _) Z hY;exists r,tA,xs,ys,Z,Z,Uq,Px,Pd J,?_;exists _,Z,_,Z,?_;exists xs++ys,_,_,by rw[<-flip];rfl,f1,XT,f2
  |false=>
   rw[hb]at fin flip;exists _,Z,_,Z,?_;show UB ?_;exists _,Z,tA,ys,Z,SqL.of Px,λd hd=>?_;let s4:=XZ (o:=.lst ys.reverse) hd
   let(f1,f2):=fin ys.reverse _ s4 (YK) (wH<|hY.imp λ_ _ h=>by let(c,e,hc):=h;exists c,e,s4 _ _ hc);exists r,d,xs,ys.reverse,Z,Z,s4 _ _ Uq,XT,Pd (by rw[YK];lia),?_;exists _,Z,_,Z,?_;exists xs++ys.reverse,_,_,by rw[<-flip];rfl,f1,XT,f2
inductive spZA(K:Ad)(CP C Pt:Addr)(d:Nat)(vs:List V)(H:Hp)(Q:VK)(_:XK):Prop
 |mk (x n ps I O F inc ld fu R size start stop:_) (_:vs=[.ref x,.int size,.int start,.int stop]) (_:PartAt K CP C H x n ps I O F inc ld fu) (_:PartOk n ps I O ld F inc fu) (_:Zz n ps) (_:Xf H Pt) (_:RowR n ps d I O ld R) (_:size=R.f) (_:0<=start) (_:stop<=size) (_:stop-start<=100000) (_:∀r xs H',SameX Pt H H'->Xf H' Pt->H r=none->H' r=some (.lst xs)->Bears (Xn H') xs ((R.drop start.j).M (stop-start).j)->Q ↑r H')
def cJ(xs:List V){a b:Nat}(h2:b<=xs.f):WH xs (some (a:Int)) (some (b:Int))=(xs.drop a).M (b-a):=by
 let e1:HT.Td xs.f 0 (some (a:Int))=min a xs.f:=rfl;let e2:HT.Td xs.f xs.f (some (b:Int))=min b xs.f:=rfl
 unfold WH;rw[e1,e2,HP h2];rcases Nat.le_total a xs.f with c|c
 .rw[HP c]
 .rw[pO c,pZ<|XJ _,pZ c,uz,uz]
def Zt9{α:Type}{R:V->α->Prop}{xs:List V}{l:List α}(h:Bears R xs l)(a b:Nat):Bears R ((xs.drop a).M b) ((l.drop a).M b):=by
 show{by rw[Yf,Yf,WA,WA,h.1],λi x e=>?_};rw[OQ]at e;cases c:i<b
 .rw[if_pos c,Su]at e;let(v,hv,r):=h.2 _ x e;exists v,by rw[OQ,if_pos c,Su];show hv,r
 .rw[if_neg c]at e;cases e
def cI{α:Type}(A CL:List α){a b:Nat}(h:b<=A.f):((A++CL).drop a).M (b-a)=(A.drop a).M (b-a):=by
 rcases Nat.le_total a A.f with c|c
 .rw[OL c,ES (by rw[WA];show Nat.sub_le_sub_right h a)]
 .rw[Nat.sub_eq_zero_of_le (Yl h c),pB,pB]
def wD{α:Type}(CL:List α){i k:Nat}(h:i+k<=CL.f):((CL.reverse).drop i).M k=((CL.drop (CL.f-i-k)).M k).reverse:=by rw[List.drop_reverse,List.take_reverse,Yf,HP<|Nat.sub_le _ _,Hy,Nat.sub_sub_self (Nat.le_sub_of_add_le' h)]
def cH{α:Type}(A CL:List α){a b c:Nat}(hc:(a<=A.f/\c=A.f)\/(A.f<=a/\c=a))(cG:c<=b)(hb:b<=A.f+CL.f):((A++CL.reverse).drop a).M (b-a)=A.drop a++((CL.drop (A.f+CL.f-b)).M (b-c)).reverse:=by
 rcases hc with ⟨h,rfl⟩|⟨h,rfl⟩
 .rw[OL h,List.take_append,QP (by rw[WA];show Nat.sub_le_sub_right cG a),WA,Nat.sub_sub_sub_cancel_right h]
  have:=wD CL (i:=0) (k:=b-A.f) oZ
  rw[HL]at this;rw[this,show CL.f-0-(b-A.f)=A.f+CL.f-b by lia]
 .rw[uM,pZ h,ON,ON,wD CL oZ,show CL.f-(c-A.f)-(b-c)=A.f+CL.f-b by grind]
def cF{x y:Int}:∃m,(if x<y then x else y)=m/\m<=x/\m<=y/\(x<y->m=x)/\(¬x<y->m=y):=by
 cases c:x<y
 .exists x,if_pos c,Jv _,Lz c,λ_=>rfl,λh=>absurd c h
 .exists y,if_neg c,EC.L c,Jv _,λh=>absurd h c,λ_=>rfl
def wC{H H2:Hp}{Pt r:Addr}{pos:Pos}{qual:Str}(t:TabH H2 Pt pos qual)(s:SameX Pt H H2)(h:H2 r=none):H r=none:=by
 cases e:H r with
 |none=>rfl
 |some o=>
  let XM:r≠Pt:=λe'=>by let(p,h1,_):=t;rw[<-e',h]at h1;cases h1
  rw[s _ _ XM e]at h;cases h
def cE{Pt:Addr}(T:Txt K mg t)(hB:Vm K mg base t.dZt Pt)(d:Nat):WZ P w base Xi T.qZA (11+d) (spZA K t.A_Part t.A_Web Pt d):=by
 let key:∀d k sp,WZ P w base Xi T.qZA k sp->k<=10+d->(∀e,d=e+1->sp=spZA K t.A_Part t.A_Web Pt e)->WZ P w base Xi T.qZA (11+d) (spZA K t.A_Part t.A_Web Pt d):=by
  intro d k sp ih hk RT;rw[show 11+d=10+d+1 by lia];show T.qZA.ok ["part","size","start","stop","first","middle","trees","turned"] D (λvs H Q E h=>?_) (λXv A outer s H vs Q E hr h=>?_)
  .let⟨x,n,ps,I,O,F,inc,ld,fu,R,size,start,stop,rfl,_⟩:=h;rfl
  .let⟨x,n,ps,I,O,F,inc,ld,fu,R,size,start,stop,rfl,RF,VJ,hG,hT,hR,hsz,Ek,RQ,Xa,q⟩:=h;show⟨_,(XO (Wl (Zf Co (pv 2) (pv 3)<|Zs _)
   (XI<|Zj<|UR XX)
   Zq)
   (XO (Wl (Zf tS (Zo K (pv 0) Z) Pj<|Zs _)
   (XI<|Zj<|Lg (KQ K) (Wj (wG T) (hr.mono oW) Z T.qZz.mm T.qZz.fn.kp T.qZz.bi .nil Zt<|XY (pv 0) XX) (Mn<|pv 2)<|Mn<|pv 3)
   Zq)
   (XO (Ze 4<|Wj (wL T hB) (hr.mono oW) Z T.qZv.mm T.qZv.fn.kp T.qZv.bi .nil Zt<|XY (pv 0) XX)
   (XO (Ze 5<|Wj (wJ T) (hr.mono oW) Z T.qZx.mm T.qZx.fn.kp T.qZx.bi .nil Zt<|XY (pv 4) XX)
   (XO (Ze 6<|Wj ih (hr.mono oW) Z T.qZA.mm T.qZA.fn.kp T.qZA.bi .nil Zt<|XY (pv 4)<|XY (pv 5)<|XY (pv 2)<|XY (Zi (nS Z) o3 T.n_min Boot.«min»<|XY (pv 3)<|XY (pv 5) XX) XX)
   (XO (Wl (Zf TH (pv 3) (pv 5)<|Zs _)
   (XO (Ze 7<|Wj ih (hr.mono oW) Z T.qZA.mm T.qZA.fn.kp T.qZA.bi .nil Zt<|XY (Wj (wK T hB) (hr.mono oW) Z T.qZw.mm T.qZw.fn.kp T.qZw.bi .nil Zt<|XY (pv 0) XX)<|XY (Zy VC (pv 1)<|pv 5)<|XY (Zy VC (pv 1)<|pv 3)<|XY (Zy VC (pv 1)<|Zi (ZW5 Z) o3 T.n_max Boot.«max»<|XY (pv 2)<|XY (pv 5) XX) XX)
   (XI<|QN<|Pc K US qk ql m6 (pv 6)<|XY (lh K Z Z T.n_list Z T.n_reversed<|XY (pv 7) XX) XX))
   Zq)
   (XI<|Zj<|pv 6))))))),?_⟩
   let(dx,w0,a,b,l,i,hx,hW,hA,Qk,hl,hi):=id RF;exists _,Z,_,Z,_,_,Z,Z,_,Z,?_;show Xc (λSW=>?_) (λXh=>?_)
   .exists Yj _,λr hr=>?_;let s1:=XZ (o:=.lst []) hr
    show q r [] _ (SameX.same s1) (hT.same s1) hr XT ?_;rw[show(stop-start).j=0 by lia,pB];exists Z,λi l e=>by simp at e
   show Qu ?_;let(a0,rfl):=qc Ek;let(b0,rfl):=qc (show 0<=stop by lia);let UU:a0<=b0:=J
   let cD:b0<=R.f:=by rw[hsz]at RQ;show Int.ofNat_le.L RQ
   let e0:((b0:Int)-(a0:Int)).j=b0-a0:=Int.toNat_sub _ _;rw[YO,e0]at q;subst hsz;exists _,Z,x,_,dx,_,WV fu,Z,hx,T.cl_Part,T.n_Part_further,Z,Z,_,Z,?_;cases hR with
   |und VI Vp qF=>
    let(rfl,rfl,rfl):=VJ.uniq VI;show UA ?_;exists _,Z,x,n,ps,I,O,F,inc,ld,none,Z,RF,hG,VJ.tr.1,Vp,qF,λr xs H1 s1 UK UJ hX=>?_;let LX:=hX.1
    exists _,Z,_,Z,_,Z,_,Z,r,xs,Z,SqL.of UJ,λq1 DY=>?_;rw[cJ xs (by rwa[LX])];let s2:=XZ (o:=.lst<|(xs.drop a0).M (b0-a0)) DY
    let WB:=s1.m s2;show q q1 _ _ (SameX.same WB) (hT.same WB) (s1.free DY) XT ?_;show(Zt9 hX _ _).imp λ_ _ h=>by let(c,e,hc):=h;exists c,e,s2 _ _ hc
   |div VI hIn XD UH QX MT JO y0 y1 qE DE DD=>
    rename_i e F' We z y A' CL;let(rfl,rfl,rfl):=VJ.uniq VI;let wB:=RT e rfl
    subst wB;show UB ?_;show Qu ?_;let Uo:=Wt.L hIn
    let MS:I.Nodup:=Uo.1;let MR:∀v∈I,0<=v/\v<ps⁻¹:=λv hv=>XD v (Yg _ hv)
    let MQ:∀v∈I,v∉O++[z]:=λv hv h=>(Xz.L h).elim (UH v<|Yg _ hv) λh=>Uo.2.2 v hv z B (XB.L h);let Rc:O.f<=30:=by rw[Xt,Yw]at QX;lia
    rw[Xt,YK]at cD;let RG:(((A'++CL.reverse).f:Nat):Int)=A'⁻¹+CL.f:=by rw[Xt,YK,Int.natCast_add]
    let(m,em,m1,m2,m3,m4):=cF (x:=A'⁻¹) (y:=(b0:Int));exists _,Z,x,n,ps,I,O,F,inc,z,y,Z,RF,hG,hT,MS,MR,MQ,QX,JO,y0,y1,λx1 F1 Rb FV H1 Kl QD To Wy=>?_;show nm ?_;exists _,Z,x1,n,ps,I,O++[z],F1,Rb,some y,FV,Z,QD,hG,MS,MR,QX,MQ,λc H2 hc s2=>?_;let ec:=hc.uniq qE
    subst ec;show nm ?_;let Tn:SameX Pt H H2:=To.m (SameX.same s2)
    let Xe:=Wy.same s2;exists _,Z,_,Z,_,Z,_,Z,_,Z,_,_,Z,?_;exists x1,n,ps,I,O++[z],F1,Rb,some y,FV,A',_,_,_,Z,QD.samex Wy<|SameX.same s2,Kl,hG,Xe,DE,Z,Ek,(by rwa[em]),(by rw[em];show EE (Int.sub_le_sub_right m2 _) Xa),λr xs H3 JN Vy UK Uq hX=>?_;show nm ?_;let SR:=Tn.m JN
    let cC:H r=none:=wC Xe Tn UK;rw[YO,em]at hX;exists _,Z,_,Z,_,_,Z,Z,_,Z,?_;show Xc (λhgt=>?_) λhle=>?_;rotate_left
    .change(_:Prop);show Qu ?_;exists _,Z,?_;let cB:¬A'⁻¹<(b0:Int):=hle
     rw[m4 cB,e0]at hX;rw[cI A' CL.reverse J]at q;show q r xs H3 SR Vy cC Uq hX
    let wA:A'⁻¹<(b0:Int):=hgt;rw[m3 wA,Int.toNat_sub,QP (by rw[WA];show XJ _)]at hX;clear m1 m2 m3 m4 em m;exists _,Z,x,n,ps,I,O,F,inc,z,y,Z,RF.samex hT SR,hG,Vy,hIn,XD,UH,Rc,MT,y0,y1,λx2 F2 Nk xV H4 Ra SJ Tp UW=>?_;exists _,Z,_,Z,_,_,Z,Z,_,Z,_,Z,_,_,Z,Z,_,Z,_,Z,_,Z,_,_,Z,_,_,Z,Z,?_;obtain⟨c0,ec,xB,cG⟩:∃c0:Nat,(if A'⁻¹>(a0:Int) then A'⁻¹ else (a0:Int))=(c0:Int)/\((a0<=A'.f/\c0=A'.f)\/(A'.f<=a0/\c0=a0))/\c0<=b0:=by
     cases c:A'⁻¹>(a0:Int)
     .exists A'.f,if_pos c,.inl {Pl<|Int.ofNat_lt.L c,Z},Pl<|Int.ofNat_lt.L wA
     .exists a0,if_neg c,.inr {Int.ofNat_le.L<|EC.L c,Z},UU
    rw[cH A' CL xB cG cD]at q;let hAc:A'.f<=c0:=by rcases xB with h|h<;>lia
    let hac:a0<=c0:=by rcases xB with h|h<;>lia
    clear xB;exists x2,n,ps,I++[z],O,F2,Nk,some y,xV,CL,_,_,_,Z,SJ,Ra,hG,UW,DD,(by rw[RG];lia),(by rw[RG];lia),(by rw[ec,RG];lia),(by rw[ec,RG];lia),λr2 ys H5 Fz Ft hr20 Fs hY=>?_;show nm ?_;let Im:=Tp _ _ (Vy.ne Uq B) Uq
    let wz:=Fz _ _ (UW.ne Im B) Im;let cz:=(SR.m Tp).m Fz
    let e2:(A'⁻¹+CL.f-(b0:Int)).j=A'.f+CL.f-b0:=oZ;let e3:(A'⁻¹+CL.f-(c0:Int)-(A'⁻¹+CL.f-(b0:Int))).j=b0-c0:=oZ
    rw[ec,RG,e2,e3]at hY;let LX:xs.f<=100000:=by rw[hX.1,WA];lia
    let PU:ys.f<=100000:=by rw[hY.1,Yf];omega
    exists _,Z,.inl {Z,_,SqL.of wz},_,Z,r2,ys,Z,SqL.of Fs,λdA hd=>?_;let s6:=XZ (o:=.lst ys.reverse) hd
    let LQ:=s6 _ _ wz;let z1:1000000<=sizeLine:=oY
    exists r,dA,xs,ys.reverse,Z,Z,LQ,XT,(by rw[YK];lia),?_;exists _,Z,?_;show q r (xs++ys.reverse) _ (λb o hb e=>?_) ((Ft.same s6).put LQ) cC XT ?_
    .rw[Zb (WC e cC)];show s6 _ _ (cz _ _ hb e)
    .let f1:Bears (Xn<|upd H5 dA<|.lst ys.reverse) xs (A'.drop a0):=hX.imp λ_ _ h=>by
      let(c,e,hc):=h;let wy:=Tp _ _ (Vy.ne hc B) hc
      exists c,e,s6 _ _<|Fz _ _ (UW.ne wy B) wy
     let f2:Bears (Xn<|upd H5 dA<|.lst ys.reverse) ys.reverse ((CL.drop<|A'.f+CL.f-b0).M (b0-c0)).reverse:=wH (hY.imp λ_ _ h=>by let(c,e,hc):=h;exists c,e,s6 _ _ hc)
     show(wI f1 f2).imp λ_ _ h=>by let(c,e,hc):=h;exists c,e,by rwa[Zb (Ry hc LQ B)]
 induction d with
 |zero=>show key 0 0 _ fg J λe h=>(by cases h)
 |succ d ih=>show key (d+1) (11+d) _ ih J λe h=>(by cases h;rfl)
inductive spZB(K:Ad)(CP C Pt:Addr)(d:Nat)(vs:List V)(H:Hp)(Q:VK)(_:XK):Prop
 |mk (x a n ps I O F inc T ld fu R size:_) (_:vs=[.ref x,.int size,.ref a]) (_:PartAt K CP C H x n ps I O F inc ld fu) (_:PartOk n ps I O ld F inc fu) (_:Zz n ps) (_:Xf H Pt) (_:RowR n ps d I O ld R) (_:size=R.f) (_:SqT K H a (IL T)) (_:T∈R) (_:∀(j:Nat)(H':Hp),R[j]?=some T->SameX Pt H H'->Xf H' Pt->Q (.int j) H')
def cy{Pt:Addr}(T:Txt K mg t)(hB:Vm K mg base t.dZt Pt)(d:Nat):WZ P w base Xi T.qZB (11+d) (spZB K t.A_Part t.A_Web Pt d):=by
 let key:∀d k sp,WZ P w base Xi T.qZB k sp->k<=10+d->(∀e,d=e+1->sp=spZB K t.A_Part t.A_Web Pt e)->WZ P w base Xi T.qZB (11+d) (spZB K t.A_Part t.A_Web Pt d):=by
  intro d k sp ih hk RT;rw[show 11+d=10+d+1 by lia];show T.qZB.ok ["part","size","tree","first","middle"] D (λvs H Q E h=>?_) (λXv A outer s H vs Q E hr h=>?_)
  .let⟨x,a,n,ps,I,O,F,inc,U,ld,fu,R,size,rfl,_⟩:=h;rfl
  .let⟨x,ta,n,ps,I,O,F,inc,U,ld,fu,R,size,rfl,RF,VJ,hG,hT,hR,hsz,q8,hU,q⟩:=h;show⟨_,(XO (Wl (Zf tS (Zo K (pv 0) Z) Pj<|Zs _)
   (XI<|Zj<|Pc K US au av (ZR8 K<|KS hr) (Wj (wG T) (hr.mono oW) Z T.qZz.mm T.qZz.fn.kp T.qZz.bi .nil Zt<|XY (pv 0) XX)<|XY (pv 2) XX)
   Zq)
   (XO (Ze 3<|Wj (wL T hB) (hr.mono oW) Z T.qZv.mm T.qZv.fn.kp T.qZv.bi .nil Zt<|XY (pv 0) XX)
   (XO (Ze 4<|Wj (wJ T) (hr.mono oW) Z T.qZx.mm T.qZx.fn.kp T.qZx.bi .nil Zt<|XY (pv 3) XX)
   (XO (Wl (Zf (tq K) (Zo K (pv 0) Z) (pv 2) Z)
   (XI<|Zj<|Zy VC (Zy VC (pv 1) Zc)<|Wj ih (hr.mono oW) Z T.qZB.mm T.qZB.fn.kp T.qZB.bi .nil Zt<|XY (Wj (wK T hB) (hr.mono oW) Z T.qZw.mm T.qZw.fn.kp T.qZw.bi .nil Zt<|XY (pv 0) XX)<|XY (Zy VC (pv 1)<|pv 4)<|XY (pv 2) XX)
   Zq)
   (XI<|Zj<|Wj ih (hr.mono oW) Z T.qZB.mm T.qZB.fn.kp T.qZB.bi .nil Zt<|XY (pv 3)<|XY (pv 4)<|XY (pv 2) XX))))),?_⟩
   let(dx,w0,a,b,l,i,hx,hW,hA,Qk,hl,hi):=id RF;exists _,Z,x,_,dx,_,WV fu,Z,hx,T.cl_Part,T.n_Part_further,Z,Z,_,Z,?_;let hwith:=Nj hG hR
   cases hR with
   |und VI Vp qF=>
    let(rfl,rfl,rfl):=VJ.uniq VI;show UA ?_;exists _,Z,x,n,ps,I,O,F,inc,ld,none,Z,RF,hG,VJ.tr.1,Vp,qF,λr xs H1 s1 UK UJ hX=>?_;let(e,j,c,h1,h2,h3,h4,h5):=Zt8 (K:=K) hX (SqK.same (k:=true) s1 q8) hU;exists .inl {Z,_,SqL.of UJ},_,Z,1,r,xs,.ref ta,e,j,c,Z,Z,UJ,oY,h1,h2,h3,h4,?_;show q j H1 h5 (SameX.same s1) (hT.same s1)
   |div VI hIn XD UH QX MT JO y0 y1 qE DE DD=>
    rename_i e F' We z y A' CL;let(rfl,rfl,rfl):=VJ.uniq VI;let wB:=RT e rfl
    subst wB;show UB ?_;show Qu ?_;let Uo:=Wt.L hIn
    let MS:I.Nodup:=Uo.1;let MR:∀v∈I,0<=v/\v<ps⁻¹:=λv hv=>XD v (Yg _ hv)
    let MQ:∀v∈I,v∉O++[z]:=λv hv h=>(Xz.L h).elim (UH v<|Yg _ hv) λh=>Uo.2.2 v hv z B (XB.L h);let Rc:O.f<=30:=by rw[Xt,Yw]at QX;lia
    let RG:size=A'⁻¹+CL.f:=by rw[hsz,Xt,YK];lia
    exists _,Z,x,n,ps,I,O,F,inc,z,y,Z,RF,hG,hT,MS,MR,MQ,QX,JO,y0,y1,λx1 F1 Rb FV H1 Kl QD To Wy=>?_;show nm ?_;exists _,Z,x1,n,ps,I,O++[z],F1,Rb,some y,FV,Z,QD,hG,MS,MR,QX,MQ,λc H2 hc s2=>?_;let ec:=hc.uniq qE
    subst ec;show nm ?_;let Tn:SameX Pt H H2:=To.m (SameX.same s2)
    let Xe:=Wy.same s2;let dv:=Tn _ _ (hT.ne hx B) hx
    let Fq:SqT K H2 ta (IL U):=SqK.samex (kd:=true) q8 hT Tn;exists _,Z,x,_,dx,_,.int z,Z,dv,T.cl_Part,T.n_Part_lead,Z,_,Z,ta,_,Z,.inr Fq,Z,ZC _,_,Z,?_;rw[ZN];show Xc (λhz=>?_) (λhz=>?_)
    .let hUB:U∈CL:=by
      rcases Xz.L hU with h|h
      .show absurd hz ((Nj hG DE U h).2.2 z B)
      .show SA.L h
     exists _,Z,_,_,Z,Z,_,Z,x,n,ps,I,O,F,inc,z,y,Z,RF.samex hT Tn,hG,Xe,hIn,XD,UH,Rc,MT,y0,y1,λx2 F2 Nk xV H4 Ra SJ Tp UW=>?_;exists _,Z,_,Z,_,_,Z,Z,_,Z,?_;exists x2,ta,n,ps,I++[z],O,F2,Nk,U,some y,xV,CL,_,Z,SJ,Ra,hG,UW,DD,J,SqK.samex (kd:=true) Fq Xe Tp,hUB,λj H5 hj Fz Ft=>?_;let Vf:=(XF.L hj).1
     exists _,_,Z,Z,?_;let e:size-1-(j:Int)=((A'.f+(CL.f-1-j):Nat):Int):=oZ
     change Q (.int<|size-1-(j:Int)) H5;rw[e];show q _ H5 ?_ ((Tn.m Tp).m Fz) Ft;rwa[Ym J,LL J,show CL.f-1-(A'.f+(CL.f-1-j)-A'.f)=j by lia]
    .let hUA:U∈A':=by
      rcases Xz.L hU with h|h
      .show h
      .show absurd ((Nj hG DD U<|SA.L h).2.1 z B) hz
     show Qu ?_;exists _,Z,_,Z,_,Z,?_;exists x1,ta,n,ps,I,O++[z],F1,Rb,U,some y,FV,A',_,Z,QD.samex Wy<|SameX.same s2,Kl,hG,Xe,DE,Z,Fq,hUA,λj H3 hj JN Vy=>?_;show q j H3 ?_ (Tn.m JN) Vy;rwa[Yp (XF.L hj).1]
 induction d with
 |zero=>show key 0 0 _ fg J λe h=>(by cases h)
 |succ d ih=>show key (d+1) (11+d) _ ih J λe h=>(by cases h;rfl)
inductive spZC(vs:List V)(H:Hp)(Q:VK)(_:XK):Prop
 |mk (z:Int) (_:vs=[.int z]) (_:-(10^70)<z) (_:z<10^70) (_:(0<=z->Q .non H)) (_:(z<0->False))
def cx(T:Txt K mg t):WZ P w base Xi T.qZC 1 spZC:=by
 show T.qZC.okI ["number"] D λXv A outer s H vs Q E hr h=>?_
 .let⟨z,rfl,z0,z1,q,qe⟩:=h;show⟨_,(XI (Wl (Zf Lj (pv 0) Zc<|Zs _)
   (XI Lo)
   Zq)),?_⟩
  exists _,Z,_,_,Z,Z,_,Z,?_;show Xc (λh=>?_) (λh=>?_)
  .show qe h
  .show q J
inductive spZD(K:Ad)(CP C Pt:Addr)(vs:List V)(H:Hp)(Q:VK)(_:XK):Prop
 |mk (w:Addr) (n:Int) (ps:Aa) (num most:Int) (R:Ab) (_:vs=[.ref w,.int num,.int most]) (_:WebAt C H w n ps) (_:Zz n ps) (_:Xf H Pt) (_:0<=num) (_:num<10^70) (_:0<=most) (_:most<=100000) (_:((∃U,Zg n ps U)->RowW n ps R)) (_:((∀U,¬Zg n ps U)->R=[])) (_:∀(r:Addr)(xs:List V)(H':Hp),SameX Pt H H'->Xf H' Pt->H r=none->H' r=some (.lst xs)->Bears (Xn H') xs ((R.drop num.j).M most.j)->Q ↑r H')
def wx{Pt:Addr}(T:Txt K mg t)(hB:Vm K mg base t.dZt Pt):WZ P w base Xi T.qZD 44 (spZD K t.A_Part t.A_Web Pt):=by
 show T.qZD.okI ["web","number","most","size"] D λXv A outer s H vs Q E hr h=>?_
 .let⟨w,n,ps,num,most,R,rfl,hW,hG,hT,n0,n1,m0,m1,hRw,qD,q⟩:=h;show⟨_,(XO (QN<|Xp (cx T) hr T.qZC Zt<|XY (pv 1) XX)
   (XO (Ze 3<|Xp (FH T) hr T.qZj Zt<|XY (pv 0) XX)
   (XO (Wl (Zf Co (pv 1) (pv 3)<|Zs _)
   (XI<|Zj<|UR XX)
   Zq)
   (XI<|Zj<|Xp (cE T hB 31) hr T.qZA Zt<|XY (Xp (wN T hB) hr T.qZu Zt<|XY (pv 0) XX)<|XY (pv 3)<|XY (pv 1)<|XY (Zi (nS Z) o3 T.n_min Boot.«min»<|XY (Zy Tf (pv 1)<|pv 2)<|XY (pv 3) XX) XX)))),?_⟩
  let big:(0:Int)<10^70:=oY;exists _,Z,num,Z,J,n1,λ_=>?_,λh=>absurd h J;exists _,Z,w,n,ps,Z,hW,hG,λc H1 hc s1=>?_;show nm ?_;dsimp only[List.set];let RG:R.f=c:=by
   cases hex:∃U,Zg n ps U
   .let⟨_,_,_,_,_,_,_,_,h⟩:=hRw hex;show h.uniq hc
   .let QG:∀U,¬Zg n ps U:=λU hU=>hex ⟨U,hU⟩;rw[qD QG,(yn hc).U QG];rfl
  exists _,Z,_,Z,_,_,Z,Z,_,Z,?_;show Xc (λSW=>?_) (λXh=>?_)
  .exists Yj _,λr hr=>?_;let s2:=XZ (o:=.lst []) hr
   let WB:=s1.m s2;show q r [] _ (SameX.same WB) (hT.same WB) (s1.free hr) XT ?_;rw[YQ J,uz];exists Z,λi l e=>by simp at e
  change(_:Prop);show Qu ?_;obtain⟨U0,DH⟩:∃U,Zg n ps U:=Yy λno=>by
   have:=(yn hc).U λU hU=>no ⟨U,hU⟩
   lia
  let(ld,F,inc,fu,VJ,hn,hs,Qn,_):=hRw ⟨U0,DH⟩;let Wy:=hT.same s1
  exists _,Z,w,n,ps,Z,hW.same s1,hG,Wy,⟨U0,DH⟩,λx F' We JZ Kc H2 VI Qe Wb RF Tn Xe=>?_;let eF:F'=F:=Xu (VJ.least F' VI.tr) (VI.least F VJ.tr)
  subst eF;let el:=Zv7 Qe Wb hn hs
  subst el;exists _,rfl,_,rfl,_,rfl,_,rfl,_,_,rfl,rfl,_,rfl,_,_,rfl,?_;exists x,n,ps,[],[],F',We,JZ,Kc,R,_,_,_,rfl,RF,VI,hG,Xe,Qn,J,n0,(by split<;>lia),(by split<;>lia),λr xs H3 JN Vy UK Uq hX=>?_
  let e1:((R.drop num.j).M ((if (c:Int)<num+most then (c:Int) else num+most)-num).j)=(R.drop num.j).M most.j:=by rw[List.take_eq_take_iff,WA];split<;>lia
  rw[e1]at hX;show q r xs H3 ((SameX.same s1).m (Tn.m JN)) Vy (wC Xe ((SameX.same s1).m Tn) UK) Uq hX
inductive spZE(K:Ad)(CP C Pt:Addr)(vs:List V)(H:Hp)(Q:VK)(_:XK):Prop
 |mk (w:Addr) (n:Int) (ps:Aa) (num:Int) (R:Ab) (_:vs=[.ref w,.int num]) (_:WebAt C H w n ps) (_:Zz n ps) (_:Xf H Pt) (_:0<=num) (_:num<R.f) (_:RowW n ps R) (_:∀(r:Addr)(T:Ac)(H':Hp),R[num.j]?=some T->SameX Pt H H'->Xf H' Pt->H' r=some (.tup<|IL T)->Q ↑r H')
def wu{R:Ab}{j:Nat}{T:Ac}(h:R[j]?=some T):(R.drop j).M 1=[T]:=by let hj:=(XF.L h);rw[JF hj.1,hj.2];rfl
def cu{Pt:Addr}(T:Txt K mg t)(hB:Vm K mg base t.dZt Pt):WZ P w base Xi T.qZE 45 (spZE K t.A_Part t.A_Web Pt):=by
 show T.qZE.okI ["web","number","trees"] D λXv A outer s H vs Q E hr h=>?_
 .let⟨w,n,ps,num,R,rfl,hW,hG,hT,n0,n1,hR,q⟩:=h;show⟨_,(XO (Ze 2<|Xp (wx T hB) hr T.qZD Zt<|XY (pv 0)<|XY (pv 1)<|XY Zc XX)
   (XO (Wl (Zf RV (Zi (Zn K) o3 T.n_len Boot.«len»<|XY (pv 2) XX) Zc<|Zs _)
   (XI Lo)
   Zq)
   (XI<|Zj<|ZE (Zd K) (pv 2) Zc λ_ _=>rfl))),?_⟩
  let(ld,F,inc,fu,VJ,_,_,_,DC):=id hR;let c20:=ZN6 hG DC
  obtain⟨U,hU⟩:∃U,R[num.j]?=some U:={_,Xr J};exists _,Z,_,Z,w,n,ps,num,1,R,Z,hW,hG,hT,n0,J,oY,oY,λ_=>hR,λno=>absurd VJ.tr.1<|no F,λr xs H1 To Wy UK UJ hX=>?_;show nm ?_;dsimp only[List.set];rw[show(1:Int).j=1 from Z,wu hU]at hX;let(v,hv,c,rfl,hc):=hX.2 0 U rfl;let hl:xs.f=1:=hX.1
  exists _,Z,r,xs,Z,.inl<|SqL.of UJ,Z,_,Z,?_;rw[Zw];show Xc (λh0=>J) λ_=>?_;change(_:Prop)
  show Qu ?_;exists _,Z,r,xs,0,.ref c,Z,Z,SqL.of UJ,ZA (n:=0) Z hv,q c U H1 hU To Wy hc
inductive spZF(K:Ad)(CP C Pt:Addr)(vs:List V)(H:Hp)(Q:VK)(_:XK):Prop
 |mk (w a n ps kd U R:_) (_:vs=[.ref w,.ref a]) (_:WebAt C H w n ps) (_:Zz n ps) (_:Xf H Pt) (_:SqK kd K H a (IL U)) (_:Zg n ps U) (_:RowW n ps R) (_:U∈R) (_:∀(j:Nat)(H':Hp),R[j]?=some U->SameX Pt H H'->Xf H' Pt->Q (.int j) H')
def JM{Pt:Addr}(T:Txt K mg t)(hB:Vm K mg base t.dZt Pt):WZ P w base Xi T.qZF 44 (spZF K t.A_Part t.A_Web Pt):=by
 show T.qZF.okI ["web","tree"] D λXv A outer s H vs Q E hr h=>?_
 .let⟨w,a,n,ps,kd,U,R,rfl,hW,hG,hT,hA,hU,⟨ld,F,inc,fu,VJ,hn,hs,Qn,DC⟩,qC,q⟩:=h;show⟨_,(XO (QN<|Xp (xg T) hr T.qZm Zt<|XY (pv 0)<|XY (pv 1) XX)
   (XI<|Zj<|Xp (cy T hB 31) hr T.qZB Zt<|XY (Xp (wN T hB) hr T.qZu Zt<|XY (pv 0) XX)<|XY (Xp (FH T) hr T.qZj Zt<|XY (pv 0) XX)<|XY (Zk (ZQ K) o3 T.n_tuple Boot.«tuple»<|XY (pv 1) XX) XX)),?_⟩
  exists _,Z,_,Z,w,a,n,ps,kd,U,Z,hW,hG,hA,λ_ H1 s1=>?_,λh=>absurd hU h;let Wy:=hT.same s1
  exists _,Z,w,n,ps,Z,hW.same s1,hG,Wy,⟨U,hU⟩,λx F' We JZ Kc H2 VI Qe Wb RF Tn Xe=>?_;let eF:F'=F:=Xu (VJ.least F' VI.tr) (VI.least F VJ.tr)
  subst eF;let el:=Zv7 Qe Wb hn hs
  subst el;let SQ:SameX Pt H H2:=(SameX.same s1).m Tn
  exists _,Z,w,n,ps,Z,hW.samex hT SQ,hG,λc H3 hc s3=>?_;let ec:=hc.uniq DC
  let SR:=SQ.m (SameX.same s3);let Vy:=Xe.same s3
  let Mc:=SqK.samex hA hT SR;cases kd with
  |true=>
   exists _,Z,a,_,Z,.inr {Mc,?_};exists x,a,n,ps,[],[],F',We,U,JZ,Kc,R,_,Z,RF.samex Xe<|SameX.same s3,VI,hG,Vy,Qn,by rw[ec],Mc,qC,λj H4 hj Tp UW=>q j H4 hj (SR.m Tp) UW
  |false=>
   exists _,Z,a,_,Z,.inl {Mc,λl hl=>?_};let s4:=s3.m (XZ (o:=.tup<|IL U) hl)
   exists x,l,n,ps,[],[],F',We,U,JZ,Kc,R,_,Z,RF.samex Xe<|SameX.same s4,VI,hG,Xe.same s4,Qn,by rw[ec],SqT.of XT,qC,λj H4 hj Tp UW=>q j H4 hj ((SQ.m<|SameX.same s4).m Tp) UW
inductive spZG(K:Ad)(CP C Pt:Addr)(vs:List V)(H:Hp)(Q:VK)(_:XK):Prop
 |mk (w a:Addr) (n:Int) (ps:Aa) (kd:Bool) (U:Ac) (R:Ab) (j:Nat) (_:vs=[.ref w,.ref a]) (_:WebAt C H w n ps) (_:Zz n ps) (_:Xf H Pt) (_:SqK kd K H a (IL U)) (_:Zg n ps U) (_:RowW n ps R) (_:R.Nodup) (_:R[j]?=some U) (_:∀(v:V)(H':Hp),TupN H' v (R[j+1]?)->SameX Pt H H'->Xf H' Pt->Q v H')
def Fp{Pt:Addr}(T:Txt K mg t)(hB:Vm K mg base t.dZt Pt):WZ P w base Xi T.qZG 45 (spZG K t.A_Part t.A_Web Pt):=by
 show T.qZG.okI ["web","tree","trees"] D λXv A outer s H vs Q E hr h=>?_
 .let⟨w,a,n,ps,kd,U,R,j,rfl,hW,hG,hT,hA,hU,hR,hN,hj,q⟩:=h;show⟨_,(XO (Ze 2<|Xp (wx T hB) hr T.qZD Zt<|XY (pv 0)<|XY (Zy Tf (Xp (JM T hB) hr T.qZF Zt<|XY (pv 0)<|XY (pv 1) XX) Zc)<|XY Zc XX)
   (XI<|Zj<|t6 (Zf RV (Zi (Zn K) o3 T.n_len Boot.«len»<|XY (pv 2) XX) Zc<|Zs _) Pj<|ZE (Zd K) (pv 2) Zc λ_ _=>rfl)),?_⟩
  let(ld,F,inc,fu,VJ,_,_,_,DC):=id hR;let c20:=ZN6 hG DC
  let jl:=(XF.L hj).1;exists _,Z,_,Z,_,Z,w,a,n,ps,kd,U,R,Z,hW,hG,hT,hA,hU,hR,Xm hj,λi H1 hi To Wy=>{_,_,Z,Z,?_};let rfl:i=j:=(Sq (XF.L hi).1 hN).L (hi.m hj.symm);exists w,n,ps,_,1,R,Z,hW.samex hT To,hG,Wy,(by change(0:Int)<=(i:Int)+1;lia),(by change(i:Int)+1<10^70;lia),oY,oY,λ_=>hR,λno=>absurd VJ.tr.1<|no F,λr xs H2 Tn Xe UK Vs hX=>?_;show nm ?_;dsimp only[List.set];rw[show(1:Int).j=1 from Z,show((i:Int)+1).j=i+1 from Z]at hX;let SQ:=To.m Tn
  exists _,Z,r,xs,Z,.inl<|SqL.of Vs,Z,_,Z,?_;rw[Zw];cases hn:R[i+1]? with
  |none=>
   rw[hn]at q;rw[YQ (vd.L hn),uz]at hX;show Xc (λ_=>q .non H2 Z SQ Xe) (λh=>absurd (by rw[hX.1];rfl) h)
  |some U2=>
   rw[hn]at q;let e:(R.drop<|i+1).M 1=[U2]:=by let(h1,h2):=XF.L hn;rw[JF h1,h2];rfl
   rw[e]at hX;let(v,hv,c,rfl,hc):=hX.2 0 U2 rfl;show Xc (λh=>absurd h<|by rw[hX.1];change ¬(1:Int)=0;decide) λ_=>?_;exists _,Z,r,xs,0,.ref c,Z,Z,SqL.of Vs,ZA (n:=0) Z hv,q ↑c H2 ⟨c,Z,hc⟩ SQ Xe
inductive spZH(K:Ad)(CP C Pt:Addr)(vs:List V)(H:Hp)(Q:VK)(_:XK):Prop
 |mk (w a:Addr) (n:Int) (ps:Aa) (kd:Bool) (U:Ac) (R:Ab) (j:Nat) (_:vs=[.ref w,.ref a]) (_:WebAt C H w n ps) (_:Zz n ps) (_:Xf H Pt) (_:SqK kd K H a (IL U)) (_:Zg n ps U) (_:RowW n ps R) (_:R.Nodup) (_:R[j]?=some U) (_:∀(v:V)(H':Hp),TupN H' v (if j=0 then none else R[j-1]?)->SameX Pt H H'->Xf H' Pt->Q v H')
def wq{Pt:Addr}(T:Txt K mg t)(hB:Vm K mg base t.dZt Pt):WZ P w base Xi T.qZH 46 (spZH K t.A_Part t.A_Web Pt):=by
 show T.qZH.okI ["web","tree","number"] D λXv A outer s H vs Q E hr h=>?_
 .let⟨w,a,n,ps,kd,U,R,j,rfl,hW,hG,hT,hA,hU,hR,hN,hj,q⟩:=h;show⟨_,(XO (Ze 2<|Xp (JM T hB) hr T.qZF Zt<|XY (pv 0)<|XY (pv 1) XX)
   (XI<|Zj<|t6 (Zf RV (pv 2) Zc<|Zs _) Pj<|Xp (cu T hB) hr T.qZE Zt<|XY (pv 0)<|XY (Zy VC (pv 2) Zc) XX)),?_⟩
  let jl:=(XF.L hj).1;exists _,Z,_,Z,w,a,n,ps,kd,U,R,Z,hW,hG,hT,hA,hU,hR,Xm hj,λi H1 hi To Wy=>?_;let rfl:i=j:=(Sq (XF.L hi).1 hN).L (hi.m hj.symm);show nm ?_;dsimp only[List.set];exists _,Z,Z,_,Z,?_;rw[Zw];show Xc (λh0=>?_) (λh0=>?_)
  .rw[if_pos J]at q;show q .non H1 Z To Wy
  .rw[if_neg J]at q;exists _,Z,_,Z,_,_,Z,Z,w,n,ps,_,R,Z,hW.samex hT To,hG,Wy,(by change(0:Int)<=(i:Int)-1;lia),(by change(i:Int)-1<R.f;lia),hR,λr U2 H2 DB Tn Xe Vs=>?_;rw[show((i:Int)-1).j=i-1 by lia]at DB;rw[DB]at q;show q ↑r H2 ⟨r,Z,Vs⟩ (To.m Tn) Xe
inductive spZI(K:Ad)(CP C Pt:Addr)(vs:List V)(H:Hp)(Q:VK)(_:XK):Prop
 |mk (w a n ps kd U R j:_) (_:vs=[.ref w,.ref a]) (_:WebAt C H w n ps) (_:Zz n ps) (_:Xf H Pt) (_:SqK kd K H a (IL U)) (_:Zg n ps U) (_:RowW n ps R) (_:R.Nodup) (_:R[j]?=some U) (_:(∀T∈R,Zg n ps T)) (_:∀v H',TupN H' v (xH U<|R[j+1]?)->SameX Pt H H'->Xf H' Pt->Q v H')
def qB{n:Int}{ps:Aa}{U V:Ac}(g:Zz n ps)(hU:Zg n ps U)(hV:Zg n ps V)(ne:U≠V):∃z l,(U.Q λy=>decide (y∉V))=z::l/\z∈U/\z∉V:=by
 cases e:U.Q λy=>decide (y∉V) with
 |nil=>
  show absurd (rz g hU hV λz hz=>Yy λno=>?_) ne
  have:z∈U.Q λy=>decide (y∉V):=Ya.U {hz,Yq no}
  rw[e]at this;cases this
 |cons z l=>
  have:z∈U.Q λy=>decide (y∉V):=by rw[e];show Yd
  let(h1,h2):=Ya.L this;exists z,l,Z,h1,Yu h2
def Fo:FnScope ["web","tree","behind","out","into"] ["web","tree"] (Xd (top 60)):=RH D
def wm{Pt:Addr}(T:Txt K mg t)(hB:Vm K mg base t.dZt Pt):WZ P w base Xi T.qZI 46 (spZI K t.A_Part t.A_Web Pt):=by
 show T.qZI.okI ["web","tree","behind","out","into"] D λXv A outer s H vs Q E hr h=>?_
 .let⟨w,a,n,ps,kd,U,R,j,rfl,hW,hG,hT,hA,hU,hR,hN,hj,Pu,q⟩:=h;show⟨_,(XO (Th (i:=2) Fo.nd Z (Or.inr Z)<|Xp (Fp T hB) hr T.qZG Zt<|XY (pv 0)<|XY (pv 1) XX)
   (XO (Wl (Zf tS (pv 2) Pj<|Zs _)
   (XI<|Zj Pj)
   Zq)
   (XO (Sk (i:=3) Z Fo.nd Z Z (sc0:=Xd<|top 60) (N0:=["web","tree","behind","out","into"]) (N':=["tie","behind"]) (o:=1) (fr:=[2]) ⟨Z,D,D,D,Z,D⟩ (Tb K<|pv 1) (Zp oY) (λ_ _ _ _=>(Za 0)) (λ_ _ _ _=>(ZR<|Zf (ZP K) (pv 0) (pv 1) Z)) λ_ _ _ _=>(pv 0))
   (XO (Sk (i:=4) Z Fo.nd Z Z (sc0:=Xd<|top 60) (N0:=["web","tree","behind","out","into"]) (N':=["tie","tree"]) (o:=1) (fr:=[1]) ⟨Z,D,D,D,Z,D⟩ (Ue K<|pv 2) (Zp oY) (λ_ _ _ _=>(Za 0)) (λ_ _ _ _=>(ZR<|Zf (ZP K) (pv 0) (pv 1) Z)) λ_ _ _ _=>(pv 0))
   (XI<|Zj<|Ug<|XY (ZE (Zd K) (pv 3) Zc λ_ _=>rfl)<|XY (ZE (Zd K) (pv 4) Zc λ_ _=>rfl) XX))))),?_⟩
  let two:2<=sizeLine:=oY;exists _,Z,_,Z,w,a,n,ps,kd,U,R,j,Z,hW,hG,hT,hA,hU,hR,hN,hj,λv H1 hv To Wy=>?_;show nm ?_;cases hn:R[j+1]? with
  |none=>
   rw[hn]at q hv;let rfl:v=.non:=hv;exists _,Z,Z,_,Z,?_;show UA (q .non H1 Z To Wy)
  |some U2=>
   rw[hn]at q hv;let(b,rfl,hb):=(show Xn H1 v U2 from hv);exists _,Z,Z,_,Z,?_;show UB ?_;show Qu ?_;let DB:=Pu U2 (Xm hn)
   let ne:U≠U2:=λe=>by
    have:=(Sq (XF.L hj).1 hN).L (hj.m<|by rw[e];show hn.symm)
    lia
   let QD:=SqK.samex hA hT To;let lU:U.f<=20:=by have:=hU.2.1;have:=hG.2.1;lia
   let lV:U2.f<=20:=by have:=DB.2.1;have:=hG.2.1;lia
   show⟨_,Z,a,Z,Bu (K:=K) (k:=kd) (a:=a) (xs:=IL U) (λi ws H3=>H3=H1/\i<=U.f/\ws=IL ((U.M i).Q λy=>decide<|y∉U2)) {Z,Yj _,Z} (Zh<|by rw[XG];lia)
    (λi ws H3 hi h=>by let(e,VH,ew):=h;show{e▸QD,by rw[ew,XG];show Yl (Yo ..)<|by rw[Yf];lia}) ?_ ?_⟩
   .rintro i y ws H3 hi ⟨rfl,Vp,rfl⟩ S Xx;let(y,rfl,hy):=ZT hi;let XC:i<U.f:=(XF.L hy).1
    exists _,Z,_,Z,b,_,Z,.inr<|SqT.of hb,Z,ZC _,_,Z,?_;rw[ZN];show WU (λhc=>?_) (λhc=>?_)
    .show Xx _ _ {Z,XC,?_};rw[Zm hy,if_neg (by simpa using hc),Ys]
    .exists _,Z,Xx _ _ {Z,XC,?_};rw[Zm hy,if_pos<|Yq hc,ZO]
   rintro ws H3 ⟨rfl,_,rfl⟩ oA DA;rw[XG,Yz];let(o,lo,eo,o1,o2):=qB hG hU DB ne;rw[eo];let u4:=XZ (o:=.lst<|IL<|o::lo) DA
   let k4:=XT (H:=H3) (a:=oA) (o:=.lst<|IL<|o::lo);generalize upd H3 oA (.lst<|IL<|o::lo)=H4 at *;show nm ?_;let wk:=u4 _ _ hb
   let LP:=SqK.same u4 QD;show⟨_,Z,b,Z,{_,SqT.of wk},KR (K:=K) (a:=b) (xs:=IL U2) (λi ws H5=>H5=H4/\i<=U2.f/\ws=IL ((U2.M i).Q λy=>decide<|y∉U)) {Z,Yj _,Z} (Zh<|by rw[XG];lia)
    (λi ws H5 hi h=>by let(e,VH,ew):=h;show{e▸SqT.of wk,by rw[ew,XG];show Yl (Yo ..)<|by rw[Yf];lia}) ?_ ?_⟩
   .rintro i y ws H5 hi ⟨rfl,Vp,rfl⟩ S Xx;let(y,rfl,hy):=ZT hi;let XC:i<U2.f:=(XF.L hy).1
    exists _,Z,_,Z,a,_,Z,LP.or,Z,ZC _,_,Z,?_;rw[ZN];show WU (λhc=>?_) (λhc=>?_)
    .show Xx _ _ {Z,XC,?_};rw[Zm hy,if_neg (by simpa using hc),Ys]
    .exists _,Z,Xx _ _ {Z,XC,?_};rw[Zm hy,if_pos<|Yq hc,ZO]
   rintro ws H5 ⟨rfl,_,rfl⟩ iA cq;rw[XG,Yz];let(z,lz,ez,z1,z2):=qB hG DB hU (WX ne);rw[ez];let u6:=XZ (o:=.lst<|IL<|z::lz) cq
   let k6:=XT (H:=H5) (a:=iA) (o:=.lst<|IL<|z::lz);generalize upd H5 iA (.lst<|IL<|z::lz)=H6 at *;show nm ?_;exists _,Z,oA,_,0,.int o,Z,Z,SqL.of<|u6 _ _ k4,ZA (n:=0) Z Z,_,Z,iA,_,0,.int z,Z,Z,SqL.of k6,ZA (n:=0) Z Z,two,λr LQ=>?_;let u7:=XZ (o:=.tup [.int o,.int z]) LQ
   let s17:=u4.m (u6.m u7);show q ↑r _ {r,Z,by change _=some (HO.tup<|IL<|fo U U2++fo U2 U);unfold fo;rw[eo,ez];show XT} (To.m<|SameX.same s17) (Wy.same s17)
inductive spZJ(K:Ad)(vs:List V)(H:Hp)(Q:VK)(_:XK):Prop
 |mk (a:Addr) (ns:Ac) (k:Int) (_:vs=[.ref a,.int k]) (_:SqL K H a (IL ns)) (_:0<=k) (_:∀r:Int,Q (.int r) H)
def JL(T:Txt K mg t):WZ P w base Xi T.qZJ 1 (spZJ K):=by
 show T.qZJ.okI ["script","k"] D λXv A outer s H vs Q E hr h=>?_
 .let⟨a,ns,k,rfl,hS,hk,q⟩:=h;show⟨_,(XO (Wl (Zf Lj (pv 1) (Zi (Zn K) o3 T.n_len Boot.«len»<|XY (pv 0) XX)<|Zs _)
   (XI<|Zj<|ZE (Zd K) (pv 0) (pv 1) λ_ _=>rfl)
   Zq)
   (XI<|Zj Zc)),?_⟩
  exists _,Z,_,Z,a,_,Z,.inl hS,_,_,Z,Z,_,Z,?_;show BF (λhc=>?_) (λ_=>?_)
  .let hc:=Yu hc;rw[XG]at hc;obtain⟨z,hz⟩:∃z,ns[k.j]?=some z:={_,Xr J};exists _,Z,_,Z,a,_,k,.int z,Z,Z,hS,ZA (n:=k.j) J (by rw[Yv,hz];rfl),q z
  .show q 0
inductive spZK(vs:List V)(H:Hp)(Q:VK)(_:XK):Prop
 |mk (c k:Int) (_:vs=[.int c,.int k]) (_:0<=k) (_:k<1000000000) (_:∀r:Int,0<=r->Q (.int r) H)
def JK(T:Txt K mg t):WZ P w base Xi T.qZK 1 spZK:=by
 show T.qZK.okI ["cell","k","big"] D λXv A outer s H vs Q E hr h=>?_
 .let⟨c,k,rfl,k0,k1,q⟩:=h;show⟨_,(XO (Ze 2<|Zy Aj (Zy Tf (Zy TJ (pv 0)<|Zy Oo Zc Zc) Zc)<|Zy Tf Zc<|Zy Aj (Zy Aj Zc<|pv 1)<|pv 1)
   (XO (Ze 2<|Zy Tf (pv 2)<|Zy Aj Zc<|pv 1)
   (XI<|Zj<|Zy TJ (Zy Aj (pv 2)<|pv 2)<|Zy Tf (Zy Oo Zc Zc) Zc))),?_⟩
  let a0:0<=c%10^(60:Int).j:=LD _ oY;let a1:c%10^(60:Int).j<10^60:=Ss _ oY
  let b:=Gu (M:=10^20) (N:=10^20) (a:=2*k) (b:=k) J J k0 J;let d:=Gu (M:=10^70) (N:=10^70) (a:=c%10^(60:Int).j+3) (b:=16180339887498948482045868343656381177203+2*k*k) J J J J
  exists _,Z,_,_,Z,Z,⟨oY,oY,oY⟩,_,_,Z,Z,(by change(0:Int)<10^60;decide),_,_,Z,Z,_,Z,_,_,Z,Z,{⟨oY,oY⟩,J,J},_,Z,_,_,Z,Z,{⟨J,J⟩,J,J},_,_,Z,Z,_,_,Z,Z,{⟨J,J⟩,J,J},?_;exists _,Z,_,Z,_,_,Z,Z,{⟨oY,oY⟩,J,J},_,_,Z,Z,?_;exists _,Z,_,Z,_,_,Z,Z,{⟨J,J⟩,J,J},_,_,Z,Z,⟨oY,oY,oY⟩,_,_,Z,Z,_,_,Z,Z,(by change(0:Int)<10^60+33;decide),?_;show q _ (LD _ oY)
inductive spZL(K:Ad)(vs:List V)(H:Hp)(Q:VK)(_:XK):Prop
 |mk (a:Addr) (ns:Ac) (n most:Int) (_:vs=[.ref a,.int n,.int most]) (_:SqL K H a (IL ns)) (_:ns.f<=63) (_:1<=n) (_:n<=1000) (_:1<=most) (_:most<=30) (_:∀(l:Addr)(xs:List V)(ps:Aa)(H':Hp),Same H H'->H l=none->H' l=some (.lst xs)->PairsV H' xs ps->ps⁻¹<=most->(∀p∈ps,0<=p.1/\p.1<n/\0<=p.2/\p.2<n)->Q ↑l H')
def Yz5{ps:Aa}{n x y:Int}(h:∀p∈ps,0<=p.1/\p.1<n/\0<=p.2/\p.2<n)(h0:0<=x)(h1:x<n)(h2:0<=y)(h3:y<n):∀p∈ps++[(x,y)],0<=p.1/\p.1<n/\0<=p.2/\p.2<n:=λp hp=>by
 rcases Xz.L hp with e|e
 .show h p e
 .rw[XB.L e];exists h0,h1,h2,h3
def cn{ps:Aa}{n x y:Int}{i:Nat}(h:∀p∈ps,0<=p.1/\p.1<n/\0<=p.2/\p.2<n)(h0:0<=x)(h1:x<n)(h2:0<=y)(h3:y<n):∀p∈ps.set i (x,y),0<=p.1/\p.1<n/\0<=p.2/\p.2<n:=λp hp=>by
 rcases aG hp with e|e
 .show h p e
 .rw[e];exists h0,h1,h2,h3
def PairsV.mutl{H:Hp}{d:Addr}{ys zs xs:List V}{ps:Aa}(hP:PairsV H xs ps)(hl:H d=some (.lst ys)):PairsV (upd H d (.lst zs)) xs ps:={hP.1,λi p e=>by let(v,e1,t,e2,e3):=hP.2 i p e;show{v,e1,t,e2,by rwa[Zb (Ry e3 hl (λz=>nomatch z))]}}
def wj{s rest:TS}{CM:Ends}{σ:L2.St}{H:Hp}(P:L2.St->Hp->Prop)(h1:∀σ' H',P σ' H'->rest CM σ' H')(h2:∀K:L2.St->Hp->Prop,(∀σ' H',P σ' H'->K σ' H')->s {CM with nx:=K} σ H):Uh s rest CM σ H:=h2 _ h1
def cm(T:Txt K mg t):WZ P w base Xi T.qZL 2 (spZL K):=by
 show T.qZL.okI ["script","count","most","told","rest","amount","k","digit","cell","m","at"] D λXv A outer s H vs Q E hr h=>?_
 .let⟨a,ns,n,most,rfl,hA,wg,n1,n2,m1,m2,q⟩:=h;show⟨_,(XO (Ze 3<|UR XX)
   (XO (Wl (Zf RV (Zy TJ (Xp (JL T) hr T.qZJ Zt<|XY (pv 0)<|XY Zc XX) Zc) Zc<|Zs _)
   (XO (Ze 4<|Zy TJ (Xp (JL T) hr T.qZJ Zt<|XY (pv 0)<|XY Zc XX)<|Zy Oo Zc Zc)
   (XO (Ze 5<|Zy TJ (pv 4)<|Zy Tf (pv 2) Zc)
   (XO (Ze 4<|Zy Jq (pv 4)<|Zy Tf (pv 2) Zc)
   (XO (Tg Ws Z (n4 Z T.n_range<|XY (pv 5) XX) (Za 6)
   (XO (Wl (Zf RV (pv 4) Zc<|Zs _)
   (XI<|Ze 4<|Xp (JK T) hr T.qZK Zt<|XY (Xp (JL T) hr T.qZJ Zt<|XY (pv 0)<|XY Zc XX)<|XY (pv 6) XX)
   Zq)
   (XO (Ze 7<|Zy TJ (pv 4)<|Zy Tf (Zy Oq (pv 1)<|pv 1) Zc)
   (XO (QN<|Pc K US Dt Du BJ (pv 3)<|XY (Ug<|XY (Zy TJ (pv 7)<|pv 1)<|XY (Zy TJ (Zy Jq (pv 7)<|pv 1)<|pv 1) XX) XX)
   (XI<|Ze 4<|Zy Jq (pv 4)<|Zy Tf (Zy Oq (pv 1)<|pv 1) Zc)))))
   (XI<|Zj<|pv 3)))))
   Zq)
   (XO (Tg Ws Z (Mg K Z T.n_enumerate<|XY (Lg (KQ K) (pv 0) (Mn Zc) Jl) XX) (QI (n:=2) K Z<|Zr (Za 6)<|Zr (Za 8) QM)
   (XO (Ze 9<|Xp (JK T) hr T.qZK Zt<|XY (pv 8)<|XY (Zy TJ (pv 6) Zc) XX)
   (XI (Wl (Zf Lj (pv 6) (pv 2)<|Zs _)
   (XI<|QN<|Pc K US Dt Du BJ (pv 3)<|XY (Ug<|XY (Zy TJ (Zy Jq (pv 9) Zc)<|pv 1)<|XY (Zy TJ (Zy Jq (pv 9) Zc)<|pv 1) XX) XX)
   (XO (Ze 10<|Zy TJ (pv 6)<|pv 2)
   (XO (Ze 9<|Xp (JK T) hr T.qZK Zt<|XY (Zy Tf (Zy Tf (pv 9)<|ZE (ZM K) (ZE (Zd K) (pv 3) (pv 10) λ_ _=>rfl) Zc λ_ _=>rfl)<|Zy Oq Zc<|ZE (ZM K) (ZE (Zd K) (pv 3) (pv 10) λ_ _=>rfl) Zc λ_ _=>rfl)<|XY Zc XX)
   (XI<|tY (Ug<|XY (Zy TJ (Zy Jq (pv 9) Zc)<|pv 1)<|XY (Zy TJ (Zy Jq (pv 9) Zc)<|pv 1) XX)<|tZ (pv 3) (pv 10) Jk)))))))
   (XI<|Zj<|pv 3)))),?_⟩
  let two:2<=sizeLine:=oY;let RZ:(0:Int)<n:=J
  let md:∀z:Int,0<=z%n/\z%n<n:=λz=>{LD _ J,Ss _ RZ};exists Yj _,λtd Dz=>?_;let s0:=XZ (o:=.lst []) Dz
  let Fn:(upd H td<|.lst []) td=some (.lst []):=XT;let DJ:=s0.seq hA
  generalize upd H td (.lst [])=H0 at *;exists _,Z,a,ns,1,Z,DJ,oY,λc1=>{_,_,Z,Z,(by change(0:Int)<2;decide),Z,_,Z,?_};rw[Zw];show Xc (λ_=>?_) (λ_=>?_)
  .exists _,Z,a,ns,2,Z,DJ,oY,λc2=>{_,_,Z,Z,⟨oY,oY,oY⟩,_,_,Z,Z,(by change(0:Int)<10^60;decide),?_};exists _,Z,_,Z,_,_,Z,Z,_,_,Z,Z,(by change(0:Int)<most+1;lia),?_;exists _,Z,_,Z,_,_,Z,Z,_,_,Z,Z,{by change(0:Int)<most+1;lia,by change most+1<1073741824;lia},?_;let am0:0<=c2%10^(60:Int).j%(most+1):=LD _ J
   let am1:c2%10^(60:Int).j%(most+1)<most+1:=Ss _ J;let nn:=Gu (M:=1001) (N:=1001) (a:=n) (b:=n) J J J J
   exists _,Z,_,Z,J,J,Zk9 (lo:=0) (n:=(c2%10^(60:Int).j%(most+1)).j) (λi σ H2=>∃(xs:List V)(ps:Aa)(rs:Int)(v5 v6 v7:Option V),σ=[some ↑a,some<|.int n,some<|.int most,some<|.ref td,some<|.int rs,v5,v6,v7,none,none,none]/\Same H H2/\H2 td=some (.lst xs)/\PairsV H2 xs ps/\ps.f=i/\∀p∈ps,0<=p.1/\p.1<n/\0<=p.2/\p.2<n) {[],[],_,_,_,_,Z,s0,Fn,PairsV.nil,Z,λp hp=>(by cases hp)} ?_ ?_
   .rintro i σ H2 hi ⟨xs,ps,rs,v5,v6,v7,rfl,s2,h2,hP,PD,hg⟩;show nm ?_;dsimp only;show wj (λσ H3=>∃Ib:Int,H3=H2/\σ=[some ↑a,some<|.int n,some<|.int most,some<|.ref td,some<|.int Ib,v5,some<|.int<|0+(i:Int),v7,none,none,none]) ?_ ?_
    .rintro σ H3 ⟨Ib,rfl,rfl⟩;let dp:(0:Int)<n*n+1:=J
     exists _,Z,_,Z,_,Z,_,_,Z,Z,.inl {by change -(2^64)<n;lia,by change n<2^64;lia},_,_,Z,Z,_,_,Z,Z,dp,?_;let(x0,x1):=md (Ib%(n*n+1));let(y0,y1):=md (Ib%(n*n+1)/n);exists _,Z,.inl {Z,_,SqL.of h2},_,Z,_,Z,_,_,Z,Z,RZ,_,Z,_,Z,_,_,Z,Z,{RZ,by change n<1073741824;lia},_,Z,_,_,Z,Z,RZ,two,λtp OT=>?_;let u1:=XZ (o:=.tup [.int (Ib%(n*n+1)%n),.int (Ib%(n*n+1)/n%n)]) OT
     let h3:=u1 _ _ h2;exists td,xs,_,Z,Z,h3,Zh (by rw[hP.1];lia),?_;exists _,Z,_,Z,_,Z,_,_,Z,Z,.inl {by change -(2^64)<n;lia,by change n<2^64;lia},_,_,Z,Z,_,_,Z,Z,{dp,by change n*n+1<1073741824;lia},?_;show{_,ps++[(Ib%(n*n+1)%n,Ib%(n*n+1)/n%n)],_,_,_,_,Z,ZL Dz<|s2.m u1,XT,?_,by rw[Xt,Yw,PD],Yz5 hg x0 x1 y0 y1};show((hP.same u1).snoc ⟨tp,Z,XT⟩).mutl h3
    .intro Kn hK;exists _,Z,Z,_,Z,?_;rw[Zw];show Xc (λ_=>?_) λ_=>hK _ _ ⟨rs,Z,Z⟩;exists _,Z,a,ns,2,Z,s2.seq hA,oY,λc3=>{_,Z,c3,_,Z,J,J,λr3 _=>hK _ _ ⟨r3,Z,Z⟩}
   .rintro σ H2 ⟨xs,ps,rs,v5,v6,v7,rfl,s2,h2,hP,PD,hg⟩;exists _,Z,q td xs ps H2 s2 Dz h2 hP J hg
  .exists _,Z,_,Z,a,_,Z,DJ,λp1 Um=>?_;rw[Bo];let cl:(KP ns (some 2) none).f<=63:=by
    have:=BW (IL ns) (some 2) none
    rw[Bo,XG,XG]at this;lia
   generalize KP ns (some 2) none=cs at *;let u1:=XZ (o:=.lst<|IL cs) Um
   let UL:p1≠td:=λe=>by rw[e,Fn]at Um;cases Um
   exists p1,Z,{_,SqL.of XT},Em (K:=K) (a:=p1) (xs:=IL cs) (λi σ H2=>∃(xs:List V)(ps:Aa)(v6 v8 v9 v10:Option V),σ=[some ↑a,some<|.int n,some<|.int most,some<|.ref td,none,none,v6,none,v8,v9,v10]/\Same H H2/\H2 p1=some (.lst<|IL cs)/\H2 td=some (.lst xs)/\PairsV H2 xs ps/\ps⁻¹=(if (i:Int)<most then (i:Int) else most)/\∀p∈ps,0<=p.1/\p.1<n/\0<=p.2/\p.2<n) {[],[],none,none,none,none,Z,s0.m u1,XT,u1 _ _ Fn,PairsV.nil,by rw[if_pos J];rfl,λp hp=>(by cases hp)} (λi σ H2 _ zz=>by let(_,_,_,_,_,_,_,_,e,_):=zz;show SqL.of e) ?_ ?_
   .rintro i v σ H2 pt cg hi ⟨xs,ps,v6,v8,v9,v10,rfl,s2,VL,h2,hP,PD,hg⟩;let(c,rfl,hc):=ZT hi;let hi63:=(XF.L hc).1
    let u2:=XZ (o:=.tup [.int i,.int c]) cg;exists pt,_,Z,SqT.of XT,Z,_,_,Z,_,_,Z,Z,?_;let LU:=u2 _ _ VL
    let h3:=u2 _ _ h2;let cf:=hP.same u2
    let s3:=s2.m u2;generalize upd H2 pt (.tup [.int i,.int c])=H3 at *;exists _,Z,_,Z,_,_,Z,Z,(by change(0:Int)<37;decide),c,_,Z,LD _ oY,Int.lt_trans (Ss _ oY) oY,λm m0=>?_;exists _,Z,_,Z,_,_,Z,Z,_,Z,?_;show Xc (λhk=>?_) (λhk=>?_)
    .rw[if_pos hk]at PD;let(x0,x1):=md (m/8);let(y0,y1):=md (m/800);exists _,Z,.inl {Z,_,SqL.of h3},_,Z,_,_,Z,Z,⟨oY,oY⟩,_,Z,_,_,Z,Z,RZ,_,Z,_,_,Z,Z,⟨oY,oY⟩,_,Z,_,_,Z,Z,RZ,two,λtp OT=>?_;let u3:=XZ (o:=.tup [.int (m/8%n),.int (m/800%n)]) OT
     let h4:=u3 _ _ h3;exists td,xs,_,rfl,rfl,h4,Zh (by rw[hP.1];lia),?_;show{_,ps++[(m/8%n,m/800%n)],_,_,_,_,rfl,ZL Dz<|s3.m u3,by rw[Zb UL];show u3 _ _ LU,XT,((cf.same u3).snoc ⟨tp,rfl,XT⟩).mutl h4,?_,Yz5 hg x0 x1 y0 y1};rw[Xt,Yw];split<;>lia
    .rw[if_neg hk]at PD;let at0:0<=(i:Int)%most:=LD _ J
     let at1:(i:Int)%most<most:=Ss _ J;obtain⟨p,hp⟩:∃p,ps[((i:Int)%most).j]?=some p:={_,Xr J};let(v,hv,tt,rfl,VS):=cf.2 _ p hp;let hix:Wi xs ((i:Int)%most)=some ↑tt:=ZA (n:=((i:Int)%most).j) J hv
     exists _,Z,_,Z,_,_,Z,Z,(by change(0:Int)<most;lia),?_;exists _,Z,_,Z,_,Z,td,_,(i:Int)%most,.ref tt,Z,Z,SqL.of h3,hix,tt,_,0,.int p.1,Z,Z,SqT.of VS,Z,_,_,Z,Z,_,Z,_,Z,td,_,(i:Int)%most,.ref tt,Z,Z,SqL.of h3,hix,tt,_,1,.int p.2,Z,Z,SqT.of VS,Z,_,_,Z,Z,.inl ⟨oY,oY⟩,_,_,Z,Z,_,5,Z,oY,oY,λm' m0'=>?_;let(x0,x1):=md (m'/8);let(y0,y1):=md (m'/800);exists _,Z,_,_,Z,Z,⟨oY,oY⟩,_,Z,_,_,Z,Z,RZ,_,Z,_,_,Z,Z,⟨oY,oY⟩,_,Z,_,_,Z,Z,RZ,two,λtp OT=>?_;let u3:=XZ (o:=.tup [.int (m'/8%n),.int (m'/800%n)]) OT
     let h4:=u3 _ _ h3;exists _,Z,_,Z,td,xs,_,((i:Int)%most).j,Z,Z,h4,?_,?_
     .have:=hP.1
      unfold Lf;rw[if_pos J,if_pos J]
     show{_,ps.set ((i:Int)%most).j (m'/8%n,m'/800%n),_,_,_,_,rfl,ZL Dz<|s3.m u3,by rw[Zb UL];show u3 _ _ LU,XT,((cf.same u3).set _ ⟨tp,rfl,XT⟩).mutl h4,?_,cn hg x0 x1 y0 y1};rw[LF];split<;>lia
   .rintro σ H2 ⟨xs,ps,v6,v8,v9,v10,rfl,s2,VL,h2,hP,PD,hg⟩;exists _,rfl,q td xs ps H2 s2 Dz h2 hP ?_ hg;split at PD<;>lia
inductive spZM(K:Ad)(vs:List V)(H:Hp)(Q:VK)(_:XK):Prop
 |mk (n:Int) (a:Addr) (xs:List V) (ps:Aa) (_:vs=[.int n,.ref a]) (_:SqL K H a xs) (_:PairsV H xs ps) (_:Zz n ps) (_:ps.f<=10) (_:∀(r:Addr)(ys:List V)(L:Ab)(H':Hp),Same H H'->H' r=some (.lst ys)->TupsV H' ys L->L.f<=1024->(∀l,l∈L↔Zg n ps l)->L.E UY->Q ↑r H')
def cb{ps:Aa}{z:Nat}{p:Int×Int}(h:ps[z]?=some p):Zu ps (z:Int)=(p.1.j,p.2.j):=by unfold Zu;rw[YO,Wa h]
def we:FnScope ["count","ties","told","tie","pair","more","row","marks","low","high"] ["count","ties"] (Xd (top 65)):=RH D
def b9(T:Txt K mg t):WZ P w base Xi T.qZM 1 (spZM K):=by
 show T.qZM.okI ["count","ties","told","tie","pair","more","row","marks","low","high"] D λXv A outer s H vs Q E hr h=>?_
 .let⟨n,a,xs,ps,rfl,hA,hP,hG,p10,q⟩:=h;show⟨_,(XO (Ze 2<|UR<|XY (Ug<|XY (Ug XX)<|XY (Zk (l9 Z) o3 T.n_list Boot.«list»<|XY (Zk me o3 T.n_range Boot.«range»<|XY (pv 0) XX) XX) XX) XX)
   (XO (Tg Ws Z (Mg K Z T.n_enumerate<|XY (pv 1) XX) (QI (n:=2) K Z<|Zr (Za 3)<|Zr (Za 4) QM)
   (XO (Ze 5<|UR XX)
   (XO (Tg Ws Z (ZD K<|pv 2) (QI (n:=2) K Z<|Zr (Za 6)<|Zr (Za 7) QM)
   (XO (Th (i:=8) we.nd Z (Or.inr Z)<|ZE (Zd K) (pv 7) (ZE (ZM K) (pv 4) Zc λ_ _=>rfl) λ_ _=>rfl)
   (XO (Th (i:=9) we.nd Z (Or.inr Z)<|ZE (Zd K) (pv 7) (ZE (ZM K) (pv 4) Zc λ_ _=>rfl) λ_ _=>rfl)
   (XI (Wl (Zf Rw (pv 8) (pv 9)<|Zs _)
   (XI<|QN<|Pc K US Dt Du BJ (pv 5)<|XY (Ug<|XY (Zy (zx K) (pv 6)<|Ug<|XY (pv 3) XX)<|XY (Tc Z (sc0:=Xd<|top 65) (N0:=["count","ties","told","tie","pair","more","row","marks","low","high"]) (N':=["mark","low","high"]) (o:=1) (fr:=[8,9]) ⟨Z,D,D,D,Z,D⟩ (ZD K<|pv 7) (Zp oY) (λ_ _ _ _=>(Za 0)) (λ_ _ _ _=>QL) λ_ _ _ _=>(ZE (Zd K) (UR<|XY (pv 0)<|XY (pv 1) XX) (Zk ZY5 o3 T.n_int Boot.«int»<|XY (Jp RV (pv 0) (pv 2)<|Zs _) XX) λ_ _=>rfl)) XX) XX)
   Zq)))))
   (XI<|Ze 2<|Zy Lb (pv 2)<|pv 5))))
   (XI<|Zj<|Zi (Zo4 K) o3 T.n_sorted Boot.«sorted»<|XY (Tc Z (sc0:=Xd<|top 65) (N0:=["count","ties","told","tie","pair","more","row","marks","low","high"]) (N':=["row","marks","count"]) (o:=2) (fr:=[0]) ⟨Z,D,D,D,Z,D⟩ (ZD K<|pv 2) (Er<|Pf oY<|Pf oY Es) (λ_ _ _ _=>(QI (n:=2) K Z<|Zr (Za 0)<|Zr (Za 1) QM)) (λ_ _ _ _=>(ZR<|Zf RV (Zi (Zn K) o3 T.n_len Boot.«len»<|XY (pv 0) XX) (Zy VC (pv 2) Zc)<|Zs _)) λ_ _ _ _=>(pv 0)) XX))),?_⟩
  let(g1,g2,g3,g4):=id hG;let OX:=hP.1
  let one:1<=sizeLine:=oY;let two:2<=sizeLine:=oY
  exists Yj _,λt0 ht0=>?_;let s0:=XZ (o:=.tup []) ht0
  exists _,Z,n,Z,λrg hrg=>{rg,0,n,Z,XT,⟨oY,oY,J,J⟩,J,λh0 hh0=>?_};let s1:=Zv (o:=.lst<|(Vg 0 n).R V.int) (XZ (o:=.rng 0 n) hrg) hh0
  exists two,λpr hpr=>{one,λd0 Ia=>?_};let s2:=XZ (o:=.tup [.ref t0,.ref h0]) hpr
  let s3:=XZ (o:=.lst [.ref pr]) Ia;let e0:(Vg 0 n).R V.int=IL (WW n.j<|XS ps []):=by rw[lG];rfl
  let f1:=(s2.m s3) _ _ (XT (a:=h0) (o:=.lst<|(Vg 0 n).R V.int));let bh0:∀(R:V->Ac->Prop),Bears R [] []:=λR=>{Z,λi l e=>by simp at e}
  let hB0:Bears (PhL n.j ps<|upd (upd (upd (upd (upd H t0<|.tup []) rg<|.rng 0 n) h0<|.lst<|(Vg 0 n).R V.int) pr<|.tup [.ref t0,.ref h0]) d0<|.lst [.ref pr]) [.ref pr] (Ut n.j ps 0):=
   (bh0 _).snoc {pr,t0,h0,Z,s3 _ _ XT,(s1.m<|s2.m s3) _ _ XT,by rwa[<-e0]}
  let sA:=(s0.m<|s1.m<|s2.m s3).seq hA;show⟨_,Z,a,Z,{_,sA},Em (K:=K) (a:=a) (xs:=xs) (λi σ H2=>∃(d:Addr)(ys:List V)(v3 v4 v5 v6 v7 v8 v9:Option V),σ=[some (.int n),some<|.ref a,some<|.ref d,v3,v4,v5,v6,v7,v8,v9]/\Same H H2/\H2 d=some (.lst ys)/\Bears (PhL n.j ps H2) ys (Ut n.j ps i))
   {d0,[.ref pr],none,none,none,none,none,none,none,Z,s0.m<|s1.m<|s2.m s3,XT,hB0} (λi σ H2 _ zz=>by let(_,_,_,_,_,_,_,_,_,_,e,_):=zz;show e.seq hA) ?_ ?_⟩
  .rintro i v σ H2 pt UL hi ⟨d,ys,v3,v4,v5,v6,v7,v8,v9,rfl,s2,hd,hB⟩;let(p,hp,tz,rfl,htz):=hP.at hi;let hi10:i<10:=by have:=(XF.L hp).1;lia
   let(b1,b2,b3,b4):=g4 p (Xm hp);let w1:=XZ (o:=.tup [.int i,.ref tz]) UL
   exists pt,_,Z,SqT.of XT,Z,_,_,Z,_,_,Z,Z,?_;let SE:=w1 _ _ hd
   let IX:=hB.imp λ_ _ h=>h.same w1;let s3:=s2.m w1
   generalize upd H2 pt (.tup [.int i,.ref tz])=H3 at *;exists Yj _,λe he=>?_;let w2:=XZ (o:=.lst []) he
   let yl:=zw n.j ps (i:=i) J;let PU:=IX.1
   show⟨_,Z,d,Z,{_,SqL.of<|w2 _ _ SE},Ew (K:=K) (a:=d) (xs:=ys) (λj σ H4=>∃(zs:List V)(v6 v7 v8 v9:Option V),σ=[some (.int n),some<|.ref a,some<|.ref d,some<|.int i,some<|.ref tz,some<|.ref e,v6,v7,v8,v9]/\Same H3 H4/\H4 e=some (.lst zs)/\Bears (PhM n.j ps e H4) zs ((((Ut n.j ps i).M j).R (·++[(i:Int)])).Q (Fr n.j ps)))
    {[],_,_,_,_,Z,w2,XT,bh0 _} (λj σ H4 _ zz=>by let(_,_,_,_,_,_,e,_):=zz;show SqL.of<|e _ _ SE) ?_ ?_⟩
   .rintro j v σ H4 hj ⟨zs,v6,v7,v8,v9,rfl,s4,Dy,hZ⟩;let(l,hl,tt,pA,wd,rfl,VS,Il,hhA):=IX.at hj;let hFr:=(Wf.L<|Xm hl).2
    let Ks:=(Wf.L<|Xm hl).1.len;exists tt,_,Z,SqT.of<|s4 _ _ VS,Z,_,_,Z,_,_,Z,Z,?_;let b8:=s4 _ _ Il
    let Fm:=s4 _ _ hhA;let wc:=(s3.m s4) _ _ htz
    let lL:(WW n.j<|XS ps l).f=n.j:=ZI _ _;let eo:=cb hp
    let lsn:WW n.j (XS ps<|l++[(i:Int)])=lm (WW n.j<|XS ps l) p.1.j p.2.j:=by rw[IV,eo,Mf]
    let frz:=Qt (n:=n.j) (ps:=ps) (l:=l) (z:=(i:Int));rw[eo]at frz;let lst:(((Ut n.j ps i).M (j+1)).R (·++[(i:Int)])).Q (Fr n.j ps)=(((Ut n.j ps i).M j).R (·++[(i:Int)])).Q (Fr n.j ps)++(if Fr n.j ps (l++[(i:Int)])=true then [l++[(i:Int)]] else []):=by
     rw[YY,hl,YN,QU];show YS _ ?_;change List.Q _ [l++[(i:Int)]]=_
     rw[YU];rfl
    let zl:zs.f<=1024:=by rw[hZ.1];show Yl (Yo ..) ?_;rw[Yc,Yf];lia
    generalize WW n.j (XS ps l)=M at *;let iA:Wi (IL M) p.1=some (.int<|mk M p.1.j):=ZA (n:=p.1.j) J (WE<|RP J)
    let iB:Wi (IL M) p.2=some (.int<|mk M p.2.j):=ZA (n:=p.2.j) J (WE<|RP J);exists _,Z,_,Z,tz,_,0,.int p.1,Z,Z,SqT.of wc,Z,wd,_,p.1,_,Z,Z,SqL.of Fm,iA,?_;exists _,Z,_,Z,tz,_,1,.int p.2,Z,Z,SqT.of wc,Z,wd,_,p.2,_,Z,Z,SqL.of Fm,iB,?_;exists _,Z,_,Z,Z,_,Z,?_;rw[Zw];show WU (λheq=>?_) (λXM=>?_)
    .exists zs,_,_,_,_,Z,s4,Dy,?_;rwa[lst,if_neg λh=>(frz.L h).2 heq,Ys]
    let hFz:Fr n.j ps (l++[(i:Int)])=true:=frz.U ⟨hFr,XM⟩;exists _,Z,.inl {Z,_,SqL.of Dy},_,Z,_,Z,one,λp2 VL=>?_;let x1:=XZ (o:=.tup [.int i]) VL
    exists pA,p2,_,_,Z,Z,x1 _ _ b8,XT,Pd (by rw[XG];change _+1<=_;lia),λr3 H5 x2 Uq=>?_;let b7:=x1.m x2
    let wb:=b7 _ _ Fm;show⟨_,Z,wd,Z,{_,SqL.of wb},VY (K:=K) (a:=wd) (xs:=IL M) (λw us H6=>Same H5 H6/\w<=M.f/\us=IL ((M.M w).R λk=>if k=mk M p.2.j then mk M p.1.j else k)) {Same.refl _,Yj _,Z} (Zh<|by rw[XG];lia)
     (λw us H6 hw zz=>by let(e,xu,ey):=zz;show{SqL.of<|e _ _ wb,by rw[ey,XG,Yc,Yf];lia}) ?_ ?_⟩
    .rintro w v us H6 hw ⟨x3,KZ,rfl⟩ S Xx;let(y,rfl,hy):=ZT hw;let MP:=(XF.L hy).1
     show nm ?_;exists _,Z,_,Z,two,λlp PD=>?_;let x4:=XZ (o:=.lst [.int y,.int (mk M p.1.j)]) PD
     exists _,Z,_,Z,Z,.inr {_,Z,?_};rw[Zw];let app:∀v:Int,v=(if y=mk M p.2.j then mk M p.1.j else y)->IL ((M.M w).R λk=>if k=mk M p.2.j then mk M p.1.j else k)++[.int v]=IL ((M.M<|w+1).R λk=>if k=mk M p.2.j then mk M p.1.j else k):=λv hv=>by rw[YY,hy,YN,hv];show(ZO _ _).symm
     cases hc:y=mk M p.2.j
     .rw[Yq hc];exists lp,_,1,.int<|mk M p.1.j,Z,Z,SqL.of XT,Z,Xx _ _ {x3.m x4,MP,app _<|by rw[if_pos hc]}
     .rw[Sz hc];exists lp,_,0,.int y,Z,Z,SqL.of XT,Z,Xx _ _ {x3.m x4,MP,app _<|by rw[if_neg hc]}
    rintro us H6 ⟨x3,_,rfl⟩ la Nc;rw[XG,Yz];let elm:(M.R λk=>if k=mk M p.2.j then mk M p.1.j else k)=WW n.j (XS ps<|l++[(i:Int)]):=by rw[lsn];unfold lm;rw[if_pos XM]
    let x5:=XZ (o:=.lst<|IL<|M.R λk=>if k=mk M p.2.j then mk M p.1.j else k) Nc;exists two,λtn htn=>?_;let x6:=XZ (o:=.tup [.ref r3,.ref la]) htn
    let bZ:=b7.m (x3.m<|x5.m x6);let he7:=bZ _ _ Dy
    let hle:la≠e:=λz=>by rw[z,(b7.m x3) _ _ Dy]at Nc;cases Nc
    exists e,zs,_,Z,Z,he7,Zh J,?_;exists zs++[.ref tn],_,_,_,_,Z,ZL he<|s4.m bZ,XT,?_;rw[lst,if_pos hFz];let hn:PhM n.j ps e (upd (upd H6 la<|.lst<|IL<|M.R λk=>if k=mk M p.2.j then mk M p.1.j else k) tn<|.tup [.ref r3,.ref la]) ↑tn (l++[(i:Int)]):={tn,r3,la,Z,XT,by rw[(x3.m<|x5.m x6) _ _ Uq,ZO],by rw[<-elm];show x6 _ _ XT,hle}
    show((hZ.imp λ_ _ h=>h.same bZ).snoc hn).imp λ_ _ h=>h.mut he7
   .rintro σ H4 ⟨zs,v6,v7,v8,v9,rfl,s4,Dy,hZ⟩;rw[IX.1,Yz]at hZ;let zl:zs.f<=1024:=by rw[hZ.1];show Yl (Yo ..) ?_;rw[Yc];lia
    exists _,Z,_,Z,d,e,_,_,Z,Z,s4 _ _ SE,Dy,Pd J,λdn hdn=>?_;let x1:=XZ (o:=.lst<|ys++zs) hdn
    exists dn,ys++zs,_,_,_,_,_,_,_,Z,s3.m<|s4.m x1,XT,?_;show((IX.imp λ_ _ h=>h.same s4).app (hZ.imp λ_ _ h=>h.low)).imp λ_ _ h=>h.same x1
  .rintro σ H2 ⟨d,ys,v3,v4,v5,v6,v7,v8,v9,rfl,s2,hd,hB⟩;rw[OX]at hB;let yl:=zw n.j ps p10
   let PU:=hB.1;show⟨_,Z,d,Z,{_,SqL.of hd},VY (K:=K) (a:=d) (xs:=ys) (λi ws H3=>H3=H2/\i<=ys.f/\TupsV H2 ws (((Ut n.j ps ps.f).M i).Q λl=>decide<|l⁻¹=n-1)) {Z,Yj _,TupsV.nil} (Zh J)
    (λi ws H3 hi zz=>by let(e,VH,ey):=zz;show{e▸SqL.of hd,by rw[ey.1];show Yl (Yo ..)<|by rw[Yf];lia}) ?_ ?_⟩
   .rintro i v ws H3 hi ⟨rfl,Vp,hW⟩ S Xx;let(l,hl,tt,pA,wd,rfl,VS,Il,hhA):=hB.at hi;let XC:i<ys.f:=(XF.L hi).1
    exists tt,_,Z,SqT.of VS,Z,_,_,Z,_,_,Z,Z,?_;let tk:((Ut n.j ps ps.f).M (i+1)).Q (λl=>decide<|l⁻¹=n-1)=((Ut n.j ps ps.f).M i).Q (λl=>decide<|l⁻¹=n-1)++(if l⁻¹=n-1 then [l] else []):=by
     rw[YY,hl,QU];show YS _ ?_;change List.Q _ [l]=_
     rw[YU];cases h:l⁻¹=n-1
     .rw[if_pos h,if_pos (Yq h)];rfl
     .rw[if_neg h,if_neg (by simp;show h)];rfl
    exists _,Z,pA,_,Z,.inr<|SqT.of Il,_,Z,_,_,Z,Z,Z,_,Z,?_;rw[XG,Zw];show Xc (λh=>?_) (λh=>?_)
    .exists _,Z,Xx _ _ {Z,XC,?_};rw[tk,if_pos h];show hW.snoc ⟨pA,Z,Il⟩
    .show Xx _ _ {Z,XC,?_};rwa[tk,if_neg h,Ys]
   .rintro ws H3 ⟨rfl,_,hW⟩ p hp;rw[PU,Yz]at hW;let hm:∀l,l∈(Ut n.j ps ps.f).Q (λl=>decide<|l⁻¹=n-1)↔Zg n ps l:=λl=>by rw[Ya,YL];show jy hG
    let Uo:((Ut n.j ps ps.f).Q λl=>decide<|l⁻¹=n-1).Nodup:=Lv pU (jz n.j ps ps.f);let Ks:((Ut n.j ps ps.f).Q λl=>decide<|l⁻¹=n-1).f<=1024:=Yl (Yo ..) yl
    generalize (Ut n.j ps ps.f).Q (λl=>decide<|l⁻¹=n-1)=W at *;let s4:=XZ (o:=.lst ws) hp
    let cU:=hW.same s4;let KZ:=hW.1
    exists p,ws,W,Xn<|upd H3 p<|.lst ws,Z,SqL.of XT,cU,λv l zz=>by let(a,e,h):=zz;show{a,e,SqT.of h},?_,J,λzs M hZ MO hMs r hr=>?_
    .cases h1:n=1
     .show .inl ?_;rw[KZ]
      match W,Uo,hm with
      |[],_,_=>show Nat.zero_lt_two
      |[_],_,_=>show Nat.one_lt_two
      |x::y::W,Uo,hm=>
       let ex:x=[]:=YV.L (by have:=((hm x).L B).2.1;lia);let ey:y=[]:=YV.L (by have:=((hm y).L B).2.1;lia)
       show absurd (ex.m ey.symm) ((YZ.L Uo).1 y B)
     .show .inr λl hl e=>?_
      have:=((hm l).L hl).2.1
      rw[e]at this;simp at this;lia
    .let s5:=XZ (o:=.lst zs) hr;show q r zs M _ (s2.m<|s4.m s5) XT (TupsV.same s5 hZ) (by rwa[MO.length_eq]) (λl=>by rw[MO.mem_iff];show hm l) (jT hMs<|MO.nodup_iff.U Uo)
inductive spZN(K:Ad)(vs:List V)(H:Hp)(Q:VK)(_:XK):Prop
 |mk (a:Addr) (T:Ac) (o z:Int) (_:vs=[.ref a,.int o,.int z]) (_:SqT K H a (IL T)) (_:T.f<=20) (_:∀(ms:Ac),ms.Perm (wo T o++[z])->ms.E (·<=·)->∀(r:Addr)(H':Hp),Same H H'->H' r=some (.tup<|IL ms)->Q ↑r H')
def wa(T:Txt K mg t):WZ P w base Xi T.qZN 1 (spZN K):=by
 show T.qZN.okI ["tree","out","into"] D λXv A outer s H vs Q E hr h=>?_
 .let⟨a,T',o,z,rfl,hA,tl,q⟩:=h;exists _,(XI<|Zj<|Zk (ZQ K) o3 T.n_tuple Boot.«tuple»<|XY (Zi (PY K) o3 T.n_sorted Boot.«sorted»<|XY (Zy Lb (Tc Z (sc0:=Xd<|top 66) (N0:=["tree","out","into"]) (N':=["tie","out"]) (o:=1) (fr:=[1]) ⟨Z,D,D,D,Z,D⟩ (Ue K<|pv 0) (Zp oY) (λ_ _ _ _=>(Za 0)) (λ_ _ _ _=>(ZR<|Zf Rw (pv 0) (pv 1)<|Zs _)) λ_ _ _ _=>(pv 0))<|UR<|XY (pv 2) XX) XX) XX),?_;let one:1<=sizeLine:=oY
  show⟨_,Z,a,Z,{_,hA},KR (K:=K) (a:=a) (xs:=IL T') (λj zs H4=>H4=H/\j<=T'.f/\zs=IL (wo (T'.M j) o)) {Z,Yj _,Z} (Zh<|by rw[XG];lia)
    (λj zs H4 hj zz=>by let(e,RJ,ey):=zz;show{e▸hA,by rw[ey,XG];show Yl (sJ _ _)<|by rw[Yf];lia}) ?_ ?_⟩
  .rintro j x zs H4 hj ⟨rfl,Vf,rfl⟩ S Xx;let(y,rfl,hy):=ZT hj;let VT:j<T'.f:=(XF.L hy).1
   show nm ?_;exists _,Z,_,Z,Z,_,Z,?_;rw[Zw];show WU (λhe=>?_) (λhe=>?_)
   .show Xx _ _ {Z,VT,?_};rw[sI hy,if_neg (by simpa using he),Ys]
   .exists _,Z,Xx _ _ {Z,VT,?_};rw[sI hy,if_pos he,ZO]
  rintro zs H4 ⟨rfl,_,rfl⟩ p1 Um;rw[XG,Yz];let wl:=sJ T' o
  exists _,Z,one,λp2 VL=>?_;show sP (l2:=[z]) (by rw[Zb (WC XT VL)];show XT) XT (by simp only[YG,Jz];lia) λp3 LU=>?_;show{p3,_,Z,SqL.of XT,by simp only[Xt,YG,Jz];lia,λms bY bX p4 Nd=>?_};let s6:=Zv (Zv (Zv (XZ (o:=.lst<|IL<|wo T' o) Um) (o:=.lst<|IL [z]) VL) (o:=.lst<|IL<|wo T' o++[z]) LU) (o:=.lst<|IL ms) Nd
  exists p4,IL ms,Z,.inl {SqL.of XT,λtp OT=>?_};show q ms bY bX tp _ (s6.m<|XZ OT) XT
inductive spZO(K:Ad)(vs:List V)(H:Hp)(Q:VK)(_:XK):Prop
 |mk (n:Int) (a b:Addr) (xs:List V) (ps:Aa) (I:Ac) (_:vs=[.int n,.ref a,.ref b]) (_:SqL K H a xs) (_:PairsV H xs ps) (_:Zz n ps) (_:SqL K H b (IL I)) (_:(∀z∈I,0<=z/\z<ps⁻¹)) (_:∀(m:Addr)(H':Hp),Same H H'->H' m=some (.lst<|IL<|WW n.j<|XS ps I)->Q ↑m H')
def Fl:FnScope ["count","ties","kept","marks","tie","low","high"] ["count","ties","kept"] (Xd (top 67)):=RH D
def bW(T:Txt K mg t):WZ P w base Xi T.qZO 1 (spZO K):=by
 show T.qZO.okI ["count","ties","kept","marks","tie","low","high"] D λXv A outer s H vs Q E hr h=>?_
 .let⟨n,a,b,xs,ps,I,rfl,hA,hP,⟨g1,g2,g3,g4⟩,hI,XD,q⟩:=h;show⟨_,(XO (Ze 3<|Zk (l9 Z) o3 T.n_list Boot.«list»<|XY (Zk me o3 T.n_range Boot.«range»<|XY (pv 0) XX) XX)
   (XO (Tg Ws Z (ZD K<|pv 2) (Za 4)
   (XO (Th (i:=5) Fl.nd Z (Or.inr Z)<|ZE (Zd K) (pv 3) (ZE (ZM K) (ZE (Zd K) (pv 1) (pv 4) λ_ _=>rfl) Zc λ_ _=>rfl) λ_ _=>rfl)
   (XO (Th (i:=6) Fl.nd Z (Or.inr Z)<|ZE (Zd K) (pv 3) (ZE (ZM K) (ZE (Zd K) (pv 1) (pv 4) λ_ _=>rfl) Zc λ_ _=>rfl) λ_ _=>rfl)
   (XI<|Sk (i:=3) Z Fl.nd Z Z (sc0:=Xd<|top 67) (N0:=["count","ties","kept","marks","tie","low","high"]) (N':=["mark","low","high"]) (o:=1) (fr:=[5,6]) ⟨Z,D,D,D,Z,D⟩ (ZD K<|pv 3) (Zp oY) (λ_ _ _ _=>(Za 0)) (λ_ _ _ _=>QL) λ_ _ _ _=>(ZE (Zd K) (UR<|XY (pv 0)<|XY (pv 1) XX) (Zk ZY5 o3 T.n_int Boot.«int»<|XY (Jp RV (pv 0) (pv 2)<|Zs _) XX) λ_ _=>rfl)))))
   (XI<|Zj<|pv 3))),?_⟩
  let two:2<=sizeLine:=oY;exists _,Z,n,Z,λr UK=>{r,0,n,Z,XT,⟨oY,oY,J,J⟩,J,λm hm=>?_};let sm:Same H (upd (upd H r<|.rng 0 n) m<|.lst<|(Vg 0 n).R V.int):=Zv (XZ UK) hm
  show⟨_,Z,b,Z,{_,sm.seq hI},Ew (K:=K) (a:=b) (xs:=IL I) (λi σ H2=>∃(m:Addr)(v4 v5 v6:Option V),σ=[some (.int n),some<|.ref a,some<|.ref b,some<|.ref m,v4,v5,v6]/\Same H H2/\H2 m=some (.lst<|IL<|WW n.j<|XS ps<|I.M i))
   {m,none,none,none,Z,sm,?_} (λi σ H2 _ h=>by let(_,_,_,_,_,s2,_):=h;show s2.seq hI) ?_ ?_⟩
  .rw[XT,lG];rfl
  .rintro i x σ H2 hi ⟨m,v4,v5,v6,rfl,s2,WG⟩;let(z,rfl,hz):=ZT hi;let(z0,z1):=XD z (Xm hz);obtain⟨p,hp⟩:∃p,ps[z.j]?=some p:={_,Xr J};let(e1,e2,e3,e4):=g4 p (Xm hp);let(v,hv,tt,rfl,VS):=(hP.same s2).2 z.j p hp;let ed:ps.S z.j (0,0)=p:=Wa hp
   let hl:(WW n.j<|XS ps<|I.M i).f=n.j:=ZI _ _;let step:WW n.j (XS ps<|I.M<|i+1)=lm (WW n.j<|XS ps<|I.M i) p.1.j p.2.j:=by rw[YY,hz];rw[show XS ps (I.M i++(some z).l)=XS ps (I.M i)++[(p.1.j,p.2.j)] by unfold XS;rw[YN];change _++[((ps.S z.j (0,0)).1.j,(ps.S z.j (0,0)).2.j)]=_;rw[ed],Mf]
   generalize WW n.j (XS ps<|I.M i)=M at *;let iA:Wi (IL M) p.1=some (.int<|mk M p.1.j):=ZA (n:=p.1.j) J (WE<|RP J)
   let iB:Wi (IL M) p.2=some (.int<|mk M p.2.j):=ZA (n:=p.2.j) J (WE<|RP J);let iz:Wi xs z=some ↑tt:=ZA (n:=z.j) J hv
   show nm ?_;dsimp only[List.set];exists _,Z,_,Z,_,Z,a,xs,z,.ref tt,Z,Z,s2.seq hA,iz,tt,_,0,.int p.1,Z,Z,SqT.of VS,Z,m,_,p.1,_,Z,Z,SqL.of WG,iA,?_;show nm ?_;dsimp only[List.set];exists _,Z,_,Z,_,Z,a,xs,z,.ref tt,Z,Z,s2.seq hA,iz,tt,_,1,.int p.2,Z,Z,SqT.of VS,Z,m,_,p.2,_,Z,Z,SqL.of WG,iB,?_;show nm ?_;dsimp only[List.set];show⟨_,Z,m,Z,{_,SqL.of WG},VY (K:=K) (a:=m) (xs:=IL M) (λw us H6=>Same H2 H6/\w<=M.f/\us=IL ((M.M w).R λk=>if k=mk M p.2.j then mk M p.1.j else k)) {Same.refl _,Yj _,Z} (Zh<|by rw[XG];lia)
    (λw us H6 hw h=>by let(e,xu,ey):=h;show{SqL.of<|e _ _ WG,by rw[ey,XG,Yc,Yf];lia}) ?_ ?_⟩
   .rintro w v us H6 hw ⟨x3,KZ,rfl⟩ S Xx;let(y,rfl,hy):=ZT hw;let MP:=(XF.L hy).1
    exists _,Z,_,Z,two,λlp PD=>?_;let x4:=XZ (o:=.lst [.int y,.int (mk M p.1.j)]) PD
    exists _,Z,_,Z,Z,.inr {_,Z,?_};rw[Zw];let app:∀v:Int,v=(if y=mk M p.2.j then mk M p.1.j else y)->IL ((M.M w).R λk=>if k=mk M p.2.j then mk M p.1.j else k)++[.int v]=IL ((M.M<|w+1).R λk=>if k=mk M p.2.j then mk M p.1.j else k):=λv hv=>by rw[YY,hy,YN,hv];show(ZO _ _).symm
    cases hc:y=mk M p.2.j
    .rw[Yq hc];exists lp,_,1,.int<|mk M p.1.j,Z,Z,SqL.of XT,Z,Xx _ _ {x3.m x4,MP,app _<|by rw[if_pos hc]}
    .rw[Sz hc];exists lp,_,0,.int y,Z,Z,SqL.of XT,Z,Xx _ _ {x3.m x4,MP,app _<|by rw[if_neg hc]}
   rintro us H6 ⟨x3,_,rfl⟩ la Nc;rw[XG,Yz];exists la,_,_,_,Z,s2.m<|x3.m<|XZ Nc,?_;rw[XT,step];let e:(M.R λk=>if k=mk M p.2.j then mk M p.1.j else k)=lm M p.1.j p.2.j:=by
    unfold lm;cases c:mk M p.1.j≠mk M p.2.j
    .rw[if_pos c]
    .rw[if_neg c];show(VE λk _=>?_).m (List.map_id M);split
     .rename_i h;rw[h];show Yy c
     .rfl
   rw[e]
  .rintro σ H2 ⟨m,v4,v5,v6,rfl,s2,WG⟩;rw[XG,Yz]at WG;exists _,Z,q m H2 s2 WG
inductive spZP(K:Ad)(vs:List V)(H:Hp)(Q:VK)(_:XK):Prop
 |mk (n:Int) (a b:Addr) (xs:List V) (ps:Aa) (I:Ac) (y z:Int) (_:vs=[.int n,.ref a,.ref b,.int y,.int z]) (_:SqL K H a xs) (_:PairsV H xs ps) (_:Zz n ps) (_:SqL K H b (IL I)) (_:(∀z∈I,0<=z/\z<ps⁻¹)) (_:(0<=y/\y<ps⁻¹)) (_:(0<=z/\z<ps⁻¹)) (_:∀H':Hp,Same H H'->Q (.bl<|decide<|VQ (Xy n.j<|XS ps I) ps y=VQ (Xy n.j<|XS ps I) ps z) H')
def vZ{a b c d:Int}:(min a b,max a b)=(min c d,max c d)↔(a=c/\b=d)\/(a=d/\b=c):=by rw[Prod.mk.injEq];grind
def bV{n:Int}{ps:Aa}{I:Ac}{y z:Int}(g:Zz n ps)(XD:∀z∈I,0<=z/\z<ps⁻¹)(hy:0<=y/\y<ps⁻¹)(hz:0<=z/\z<ps⁻¹):VQ (WW n.j (XS ps I)) ps y=VQ (WW n.j (XS ps I)) ps z↔VQ (Xy n.j (XS ps I)) ps y=VQ (Xy n.j (XS ps I)) ps z:=by
 let Wq:=ZY g XD;let a:=SY (z:=y) g hy.1 hy.2
 let b:=SY (z:=z) g hz.1 hz.2;unfold VQ;rw[vZ,vZ];let k:∀{i j:Nat},i<n.j->j<n.j->(mk (WW n.j<|XS ps I) i=mk (WW n.j<|XS ps I) j↔mk (Xy n.j<|XS ps I) i=mk (Xy n.j<|XS ps I) j):=λhi hj=>(VW Wq hi hj).m (QE Wq hi hj).symm
 show or_congr (and_congr (k a.1 b.1)<|k a.2 b.2) (and_congr (k a.1 b.2)<|k a.2 b.1)
def bU:FnScope ["count","ties","kept","lead","other","marks","one"] ["count","ties","kept","lead","other"] (Xd (top 68)):=RH D
def bT(T:Txt K mg t):WZ P w base Xi T.qZP 2 (spZP K):=by
 show T.qZP.okI ["count","ties","kept","lead","other","marks","one"] D λXv A outer s H vs Q E hr h=>?_
 .let⟨n,a,b,xs,ps,I,y,z,rfl,hA,hP,hG,hI,XD,hy,hz,q⟩:=h;show⟨_,(XO (Th (i:=5) bU.nd Z (Or.inr Z)<|Xp (bW T) hr T.qZO Zt<|XY (pv 0)<|XY (pv 1)<|XY (pv 2) XX)
   (XO (Ze 6<|Zi (PY K) o3 T.n_sorted Boot.«sorted»<|XY (Tc Z (sc0:=Xd<|top 68) (N0:=["count","ties","kept","lead","other","marks","one"]) (N':=["place","marks"]) (o:=1) (fr:=[5]) ⟨Z,D,D,D,Z,D⟩ (Ue K<|ZE (Zd K) (pv 1) (pv 3) λ_ _=>rfl) (Zp oY) (λ_ _ _ _=>(Za 0)) (λ_ _ _ _=>QL) λ_ _ _ _=>(ZE (Zd K) (pv 1) (pv 0) λ_ _=>rfl)) XX)
   (XI<|Zj<|Jp (lM K<|KS hr) (pv 6) (Zi (PY K) o3 T.n_sorted Boot.«sorted»<|XY (Tc Z (sc0:=Xd<|top 68) (N0:=["count","ties","kept","lead","other","marks","one"]) (N':=["place","marks"]) (o:=1) (fr:=[5]) ⟨Z,D,D,D,Z,D⟩ (Ue K<|ZE (Zd K) (pv 1) (pv 4) λ_ _=>rfl) (Zp oY) (λ_ _ _ _=>(Za 0)) (λ_ _ _ _=>QL) λ_ _ _ _=>(ZE (Zd K) (pv 1) (pv 0) λ_ _=>rfl)) XX)<|Zs _))),?_⟩
  let(g1,g2,g3,g4):=id hG;exists _,Z,_,Z,_,Z,n,a,b,xs,ps,I,Z,hA,hP,hG,hI,XD,λm H1 s1 hm=>?_;show nm ?_;dsimp only[List.set];let lL:(WW n.j<|XS ps I).f=n.j:=ZI _ _
  let key:=bV hG XD hy hz;obtain⟨M,hM⟩:∃M,WW n.j (XS ps I)=M:={_,Z};rw[hM]at hm lL key;let ends:∀u:Int,0<=u->u<ps⁻¹->∃p:Int×Int,ps.S u.j (0,0)=p/\Wi (IL M) p.1=some (.int<|mk M p.1.j)/\Wi (IL M) p.2=some (.int<|mk M p.2.j)/\∃tt,Wi xs u=some ↑tt/\H tt=some (.tup<|IL [p.1,p.2]):=λu u0 u1=>by obtain⟨p,hp⟩:∃p,ps[u.j]?=some p:={_,Xr J};let(e1,e2,e3,e4):=g4 p (Xm hp);let(v,hv,tt,rfl,VS):=hP.2 u.j p hp;exists p,Wa hp,ZA (n:=p.1.j) J<|WE<|RP J,ZA (n:=p.2.j) J<|WE<|RP J,tt,ZA (n:=u.j) J hv,VS
  let(p,ep,p1,p2,tp,ip,OT):=ends y hy.1 hy.2;let(r,er,r1,r2,tr,ir,Ir):=ends z hz.1 hz.2;let q':∀H':Hp,Same H H'->Q (.bl<|decide<|[min (mk M p.1.j) (mk M p.2.j),max (mk M p.1.j) (mk M p.2.j)]=[min (mk M r.1.j) (mk M r.2.j),max (mk M r.1.j) (mk M r.2.j)]) H':=λH' s=>by
   let e:decide ([min (mk M p.1.j) (mk M p.2.j),max (mk M p.1.j) (mk M p.2.j)]=[min (mk M r.1.j) (mk M r.2.j),max (mk M r.1.j) (mk M r.2.j)])=decide (VQ (Xy n.j<|XS ps I) ps y=VQ (Xy n.j<|XS ps I) ps z):=HS.U (by
    rw[<-key];unfold VQ;rw[ep,er,Prod.mk.injEq]
    simp)
   rw[e];show q H' s
  exists _,Z,_,Z,a,xs,y,.ref tp,Z,Z,s1.seq hA,ip,tp,Z,{_,SqT.of<|s1 _ _ OT},KR (K:=K) (a:=tp) (xs:=IL [p.1,p.2]) (λj zs H4=>H4=H1/\j<=2/\zs=IL ([mk M p.1.j,mk M p.2.j].M j)) {Z,Yj _,Z} (by change 2<sizeLine;decide) (λj zs H4 hj h=>by let(e,RJ,ey):=h;show{e▸SqT.of (s1 _ _ OT),by rw[ey,XG,Yf];lia}) ?_ ?_
  .rintro j v zs H4 hj ⟨rfl,Vf,rfl⟩ S Xx
   match j,hj with
   |0,hj=>
    let rfl:=Ye hj;exists _,Z,_,Z,m,_,p.1,_,Z,Z,SqL.of hm,p1,Xx _ _ ⟨Z,oY,Z⟩
   |1,hj=>
    let rfl:=Ye hj;exists _,Z,_,Z,m,_,p.2,_,Z,Z,SqL.of hm,p2,Xx _ _ ⟨Z,oY,Z⟩
   |k+2,hj=>cases hj
  rintro zs H4 ⟨rfl,_,rfl⟩ l1 SF;let u1:=XZ (o:=.lst<|IL [mk M p.1.j,mk M p.2.j]) SF
  let k1:=XT (H:=H4) (a:=l1) (o:=.lst<|IL [mk M p.1.j,mk M p.2.j]);change Qd _ (upd H4 l1<|.lst<|IL [mk M p.1.j,mk M p.2.j]) _;generalize upd H4 l1 (.lst<|IL [mk M p.1.j,mk M p.2.j])=H7 at *;exists l1,[mk M p.1.j,mk M p.2.j],Z,SqL.of k1,(by change 2<64;decide),λms hp hs l2 Vj=>?_;let rfl:=Kd hp hs;let u2:=u1.m (XZ (o:=.lst<|IL [min (mk M p.1.j) (mk M p.2.j),max (mk M p.1.j) (mk M p.2.j)]) Vj)
  let k2:=XT (H:=H7) (a:=l2) (o:=.lst<|IL [min (mk M p.1.j) (mk M p.2.j),max (mk M p.1.j) (mk M p.2.j)]);let WG:=u2 _ _ hm
  let s2:=s1.m u2;show nm ?_;show Qu ?_;change Lp _ _ _ (upd H7 l2<|.lst<|IL [min (mk M p.1.j) (mk M p.2.j),max (mk M p.1.j) (mk M p.2.j)]);generalize upd H7 l2 (.lst<|IL [min (mk M p.1.j) (mk M p.2.j),max (mk M p.1.j) (mk M p.2.j)])=H5 at *;exists _,Z,_,Z,_,Z,a,xs,z,.ref tr,Z,Z,s2.seq hA,ir,tr,Z,{_,SqT.of<|s2 _ _ Ir},KR (K:=K) (a:=tr) (xs:=IL [r.1,r.2]) (λj zs H6=>H6=H5/\j<=2/\zs=IL ([mk M r.1.j,mk M r.2.j].M j)) {Z,Yj _,Z} (by change 2<sizeLine;decide) (λj zs H6 hj h=>by let(e,RJ,ey):=h;show{e▸SqT.of (s2 _ _ Ir),by rw[ey,XG,Yf];lia}) ?_ ?_
  .rintro j v zs H6 hj ⟨rfl,Vf,rfl⟩ S Xx
   match j,hj with
   |0,hj=>
    let rfl:=Ye hj;exists _,Z,_,Z,m,_,r.1,_,Z,Z,SqL.of WG,r1,Xx _ _ ⟨Z,oY,Z⟩
   |1,hj=>
    let rfl:=Ye hj;exists _,Z,_,Z,m,_,r.2,_,Z,Z,SqL.of WG,r2,Xx _ _ ⟨Z,oY,Z⟩
   |k+2,hj=>cases hj
  rintro zs H6 ⟨rfl,_,rfl⟩ l3 Ik;exists l3,[mk M r.1.j,mk M r.2.j],Z,SqL.of XT,(by change 2<64;decide),λms hp hs l4 hl4=>?_;let rfl:=Kd hp hs;let u4:=(XZ (o:=.lst<|IL [mk M r.1.j,mk M r.2.j]) Ik).m (XZ (o:=.lst<|IL [min (mk M r.1.j) (mk M r.2.j),max (mk M r.1.j) (mk M r.2.j)]) hl4)
  exists 1,_,l2,l4,Z,Z,oY,sQ (SqL.of<|u4 _ _ k2)<|SqL.of XT,q' _<|s2.m u4
inductive spZQ(K:Ad)(vs:List V)(H:Hp)(Q:VK)(_:XK):Prop
 |mk (b c:Addr) (n:Int) (ys:List V) (ps:Aa) (L:Ab) (I O F:Ac) (_:vs=[.ref b,.ref c]) (_:H b=some (.lst ys)) (_:TupsV H ys L) (_:Zz n ps) (_:SqL K H c (IL I)) (_:(∀z∈I,0<=z/\z<ps⁻¹)) (_:(∀T,T∈L↔With n ps I O T)) (_:L[0]?=some F) (_:∀(r:Addr)(H':Hp),Same H H'->H r=none->H' r=some (.lst<|IL<|Xk n ps I O F)->Q ↑r H')
def bS(ks:Ac)(x:Int):putK (ks.R λk=>((Sum.inl k:Key),V.bl true)) (Sum.inl x) (.bl true)=(if x∈ks then ks else ks++[x]).R λk=>((Sum.inl k:Key),V.bl true):=by
 unfold putK;cases h:x∈ks
 .rw[if_pos h,if_pos (by rw[List.any_map];show Dh.U ⟨x,h,B⟩),OJ];show VE λk _=>?_;change(if (Sum.inl k:Key)=Sum.inl x then ((Sum.inl k:Key),V.bl true) else (Sum.inl k,V.bl true))=_
  split<;>rfl
 .rw[if_neg h,if_neg (by rw[List.any_map];simpa using h),YN];rfl
def vY(T:Txt K mg t):WZ P w base Xi T.qZQ 1 (spZQ K):=by
 show T.qZQ.okI ["trees","kept","met","tree","tie"] D λXv A outer s H vs Q E hr h=>?_
 .let⟨b,c,n,ys,ps,L,I,O,F,rfl,hb,hL,hG,hI,XD,hmem,Qj,q⟩:=h;show⟨_,(XO (Ze 2 Za7)
   (XO (Tg Ws Z (ZD K<|pv 0) (Za 3)
   (XI (Tg Ws Z (Ue K<|pv 3) (Za 4)
   (XI<|mL (mG hr) (pv 2) (pv 4) Lr Z))))
   (XI<|Zj<|Tc Z (sc0:=Xd<|top 69) (N0:=["trees","kept","met","tree","tie"]) (N':=["tie","kept","trees"]) (o:=1) (fr:=[1,0]) ⟨Z,D,D,D,Z,D⟩ (ZD K<|Zi (Za3 Z) o3 T.n_sorted Boot.«sorted»<|XY (lK K qg aj PySem.F.type_dict_keys gy<|pv 2) XX) (Zp oY) (λ_ _ _ _=>(Za 0)) (λ_ _ _ _=>(ZR<|PW.pt<|t7 (Zf (ZP K) (pv 0) (pv 1) Z)<|t8<|Zf (ZP K) (pv 0) (ZE (Zd K) (pv 2) Zc λ_ _=>rfl) Z)) λ_ _ _ _=>(pv 0)))),?_⟩
  let hF:=(hmem F).L (Xm Qj);let(vF,bR,tF,rfl,Dx):=hL.2 0 F Qj;let bound:∀ks:Ac,ks.Nodup->(∀z∈ks,0<=z/\z<ps⁻¹)->ks.f<=30:=λks nd h=>by
   have:=rG nd (m:=VB ps.f) λz hz=>Xq.U (h z hz)
   rw[show(VB ps.f).f=ps.f by unfold VB;simp]at this
   have:=hG.2.2.1
   lia
  intro d hd;let u1:=XZ (o:=.dK []) hd
  let kd:=XT (H:=H) (a:=d) (o:=.dK []);change Uh _ _ _ _ (upd H d<|.dK []);generalize upd H d (.dK [])=H1 at *;show nm ?_;dsimp only[List.set];exists _,Z,b,Z,{_,SqL.of<|u1 _ _ hb},Ew (K:=K) (a:=b) (xs:=ys) (λi σ H2=>∃(v3 v4:Option V)(ks:Ac),σ=[some ↑b,some<|.ref c,some<|.ref d,v3,v4]/\Same H H2/\H2 d=some (.dK<|ks.R λk=>(Sum.inl k,.bl true))/\ks.Nodup/\∀z,z∈ks↔∃T∈L.M i,z∈T) {none,none,[],Z,u1,kd,.nil,λz=>B} (λi σ H2 _ h=>by let(_,_,_,_,s2,_):=h;show SqL.of<|s2 _ _ hb) ?_ ?_
  .rintro i v σ H2 hi ⟨v3,v4,ks,rfl,s2,hd2,nd,RM⟩;let(T',rK,tt,rfl,VS):=hL.at hi;let wT:=(hmem T').L (Xm rK)
   show nm ?_;dsimp only[List.set];exists _,Z,tt,Z,{_,SqT.of<|s2 _ _ VS},nW (K:=K) (a:=tt) (xs:=IL T') (λj σ H3=>∃(v4:Option V)(ks:Ac),σ=[some ↑b,some<|.ref c,some<|.ref d,some<|.ref tt,v4]/\Same H H3/\H3 d=some (.dK<|ks.R λk=>(Sum.inl k,.bl true))/\ks.Nodup/\∀z,z∈ks↔(∃T∈L.M i,z∈T)\/z∈T'.M j) {_,ks,Z,s2,hd2,nd,λz=>by rw[RM];simp} (λj σ H3 _ h=>by let(_,_,_,s3,_):=h;show SqT.of<|s3 _ _ VS) ?_ ?_
   .rintro j v σ H3 hj ⟨v4,ks,rfl,s3,SE,nd,RM⟩;let(x,rfl,hx):=ZT hj;let kl:ks.f<=30:=bound ks nd λz hz=>by
     rcases(RM z).L hz with ⟨U,hU,h⟩|h
     .show((hmem U).L (VF hU)).1.1.all z h
     .show wT.1.1.all z (VF h)
    show nm ?_;dsimp only[List.set];exists _,Z,_,Z,d,_,Z,DPut.k (k:=Sum.inl x) SE (Zh<|by rw[Yc];lia),?_;rw[bS];exists _,_,Z,ZL hd s3,XT,?_,λz=>?_
    .split
     .show nd
     .show Wt.U {nd,B,λa ha b hb e=>by rename_i h;show h<|by rwa[<-XB.L hb,<-e]}
    .rw[YY,hx];change _↔_\/z∈T'.M j++[x]
     rw[Xz,XB,<-or_assoc,<-RM z];split
     .rename_i h;exists .inl,λh'=>h'.elim id λe=>e▸h
     .rw[Xz,XB]
   rintro σ H3 ⟨v4,ks,rfl,s3,SE,nd,RM⟩;exists _,v4,ks,Z,s3,SE,nd,λz=>?_;rw[RM z,XG,Yz,YY,rK];simp
  rintro σ H2 ⟨v3,v4,ks,rfl,s2,hd2,nd,RM⟩;rw[hL.1,Yz]at RM;let kl:ks.f<=30:=bound ks nd λz hz=>by let(U,hU,h):=(RM z).L hz;show((hmem U).L hU).1.1.all z h
  exists _,Z,.inr<|.inr<|.inl {Z,.inl {_,hd2}},d,_,Z,Z,hd2,λvk hvk=>?_;let u5:=XZ (o:=Rg vk d) hvk
  show{vk,d,_,ks,Z,XT,u5 _ _ hd2,by rw[OJ];rfl,J,λms hp hs la Nc=>?_};let u6:=XZ (o:=.lst<|IL ms) Nc
  let HZ:=s2.m (u5.m u6);let l6:=XT (H:=upd H2 vk<|Rg vk d) (a:=la) (o:=.lst<|IL ms)
  generalize upd (upd H2 vk<|Rg vk d) la (.lst<|IL ms)=H6 at *;let asc:ms.E (·<·):=(ag.U {hs,hp.nodup_iff.U nd}).imp λ{x y} h=>by have:=h.1;have:=h.2;lia
  let hlen:=hp.length_eq;let done:(ms.Q λz=>decide<|z∉I/\z∉F)=Xk n ps I O F:=by
   let a1:(ms.Q λz=>decide<|z∉I/\z∉F).E (·<·):=asc.Q _;let a2:(Xk n ps I O F).E (·<·):=(IU ps.f).Q _
   show Rq ((Ul (NX a1)<|NX a2).U λz=>?_) (a1.imp λh=>Lz h) (a2.imp λh=>Lz h);rw[Ya,hp.mem_iff,RM,YL];constructor
   .rintro⟨⟨U,hU,zU⟩,zI,zF⟩;show rj hG XD ((hmem U).L hU) hF.2.1 zU zF
   .intro h;let(U,hU):=DK hG XD hF h;let(_,zI,zO,zF,_):=(ZS hG XD).L h;exists {U,(hmem U).U {hU.1,λv hv=>hU.2.1 v<|Yg _ hv,hU.2.2},hU.2.1 z B},zI,zF
  exists la,Z,{_,SqL.of l6},VY (K:=K) (a:=la) (xs:=IL ms) (λi ws H7=>H7=H6/\i<=ms.f/\ws=IL ((ms.M i).Q λz=>decide<|z∉I/\z∉F)) {Z,Yj _,Z} (Zh<|by rw[XG];lia) (λi ws H7 hi h=>by let(e,VH,ew):=h;show{e▸SqL.of l6,by rw[ew,XG];show Yl (Yo ..)<|by rw[Yf];lia}) ?_ ?_
  .rintro i v ws H7 hi ⟨rfl,Vp,rfl⟩ S Xx;let(y,rfl,hy):=ZT hi;let XC:=(XF.L hy).1
   exists _,Z,_,Z,c,_,Z,.inl<|HZ.seq hI,Z,ZC _,_,Z,?_;rw[ZN];show WU (λhc=>?_) (λhc=>?_)
   .show Xx _ _ {Z,XC,?_};rw[Zm hy,if_neg (by simp[hc]),Ys]
   exists _,Z,_,Z,b,ys,0,.ref tF,Z,Z,SqL.of<|HZ _ _ hb,ZA (n:=0) Z bR,tF,_,Z,.inr<|SqT.of<|HZ _ _ Dx,Z,ZC _,_,Z,?_;rw[ZN];show WU (λMq=>?_) (λMq=>?_)
   .show Xx _ _ {Z,XC,?_};rw[Zm hy,if_neg (by simp[Mq]),Ys]
   .exists _,Z,Xx _ _ {Z,XC,?_};rw[Zm hy,if_pos<|Yq ⟨hc,Mq⟩,ZO]
  rintro ws H7 ⟨rfl,_,rfl⟩ r Qy;rw[XG,Yz,done];show q r _ (HZ.m<|XZ Qy) (HZ.free Qy) XT
inductive spZR(K:Ad)(d:Nat)(vs:List V)(H:Hp)(Q:VK)(_:XK):Prop
 |mk (a b c:Addr) (n:Int) (xs ys:List V) (ps:Aa) (L:Ab) (I O F:Ac) (z:Int) (R:Ab) (_:vs=[.int n,.ref a,.ref b,.ref c,.int z]) (_:H a=some (.lst xs)) (_:PairsV H xs ps) (_:Zz n ps) (_:H b=some (.lst ys)) (_:TupsV H ys L) (_:L.E UY) (_:(∀T,T∈L↔With n ps I O T)) (_:L.f<=1024) (_:H c=some (.lst<|IL I)) (_:(∀v∈I,0<=v/\v<ps⁻¹)) (_:I.f<=30) (_:L[0]?=some F) (_:z∈Xk n ps I O F) (_:R.f<=1024) (_:RowR n ps d I O (some z) R) (_:∀(r:Addr)(zs:List V)(H':Hp),Same H H'->H' r=some (.lst zs)->TupsV H' zs R->Q ↑r H')
def QV:FnScope ["count","ties","trees","kept","lead","base","free","others","shut","with_it","first","second","loose","told","twins","k","tie","row"] ["count","ties","trees","kept","lead"] (Xd (top 70)):=RH D
def bQ(T:Txt K mg t)(d:Nat):WZ P w base Xi T.qZR (3+d) (spZR K d):=by
 let key:∀d k sp,WZ P w base Xi T.qZR k sp->k<=2+d->(∀e,d=e+1->sp=spZR K e)->WZ P w base Xi T.qZR (3+d) (spZR K d):=by
  intro d k sp ih hk RT;rw[show 3+d=2+d+1 by lia];show T.qZR.ok ["count","ties","trees","kept","lead","base","free","others","shut","with_it","first","second","loose","told","twins","k","tie","row"] D (λvs H Q E h=>?_) (λXv A outer s H vs Q E hr h=>?_)
  .let⟨a,b,c,n,xs,ys,ps,L,I,O,F,z,R,rfl,_⟩:=h;rfl
  .let⟨a,b,c,n,xs,ys,ps,L,I,O,F,z,R,rfl,ha,hP,hG,hb,hL,Vz,hmem,FO,hc,XD,hIl,Qj,hz,RG,hR,q⟩:=h;show⟨_,(XO (Th (i:=5) QV.nd Z (Or.inr Z)<|ZE (Zd K) (pv 2) Zc λ_ _=>rfl)
   (XO (Ze 6<|Wj (vY T) (hr.mono oW) Z T.qZQ.mm T.qZQ.fn.kp T.qZQ.bi .nil Zt<|XY (pv 2)<|XY (pv 3) XX)
   (XO (Sk (i:=7) rfl QV.nd rfl rfl (sc0:=Xd<|top 70) (N0:=["count","ties","trees","kept","lead","base","free","others","shut","with_it","first","second","loose","told","twins","k","tie","row"]) (N':=["tie","count","ties","kept","lead"]) (o:=1) (fr:=[0,1,3,4]) ⟨rfl,D,D,D,rfl,D⟩ (ZD K<|pv 6) (Zp oY) (λ_ _ _ _=>(Za 0)) (λ_ _ _ _=>(ZR<|Lq<|Jr<|Wj (bT T) (hr.mono oW) rfl T.qZP.mm T.qZP.fn.kp T.qZP.bi .nil Zt<|XY (pv 1)<|XY (pv 2)<|XY (pv 3)<|XY (pv 4)<|XY (pv 0) XX)) λ_ _ _ _=>(pv 0))
   (XO (Wl (Zf TH (Zi (Zn K) o3 T.n_len Boot.«len»<|XY (pv 7) XX) Zc<|Zs _)
   (XO (Sk (i:=8) rfl QV.nd rfl rfl (sc0:=Xd<|top 70) (N0:=["count","ties","trees","kept","lead","base","free","others","shut","with_it","first","second","loose","told","twins","k","tie","row"]) (N':=["tree","lead"]) (o:=1) (fr:=[4]) ⟨rfl,D,D,D,rfl,D⟩ (ZD K<|pv 2) (Zp oY) (λ_ _ _ _=>(Za 0)) (λ_ _ _ _=>(ZR<|Zf (ZP K) (pv 1) (pv 0) rfl)) λ_ _ _ _=>(pv 0))
   (XO (Sk (i:=9) rfl QV.nd rfl rfl (sc0:=Xd<|top 70) (N0:=["count","ties","trees","kept","lead","base","free","others","shut","with_it","first","second","loose","told","twins","k","tie","row"]) (N':=["tree","lead"]) (o:=1) (fr:=[4]) ⟨rfl,D,D,D,rfl,D⟩ (ZD K<|pv 2) (Zp oY) (λ_ _ _ _=>(Za 0)) (λ_ _ _ _=>(ZR<|Zf (tq K) (pv 1) (pv 0) rfl)) λ_ _ _ _=>(pv 0))
   (XO (Ze 10<|Wj ih (hr.mono oW) Z T.qZR.mm T.qZR.fn.kp T.qZR.bi .nil Zt<|XY (pv 0)<|XY (pv 1)<|XY (pv 8)<|XY (pv 3)<|XY (ZE (Zd K) (pv 7) Zc λ_ _=>rfl) XX)
   (XO (Ze 11<|Wj ih (hr.mono oW) Z T.qZR.mm T.qZR.fn.kp T.qZR.bi .nil Zt<|XY (pv 0)<|XY (pv 1)<|XY (pv 9)<|XY (Zy Lb (pv 3)<|UR<|XY (pv 4) XX)<|XY (ZE (Zd K) (pv 7) Zc λ_ _=>rfl) XX)
   (XI<|Zj<|Zy Lb (pv 10)<|lh K Z Z T.n_list Z T.n_reversed<|XY (pv 11) XX)))))
   Zq)
   (XO (Sk (i:=12) rfl QV.nd rfl rfl (sc0:=Xd<|top 70) (N0:=["count","ties","trees","kept","lead","base","free","others","shut","with_it","first","second","loose","told","twins","k","tie","row"]) (N':=["tie","kept","base","lead","trees"]) (o:=1) (fr:=[3,5,4,2]) ⟨rfl,D,D,D,rfl,D⟩ (Ue K<|pv 5) (Zp oY) (λ_ _ _ _=>(Za 0)) (λ_ _ _ _=>(ZR<|PW.pt<|t7 (Zf (ZP K) (pv 0) (pv 1) rfl)<|t8<|Zf (kO K<|KS hr) (Wj (wa T) (hr.mono oW) rfl T.qZN.mm T.qZN.fn.kp T.qZN.bi .nil Zt<|XY (pv 2)<|XY (pv 0)<|XY (pv 3) XX) (pv 4) rfl)) λ_ _ _ _=>(pv 0))
   (XO (Ze 13<|UR<|XY (pv 5) XX)
   (XO (Ze 14<|Zy Lb (Tc rfl (sc0:=Xd<|top 70) (N0:=["count","ties","trees","kept","lead","base","free","others","shut","with_it","first","second","loose","told","twins","k","tie","row"]) (N':=["tie","lead"]) (o:=1) (fr:=[4]) ⟨rfl,D,D,D,rfl,D⟩ (ZD K<|pv 6) (Zp oY) (λ_ _ _ _=>(Za 0)) (λ_ _ _ _=>(ZR<|Zf Rw (pv 0) (pv 1)<|Zs _)) λ_ _ _ _=>(pv 0))<|UR<|XY (pv 4) XX)
   (XO (Tg Ws Z (Mg K Z T.n_enumerate<|XY (pv 14) XX) (QI (n:=2) K Z<|Zr (Za 15)<|Zr (ZK9 (i:=16) QV.nd Z<|Or.inr Z) QM)
   (XO (Sk (i:=17) rfl QV.nd rfl rfl (sc0:=Xd<|top 70) (N0:=["count","ties","trees","kept","lead","base","free","others","shut","with_it","first","second","loose","told","twins","k","tie","row"]) (N':=["out","base","tie"]) (o:=1) (fr:=[5,16]) ⟨rfl,D,D,D,rfl,D⟩ (ZD K<|pv 12) (Zp oY) (λ_ _ _ _=>(Za 0)) (λ_ _ _ _=>QL) λ_ _ _ _=>(Wj (wa T) (hr.mono oW) rfl T.qZN.mm T.qZN.fn.kp T.qZN.bi .nil Zt<|XY (pv 1)<|XY (pv 0)<|XY (pv 2) XX))
   (XO (Wl (Zf RV (Zy TJ (Zy VC (Zi (Zn K) o3 T.n_len Boot.«len»<|XY (pv 14) XX)<|pv 15) Zc) Zc<|Zs _)
   (XI<|QN<|lK K US PySem.F.slot_list_reverse PySem.F.type_list_reverse Zh7<|pv 17)
   Zq)
   (XI<|QN<|Pc K US qk ql m6 (pv 13)<|XY (pv 17) XX))))
   (XI<|Zj<|pv 13))))))))),?_⟩
   let hF:=(hmem F).L (Xm Qj);let(vF,bR,tF,rfl,Dx):=hL.2 0 F Qj;let zf:=(ZS hG XD).L hz
   exists _,Z,b,ys,0,.ref tF,Z,Z,SqL.of hb,ZA (n:=0) Z bR,?_;show nm ?_;dsimp only[List.set];exists _,Z,_,Z,b,c,n,ys,ps,L,I,O,F,Z,hb,hL,hG,SqL.of hc,XD,hmem,Qj,λfA H1 s1 hf0 Na=>?_;show nm ?_;dsimp only[List.set];let opl:(Xk n ps I O F).f<=30:=by
    have:=rp (Xy n.j<|XS ps I) ps (I++O++F) ps.f
    have:=hG.2.2.1
    show Yl ‹(LS _ ps _ ps.f).f<=ps.f› this
   let opb:∀t∈Xk n ps I O F,0<=t/\t<ps⁻¹:=λt ht=>((ZS hG XD).L ht).1;exists _,Z,fA,Z,{_,SqL.of Na},VY (K:=K) (a:=fA) (xs:=IL<|Xk n ps I O F) (λi ws H2=>Same H1 H2/\i<=(Xk n ps I O F).f/\ws=IL (((Xk n ps I O F).M i).Q λt=>!decide (VQ (Xy n.j<|XS ps I) ps z=VQ (Xy n.j<|XS ps I) ps t))) ⟨Same.refl _,Yj _,Z⟩ (Zh<|by rw[XG];lia) (λi ws H2 hi h=>by let(e,VH,ew):=h;show{SqL.of<|e _ _ Na,by rw[ew,XG];show Yl (Yo ..)<|by rw[Yf];lia}) ?_ ?_
   .rintro i v ws H2 hi ⟨s2,Vp,rfl⟩ S Xx;let(y,rfl,hy):=ZT hi;let XC:=(XF.L hy).1
    let WB:=s1.m s2;exists _,Z,_,Z,_,Z,_,Z,_,Z,n,a,c,xs,ps,I,z,y,Z,SqL.of<|WB _ _ ha,hP.same WB,hG,SqL.of<|WB _ _ hc,XD,zf.1,opb y<|Xm hy,λH3 s3=>{_,Z,?_};show WU (λWS=>?_) (λWS=>?_)
    .show Xx _ _ {s2.m s3,XC,?_};rw[Zm hy,if_neg (by simp[WS]),Ys]
    .exists _,Z,Xx _ _ {s2.m s3,XC,?_};rw[Zm hy,if_pos (by simp[WS]),ZO]
   rintro ws H2 ⟨s2,_,rfl⟩ oA DA;rw[XG,Yz,eM];let u3:=XZ (o:=.lst<|IL<|Wc n ps I O F<|some z) DA
   let k3:=XT (H:=H2) (a:=oA) (o:=.lst<|IL<|Wc n ps I O F<|some z);let LN:=s1.m (s2.m u3)
   let qP:=u3 _ _ (s2 _ _ Na);generalize upd H2 oA (.lst<|IL<|Wc n ps I O F<|some z)=H3 at *;show nm ?_;dsimp only[List.set];exists _,Z,oA,_,Z,.inl<|SqL.of k3,_,_,Z,Z,_,Z,?_;let least:=eO Vz Qj
   let qA:=LN _ _ hb;let DQ:=hL.same LN
   let PU:=hL.1;clear s1 s2 u3 DA Na;cases hR with
   |div VJ hIn vX UH QX MT JO y0 y1 qE DE DD=>
    rename_i e F' inc y A' CL;let rfl:F'=F:=Xu (least F'<|(hmem F').U VJ.tr) (VJ.least F hF);let(yu,ym):=VJ.some y rfl;let first:(Wc n ps I O F'<|some z)[0]?=some y:=Zf4 (QY.Q _) yu ym
    let wB:=RT e rfl;subst wB;show Xc (λ_=>?_) λh=>absurd (by rw[XG];have:=(XF.L first).1;lia) h;exists _,rfl,b,rfl,{_,SqL.of qA},VY (K:=K) (a:=b) (xs:=ys) (λi ws H4=>H4=H3/\TupsV H3 ws ((L.M i).Q λT=>decide<|z∉T)) ⟨rfl,TupsV.nil⟩ (Zh J) (λi ws H4 hi h=>by let(e,ew):=h;show{e▸SqL.of qA,by rw[ew.1];show Yl (Yo ..)<|by rw[Yf];lia}) ?_ ?_
    .rintro i v ws H4 hi ⟨rfl,MN⟩ S Xx;let(U,hU,tt,rfl,VS):=DQ.at hi;exists _,Z,_,Z,tt,_,Z,.inr<|SqT.of VS,Z,ZC _,_,Z,?_;rw[ZN];show WU (λWS=>?_) (λWS=>?_)
     .show Xx _ _ {Z,?_};rwa[sF hU,if_neg (by simp[WS]),Ys]
     .exists _,Z,Xx _ _ {Z,?_};rw[sF hU,if_pos (by simp[WS])];show MN.snoc ⟨tt,Z,VS⟩
    rintro qz H4 ⟨rfl,vW⟩ bP bO;rw[PU,Yz]at vW;let u5:=XZ (o:=.lst qz) bO
    let ksh:=XT (H:=H4) (a:=bP) (o:=.lst qz);let hw5:=vW.same u5
    let xo:=u5 _ _ qA;let rJ:=DQ.same u5
    let FF:=LN.m u5;let k5:=u5 _ _ k3
    generalize upd H4 bP (.lst qz)=H5 at *;show nm ?_;dsimp only[List.set];exists _,Z,b,Z,{_,SqL.of xo},VY (K:=K) (a:=b) (xs:=ys) (λi ws H6=>H6=H5/\TupsV H5 ws ((L.M i).Q λT=>decide<|z∈T)) ⟨Z,TupsV.nil⟩ (Zh J) (λi ws H6 hi h=>by let(e,ew):=h;show{e▸SqL.of xo,by rw[ew.1];show Yl (Yo ..)<|by rw[Yf];lia}) ?_ ?_
    .rintro i v ws H6 hi ⟨rfl,MN⟩ S Xx;let(U,hU,tt,rfl,VS):=rJ.at hi;exists _,Z,_,Z,tt,_,Z,.inr<|SqT.of VS,Z,ZC _,_,Z,?_;rw[ZN];show Xc (λWS=>?_) (λWS=>?_)
     .exists _,Z,Xx _ _ {Z,?_};rw[sF hU,if_pos (Yq WS)];show MN.snoc ⟨tt,Z,VS⟩
     .show Xx _ _ {Z,?_};rwa[sF hU,if_neg (by simp[WS]),Ys]
    rintro qy H6 ⟨rfl,vV⟩ bM bL;rw[PU,Yz]at vV;let u7:=XZ (o:=.lst qy) bL
    let kwi:=XT (H:=H6) (a:=bM) (o:=.lst qy);let hw7:=vV.same u7
    let qx:=FF.m u7;let k7:=u7 _ _ k5
    let bK:=u7 _ _ ksh;let bJ:=hw5.same u7
    generalize upd H6 bM (.lst qy)=H7 at *;show nm ?_;dsimp only[List.set];let iy:Wi (IL<|Wc n ps I O F'<|some z) 0=some (.int y):=ZA (n:=0) rfl (WE first)
    let VU:∀U,With n ps I O U->HT.lexLt U F'=false:=λU hU=>least U ((hmem U).U hU);rw[Xt,YK]at RG;exists _,Z,_,Z,_,Z,_,Z,_,Z,oA,_,0,.int y,Z,Z,SqL.of k7,iy,?_;exists a,bP,c,n,xs,qz,ps,_,I,O++[z],F',y,A',Z,qx _ _ ha,hP.same qx,hG,bK,bJ,Vz.Q _,eJ hmem,Yl (Yo ..) FO,qx _ _ hc,XD,hIl,ZT7 Qj<|Yq zf.2.2.2.1,(eW (F2:=F') hG XD hF VU hz yu).1,J,DE,λr1 zs1 H8 s8 hr8 hZ1=>?_;show nm ?_;dsimp only[List.set];let bI:=qx.m s8
    exists _,Z,_,Z,_,Z,_,Z,_,Z,(by change 1<=sizeLine;decide),λp9 vU=>?_;let u9:=XZ (o:=.lst<|IL [z]) vU
    show sP (l1:=I) (l2:=[z]) (u9 _ _<|bI _ _ hc) XT (by change _+1<=_;lia) λpk hpk=>?_;let MM:=u9.m (XZ (o:=.lst<|IL<|I++[z]) hpk)
    let Pw:=bI.m MM;let Fj:=s8.m MM
    exists _,Z,oA,_,0,.int y,Z,Z,SqL.of<|Fj _ _ k7,iy,?_;obtain⟨F2,bH⟩:∃F2,(L.Q λT=>decide<|z∈T)[0]?=some F2:=by let(U,hU):=MT;exists _,Xr<|EO<|(qW hmem U).U hU
    let vT:(L.Q λT=>decide<|z∈T).E UY:=Vz.Q _;let wF2:=(qW hmem F2).L (Xm bH)
    let mF2:∀U,With n ps (I++[z]) O U->HT.lexLt U F2=false:=λU hU=>eO vT bH U ((qW hmem U).U hU);let Iz:(I++[z]).f<=30:=by
     have:=rG hIn (m:=VB ps.f) λv hv=>Xq.U (vX v hv)
     rw[ZU]at this
     have:=hG.2.2.1
     lia
    exists a,bM,pk,n,xs,qy,ps,_,I++[z],O,F2,y,CL,Z,Pw _ _ ha,hP.same Pw,hG,Fj _ _ kwi,hw7.same Fj,vT,qW hmem,Yl (Yo ..) FO,XT,vX,Iz,bH,(eW hG XD hF VU hz yu).2 wF2 mF2,J,DD,λr2 qw Tq Ql bG hZ2=>?_;show nm ?_;dsimp only[List.set];let Fi:=MM.m Ql
    exists _,Z,_,Z,r2,qw,Z,SqL.of bG,λl12 bF=>?_;let Dw:=XZ (o:=.lst qw.reverse) bF
    let z1:=hZ1.1;let z2:=hZ2.1
    exists r1,l12,zs1,qw.reverse,Z,Z,Dw _ _<|Fi _ _ hr8,XT,Pd (by rw[YK];lia),λr Qy=>?_;let bE:=Dw.m (XZ (o:=.lst<|zs1++qw.reverse) Qy)
    show q r _ _ (bI.m<|Fi.m bE) XT ?_;show((hZ1.same<|Fi.m bE)).app ((hZ2.same bE).rev)
   |und VJ Vp qF=>
    rename_i F' inc;let rfl:F'=F:=Xu (least F'<|(hmem F').U VJ.tr) (VJ.least F hF);let bD:=VJ.none.L rfl
    let one:1<=sizeLine:=oY;show Xc (λh=>absurd h<|by rw[bD];change ¬(0:Int)>0;decide) λ_=>?_;show Qu ?_;let lF:F'.f<=13:=by have:=hF.1.2.1;have:=hG.2.1;lia
    let vS:=LN _ _ hc;let Fh:=LN _ _ Dx
    exists _,Z,tF,Z,{_,SqT.of Fh},KR (K:=K) (a:=tF) (xs:=IL F') (λi ws H4=>Same H3 H4/\i<=F'.f/\ws=IL ((F'.M i).Q λt=>decide<|t∉I/\xchT F' t z∈L)) {Same.refl _,Yj _,Z} (Zh<|by rw[XG];lia) (λi ws H4 hi h=>by let(e,VH,ew):=h;show{SqT.of<|e _ _ Fh,by rw[ew,XG];show Yl (Yo ..)<|by rw[Yf];lia}) ?_ ?_
    .rintro i v ws H4 hi ⟨s4,XC,rfl⟩ S Xx;let(y,rfl,hy):=ZT hi;let Pr:=(XF.L hy).1
     exists _,Z,_,Z,c,_,Z,.inl<|SqL.of<|s4 _ _ vS,Z,ZC _,_,Z,?_;rw[ZN];show WU (λWS=>?_) (λWS=>?_)
     .show Xx _ _ {s4,Pr,?_};rw[Zm hy,if_neg (by simp[WS]),Ys]
     exists _,Z,_,Z,_,Z,tF,F',y,z,Z,SqT.of<|s4 _ _ Fh,J,λms UO PX r5 H5 s5 Fs=>?_;let rfl:ms=xchT F' y z:=Rq (UO.m (UM F' y z).symm) PX (LR F' y z);let qv:=s4.m s5
     exists _,Z,jU (z:=xchT F' y z) ⟨r5,Z,Fs⟩ (SqL.of<|qv _ _ qA) (DQ.same qv) {_,Z,?_};show Xc (λhd=>?_) (λhd=>?_)
     .exists _,Z,Xx _ _ {qv,Pr,?_};rw[Zm hy,if_pos<|Yq ⟨WS,hd⟩,ZO]
     .show Xx _ _ {qv,Pr,?_};rw[Zm hy,if_neg (by simp[hd]),Ys]
    rintro ws H4 ⟨s4,_,rfl⟩ lo Mm;rw[XG,Yz,eK hG XD hF hz hmem];let u5:=s4.m (XZ (o:=.lst<|IL<|WR n ps I F' z) Mm)
    let klo:=XT (H:=H4) (a:=lo) (o:=.lst<|IL<|WR n ps I F' z);let lvl:(WR n ps I F' z).f<=13:=Yl (Yo ..) (Yl (GP ..) lF)
    generalize upd H4 lo (.lst<|IL<|WR n ps I F' z)=H5 at *;show nm ?_;dsimp only[List.set];exists _,Z,one,λtA Px=>?_;let u6:=XZ (o:=.lst [.ref tF]) Px
    let ktA:=XT (H:=H5) (a:=tA) (o:=.lst [.ref tF]);let HZ:=LN.m (u5.m u6)
    let FI:H tA=none:=(LN.m u5).free Px;let n2:lo≠tA:=WC klo Px
    let bC:=u6 _ _ klo;let hf6:=u6 _ _ (u5 _ _ qP)
    let htF6:=HZ _ _ Dx;generalize upd H5 tA (.lst [.ref tF])=H6 at *;show nm ?_;dsimp only[List.set];exists _,Z,fA,Z,{_,SqL.of hf6},VY (K:=K) (a:=fA) (xs:=IL<|Xk n ps I O F') (λi ws H7=>H7=H6/\i<=(Xk n ps I O F').f/\ws=IL (((Xk n ps I O F').M i).Q λt=>decide<|t≠z)) {Z,Yj _,Z} (Zh<|by rw[XG];lia) (λi ws H7 hi h=>by let(e,VH,ew):=h;show{e▸SqL.of hf6,by rw[ew,XG];show Yl (Yo ..)<|by rw[Yf];lia}) ?_ ?_
    .rintro i v ws H7 hi ⟨rfl,hil2,rfl⟩ S Xx;let(y,rfl,hy):=ZT hi;let Pr:=(XF.L hy).1
     exists _,Z,_,Z,Z,_,Z,?_;rw[Zw];show WU (λWS=>?_) (λWS=>?_)
     .show Xx _ _ {Z,Pr,?_};rw[Zm hy,if_neg (by simpa using WS),Ys]
     .exists _,Z,Xx _ _ {Z,Pr,?_};rw[Zm hy,if_pos<|Yq WS,ZO]
    rintro ws H7 ⟨rfl,_,rfl⟩ p8 qG;rw[XG,Yz];let vR:inc=((Xk n ps I O F').Q λt=>decide<|t≠z)++[z]:=eN (by rw[<-xM bD];show VJ.inc) QY hz
    let fl:((Xk n ps I O F').Q λt=>decide<|t≠z).f<=30:=Yl (Yo ..) opl;exists _,Z,one,λp9 vU=>?_;show sP (l2:=[z]) (by rw[Zb (WC XT vU)];show XT) XT (by change _+1<=_;lia) λtw htw=>?_;let MM:=Zv (Zv (XZ (o:=.lst<|IL<|(Xk n ps I O F').Q λt=>decide<|t≠z) qG) (o:=.lst [.int z]) vU) (o:=.lst<|IL<|((Xk n ps I O F').Q λt=>decide<|t≠z)++[z]) htw
    let n1:tA≠tw:=WC (Zv (XZ (o:=.lst<|IL<|(Xk n ps I O F').Q λt=>decide<|t≠z) qG) (o:=.lst [.int z]) vU _ _ ktA) htw;rw[<-vR]at MM ⊢;let ktw:=XT (H:=upd (upd H7 p8<|.lst<|IL<|(Xk n ps I O F').Q λt=>decide<|t≠z) p9<|.lst [.int z]) (a:=tw) (o:=.lst<|IL inc)
    let Pw:=HZ.m MM;generalize upd (upd (upd H7 p8<|.lst<|IL<|(Xk n ps I O F').Q λt=>decide<|t≠z) p9<|.lst [.int z]) tw (.lst<|IL inc)=HX at *;show nm ?_;dsimp only[List.set];exists _,Z,tw,Z,{_,SqL.of ktw},Em (K:=K) (a:=tw) (xs:=IL inc) (λi σ HA=>∃(zs:List V)(bB bA bx:Option V),σ=[some (.int n),some<|.ref a,some<|.ref b,some<|.ref c,some<|.int z,some<|.ref tF,some<|.ref fA,some<|.ref oA,none,none,none,none,some<|.ref lo,some<|.ref tA,some<|.ref tw,bB,bA,bx]/\Same H HA/\HA tw=some (.lst<|IL inc)/\HA lo=some (.lst<|IL<|WR n ps I F' z)/\HA tA=some (.lst zs)/\TupsV HA zs (F'::UX n ps I F' (inc.M i) (inc.f%2 == 1))/\zs.f<=1+13*i) {[.ref tF],none,none,none,Z,Pw,ktw,MM _ _ bC,MM _ _ ktA,TupsV.one {tF,Z,Pw _ _ Dx},XJ _} (λi σ HA _ h=>by let(_,_,_,_,_,_,e,_):=h;show SqL.of e) ?_ ?_;rotate_left
    .rintro σ HA ⟨zs,bB,bA,bx,rfl,sA,vQ,vP,Fg,DM,zl⟩;rw[XG,Yz]at DM;exists _,Z,q tA zs HA sA Fg DM
    rintro i v σ HA pt UL hi ⟨zs,bB,bA,bx,rfl,sA,vQ,vP,Fg,DM,zl⟩;let(y,rfl,hy):=ZT hi;let bw:=(XF.L hy).1
    let yop:y∈Xk n ps I O F':=by
     have:=Xm hy
     rw[vR]at this;rcases Xz.L this with e|e
     .show(Ya.L e).1
     .rw[XB.L e];show hz
    let lvy:WR n ps I F' y=WR n ps I F' z:=by
     have:y∈TV n ps I O F' (some z):=by rwa[xM bD]
     let(_,h):=Ya.L this;let(x,e,h):=Yu h;show ZA9 hG XD hF (opb y yop) zf.1 (by rwa[Ye e])
    let uB:=XZ (o:=.tup [.int i,.int y]) UL;exists pt,_,Z,SqT.of XT,Z,_,_,Z,_,_,Z,Z,?_;let sB:=sA.m uB
    let vN:=uB _ _ vQ;let Ff:=uB _ _ vP
    let bu:=uB _ _ Fg;let br:=DM.same uB
    generalize upd HA pt (.tup [.int i,.int y])=HB at *;exists _,Z,lo,Z,{_,SqL.of Ff},VY (K:=K) (a:=lo) (xs:=IL<|WR n ps I F' z) (λj ws HC=>Same HB HC/\j<=(WR n ps I F' z).f/\TupsV HC ws (((WR n ps I F' z).M j).R λo=>xchT F' o y)) {Same.refl _,Yj _,TupsV.nil} (Zh<|by rw[XG];lia) (λj ws HC hj h=>by let(e,RJ,ew):=h;show{SqL.of<|e _ _ Ff,by rw[ew.1,Yc,Yf];lia}) ?_ ?_
    .rintro j v ws HC hj ⟨sC,Vf,MN⟩ S Xx;let(o,rfl,ho):=ZT hj;let QJ:=(XF.L ho).1
     let sBC:=sB.m sC;exists _,Z,_,Z,_,Z,tF,F',o,y,Z,SqT.of<|sBC _ _ Dx,J,λms UO PX r5 HD sD Fs=>?_;let rfl:ms=xchT F' o y:=Rq (UO.m (UM F' o y).symm) PX (LR F' o y);show Xx _ _ {sC.m sD,QJ,?_};rw[YY,ho,YN];show(MN.same sD).snoc ⟨r5,Z,Fs⟩
    rintro ws HC ⟨sC,_,MN⟩ rA OV;rw[XG,Yz]at MN;let uD:=XZ (o:=.lst ws) OV
    let qu:=XT (H:=HC) (a:=rA) (o:=.lst ws);let vM:=MN.same uD
    let bq:HB rA=none:=sC.free OV;let bp:=sC.m uD
    let wl:=MN.1;rw[Yc]at wl;generalize upd HC rA (.lst ws)=HD at *;show nm ?_;dsimp only[List.set];let par:((inc.f%2 == 1) != (i%2 == 1))=decide ((inc⁻¹-i)%2=1):=by rcases qm inc.f with h1|h1<;>rcases qm i with h2|h2<;>rw[h1,h2]<;>simp<;>lia
    show Kj (λσ HE=>σ=[some (.int n),some<|.ref a,some<|.ref b,some<|.ref c,some<|.int z,some<|.ref tF,some<|.ref fA,some<|.ref oA,none,none,none,none,some<|.ref lo,some<|.ref tA,some<|.ref tw,some<|.int i,some<|.int y,some ↑rA]/\∃Dv,HE rA=some (.lst Dv)/\TupsV HE Dv (Vl n ps I F' ((inc.f%2 == 1) != (i%2 == 1)) y)/\Same HB HE/\Dv.f<=13) ?_ ?_;rotate_left
    .intro Kn hK;exists _,Z,tw,_,Z,.inl<|SqL.of<|bp _ _ vN,_,Z,_,_,Z,Z,_,_,Z,Z,(by change(0:Int)<2;decide),Z,_,Z,?_;rw[Zw,XG];show Xc (λhe=>?_) (λhe=>?_)
     .let e2:((inc.f%2 == 1) != (i%2 == 1))=false:=by rw[par];show Sz J
      exists _,Z,.inl {Z,_,SqL.of qu},rA,ws,Z,Z,qu,?_;show hK _ _ {Z,ws.reverse,XT,?_,ZL bq bp,by rw[YK];lia};rw[e2];change TupsV _ _ ((WR n ps I F' y).R λo=>xchT F' o y).reverse
      rw[lvy];show(TupsV.mut vM qu).rev
     .let e2:((inc.f%2 == 1) != (i%2 == 1))=true:=by rw[par];show Yq J
      show hK _ _ {Z,ws,qu,?_,bp,J};rw[e2];change TupsV _ _ ((WR n ps I F' y).R λo=>xchT F' o y)
      rwa[lvy]
    rintro σ HE ⟨rfl,Dv,hrE,hwE,sE,wl'⟩;let Fe:=sE _ _ bu
    exists _,Z,.inl {Z,_,SqL.of Fe},_,Z,tA,rA,zs,Dv,Z,Z,Fe,hrE,Pd J,?_;show{zs++Dv,_,_,_,Z,ZL FI<|sB.m sE,by rw[Zb (WX n1)];show sE _ _ vN,by rw[Zb n2];show sE _ _ Ff,XT,?_,by rw[Xt];lia};rw[YY,hy];let e3:=rh n ps I F' y (inc.M i) (inc.f%2 == 1)
    rw[Yf,HP (Pl bw)]at e3;change TupsV _ _ (F'::UX n ps I F' (inc.M i++[y]) (inc.f%2 == 1))
    rw[e3];show TupsV.mut ((br.same sE).app hwE) Fe
 induction d with
 |zero=>show key 0 0 _ fg J λe h=>(by cases h)
 |succ d ih=>show key (d+1) (3+d) _ ih J λe h=>(by cases h;rfl)
inductive spZS(K:Ad)(vs:List V)(H:Hp)(Q:VK)(_:XK):Prop
 |mk (a:Addr) (n:Int) (xs:List V) (ps:Aa) (R:Ab) (_:vs=[.int n,.ref a]) (_:H a=some (.lst xs)) (_:PairsV H xs ps) (_:Zz n ps) (_:ps.f<=10) (_:((∃U,Zg n ps U)->RowW n ps R/\R.Nodup/\∀U,U∈R↔Zg n ps U)) (_:((∀U,¬Zg n ps U)->R=[])) (_:∀(r:Addr)(zs:List V)(H':Hp),Same H H'->H' r=some (.lst zs)->TupsV H' zs R->R.f<=1024->Q ↑r H')
def bo(T:Txt K mg t):WZ P w base Xi T.qZS 37 (spZS K):=by
 show T.qZS.okI ["count","ties","trees"] D λXv A outer s H vs Q E hr h=>?_
 .let⟨a,n,xs,ps,R,rfl,ha,hP,hG,QW,hR,qt,q⟩:=h;show⟨_,(XO (Ze 2<|Xp (b9 T) hr T.qZM Zt<|XY (pv 0)<|XY (pv 1) XX)
   (XO (Wl (Zf Lj (Zi (Zn K) o3 T.n_len Boot.«len»<|XY (pv 2) XX) Zc<|Zs _)
   (XI<|Zj<|pv 2)
   Zq)
   (XI<|Zj<|Xp (bQ T 31) hr T.qZR Zt<|XY (pv 0)<|XY (pv 1)<|XY (pv 2)<|XY (UR XX)<|XY (ZE (Zd K) (Xp (vY T) hr T.qZQ Zt<|XY (pv 2)<|XY (UR XX) XX) Zc λ_ _=>rfl) XX))),?_⟩
  exists _,Z,_,Z,n,a,xs,ps,Z,SqL.of ha,hP,hG,QW,λeA ys L H1 s1 vL hL FO hmem Vz=>?_;show nm ?_;dsimp only[List.set];let PU:=hL.1
  exists _,Z,eA,ys,Z,.inl<|SqL.of vL,_,_,Z,Z,_,Z,?_;let eRL:(∃U,Zg n ps U)->R.f=L.f:=λh=>((Ul (hR h).2.1 (Zu7 Vz)).U λz=>by rw[(hR h).2.2,hmem]).length_eq
  cases hex:∃U,Zg n ps U;rotate_left
  .let e0:R=[]:=qt λU hU=>hex ⟨U,hU⟩;let l0:L=[]:=ET.U λU hU=>hex {U,(hmem U).L hU}
   subst e0 l0;show Xc (λ_=>{_,Z,q eA ys H1 s1 vL hL<|Yj _}) (λh=>absurd (by rw[PU];decide) h)
  let(vK,qD,d7):=hR hex;let el:=eRL hex
  let l0:0<L.f:=by let(U,hU):=hex;show EO ((hmem U).U hU)
  obtain⟨F,Qj⟩:∃F,L[0]?=some F:={_,Xr l0};let hF:=(hmem F).L (Xm Qj)
  let VU:∀U,Zg n ps U->HT.lexLt U F=false:=λU hU=>eO Vz Qj U ((hmem U).U hU);show Xc (λh=>?_) (λh=>?_)
  .exists _,Z,q eA ys H1 s1 vL ?_ J;let r1:R.f=1:=J
   let l1:L.f=1:=J;let Fd:=(eS (L:=F) hG vK hF VU).1
   let(x,rfl):=qa.L r1;let(y,rfl):=qa.L l1;rwa[show x=F from Ye Fd,<-show y=F from Ye Qj]
  show Qu ?_;let gt:1<R.f:=J
  let(ld,F',inc,fu,VJ,h1,h2,Qn,DC):=id vK;let rfl:F'=F:=Xu (VU F' VJ.tr.1) (VJ.least F<|VO.U hF);let(z,o,z1,z2,_,_,_):=ZA8 hG vK hF VU gt;let rfl:ld=some z:=by
   cases ld with
   |none=>rw[h1.L Z]at z1;cases z1
   |some y=>
    let a1:=(h2 y Z)
    have:=a1.2 z z1
    have:=z2 y a1.1
    rw[show y=z by lia]
  let hmw:∀T,T∈L↔With n ps [] [] T:=λT=>by rw[VO,hmem]
  let nb:∀v∈([]:Ac),0<=v/\v<ps⁻¹:=λv h=>by cases h
  exists _,Z,_,Z,_,Z,Yj _,λp1 Um=>?_;let u1:=XZ (o:=.lst []) Um
  let k1:=XT (H:=H1) (a:=p1) (o:=.lst []);exists _,Z,Yj _,λp2 VL=>?_;let u2:=XZ (o:=.lst []) VL
  let Dw:=u1.m u2;exists eA,p2,n,ys,ps,L,[],[],F',Z,Dw _ _ vL,hL.same Dw,hG,SqL.of XT,nb,hmw,Qj,λfA H4 s4 hf0 Na=>?_;let DF:=Dw.m s4
  exists fA,_,0,.int z,Z,Z,SqL.of Na,ZA (n:=0) Z<|WE<|Zf4 QY z1 z2,?_;let FG:=s1.m DF
  exists a,eA,p1,n,xs,ys,ps,L,[],[],F',z,R,Z,FG _ _ ha,hP.same FG,hG,DF _ _ vL,hL.same DF,Vz,hmw,FO,(u2.m s4) _ _ k1,nb,Yj _,Qj,z1,J,Qn,λr zs H5 s5 Fs hZ=>q r zs H5 (FG.m s5) Fs hZ J
inductive spZT(K:Ad)(vs:List V)(H:Hp)(Q:VK)(_:XK):Prop
 |mk (z:Int) (_:vs=[.int z]) (_:Q (.bl true) H)
def bj(T:Txt K mg t):WZ P w base Xi T.qZT 1 (spZT K):=by
 show T.qZT.okI ["found"] D λXv A outer s H vs Q E hr h=>?_
 .let⟨z,rfl,q⟩:=h;exists _,(XI<|Zj<|Ow (Zi (ZX5 K (T:="int")) o3 T.n_isinstance Boot.«isinstance»<|XY (pv 0)<|XY (ZN9 (v:=V.ty "int") Z T.n_int Boot.«int» Z) XX)<|CI<|CH<|Zi (ZX5 K (T:="bool")) o3 T.n_isinstance Boot.«isinstance»<|XY (pv 0)<|XY (ZN9 (v:=V.ty "bool") Z T.n_bool Boot.«bool» Z) XX),?_;exists _,Z,_,_,_,Z,TyOf.int _,lH,_,Z,?_;show UA ?_;exists _,Z,_,_,_,Z,TyOf.int _,ZF4,_,Z,q
inductive spZU(K:Ad)(vs:List V)(H:Hp)(Q:VK)(_:XK):Prop
 |mk (a b:Addr) (U V:Ac) (_:vs=[.ref a,.ref b]) (_:H a=some (.tup<|IL U)) (_:H b=some (.tup<|IL V)) (_:U.f<=20) (_:V.f<=20) (_:(∃o lo,(U.Q λy=>decide<|y∉V)=o::lo)) (_:(∃z lz,(V.Q λy=>decide<|y∉U)=z::lz)) (_:∀(r:Addr)(H':Hp),Same H H'->H' r=some (.tup<|IL<|fo U V++fo V U)->Q ↑r H')
def vJ:FnScope ["tree","behind_it","out","into"] ["tree","behind_it"] (Xd (top 73)):=RH D
def bh(T:Txt K mg t):WZ P w base Xi T.qZU 1 (spZU K):=by
 show T.qZU.okI ["tree","behind_it","out","into"] D λXv A outer s H vs Q E hr h=>?_
 .let⟨a,b,U,U2,rfl,ha,hb,lU,lV,⟨o,lo,eo⟩,⟨z,lz,ez⟩,q⟩:=h;show⟨_,(XO (Sk (i:=2) Z vJ.nd Z Z (sc0:=Xd<|top 73) (N0:=["tree","behind_it","out","into"]) (N':=["tie","behind_it"]) (o:=1) (fr:=[1]) ⟨Z,D,D,D,Z,D⟩ (Ue K<|pv 0) (Zp oY) (λ_ _ _ _=>(Za 0)) (λ_ _ _ _=>(ZR<|Zf (ZP K) (pv 0) (pv 1) Z)) λ_ _ _ _=>(pv 0))
   (XO (Sk (i:=3) Z vJ.nd Z Z (sc0:=Xd<|top 73) (N0:=["tree","behind_it","out","into"]) (N':=["tie","tree"]) (o:=1) (fr:=[0]) ⟨Z,D,D,D,Z,D⟩ (Ue K<|pv 1) (Zp oY) (λ_ _ _ _=>(Za 0)) (λ_ _ _ _=>(ZR<|Zf (ZP K) (pv 0) (pv 1) Z)) λ_ _ _ _=>(pv 0))
   (XI<|Zj<|Ug<|XY (ZE (Zd K) (pv 2) Zc λ_ _=>rfl)<|XY (ZE (Zd K) (pv 3) Zc λ_ _=>rfl) XX))),?_⟩
  let two:2<=sizeLine:=oY;show⟨_,Z,a,Z,{_,SqT.of ha},KR (K:=K) (a:=a) (xs:=IL U) (λi ws H3=>H3=H/\i<=U.f/\ws=IL ((U.M i).Q λy=>decide<|y∉U2)) {Z,Yj _,Z} (Zh<|by rw[XG];lia)
   (λi ws H3 hi h=>by let(e,VH,ew):=h;show{e▸SqT.of ha,by rw[ew,XG];show Yl (Yo ..)<|by rw[Yf];lia}) ?_ ?_⟩
  .rintro i y ws H3 hi ⟨rfl,Vp,rfl⟩ S Xx;let(y,rfl,hy):=ZT hi;let XC:i<U.f:=(XF.L hy).1
   exists _,Z,_,Z,b,_,Z,.inr<|SqT.of hb,Z,ZC _,_,Z,?_;rw[ZN];show WU (λhc=>?_) (λhc=>?_)
   .show Xx _ _ {Z,XC,?_};rw[Zm hy,if_neg (by simpa using hc),Ys]
   .exists _,Z,Xx _ _ {Z,XC,?_};rw[Zm hy,if_pos<|Yq hc,ZO]
  rintro ws H3 ⟨rfl,_,rfl⟩ oA DA;rw[XG,Yz];rw[eo];let u4:=XZ (o:=.lst<|IL<|o::lo) DA
  let k4:=XT (H:=H3) (a:=oA) (o:=.lst<|IL<|o::lo);generalize upd H3 oA (.lst<|IL<|o::lo)=H4 at *;show nm ?_;let wk:=u4 _ _ hb
  let ha4:=u4 _ _ ha;show⟨_,Z,b,Z,{_,SqT.of wk},KR (K:=K) (a:=b) (xs:=IL U2) (λi ws H5=>H5=H4/\i<=U2.f/\ws=IL ((U2.M i).Q λy=>decide<|y∉U)) {Z,Yj _,Z} (Zh<|by rw[XG];lia)
   (λi ws H5 hi h=>by let(e,VH,ew):=h;show{e▸SqT.of wk,by rw[ew,XG];show Yl (Yo ..)<|by rw[Yf];lia}) ?_ ?_⟩
  .rintro i y ws H5 hi ⟨rfl,Vp,rfl⟩ S Xx;let(y,rfl,hy):=ZT hi;let XC:i<U2.f:=(XF.L hy).1
   exists _,Z,_,Z,a,_,Z,.inr<|SqT.of ha4,Z,ZC _,_,Z,?_;rw[ZN];show WU (λhc=>?_) (λhc=>?_)
   .show Xx _ _ {Z,XC,?_};rw[Zm hy,if_neg (by simpa using hc),Ys]
   .exists _,Z,Xx _ _ {Z,XC,?_};rw[Zm hy,if_pos<|Yq hc,ZO]
  rintro ws H5 ⟨rfl,_,rfl⟩ iA cq;rw[XG,Yz];rw[ez];let u6:=XZ (o:=.lst<|IL<|z::lz) cq
  let k6:=XT (H:=H5) (a:=iA) (o:=.lst<|IL<|z::lz);generalize upd H5 iA (.lst<|IL<|z::lz)=H6 at *;show nm ?_;exists _,Z,oA,_,0,.int o,Z,Z,SqL.of<|u6 _ _ k4,ZA (n:=0) Z Z,_,Z,iA,_,0,.int z,Z,Z,SqL.of k6,ZA (n:=0) Z Z,two,λr LQ=>?_;let u7:=XZ (o:=.tup [.int o,.int z]) LQ
  show q r _ (u4.m<|u6.m u7) (by unfold fo;rw[eo,ez];show XT)
inductive spZV(K:Ad)(CP C Pt:Addr)(vs:List V)(H:Hp)(Q:VK)(_:XK):Prop
 |mk (w rA:Addr) (n:Int) (ps:Aa) (zs:List V) (R:Ab) (j:Nat) (_:vs=[.ref w,.ref rA,.int j]) (_:WebAt C H w n ps) (_:Zz n ps) (_:Xf H Pt) (_:H rA=some (.lst zs)) (_:TupsV H zs R) (_:j<R.f) (_:R.f<=1024) (_:RowW n ps R) (_:R.Nodup) (_:(∀T∈R,Zg n ps T)) (_:∀H':Hp,SameX Pt H H'->Xf H' Pt->Q (.bl true) H')
def bg{Pt:Addr}(T:Txt K mg t)(hB:Vm K mg base t.dZt Pt):WZ P w base Xi T.qZV 47 (spZV K t.A_Part t.A_Web Pt):=by
 show T.qZV.okI ["web","row","at","tree","found","told","handed","due"] D λXv A outer s H vs Q E hr h=>?_
 .let⟨w,rA,n,ps,zs,R,j,rfl,hW,hG,hT,hA,hZ,hj,hR4,hR,hN,Pu,q⟩:=h;show⟨_,(XO (Ze 3<|ZE (Zd K) (pv 1) (pv 2) λ_ _=>rfl)
   (XO (Ze 4<|Xp (JM T hB) hr T.qZF Zt<|XY (pv 0)<|XY (pv 3) XX)
   (XO (Wl (PW.pt<|TL (Lq<|Jr<|Xp (bj T) hr T.qZT Zt<|XY (pv 4) XX)<|Ex<|Zf Rw (pv 4) (pv 2)<|Zs _)
   (XI<|Zj Lr)
   Zq)
   (XO (Ze 5<|UR<|XY (Xp (Fp T hB) hr T.qZG Zt<|XY (pv 0)<|XY (pv 3) XX)<|XY (Xp (wq T hB) hr T.qZH Zt<|XY (pv 0)<|XY (pv 3) XX)<|XY (Xp (wm T hB) hr T.qZI Zt<|XY (pv 0)<|XY (pv 3) XX) XX)
   (XO (Ze 6<|Zk (Si K) o3 T.n_list Boot.«list»<|XY (pv 3) XX)
   (XO (Wl (PW.pt<|TL (Zf Rw (Xp (JM T hB) hr T.qZF Zt<|XY (pv 0)<|XY (pv 6) XX) (pv 2)<|Zs _)<|Ex<|Zf (tm K<|KS hr) (UR<|XY (Xp (Fp T hB) hr T.qZG Zt<|XY (pv 0)<|XY (pv 6) XX)<|XY (Xp (wq T hB) hr T.qZH Zt<|XY (pv 0)<|XY (pv 6) XX) XX) (Lg (KQ K) (pv 5) Jl<|Mn Zc)<|Zs _)
   (XI<|Zj Lr)
   Zq)
   (XO (Wl (PW.pt<|TL (Zf (eE K<|KS hr) (Xp (wm T hB) hr T.qZI Zt<|XY (pv 0)<|XY (pv 6) XX) (ZE (Zd K) (pv 5) Zc λ_ _=>rfl)<|Zs _)<|Ex<|Zf (tm K<|KS hr) (pv 6) (Zk (Si K) o3 T.n_list Boot.«list»<|XY (pv 3) XX)<|Zs _)
   (XI<|Zj Lr)
   Zq)
   (XO (Ze 7<|UR<|XY Pj<|XY Pj<|XY Pj XX)
   (XO (Wl (Zf Lj (Zy Tf (pv 2) Zc) (Zi (Zn K) o3 T.n_len Boot.«len»<|XY (pv 1) XX)<|Zs _)
   (XO (tY (ZE (Zd K) (pv 1) (Zy Tf (pv 2) Zc) λ_ _=>rfl)<|tZ (pv 7) Zc Jk)
   (XI<|tY (Xp (bh T) hr T.qZU Zt<|XY (pv 3)<|XY (ZE (Zd K) (pv 1) (Zy Tf (pv 2) Zc) λ_ _=>rfl) XX)<|tZ (pv 7) Zc Jk))
   Zq)
   (XO (Wl (Zf TH (pv 2) Zc<|Zs _)
   (XI<|tY (ZE (Zd K) (pv 1) (Zy VC (pv 2) Zc) λ_ _=>rfl)<|tZ (pv 7) Zc Jk)
   Zq)
   (XI<|Zj<|Jp (lM K<|KS hr) (pv 5) (pv 7)<|Zs _))))))))))),?_⟩
  obtain⟨U,hU⟩:∃U,R[j]?=some U:={_,Xr hj};let(v,hv,c,rfl,hc):=hZ.2 j U hU;let tU:=Pu U (Xm hU)
  exists _,Z,_,Z,rA,zs,j,.ref c,Z,Z,SqL.of hA,ZA (n:=j) Z hv,?_;show nm ?_;dsimp only[List.set];exists _,Z,_,Z,w,c,n,ps,true,U,R,Z,hW,hG,hT,SqT.of hc,tU,hR,Xm hU,λi H1 hi To Wy=>?_;let rfl:i=j:=(Sq (XF.L hi).1 hN).L (hi.m hU.symm);show nm ?_;dsimp only[List.set];let aZ:=To _ _ (hT.ne hc B) hc
  let hW1:=hW.samex hT To;exists _,Z,_,Z,_,Z,?_;show UB ?_;exists _,Z,_,Z,Z,_,Z,?_;rw[Zw];show By Z ?_;show Qu ?_;let two:2<=sizeLine:=oY
  let three:3<=sizeLine:=oY;let qC:=Xm hU
  exists _,Z,_,Z,w,c,n,ps,true,U,R,i,Z,hW1,hG,Wy,SqT.of aZ,tU,hR,hN,hU,λv1 H2 hv1 Tn Xe=>?_;let UQ:=Tn _ _ (Wy.ne aZ B) aZ
  let SQ:=To.m Tn;exists _,Z,_,Z,w,c,n,ps,true,U,R,i,Z,hW.samex hT SQ,hG,Xe,SqT.of UQ,tU,hR,hN,hU,λv2 H3 hv2 JN Vy=>?_;let vS:=JN _ _ (Xe.ne UQ B) UQ
  let SR:=SQ.m JN;exists _,Z,_,Z,w,c,n,ps,true,U,R,i,Z,hW.samex hT SR,hG,Vy,SqT.of vS,tU,hR,hN,hU,Pu,λv3 H4 hv3 Tp UW=>{three,λtA Px=>?_};let wy:=Tp _ _ (Vy.ne vS B) vS
  let aY:=SR.m Tp;let vH:=hv2.samex Vy Tp
  let vG:=(hv1.samex Xe JN).samex Vy Tp;generalize TF:(if i=0 then none else R[i-1]?)=o2 at *;generalize LW:R[i+1]?=o1 at *;let u5:=XZ (o:=.lst [v1,v2,v3]) Px
  let k5:=XT (H:=H4) (a:=tA) (o:=.lst [v1,v2,v3]);show nm ?_;dsimp only[List.set];generalize upd H4 tA (.lst [v1,v2,v3])=H5 at *;exists _,Z,c,_,Z,.inr<|SqT.of<|u5 _ _ wy,λhd hhd=>?_;let u6:=XZ (o:=.lst<|IL U) hhd
  let k6:=XT (H:=H5) (a:=hd) (o:=.lst<|IL U);show nm ?_;dsimp only[List.set];generalize upd H5 hd (.lst<|IL U)=H6 at *;let Fc:=u5.m u6
  let Fb:=aY.m (SameX.same Fc);let Vx:=UW.same Fc
  let qr:Bears (TupN H6) [v1,v2,v3] [o1,o2,xH U o1]:=ZW (vG.same Fc) (ZW (vH.same Fc)<|ZW (hv3.same Fc) qV);let qq:=u6 _ _ k5
  let hc6:=Fc _ _ wy;clear vG vH hv1 hv2 hv3 u5 u6 Fc k5;show Kj (λσ H9=>σ=[some ↑w,some<|.ref rA,some<|.int i,some<|.ref c,some<|.int i,some<|.ref tA,some<|.ref hd,none]/\SameX Pt H6 H9/\Xf H9 Pt) ?_ λKn hK=>?_;rotate_left
  .exists _,Z,_,Z,w,hd,n,ps,false,U,R,Z,hW.samex hT Fb,hG,Vx,SqL.of k6,tU,hR,qC,λj' H7 QF Fy JJ=>{_,Z,Z,_,Z,?_};let rfl:j'=i:=(Sq (XF.L QF).1 hN).L (QF.m hU.symm);rw[Zw];show By Z ?_;let vE:=Fb.m Fy
   let aX:=Fy _ _ (Vx.ne k6 B) k6;exists _,Z,_,Z,w,hd,n,ps,false,U,R,j',Z,hW.samex hT vE,hG,JJ,SqL.of aX,tU,hR,hN,hU,λv4 H8 hv4 w5 Sa=>?_;let aW:=vE.m w5
   let k68:=w5 _ _ (JJ.ne aX B) aX;exists _,Z,_,Z,w,hd,n,ps,false,U,R,j',Z,hW.samex hT aW,hG,Sa,SqL.of k68,tU,hR,hN,hU,λv5 H9 hv5 w4 TU=>{two,λpA Il=>?_};rw[LW]at hv4;rw[TF]at hv5;let TR:=(Fy.m w5).m w4
   let MM:=XZ (o:=.lst [v4,v5]) Il;let df:=XT (H:=H9) (a:=pA) (o:=.lst [v4,v5])
   exists _,Z,_,Z,tA,_,Z,SqL.of<|MM _ _<|TR _ _ (Vx.ne qq B) qq,λsA hsA=>?_;rw[sv oY,show(2:Int).j=2 from Z];let ML:=XZ (o:=.lst [v1,v2]) hsA
   let MK:=MM.m ML;exists 2,_,pA,sA,Z,Z,oY,xI (l:=[o1,o2]) (SqL.of<|ML _ _ df) (SqL.of XT) (ZW ((hv4.samex Sa w4).same MK)<|ZW (hv5.same MK) qV) ?_,_,Z,?_
   .let hb:∀x o,TupN H6 x o->TupN (upd (upd H9 pA<|.lst [v4,v5]) sA<|.lst [v1,v2]) x o:=λx o h=>(h.samex Vx TR).same MK;let(_,h0):=qr;let(x,e,h1):=h0 0 o1 rfl;cases e;let(x,e,h2):=h0 1 o2 rfl;cases e;show ZW (hb _ _ h1) (ZW (hb _ _ h2) qV)
   .show UB (hK _ _ {Z,TR.m<|SameX.same MK,TU.same MK})
  rintro σ H9 ⟨rfl,TR,TU⟩;let vD:=Fb.m TR
  let aV:=TR _ _ (Vx.ne k6 B) k6;let qp:=TR _ _ (Vx.ne qq B) qq
  let qo:=TR _ _ (Vx.ne hc6 B) hc6;show Kj (λσ SD=>σ=[some ↑w,some<|.ref rA,some<|.int i,some<|.ref c,some<|.int i,some<|.ref tA,some<|.ref hd,none]/\SameX Pt H9 SD/\Xf SD Pt) ?_ λKn hK=>?_;rotate_left
  .exists _,Z,_,Z,w,hd,n,ps,false,U,R,i,Z,hW.samex hT vD,hG,TU,SqL.of aV,tU,hR,hN,hU,Pu,λv6 SD hv6 TQ RY=>?_;rw[LW]at hv6;let aT:=TQ _ _ (TU.ne qp B) qp
   let aS:=TQ _ _ (TU.ne aV B) aV;let EZ:=TQ _ _ (TU.ne qo B) qo
   let(x,e,h3):=qr.2 2 _ rfl;cases e;exists _,Z,tA,_,2,v3,Z,Z,SqL.of aT,Z,eD hv6 (h3.samex Vx<|TR.m TQ) {_,Z,UB ?_};exists _,Z,_,Z,c,_,Z,.inr<|SqT.of EZ,λlA cL=>?_;let ML:=XZ (o:=.lst<|IL U) cL
   exists 1,_,hd,lA,Z,Z,oY,sQ (SqL.of<|ML _ _ aS)<|SqL.of XT,_,Z,?_;rw[Yq Z];show UB (hK _ _ {Z,TQ.m<|SameX.same ML,RY.same ML})
  rintro σ SD ⟨rfl,TQ,RY⟩;let MJ:=vD.m TQ
  let vC:=TR.m TQ;let k5:=TQ _ _ (TU.ne qp B) qp
  let EZ:=TQ _ _ (TU.ne qo B) qo;let JI:=MJ _ _ (hT.ne hA B) hA
  let vB:Bears (TupN SD) [v1,v2,v3] [o1,o2,xH U o1]:={qr.1,λi a e=>by let(v,hv,h):=qr.2 i a e;exists v,hv,h.samex Vx vC};let vA:TupsV SD zs R:={hZ.1,λi p h=>by let(v,hv,d,e,hd):=hZ.2 i p h;exists v,hv,d,e,MJ _ _ (hT.ne hd B) hd}
  exists three,λdA MX=>?_;show nm ?_;dsimp only[List.set];show Kj (λσ Tq=>σ=[some ↑w,some<|.ref rA,some<|.int i,some<|.ref c,some<|.int i,some<|.ref tA,some<|.ref hd,some ↑dA]/\Same SD Tq/\∃x0 x2,Tq dA=some (.lst [x0,.non,x2])/\TupN Tq x0 o1/\TupN Tq x2 (xH U o1)) ?_ λKn hK=>?_;rotate_left
  .let ML:=XZ (o:=.lst [.non,.non,.non]) MX;exists _,Z,_,_,Z,Z,_,Z,rA,zs,Z,.inl<|SqL.of<|ML _ _ JI,_,_,Z,Z,_,Z,?_;let zl:=hZ.1
   show Xc (λh=>?_) (λh=>?_)
   .let zu:i+1<R.f:=J;obtain⟨V,hV⟩:∃V,R[i+1]?=some V:={_,Xr zu};let rfl:some V=o1:=hV.symm.m LW;let(e,hv,d,rfl,Ia):=vA.2 (i+1) V hV;let tV:=Pu V (Xm hV)
    let ne:U≠V:=λe=>by
     have:=(Sq hj hN).L (hU.m<|by rw[e];show hV.symm)
     lia
    let ix:Wi zs ((i:Int)+1)=some ↑d:=ZA (n:=i+1) J hv;let vy:Same SD (upd (upd SD dA<|.lst [.non,.non,.non]) dA<|.lst [.ref d,.non,.non]):=λb o e=>by rw[Zb (WC e MX)];show ML b o e
    exists _,Z,_,Z,_,_,Z,Z,rA,zs,_,.ref d,Z,Z,SqL.of<|ML _ _ JI,ix,_,Z,dA,_,0,0,Z,Z,XT,Z,?_;let lU:U.f<=20:=by have:=tU.2.1;have:=hG.2.1;lia
    let lV:V.f<=20:=by have:=tV.2.1;have:=hG.2.1;lia
    let(o,lo,eo,_,_):=qB hG tU tV ne;let(z,lz,ez,_,_):=qB hG tV tU (WX ne);exists _,Z,_,Z,_,Z,_,_,Z,Z,rA,zs,_,.ref d,Z,Z,SqL.of<|vy _ _ JI,ix,c,d,U,V,Z,vy _ _ EZ,vy _ _ Ia,lU,lV,⟨o,lo,eo⟩,⟨z,lz,ez⟩,λr H13 DG vw=>?_;let kd:=DG _ _ (XT (H:=upd SD dA<|.lst [.non,.non,.non]) (a:=dA) (o:=.lst [.ref d,.non,.non]))
    exists _,Z,dA,_,2,2,Z,Z,kd,Z,hK _ _ {Z,λb o e=>?_,.ref d,.ref r,XT,?_,?_}
    .rw[Zb (WC e MX)];show DG _ _ (vy b o e)
    .exists d,Z,by rw[Zb (WC Ia MX)];show DG _ _<|vy _ _ Ia
    .exists r,Z,by rwa[Zb (Ry vw kd (λz=>nomatch z))]
   .let rfl:none=o1:=by rw[<-LW,VG J]
    show hK _ _ ⟨Z,ML,.non,.non,XT,Z,Z⟩
  rintro σ Tq ⟨rfl,Ql,x0,x2,EY,h0,h2⟩;let fin:∀(x1:V)(Ig:Hp),Same SD Ig->Ig dA=some (.lst [x0,x1,x2])->TupN Ig x0 o1->TupN Ig x1 o2->TupN Ig x2 (xH U o1)->Lp (Cw (rEqD K false) (tVar 5)<|tVar 7) {nx:=λx H'=>Q V.non H',rt:=Q} [some ↑w,some<|.ref rA,some<|.int i,some<|.ref c,some<|.int i,some<|.ref tA,some<|.ref hd,some ↑dA] Ig:=λx1 Ig WB e a0 a1 a2=>
   {_,Z,_,Z,2,true,tA,dA,Z,Z,oY,xI (SqL.of<|WB _ _ k5) (SqL.of e) {vB.1,λi a e=>by let(v,hv,h):=vB.2 i a e;exists v,hv,h.same WB}<|ZW a0<|ZW a1<|ZW a2 qV,q _ (MJ.m<|SameX.same WB)<|RY.same WB}
  exists _,Z,_,_,Z,Z,_,Z,?_;show Xc (λh=>?_) (λh=>?_)
  .let i0:i≠0:=J;rw[if_neg i0]at TF;obtain⟨V,hV⟩:∃V,R[i-1]?=some V:={_,Xr J};let rfl:some V=o2:=hV.symm.m TF;let(e,hv,d,rfl,Ia):=vA.2 (i-1) V hV;let ix:Wi zs ((i:Int)-1)=some ↑d:=ZA (n:=i-1) J hv
   exists _,Z,_,Z,_,_,Z,Z,rA,zs,_,.ref d,Z,Z,SqL.of<|Ql _ _ JI,ix,_,Z,dA,_,1,1,Z,Z,EY,Z,?_;let mv:∀x o,TupN Tq x o->TupN (upd Tq dA<|.lst [x0,.ref d,x2]) x o:=λx o h=>by
    cases o with
    |none=>show h
    |some l=>
     let(a,rfl,ha):=(show Xn Tq x l from h);exists a,Z,by rwa[Zb (Ry ha EY (λz=>nomatch z))]
   show fin ↑d _ (λb o e=>by rw[Zb (WC e MX)];show Ql b o e) XT (mv _ _ h0) {d,Z,by rw[Zb (WC Ia MX)];show Ql _ _ Ia} (mv _ _ h2)
  .let rfl:none=o2:=by rw[<-TF,if_pos J]
   show fin .non Tq Ql EY h0 Z h2
inductive spZW(K:Ad)(Pt:Addr)(vs:List V)(H:Hp)(Q:VK)(_:XK):Prop
 |mk (a:Addr) (ns:Ac) (_:vs=[.ref a]) (_:SqL K H a (IL ns)) (_:ns.f<=63) (_:Xf H Pt) (_:∀H',Q (.bl true) H')
def aR{Pt:Addr}(T:Txt K mg t)(hB:Vm K mg base t.dZt Pt):WZ P w base Xi T.qZW 48 (spZW K Pt):=by
 show T.qZW.okI ["script","count","ties","web","row","k","cell","m","size","drawn","at"] D λXv A outer s H vs Q E hr h=>?_
 .let⟨a,ns,rfl,hS,wg,hTb,k⟩:=h;show⟨_,(XO (Ze 1<|Zy Tf Zc<|Zy TJ (Xp (JL T) hr T.qZJ Zt<|XY (pv 0)<|XY Zc XX) Zc)
   (XO (Ze 2<|Xp (cm T) hr T.qZL Zt<|XY (pv 0)<|XY (pv 1)<|XY Zc XX)
   (XO (Ze 3<|Cd T.k_Web (xw T) (hr.mono oY) Z T.c_Web T.bZ8 .nil Zt<|XY (pv 1)<|XY (pv 2) XX)
   (XO (Ze 4<|Xp (bo T) hr T.qZS Zt<|XY (pv 1)<|XY (pv 2) XX)
   (XO (Wl (Zf RV (Zi (Zn K) o3 T.n_len Boot.«len»<|XY (pv 4) XX) Zc<|Zs _)
   (XI<|Zj Lr)
   Zq)
   (XO (Tg Ws Z (Mg K Z T.n_enumerate<|XY (Zy Lb (yx Zc)<|Lg (KQ K) (pv 0) Jl<|Mn Zc) XX) (QI (n:=2) K Z<|Zr (Za 5)<|Zr (Za 6) QM)
   (XO (Ze 7<|Xp (JK T) hr T.qZK Zt<|XY (pv 6)<|XY (Zy Tf Zc<|pv 5) XX)
   (XO (Ze 8<|Zi (Zn K) o3 T.n_len Boot.«len»<|XY (pv 4) XX)
   (XO (Ze 9<|Zy TJ (Zy Jq (pv 7) Zc)<|pv 8)
   (XO (Ze 10<|ZE (Zd K) (gu Zc (Zy VC (pv 8) Zc) (pv 9)<|pv 9) (Zy TJ (pv 7) Zc) λ_ _=>rfl)
   (XI (Wl (Lq<|Jr<|Xp (bg T hB) hr T.qZV Zt<|XY (pv 3)<|XY (pv 4)<|XY (pv 10) XX)
   (XI<|Zj Lr)
   Zq)))))))
   (XI<|Zj Lr))))))),?_⟩
  exists _,Z,a,ns,0,Z,hS,oY,λhd=>{_,_,Z,Z,(by change(0:Int)<6;decide),_,_,Z,Z,?_};let c0:0<=hd%6:=LD _ oY
  let c1:hd%6<6:=Ss _ oY;obtain⟨n,hn⟩:∃n:Int,1+hd%6=n:={_,Z};show nm ?_;dsimp only;rw[hn];exists _,Z,_,Z,a,ns,n,10,Z,hS,wg,J,J,oY,oY,λl xs ps H1 s1 Nw SF hP UG hpg=>?_;let hG:Zz n ps:=⟨J,J,J,hpg⟩
  let OX:=hP.1;obtain⟨R,hR,qt⟩:∃R:Ab,((∃U,Zg n ps U)->RowW n ps R/\R.Nodup/\∀U,U∈R↔Zg n ps U)/\((∀U,¬Zg n ps U)->R=[]):=by
   cases h:∃U,Zg n ps U
   .let⟨R,h1,h2,h3⟩:=fi hG h;exists R,λ_=>⟨h1,h2,h3⟩,λno=>absurd h.choose_spec<|no _
   .exists [],λq=>absurd q h,λ_=>rfl
  exists _,Z,_,Z,λx dx nx MZ JS=>?_;let t1:Same H1 (upd (upd H1 dx<|.own x) x<|.ins t.A_Web dx []):=Zv (XZ MZ) (by rwa[Zb (WX JS)])
  exists x,dx,n,l,false,xs,ps,Z,XT,λo=>?_,hP.same t1,hG,λH2 hW k3=>{Z,?_}
  .show SqL.of (by rwa[Zb (WC SF nx),Zb<|WC SF nx,Zb (WC SF MZ)])
  let s2:Same H1 H2:=λb o e=>k3 b o (t1 b o e) (WC e nx);let Vj:=s2 _ _ SF
  let Py:=s1.m s2;let Xe:=hTb.same Py
  show nm ?_;dsimp only[List.set];exists _,Z,_,Z,l,n,xs,ps,R,Z,Vj,hP.same s2,hG,J,hR,qt,λdA zs H4 s4 MX hZ RG=>?_;show nm ?_;dsimp only[List.set];let UW:=Xe.same s4
  let iq:=(Py.m s4).seq hS;let Al:=hZ.1
  exists _,Z,dA,zs,Z,.inl<|SqL.of MX,Z,_,Z,?_;rw[Zw];show Xc (λh=>k _) λh=>?_;show Qu ?_;let aQ:0<R.f:=J
  let hex:∃U,Zg n ps U:=Yy λno=>by rw[qt λU hU=>no ⟨U,hU⟩]at aQ;show absurd aQ (Qi _)
  let(vK,qD,d7):=hR hex;let one:1<=sizeLine:=oY
  let four:4<=sizeLine:=oY;let aP:[V.int 0]++WH (IL ns) none (some 7)=IL (0::ns.M 7):=by rw[sv oY,show(7:Int).j=7 from Z];simp[IL]
  exists one,λp4 Nd=>{_,Z,_,Z,a,_,Z,(XZ Nd).seq iq,λp5 FP=>{p4,p5,_,_,Z,Z,XZ FP _ _ XT,XT,Pd (by have:=BW (IL ns) none (some 7);rw[XG]at this;change 1+_<=_;lia),λp6 wM=>?_}};rw[aP];let z6:Same H4 _:=((XZ (o:=.lst [.int 0]) Nd).m (XZ (o:=.lst<|WH (IL ns) none<|some 7) FP)).m (XZ (o:=.lst<|IL<|0::ns.M 7) wM)
  let EX:(upd (upd (upd H4 p4<|.lst [.int 0]) p5<|.lst<|WH (IL ns) none<|some 7) p6<|.lst<|IL<|0::ns.M 7) p6=some (.lst<|IL<|0::ns.M 7):=XT;generalize upd (upd (upd H4 p4<|.lst [.int 0]) p5<|.lst<|WH (IL ns) none<|some 7) p6 (.lst<|IL<|0::ns.M 7)=H6 at *;let Vx:=UW.same z6
  let vt:=z6 _ _ MX;let hZ6:=hZ.same z6
  let hW6:=hW.same (s4.m z6);exists p6,Z,{_,SqL.of EX},Em (K:=K) (a:=p6) (xs:=IL<|0::ns.M 7) (λi σ H7=>∃(v5 v6 v7 v8 v9 v10:Option V),σ=[some ↑a,some<|.int n,some<|.ref l,some<|.ref x,some<|.ref dA,v5,v6,v7,v8,v9,v10]/\SameX Pt H6 H7/\Xf H7 Pt) {none,none,none,none,none,none,Z,SameX.same<|Same.refl _,Vx} (λi σ H7 _ h=>by let(_,_,_,_,_,_,_,e,_):=h;show SqL.of<|e _ _ (Vx.ne EX B) EX) ?_ λσ H7 h=>k _;rintro i vi σ H7 pt UL hi ⟨v5,v6,v7,v8,v9,v10,rfl,s7,JJ⟩;let(c,rfl,hc):=ZT hi;let il:i<(0::ns.M 7).f:=(XF.L hc).1
  let il8:i<8:=by rw[YG,Yf]at il;lia
  let u8:=XZ (o:=.tup [.int i,.int c]) UL;let s8:=s7.m (SameX.same u8)
  let Sa:=JJ.same u8;exists pt,_,Z,SqT.of XT,Z,_,_,Z,_,_,Z,Z,?_;generalize upd H7 pt (.tup [.int i,.int c])=H8 at *;clear s7 UL u8;dsimp only[List.set];exists _,Z,_,Z,_,_,Z,Z,c,_,Z,J,J,λm hm=>?_;show nm ?_;dsimp only[List.set];let hd8:=s8 _ _ (Vx.ne vt B) vt
  exists _,Z,dA,zs,Z,.inl<|SqL.of hd8,?_;show nm ?_;dsimp only[List.set];exists _,Z,_,_,Z,Z,⟨oY,oY⟩,_,Z,_,_,Z,Z,(by change(0:Int)<zs.f;lia),?_;show nm ?_;dsimp only[List.set];let d0:0<=m/8%zs⁻¹:=LD _ oW
  let d1:m/8%zs⁻¹<zs.f:=Ss _ J;generalize m/8%zs⁻¹=dr at *;exists _,Z,_,_,Z,Z,_,Z,_,Z,four,λq4 hq4=>?_;let m0:0<=m%4:=LD _ oY
  let m4:m%4<4:=Ss _ oY;obtain⟨z,hz,hzR⟩:∃z:Nat,Wi [V.int 0,.int<|zs⁻¹-1,.int dr,.int dr] (m%4)=some (.int z)/\z<R.f:=by
   generalize m%4=b at *;obtain⟨d,rfl⟩:∃d:Nat,dr=(d:Int):=⟨dr.j,J⟩;rcases(by lia:b=0\/b=1\/b=2\/b=3) with rfl|rfl|rfl|rfl
   .exists 0,Z,aQ
   .exists R.f-1,by rw[show zs⁻¹-1=((R.f-1:Nat):Int) by grind];rfl,J
   .exists d,Z,J
   .exists d,Z,J
  let u9:=XZ (o:=.lst [.int 0,.int<|zs⁻¹-1,.int dr,.int dr]) hq4;exists _,Z,_,_,Z,Z,(by change(0:Int)<4;decide),q4,_,_,.int z,Z,Z,SqL.of XT,hz,?_;show nm ?_;dsimp only[List.set];generalize upd H8 q4 (.lst [.int 0,.int<|zs⁻¹-1,.int dr,.int dr])=H9 at *;let s9:=s8.m (SameX.same u9)
  let TU:=Sa.same u9;let hZ9:TupsV H9 zs R:={hZ6.1,λi p h=>by let(v,hv,d,e,hd):=hZ6.2 i p h;exists v,hv,d,e,s9 _ _ (Vx.ne hd B) hd}
  exists _,Z,_,Z,_,Z,x,dA,n,ps,zs,R,z,Z,hW6.samex Vx s9,hG,TU,u9 _ _ hd8,hZ9,hzR,RG,vK,qD,λU hU=>(d7 U).L hU,λSD Pw RY=>{_,Z,?_};show UB ?_;exists _,_,_,_,_,_,Z,s9.m Pw,RY
end
end My
namespace My
open PySem L2
def Pq{K:Ad}{f:Addr}{fd:FuncData}(F:Fun K "law" "law" sZW f fd)(s:Shared)(u:Value):BindsTo s fd {[u],[]} [("script",u)]:=by let(oc,od,kV,doc,pm,an,Xv,ct,SK,rfl,lk,RW):=F.ex;show .of_eq rfl
end My
end
open PySem PySem.W PyProof.Rows
set_option maxRecDepth 100000 in
set_option maxHeartbeats 0 in
theorem PySem.Challenge.cw_spanrow_k40_trees_beside_one_another_holds : PySem.Challenge.rw_spanrow_k40_trees_beside_one_another.Holds := by
 w_on;o_law;k_head;(case hw=>w_witness2)
 k_fill
 refine L2.Nn (l:=PySem.Challenge.rw_spanrow_k40_trees_beside_one_another) (n:=63) (k:=48) (x:="script") (CX:=L2.Xi) (sp:=λK=>My.spZW K 308) (c:=310) (Pt:=308) rfl (by decide) rfl ⟨rfl,by decide,by decide⟩ (λw h Y=>⟨PySem.W.km_in_of Y,PySem.W.km_tabs_of Y 308 (XB.mpr rfl)⟩) ?C ?P ?F (λ_ H a ns hl hO hS=>⟨a,ns,rfl,hS,hl,⟨#[],hO.1,trivial,.inl rfl⟩,λ_=>rfl⟩) (λ_ _ _ _ z=>z)
 case C=>intro w;kernel_rfl
 case P=>intro w;kernel_rfl
 case F =>
  intro w mg fa h KX G BG
  let f x n:=My.FQ (L2.Jh KX) mg x (My.top n)
  obtain⟨⟨aZ0,dZ0,qZ0⟩,⟨aZ1,dZ1,qZ1⟩,⟨aZ2,dZ2,qZ2⟩,⟨aZ3,dZ3,qZ3⟩,⟨aZ4,dZ4,qZ4⟩,⟨aZ5,dZ5,qZ5⟩,⟨aZ6,dZ6,qZ6⟩,⟨aZ7,dZ7,qZ7⟩,⟨aZ9,dZ9,qZ9⟩,⟨aZa,dZa,qZa⟩,⟨aZb,dZb,qZb⟩,⟨aZc,dZc,qZc⟩,⟨aZd,dZd,qZd⟩,⟨aZe,dZe,qZe⟩,⟨aZf,dZf,qZf⟩,⟨aZg,dZg,qZg⟩,⟨aZh,dZh,qZh⟩,⟨aZi,dZi,qZi⟩,⟨aZj,dZj,qZj⟩,⟨aZk,dZk,qZk⟩,⟨aZl,dZl,qZl⟩,⟨aZm,dZm,qZm⟩,⟨aZn,dZn,qZn⟩,⟨aZo,dZo,qZo⟩,⟨aZp,dZp,qZp⟩,⟨aZq,dZq,qZq⟩,⟨aZr,dZr,qZr⟩,⟨aZs,dZs,qZs⟩,⟨aZu,dZu,qZu⟩,⟨aZv,dZv,qZv⟩,⟨aZw,dZw,qZw⟩,⟨aZx,dZx,qZx⟩,⟨aZy,dZy,qZy⟩,⟨aZz,dZz,qZz⟩,⟨aZA,dZA,qZA⟩,⟨aZB,dZB,qZB⟩,⟨aZC,dZC,qZC⟩,⟨aZD,dZD,qZD⟩,⟨aZE,dZE,qZE⟩,⟨aZF,dZF,qZF⟩,⟨aZG,dZG,qZG⟩,⟨aZH,dZH,qZH⟩,⟨aZI,dZI,qZI⟩,⟨aZJ,dZJ,qZJ⟩,⟨aZK,dZK,qZK⟩,⟨aZL,dZL,qZL⟩,⟨aZM,dZM,qZM⟩,⟨aZN,dZN,qZN⟩,⟨aZO,dZO,qZO⟩,⟨aZP,dZP,qZP⟩,⟨aZQ,dZQ,qZQ⟩,⟨aZR,dZR,qZR⟩,⟨aZS,dZS,qZS⟩,⟨aZT,dZT,qZT⟩,⟨aZU,dZU,qZU⟩,⟨aZV,dZV,qZV⟩,⟨aZW,dZW,qZW⟩⟩:f "refuse_not_square" 9 ["table"]/\f "row_taken_off" 10 ["row","pivot","last"]/\f "first_with_some" 11 ["rows"]/\f "determinant" 12 ["table"]/\f "row_without" 13 ["row","number"]/\f "table_without" 14 ["table","number"]/\f "is_tie" 20 ["web","number"]/\f "refuse_bad_web" 19 ["places","ties"]/\f "ties_beside" 21 ["web","ties"]/\f "ties_without" 22 ["ties","left_out"]/\f "is_set" 23 ["web","ties"]/\f "made_set" 24 ["web","ties"]/\f "merged_marks" 25 ["web","marks","ties"]/\f "piece_marks" 26 ["web","ties"]/\f "pieces_of" 27 ["web","ties"]/\f "is_joined" 28 ["web","ties"]/\f "weighted_table" 30 ["web","weights"]/\f "pull_table" 31 ["web"]/\f "tree_count" 32 ["web"]/\f "part_count" 33 ["web","inside","outside"]/\f "is_tree" 35 ["web","ties"]/\f "refuse_no_tree" 36 ["web","tree"]/\f "grown_tree" 37 ["web","inside","order"]/\f "tree_cut" 38 ["web","tree","tie"]/\f "ring_of" 39 ["web","tree","tie"]/\f "least_in" 41 ["web","inside","outside"]/\f "end_pieces" 44 ["web","marks","tie"]/\f "open_ties" 45 ["web","marks","gone"]/\f "whole_part" 47 ["web"]/\f "half_without" 48 ["part"]/\f "half_with" 49 ["part"]/\f "part_size" 50 ["part"]/\f "trees_with_tie" 51 ["part","into"]/\f "undivided_row" 52 ["part"]/\f "trees_between" 53 ["part","size","start","stop"]/\f "number_in" 54 ["part","size","tree"]/\f "refuse_below_nought" 42 ["number"]/\f "row_from" 55 ["web","number","most"]/\f "row_at" 56 ["web","number"]/\f "row_number" 57 ["web","tree"]/\f "row_next" 58 ["web","tree"]/\f "row_ahead" 59 ["web","tree"]/\f "row_step" 60 ["web","tree"]/\f "_law_at" 62 ["script","k"]/\f "_law_mixed" 63 ["cell","k"]/\f "_law_ties" 64 ["script","count","most"]/\f "_law_trees" 65 ["count","ties"]/\f "_law_swapped" 66 ["tree","out","into"]/\f "_law_marks" 67 ["count","ties","kept"]/\f "_law_twins" 68 ["count","ties","kept","lead","other"]/\f "_law_open" 69 ["trees","kept"]/\f "_law_row" 70 ["count","ties","trees","kept","lead"]/\f "_law_whole_row" 71 ["count","ties"]/\f "_law_whole" 72 ["found"]/\f "_law_step" 73 ["tree","behind_it"]/\f "_law_good" 74 ["web","row","at"]/\My.FQ (L2.Jh KX) mg "law" My.sZW ["script"]:=by
   dsimp only [L2.Jh,f]
   and_intros
   all_goals (refine' My.xQ KX G ?a ?l ?c ?k ?b;(case a | l | c | k=>k_is);(case b=>first | exact λ_ _ _ _ _ _=>My.un1 λ_=>rfl | exact λ_ _ _ _ _ _=>My.mC λ_ _=>rfl | exact λ_ _ _ _ _ _=>My.un3 λ_ _ _=>rfl | exact λ_ _ _ _ _ _=>My.un4 λ_ _ _ _=>rfl | exact λ_ _ _ _ _ _=>My.un5 λ_ _ _ _ _=>rfl))
  have vq:My.CXF (L2.Jh KX) mg "Web" "Web.__init__" My.sZ8 ["places","ties"]:=by
   dsimp only [L2.Jh];refine' My.Bv KX G ?aC ?a ?i ?l ?c ?k ?pg ?hd ?po ?sa ?mk ?kc ?na
   (case aC | a | i | l | c | k | pg | hd | po | sa | mk | kc=>k_is)
   (case na=>(intro f hf;simp only [Yi,pN,or_false]at hf;rcases hf with rfl | rfl <;> k_is))
  have EW:My.yf (L2.Jh KX) mg "Part" "Part.__init__" My.sZt ["web","kept","shut","lead","least","incoming","further"] 308:=by
   dsimp only [L2.Jh];refine' My.FY KX G ?aC ?a ?i ?l ?c ?k ?pg ?hd ?po ?sa ?mk ?kc ?na ?z
   (case aC | a | i | l | c | k | pg | hd | po | sa | mk | kc=>k_is)
   (case na=>(intro f hf;simp only [Yi,pN,or_false]at hf;rcases hf with rfl | rfl | rfl | rfl | rfl | rfl | rfl <;> k_is))
   (case z=>kernel_rfl)
  have h_MOST_PLACES:∃ tk,mg "MOST_PLACES"=some (.int 14 tk):=by
   refine' My.Sj KX G ?a ?b
   (case a=>k_is);(case b=>exact⟨_,rfl⟩)
  have h_MOST_TIES:∃ tk,mg "MOST_TIES"=some (.int 30 tk):=by
   refine' My.Sj KX G ?a ?b
   (case a=>k_is);(case b=>exact⟨_,rfl⟩)
  obtain⟨EV,h_enumerate,vp,h_isinstance,vo,EU,vn,vm,JH,h_reversed,vj,MG,JG,vh⟩:mg "bool"=none/\mg "enumerate"=none/\mg "int"=none/\mg "isinstance"=none/\mg "len"=none/\mg "list"=none/\mg "max"=none/\mg "min"=none/\mg "range"=none/\mg "reversed"=none/\mg "set"=none/\mg "sorted"=none/\mg "tuple"=none/\mg "zip"=none:=by and_intros <;> refine' PySem.W.mg_none_of KX G ?_ <;> k_is
  obtain⟨A_Web,aZ8,dZ8,c_Web,fZ8,cl_Web,k_Web,MF⟩:=vq;obtain⟨A_Part,aZt,dZt,vg,c_Part,fZt,cl_Part,k_Part,Wd,vf,ve⟩:=EW;have T:My.Txt (L2.Jh KX) mg ⟨aZ0,aZ1,aZ2,aZ3,aZ4,aZ5,aZ6,aZ7,aZ8,aZ9,aZa,aZb,aZc,aZd,aZe,aZf,aZg,aZh,aZi,aZj,aZk,aZl,aZm,aZn,aZo,aZp,aZq,aZr,aZs,aZt,aZu,aZv,aZw,aZx,aZy,aZz,aZA,aZB,aZC,aZD,aZE,aZF,aZG,aZH,aZI,aZJ,aZK,aZL,aZM,aZN,aZO,aZP,aZQ,aZR,aZS,aZT,aZU,aZV,aZW,A_Web,A_Part,dZ0,dZ1,dZ2,dZ3,dZ4,dZ5,dZ6,dZ7,dZ8,dZ9,dZa,dZb,dZc,dZd,dZe,dZf,dZg,dZh,dZi,dZj,dZk,dZl,dZm,dZn,dZo,dZp,dZq,dZr,dZs,dZt,dZu,dZv,dZw,dZx,dZy,dZz,dZA,dZB,dZC,dZD,dZE,dZF,dZG,dZH,dZI,dZJ,dZK,dZL,dZM,dZN,dZO,dZP,dZQ,dZR,dZS,dZT,dZU,dZV,dZW⟩:=⟨⟨⟨⟨⟨⟨⟨qZ0,qZ1⟩,qZ2⟩,⟨⟨qZ3,qZ4⟩,qZ5⟩⟩,⟨⟨⟨qZ6,qZ7⟩,fZ8⟩,⟨⟨fZ8.binds (λ_ _ _ _ _ _=>My.un3 λ_ _ _=>rfl),qZ9⟩,qZa⟩⟩⟩,⟨⟨⟨⟨qZb,qZc⟩,qZd⟩,⟨⟨qZe,qZf⟩,qZg⟩⟩,⟨⟨⟨qZh,qZi⟩,qZj⟩,⟨qZk,qZl⟩⟩⟩⟩,⟨⟨⟨⟨⟨qZm,qZn⟩,qZo⟩,⟨⟨qZp,qZq⟩,qZr⟩⟩,⟨⟨⟨qZs,fZt⟩,fZt.binds (λ_ _ _ _ _ _=>My.un5 λ_ _ _ _ _=>rfl)⟩,⟨⟨qZu,qZv⟩,qZw⟩⟩⟩,⟨⟨⟨⟨qZx,qZy⟩,qZz⟩,⟨⟨qZA,qZB⟩,qZC⟩⟩,⟨⟨⟨qZD,qZE⟩,qZF⟩,⟨qZG,qZH⟩⟩⟩⟩⟩,⟨⟨⟨⟨⟨⟨qZI,qZJ⟩,qZK⟩,⟨⟨qZL,qZM⟩,qZN⟩⟩,⟨⟨⟨qZO,qZP⟩,qZQ⟩,⟨⟨qZR,qZS⟩,qZT⟩⟩⟩,⟨⟨⟨⟨qZU,qZV⟩,qZW⟩,⟨⟨c_Web,cl_Web⟩,k_Web⟩⟩,⟨⟨⟨MF _ (by simp),MF _ (by simp)⟩,c_Part⟩,⟨cl_Part,k_Part⟩⟩⟩⟩,⟨⟨⟨⟨⟨Wd _ (by simp),Wd _ (by simp)⟩,Wd _ (by simp)⟩,⟨⟨Wd _ (by simp),Wd _ (by simp)⟩,Wd _ (by simp)⟩⟩,⟨⟨⟨Wd _ (by simp),h_MOST_PLACES⟩,h_MOST_TIES⟩,⟨⟨EV,h_enumerate⟩,vp⟩⟩⟩,⟨⟨⟨⟨h_isinstance,vo⟩,EU⟩,⟨⟨vn,vm⟩,JH⟩⟩,⟨⟨⟨h_reversed,vj⟩,MG⟩,⟨JG,vh⟩⟩⟩⟩⟩⟩
  have e0:=BG.symm.trans qZW.mm;cases e0;exact⟨dZW,λs u=>My.Pq qZW.fn s u,λbase _ _ HB=>My.aR T ⟨vg,vf,ve,HB,by decide⟩⟩
#print axioms PySem.Challenge.cw_spanrow_k40_trees_beside_one_another_holds
